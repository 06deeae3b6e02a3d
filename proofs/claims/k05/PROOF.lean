import PyProof.Rows.All
import Wide.All
import OpenK.AllK
import Wide.FinOn
import Lean
import PyProof.EqAt
import PyProof.EqKinds
import PyProof.TupleCall
import PySem.Challenge.RW_dueworth_k05_texts_of_fractions
import Open.Tree
import Open.Head
section
set_option Elab.async false
set_option linter.all false
set_option maxRecDepth 100000
set_option maxHeartbeats 0
namespace ET
open PySem PySem.W PyProof.Rows
def dC(tb:String→Option Builtin)(p:Program)(w:World)(n₀:Nat)(ann:Option Value):Nat→SharedT→Thread→Option SharedT
 |0,_,_=>none
 |n+1,s,t=>match through t with
  |true=>some s
  |false=>match stepOk n₀ ann t with
   |false=>none
   |true=>match stepT (denote tb) p w s t with
    |some x=>dC tb p w n₀ ann n x.1 x.2
    |none=>none
theorem fW{tb:String→Option Builtin}{p:Program}{w:World}{n₀:Nat}{ann:Option Value}:∀{n:Nat} {s s':SharedT} {t:Thread},dC tb p w n₀ ann n s t=some s'→topRun tb p w n₀ ann n s.abs t=some s'.abs
 |0,_,_,_,h=>by cases h
 |n+1,s,s',t,h=>by
  unfold dC at h
  unfold topRun
  cases he:through t with
  |true=>rw[he]at h;cases h;rfl
  |false=>
   rw[he]at h
   cases hk:stepOk n₀ ann t with
   |false=>rw[hk]at h;cases h
   |true=>
    rw[hk]at h
    cases hs:stepT (denote tb) p w s t with
    |none=>rw[hs]at h;cases h
    |some r=>rw[hs]at h;rw[stepT_spec hs];exact fW h
def tN:List Obj→BT→Nat→Option (BT×Nat)
 |[],t,n=>some (t,n)
 |o::os,t,n=>match ((t.ins n o).get n).isSome with
  |true=>tN os (t.ins n o) (n+1)
  |false=>none
theorem jR{life:Life}:∀{os:List Obj} {t t':BT} {n n':Nat},tN os t n=some (t',n')→absHeap t' n' life=⟨(absHeap t n life).objs++os.toArray,life⟩
 |[],t,t',n,n',h=>by cases h;simp[absHeap]
 |o::os,t,t',n,n',h=>by
  unfold tN at h
  cases g:((t.ins n o).get n).isSome with
  |false=>rw[g]at h;cases h
  |true=>
   rw[g]at h
   rw[jR h,absHeap_ins g]
   simp[Heap.push]
def dD(tb:String→Option Builtin)(p:Program)(w:World)(N:Nat)(s₀:Shared):Option Shared:=
 match s₀.heap.isNs mainGlobals&&s₀.gens.size == 0 with
 |true=>match tN s₀.heap.objs.toList .nil 0 with
  |some x=>match dC tb p w x.2 (s₀.heap.nsMap mainGlobals "__annotations__") N ⟨x.1,x.2,s₀.heap.life,s₀.gens,s₀.drawn,s₀.toks,s₀.os⟩ (topStub p)with
   |some s=>match staticsOk (importedModules p.main.body) s₀.heap s.abs.heap&&namesBound p s.abs.heap&&gensDone s.abs&&laidKept s₀.heap s.abs.heap with
    |true=>some s.abs
    |false=>none
   |none=>none
  |none=>none
 |false=>none
theorem ja{tb:String→Option Builtin}{p:Program}{w:World}{N:Nat}{s₀ s:Shared}(h:dD tb p w N s₀=some s):topFrom tb p w N s₀=some s:=by
 unfold dD at h
 unfold topFrom
 cases h1:s₀.heap.isNs mainGlobals&&s₀.gens.size == 0 with
 |false=>rw[h1]at h;cases h
 |true=>
  rw[h1]at h
  dsimp only at h ⊢
  cases h2:tN s₀.heap.objs.toList .nil 0 with
  |none=>rw[h2]at h;cases h
  |some x=>
   rw[h2]at h
   dsimp only at h
   have e:=jR (life:=s₀.heap.life) h2
   have e':absHeap x.1 x.2 s₀.heap.life=s₀.heap:=by
    rw[e]
    simp[absHeap,BT.list]
   have n':x.2=s₀.heap.objs.size:=by rw[←e',absHeap_size]
   cases h3:dC tb p w x.2 (s₀.heap.nsMap mainGlobals "__annotations__") N ⟨x.1,x.2,s₀.heap.life,s₀.gens,s₀.drawn,s₀.toks,s₀.os⟩ (topStub p)with
   |none=>rw[h3]at h;cases h
   |some r=>
    rw[h3]at h
    dsimp only at h
    have ea:SharedT.abs ⟨x.1,x.2,s₀.heap.life,s₀.gens,s₀.drawn,s₀.toks,s₀.os⟩=s₀:=by
     unfold SharedT.abs
     rw[e']
    have:=fW h3
    rw[ea,n']at this
    rw[this]
    exact h
theorem jb{tb:String→Option Builtin}{p:Program}{w:World}{N:Nat}{s₀:Shared}{α:Type}{f:Shared→α}{a:α}(h:Option.map f (dD tb p w N s₀)=some a):Option.map f (topFrom tb p w N s₀)=some a:=by
 obtain⟨s,h1,h2⟩:=Option.map_eq_some_iff.mp h
 rw[ja h1]
 exact congrArg some h2
def seenT(p q:Program)(loose:List Str)(Xt:Shared→Bool){α:Type}(Yf:Shared→α)(N:Nat)(u u':World):=
 Option.map (fun c=>Option.map (fun s=>(openSeen q loose (importedModules p.main.body) Xt true s,Yf s)) (dD treeTable p u' N c)) (fencedOpening treeTable p u N)
lay_quick seenT
theorem oa{p q:Program}{loose:List Str}{Xt:Shared→Bool}{α:Type}{Yf:Shared→α}{N:Nat}{u u':World}{r}(h:PySem.W.Fast.tw2787559817927863336 p q loose Xt Yf N u u'=r):seenT p q loose Xt Yf N u u'=r:=by
 rw[PySem.W.Fast.te2787559817927863336]
 exact h
theorem og{p q:Program}{loose:List Str}{Xt:Shared→Bool}{α:Type}{Yf:Shared→α}{Ya:World→α}{N:Nat}
  (h:∀u:World,seenT p q loose Xt Yf N u u=some (some (openGood q loose,Ya u))):LeftO p q loose Xt Yf Ya N:=fun u=>by
 obtain⟨c,a,b⟩:=Option.map_eq_some_iff.mp (h u)
 unfold openEnds
 rw[a]
 exact jb b
theorem tO{p q:Program}{loose:List Str}{Xt:Shared→Bool}{α:Type}{Yf:Shared→α}{Ya:World→α}{N:Nat}(row:String)
  (h0:∀u:World,seenT p q loose Xt Yf N u (u.withFollow row false)=some (some (openGood q loose,Ya (u.withFollow row false))))
  (h1:∀u:World,seenT p q loose Xt Yf N u (u.withFollow row true)=some (some (openGood q loose,Ya (u.withFollow row true)))):LeftO p q loose Xt Yf Ya N:=fun u=>by
 obtain⟨c,a,b⟩:=Option.map_eq_some_iff.mp (h0 u)
 obtain⟨c',a',b'⟩:=Option.map_eq_some_iff.mp (h1 u)
 have hc:c'=c:=by rw[a]at a';cases a';rfl
 subst hc
 have b:=jb b
 have b':=jb b'
 have hu:=World.withFollow_self u row
 unfold openEnds
 rw[a]
 cases hb:u.params.followText row<;>rw[hb]at hu
 ·rw[hu]at b
  exact b
 ·rw[hu]at b'
  exact b'
end ET
namespace E05
open PySem PySem.W PyProof.Rows
abbrev tp(i:Nat):Stmt:=PySem.Challenge.pw_dueworth_k05_texts_of_fractions.main.body.getD i (.Pass ⟨0,0,0,0⟩)
/-- the text without what says nothing -/
def vw:Program:={ PySem.Challenge.pw_dueworth_k05_texts_of_fractions with main:={ PySem.Challenge.pw_dueworth_k05_texts_of_fractions.main with body:=[tp 1,tp 2,tp 3,tp 4,tp 5,tp 6,tp 7,tp 8,tp 10,tp 11,tp 12,tp 13,tp 14,tp 15,tp 16,tp 18,tp 19,tp 20,tp 21,tp 22,tp 23,tp 24,tp 25,tp 26,tp 27,tp 28] } }
abbrev rr:RowW:=OpenRow.toRowW (OpenLaw.row PySem.Challenge.rw_dueworth_k05_texts_of_fractions)
local macro_rules | `(tactic| o_head $H)=>`(tactic|
 refine holds_open (q:=vw) (loose:=[]) (Xt:=fun s=>(xlAt vw [] s&&recOk (RowW.records rr) s)) (XP:=XL vw []) (N:=4852)
  (Yf:=Hook.obs $H) (Ya:=Hook.val $H) (YP:=Hook.says $H) ?hl (Hook.of $H) (Hook.keeps $H) (fun s e=>xl_of s (Bool.and_eq_true_iff.mp e).1)
  XL.keeps rfl rfl rfl (fun s e=>recFacts_of (Bool.and_eq_true_iff.mp e).2) rfl (by assumption)
  (by decide +kernel) ⟨rfl,rfl,rfl,rfl,rfl,by decide +kernel⟩ ?hw ?hc)
/-- the law is well said: by the quick twin of the look,with no twin of the program -/
theorem said:OpenLaw.wellSaid PySem.Challenge.rw_dueworth_k05_texts_of_fractions=true:=(congrFun PySem.W.Fast.te9446332074065402090 _).trans (by kernel_rfl)
/-- says nothing; what lies in the heap is written down by the way -/
theorem early(h:∀P:Prop,P):PySem.Challenge.rw_dueworth_k05_texts_of_fractions.Holds:=by
 w_on;refine holds_law said fun said=>?_;k_head
 all_goals exact h _
abbrev as:List Addr:=[2,3,15,22,23,24,25,28,35,37,38,40,41,42,43,44,47,54,56,57,59,60,61,62,63,66,73,75,76,78,79,80,81,82,85,92,94,95,97,98,99,100,101,104,111,112,113,116,123,124,125,128,135,136,137,140,142,143,145,146,147,149,150,152,153,154,157,158,159,161,162,164,165,166,168,169,171,172,173,175,176,178,179,180,183,184,185,187,188,190,191,192,194,195,197,198,199,201,202,204,205,206,208,209,211,212,213,215,216,218,219,220,222,223,225,226,227,229,230,232,233,234,237,238,239,241,242,244,245,246,248,249,251,252]
theorem wB(P:Params):as=(early.heap_1 P).map (·.1):=by kernel_rfl
noncomputable abbrev hk:Hook:=kHook early.heap_1 as wB
theorem tP(u:World):ET.seenT (OpenLaw.row PySem.Challenge.rw_dueworth_k05_texts_of_fractions).prog vw [] (fun s=>(xlAt vw [] s&&recOk (RowW.records rr) s)) (Hook.obs hk) 4852 u u=some (some (openGood vw [],Hook.val hk u)):=ET.oa (by kernel_rfl)
theorem left:LeftO (OpenLaw.row PySem.Challenge.rw_dueworth_k05_texts_of_fractions).prog vw [] (fun s=>(xlAt vw [] s&&recOk (RowW.records rr) s)) (Hook.obs hk) (Hook.val hk) 4852:=ET.og tP
end E05
end
open PySem in
abbrev Vq:=Value->Shared->Prop
open PySem in
abbrev Va:=List (Addr×Obj)
open PySem in
abbrev Vo:=PySem.W.Frag
open PySem in
abbrev Vr:=Str->Option Value
open PySem in
abbrev Vs:=List Str
open PySem in
abbrev Vu:=List Int
open PySem in
abbrev Vv:=List Value
open PySem in
abbrev Vw:=Array Value
set_option Elab.async false
set_option linter.all false
set_option maxRecDepth 100000
namespace L2
open PySem PySem.Spec PyProof.Rows
abbrev aS:=Sum Int Str
noncomputable def fX:aS->Value->Bool
 | .inl k,v=>Value.isInt k v
 | .inr x,v=>Value.isStrOf x v
noncomputable def vD(w:World):aS->Int
 | .inl k=>hashInt k
 | .inr x=>hashStr w x
theorem aG:∀{k:aS} {v:Value},fX k v=true->(∃i t,k=Sum.inl i/\v=Value.int i t)\/(∃x t,k=Sum.inr x/\v=Value.str x t)
 | .inl i,v,h=>by
  obtain⟨t,e⟩:=Value.isInt_shape (k:=i) (v:=v) h
  exact .inl ⟨i,t,rfl,e⟩
 | .inr x,v,h=>by
  obtain⟨t,e⟩:=Value.isStrOf_shape (x:=x) (v:=v) h
  exact .inr ⟨x,t,rfl,e⟩
def kB(i:Int)(t:Tok):fX (.inl i) (.int i t)=true:=by simp[fX,Value.isInt]
def kC(x:Str)(t:Tok):fX (.inr x) (.str x t)=true:=by simp[fX,Value.isStrOf]
def qx(a b:Int):decide ((Sum.inl a:aS)=Sum.inl b)=(a == b):=by
 by_cases e:a=b
 ·subst e;simp
 ·have h:¬(Sum.inl a:aS)=Sum.inl b:=fun q=>e (Sum.inl.inj q)
  rw[decide_eq_false h]
  exact(beq_eq_false_iff_ne.mpr e).symm
def qy(a b:Str):decide ((Sum.inr a:aS)=Sum.inr b)=decide (a=b):=by
 by_cases e:a=b
 ·subst e;simp
 ·have h:¬(Sum.inr a:aS)=Sum.inr b:=fun q=>e (Sum.inr.inj q)
  rw[decide_eq_false h,decide_eq_false e]
def qz(a:Int)(b:Str):decide ((Sum.inl a:aS)=Sum.inr b)=false:=decide_eq_false (fun q=>nomatch q)
def qA(a:Str)(b:Int):decide ((Sum.inr a:aS)=Sum.inl b)=false:=decide_eq_false (fun q=>nomatch q)
noncomputable def aK(prog:Program)(w:World):PySem.KeyKind prog w aS where
 is:=fX
 hash:=vD w
 inj:=fun v a b ha hb=>by
  rcases aG ha with⟨i,t,rfl,rfl⟩|⟨x,t,rfl,rfl⟩
  ·rcases aG hb with⟨j,u,rfl,e⟩|⟨y,u,rfl,e⟩
   ·injection e with e1 _;rw[e1]
   ·exact nomatch e
  ·rcases aG hb with⟨j,u,rfl,e⟩|⟨y,u,rfl,e⟩
   ·exact nomatch e
   ·injection e with e1 _;rw[e1]
 byValue:=fun k v h=>by
  rcases aG h with⟨i,t,rfl,rfl⟩|⟨x,t,rfl,rfl⟩<;>rfl
 pyHash:=fun hv h=>by
  rcases aG hv with⟨i,t,rfl,rfl⟩|⟨x,t,rfl,rfl⟩
  ·exact wpAny_pyHash_int h
  ·exact wpAny_pyHash_str h
 eqBool:=fun hu hv h=>by
  rcases aG hu with⟨i,t,rfl,rfl⟩|⟨x,t,rfl,rfl⟩
  ·rcases aG hv with⟨j,u,rfl,rfl⟩|⟨y,u,rfl,rfl⟩
   ·rw[qx]at h;exact wpAny_eqBool_int h
   ·rw[qz]at h;exact SeqAt.EqAt.int_str i t y u _ _ _ _ h
  ·rcases aG hv with⟨j,u,rfl,rfl⟩|⟨y,u,rfl,rfl⟩
   ·rw[qA]at h;exact SeqAt.EqAt.str_int x t j u _ _ _ _ h
   ·rw[qy]at h;exact wpAny_eqBool_str h
 «strs»:=fun k x t v h=>by
  rcases aG h with⟨i,u,rfl,e⟩|⟨y,u,rfl,e⟩
  ·exact nomatch e
  ·injection e with e1 _
   subst e1
   cases v<;>rfl
def il(prog:Program)(w:World)(i:Int)(t:Tok):(aK prog w).is (.inl i) (.int i t)=true:=kB i t
def im(prog:Program)(w:World)(x:Str)(t:Tok):(aK prog w).is (.inr x) (.str x t)=true:=kC x t
inductive V where
 |non|bl (b:Bool)|int (i:Int)|str (x:Str)|z9 (b:Array UInt8)|BJ (b:UInt64)|ref (a:Addr)|ty (n:String)
 deriving DecidableEq
noncomputable def RelV:V->Value->Prop
 | .non,u=>u=Value.none
 | .bl b,u=>u=Value.bool b
 | .int i,u=>∃t,u=Value.int i t
 | .str x,u=>∃t,u=Value.str x t
 | .z9 b,u=>∃t,u=Value.bytes b t
 | .BJ b,u=>∃t,u=Value.float b t
 | .ref a,u=>u=Value.ref a
 | .ty n,u=>u=Value.type n
noncomputable abbrev Vals:List V->List Value->Prop:=Paired RelV
theorem Vals.length{xs:List V}{us:Vv}(r:Vals xs us):xs.length=us.length:=Paired.length r
theorem Vals.get:∀{xs:List V} {us:Vv} {i:Nat} {x:V},Vals xs us->xs[i]?=some x->∃u,us[i]?=some u/\RelV x u
 |_,_,_,_,.nil,e=>by simp at e
 |_,_,0,_,.cons r _,e=>by simp at e;subst e;exact⟨_,rfl,r⟩
 |_,_,i+1,x,.cons _ t,e=>by
  obtain⟨u,h1,h2⟩:=Vals.get (i:=i) (x:=x) t (by simpa using e)
  exact⟨u,by simpa using h1,h2⟩
theorem Vals.set{x:V}{u:Value}(r:RelV x u):∀{xs:List V} {us:Vv} (i:Nat),Vals xs us->Vals (xs.set i x) (us.set i u)
 |_,_,_,.nil=>.nil
 |_,_,0,.cons _ t=>.cons r t
 |_,_,i+1,.cons q t=>.cons q (Vals.set r i t)
theorem Vals.append:∀{xs ys:List V} {us ws:Vv},Vals xs us->Vals ys ws->Vals (xs++ys) (us++ws)
 |_,_,_,_,.nil,s=>s
 |_,_,_,_,.cons r t,s=>.cons r (Vals.append t s)
theorem Vals.take:∀{xs:List V} {us:Vv} (n:Nat),Vals xs us->Vals (xs.take n) (us.take n)
 |_,_,0,_=>.nil
 |_,_,_+1,.nil=>.nil
 |_,_,n+1,.cons r t=>.cons r (Vals.take n t)
theorem Vals.drop:∀{xs:List V} {us:Vv} (n:Nat),Vals xs us->Vals (xs.drop n) (us.drop n)
 |_,_,0,r=>r
 |_,_,_+1,.nil=>.nil
 |_,_,n+1,.cons _ t=>Vals.drop n t
noncomputable def yF:Option V->Option Value->Prop
 |some v,some u=>RelV v u
 |none,none=>True
 |_,_=>False
noncomputable def KV{κ:Type}:List (κ×V)->List (κ×Value)->Prop:=Paired fun(p:κ×V) (q:κ×Value)=>p.1=q.1/\RelV p.2 q.2
noncomputable def kV:aS->V
 | .inl i=>.int i
 | .inr x=>.str x
inductive HO where
 /-- a list -/
 |lst (xs:List V)
 /-- a tuple (never changes) -/
 |tup (xs:List V)
 /-- a dict whose keys are ints and texts; one whose keys are tuples of ints and texts (the empty one is both) -/
 |dK (kvs:List (aS×V))|dT (kvs:List (List aS×V))
 /-- a set of ints: its members,its size -/
 |set (S:Int->Bool) (n:Nat)
 /-- an instance of the class at C,its dict at dx,its attributes -/
 |ins (C dx:Addr) (fs:List (Str×V))
 /-- the dict of the instance at x -/
 |own (x:Addr)
 /-- the dict of an exception -/
 |xd (fs:List (Str×V))
 /-- a bound method,f of x -/
 |met (f x:Addr)
 /-- a range object lo,lo + 1,.. below hi -/
 |BZ (lo hi:Int)
 /-- a thing that is known to the object (the script; a dict while a loop walks it): read,never written while it is so -/
 |frz (o:Obj) (u:HO)
 /-- a code object's table -/
 |AK (ps:Vw)
 /-- any other thing,by what is true of its one object (a def of Cz own: C_ a S n:=HO.ext fun h=>..) -/
 |ext (φ:Heap->Prop)
abbrev Hp:=Addr->Option HO
noncomputable def upd(H:Hp)(a:Addr)(o:HO):Hp:=fun b=>if b=a then some o else H b
def ag{H:Hp}{a:Addr}{o:HO}:upd H a o a=some o:=by unfold upd;rw[if_pos rfl]
def ae{H:Hp}{a b:Addr}{o:HO}(h:b≠a):upd H a o b=H b:=by unfold upd;rw[if_neg h]
def oh{H:Hp}{a:Addr}{o u:HO}:upd (upd H a o) a u=upd H a u:=by
 funext b;unfold upd;split<;>rfl
def tQ{H:Hp}{a b:Addr}{o u:HO}(h:H a=some o)(h':H b=some u)(d:o≠u):a≠b:=by
 intro e;subst e;rw[h]at h';exact d (Option.some.inj h')
def aA{H:Hp}{a b:Addr}{o:HO}(h:H a=some o)(h':H b=none):a≠b:=by
 intro e;subst e;rw[h]at h';cases h'
def xU(h:Heap)(a:Addr)(its:Vw):Prop:=∃o,h.get? a=some o/\o.dict=none/\o.cls = .type "tuple"/\∃n,o.data = .seq its n
def xU.tup{h:Heap}{a:Addr}{its:Vw}(x:xU h a its):IsTup h a its:=let ⟨o,e,_,c,d⟩:=x;⟨o,e,c,d⟩
def xU.new(h:Heap)(its:Vw):xU (h.push { cls:=.type "tuple",data:=.seq its }) h.objs.size its:=⟨_,Heap.get?_push_size _ rfl,rfl,rfl,_,rfl⟩
section
variable (P:Program) (w:World)
noncomputable def xv(H:Hp)(h:Heap)(a:Addr):HO->Prop
 | .lst xs=>xs.length<=sizeLine/\∃(its:Vv) (n:Nat),Vals xs its/\h.get? a=some { cls:=.type "list",data:=.seq its.toArray n }
 | .tup xs=>xs.length<=sizeLine/\∃its:List Value,Vals xs its/\xU h a its.toArray
 | .dK kvs=>kvs.length<=sizeLine/\(a == sysModules)=false/\∃vs,KV kvs vs/\h.DictOf (aK P w) a vs
 | .dT kvs=>kvs.length<=sizeLine/\(a == sysModules)=false/\∃xs:List (List aS×Addr×Value),
   Paired (fun(p:List aS×V) (q:List aS×Addr×Value)=>p.1=q.1/\H q.2.1=some (.tup (p.1.map kV))/\RelV p.2 q.2.2) kvs xs/\
   ∃o es ep,h.get? a=some o/\o.ExactDict/\o.data = .dict es ep/\es.toList=xs.map (entryOfKey (tupleKind (aK P w)))/\(xs.map (·.1)).Nodup
 | .set S n=>h.SetOf (intKind P w) a S n
 | .ins C dx fs=>H dx=some (.own a)/\fs.length<=1000/\dx≠a/\h.get? a=some (PySem.W.instObj C dx)/\
   ∃mA,h.Ns1 dx mA/\(∀f,yF (fs.lookup f) (mA f))/\PySem.Within mA (fs.map (·.1))
 | .own _=>∃o,h.get? a=some o
 | .xd fs=>∃mA,h.Ns1 a mA/\∀f,yF (fs.lookup f) (mA f)
 | .BZ lo hi=>∃t u v,h.get? a=some { cls:=.type "range",data:=.fields #[.int lo t,.int hi u,.int 1 v] }
 | .frz o u=>h.get? a=some o/\xv H h a u
 | .AK ps=>h.get? a=some { cls:=.none,data:=.fields ps }
 | .met f x=>h.get? a=some (PySem.W.methodObj (.ref f) (.ref x))
 | .ext φ=>φ h/\(∃o,h.get? a=some o)/\∀h1 h2:Heap,φ h1->(∀o,h1.get? a=some o->h2.get? a=some o)->φ h2
def yg(H:Hp)(h:Heap):Prop:=∀a o,H a=some o->xv P w H h a o
end
section
variable {P:Program} {w:World} {H H':Hp} {h h':Heap} {a:Addr} {o:HO}
theorem xv.lt(x:xv P w H h a o):a < h.objs.size:=by
 cases o with
 |lst xs=>obtain⟨_,_,_,_,e⟩:=x;exact Heap.lt_size e
 |tup xs=>obtain⟨_,_,_,p⟩:=x;exact p.tup.lt
 |dK kvs=>obtain⟨_,_,_,_,o,_,_,e,_⟩:=x;exact Heap.lt_size e
 |dT kvs=>obtain⟨_,_,_,_,o,_,_,e,_⟩:=x;exact Heap.lt_size e
 |set S n=>obtain⟨o,_,_,_,e,_⟩:=x;exact Heap.lt_size e
 |ins C dx fs=>obtain⟨_,_,_,e,_⟩:=x;exact Heap.lt_size e
 |own y=>obtain⟨_,e⟩:=x;exact Heap.lt_size e
 |xd fs=>obtain⟨_,⟨_,_,_,e,_⟩,_⟩:=x;exact Heap.lt_size e
 |BZ lo hi=>obtain⟨_,_,_,e⟩:=x;exact Heap.lt_size e
 |frz ob u=>obtain⟨e,_⟩:=x;exact Heap.lt_size e
 |AK ps=>exact Heap.lt_size (show h.get? a=some _ from x)
 |met f y=>exact Heap.lt_size (show h.get? a=some _ from x)
 |ext φ=>obtain⟨_,⟨_,e⟩,_⟩:=x;exact Heap.lt_size e
theorem Paired.AL{α β:Type}{F G:α->β->Prop}:∀{l₁:List α} {l₂:List β},Paired F l₁ l₂->(∀a b,F a b->G a b)->Paired G l₁ l₂
 |_,_,.nil,_=>.nil
 |_,_,.cons r t,f=>.cons (f _ _ r) (Paired.AL t f)
def xv.stay(x:xv P w H h a o)(k:∀b u,(b=a\/H b=some (.own a))->h.get? b=some u->h'.get? b=some u)
  (ho:∀b,H b=some (.own a)->H' b=some (.own a)) (ht:∀b xs,H b=some (.tup xs)->H' b=some (.tup xs)):xv P w H' h' a o:=by
 induction o with
 |lst xs=>obtain⟨z,its,n,r,e⟩:=x;exact⟨z,its,n,r,k _ _ (.inl rfl) e⟩
 |tup xs=>obtain⟨z,its,r,ob,e,c⟩:=x;exact⟨z,its,r,ob,k _ _ (.inl rfl) e,c⟩
 |dK kvs=>obtain⟨z,y,vs,r,ob,es,ep,e,c⟩:=x;exact⟨z,y,vs,r,ob,es,ep,k _ _ (.inl rfl) e,c⟩
 |dT kvs=>
  obtain⟨z,y,xs,r,ob,es,ep,e,c⟩:=x
  exact⟨z,y,xs,Paired.AL r fun p q z=>⟨z.1,ht _ _ z.2.1,z.2.2⟩,ob,es,ep,k _ _ (.inl rfl) e,c⟩
 |set S n=>obtain⟨ob,es,ep,t,e,c⟩:=x;exact⟨ob,es,ep,t,k _ _ (.inl rfl) e,c⟩
 |ins C dx fs=>
  obtain⟨d,z,ne,e,mA,⟨od,es,ep,e2,c⟩,r⟩:=x
  exact⟨ho _ d,z,ne,k _ _ (.inl rfl) e,mA,⟨od,es,ep,k _ _ (.inr d) e2,c⟩,r⟩
 |own y=>obtain⟨ob,e⟩:=x;exact⟨ob,k _ _ (.inl rfl) e⟩
 |xd fs=>obtain⟨mA,⟨od,es,ep,e,c⟩,r⟩:=x;exact⟨mA,⟨od,es,ep,k _ _ (.inl rfl) e,c⟩,r⟩
 |BZ lo hi=>obtain⟨t,u,v,e⟩:=x;exact⟨t,u,v,k _ _ (.inl rfl) e⟩
 |frz ob u ih=>obtain⟨e,q⟩:=x;exact⟨k _ _ (.inl rfl) e,ih q⟩
 |AK ps=>
  have e:h.get? a=some { cls:=.none,data:=.fields ps }:=x
  show h'.get? a=some { cls:=.none,data:=.fields ps }
  exact k a _ (.inl rfl) e
 |met f y=>
  have e:h.get? a=some (PySem.W.methodObj (.ref f) (.ref y)):=x
  show h'.get? a=some (PySem.W.methodObj (.ref f) (.ref y))
  exact k a _ (.inl rfl) e
 |ext φ=>obtain⟨p,⟨o,e⟩,st⟩:=x;exact⟨st _ _ p fun o q=>k _ _ (.inl rfl) q,⟨o,k _ _ (.inl rfl) e⟩,st⟩
theorem yg.lt(x:yg P w H h)(e:H a=some o):a < h.objs.size:=(x a o e).lt
def yg.fresh(x:yg P w H h)(e:h.objs.size<=a):H a=none:=by
 cases q:H a with
 |none=>rfl
 |some u=>exact absurd (Nat.lt_of_lt_of_le (x.lt q) e) (Nat.lt_irrefl _)
def yg.kept(x:yg P w H h)(k:∀b u,h.get? b=some u->h'.get? b=some u):yg P w H h':=fun a o e=>
 (x a o e).stay (fun b u _ q=>k b u q) (fun _ q=>q) fun _ _ q=>q
def yg.laid(x:yg P w H h)(k:∀b u,h.get? b=some u->h'.get? b=some u)(hp:h.objs.size<=a)(new:xv P w (upd H a o) h' a o):yg P w (upd H a o) h':=fun b u e=>by
 have hn:=x.fresh hp
 by_cases hb:b=a
 ·subst hb;rw[ag]at e;cases e;exact new
 ·rw[ae hb]at e
  exact(x b u e).stay (fun c v _ q=>k c v q) (fun c q=>by rw[ae (aA q hn)];exact q) fun c xs q=>by rw[ae (aA q hn)];exact q
end
def Rd(H:Hp)(a:Addr)(u:HO):Prop:=H a=some u\/∃o,H a=some (.frz o u)
def Rd.ok{P:Program}{w:World}{H:Hp}{h:Heap}{a:Addr}{u:HO}(r:Rd H a u)(x:yg P w H h):xv P w H h a u:=by
 rcases r with r|⟨o,r⟩
 ·exact x a u r
 ·obtain⟨_,q⟩:=x a _ r
  exact q
noncomputable def tR:Option HO->Prop
 |some (.lst _)=>True
 |some (.dK _)=>True
 |some (.dT _)=>True
 |some (.set _ _)=>True
 |some (.ins _ _ _)=>True
 |some (.ext _)=>True
 |_=>False
section
variable {P:Program} {w:World} {H:Hp} {h h':Heap} {x e:Addr} {o':HO}
def yg.write(ok:yg P w H h)(mu:tR (H x))(he:e=x\/H e=some (.own x))(k:∀b u,b≠e->h.get? b=some u->h'.get? b=some u)(Ba:∃u,h'.get? e=some u)
  (new:xv P w (upd H x o') h' x o'):yg P w (upd H x o') h':=fun b u q=>by
 have Be:∀c y,H c=some (.own y)->c≠x:=fun c y r z=>by subst z;rw[r]at mu;exact mu
 have B1:∀c xs,H c=some (.tup xs)->c≠x:=fun c xs r z=>by subst z;rw[r]at mu;exact mu
 by_cases hb:b=x
 ·subst hb;rw[ag]at q;cases q;exact new
 ·rw[ae hb]at q
  by_cases zV:b=e
  ·have q':H b=some (.own x):=by
    rcases he with z|z
    ·exact absurd (zV.trans z) hb
    ·rw[zV];exact z
   rw[q]at q';cases q'
   obtain⟨v,hv⟩:=Ba
   exact⟨v,by rw[zV];exact hv⟩
  ·refine(ok b u q).stay (fun c v hc r=>k c v ?_ r) (fun c r=>by rw[ae (Be c b r)];exact r) fun c xs r=>by rw[ae (B1 c xs r)];exact r
   rcases hc with rfl|hc
   ·exact zV
   ·rintro rfl
    rcases he with z|z
    ·exact Be c b hc z
    ·rw[hc]at z;cases z;exact hb rfl
end
structure Un (fs ex:List Addr) (H H':Hp) (h h':Heap):Prop where
 keep:∀b o,h.get? b=some o->H b=none->b ∉ fs->b ∉ ex->h'.get? b=some o
 slot:∀b o,h.get? b=some o->H b=none->b∈fs->b ∉ ex->∃sl,h'.get? b=some { o with slots:=sl }
 free:∀b o,h.get? b=some o->H b=none->b ∉ ex->H' b=none
 there:∀b o,h.get? b=some o->b ∉ ex->∃o',h'.get? b=some o'
 tups:∀b xs,H b=some (.tup xs)->H' b=some (.tup xs)
 y6:∀b o u,H b=some (.frz o u)->H' b=some (.frz o u)
 zg:∀b ps,H b=some (.AK ps)->∃more,H' b=some (.AK (ps++more))
section
variable {fs fs' ex ex':List Addr} {H H1 H2:Hp} {h h1 h2 h':Heap} {a x e:Addr} {o:HO}
def Un.any(u:Un fs ex H H1 h h1){b:Addr}{ob:Obj}(q:h.get? b=some ob)(n:H b=none)(hx:b ∉ ex):∃sl,h1.get? b=some { ob with slots:=sl }:=by
 by_cases hb:b∈fs
 ·exact u.slot b ob q n hb hx
 ·exact⟨ob.slots,u.keep b ob q n hb hx⟩
def Un.kept(k:∀b u,h.get? b=some u->h'.get? b=some u):Un fs ex H H h h':=
 ⟨fun b ob q _ _ _=>k b ob q,fun b ob q _ _ _=>⟨ob.slots,k b ob q⟩,fun _ _ _ n _=>n,fun b ob q _=>⟨ob,k b ob q⟩,fun _ _ q=>q,fun _ _ _ q=>q,fun _ ps q=>⟨#[],by rw[q];simp⟩⟩
def Un.refl:Un fs ex H H h h:=Un.kept fun _ _ q=>q
def Un.laid(k:∀b u,h.get? b=some u->h'.get? b=some u)(hp:h.objs.size<=a)(hn:H a=none):Un fs ex H (upd H a o) h h' where
 keep:=fun b u q _ _ _=>k b u q
 slot:=fun b u q _ _ _=>⟨u.slots,k b u q⟩
 free:=fun b u q n _=>by rw[ae (Nat.ne_of_lt (Nat.lt_of_lt_of_le (Heap.lt_size q) hp))];exact n
 there:=fun b u q _=>⟨u,k b u q⟩
 tups:=fun b xs q=>by rw[ae (aA q hn)];exact q
 y6:=fun b u xs q=>by rw[ae (aA q hn)];exact q
 zg:=fun b ps q=>⟨#[],by rw[ae (aA q hn),q];simp⟩
def Un.write(mu:tR (H x))(he:e=x\/H e=some (.own x))(k:∀b u,b≠e->h.get? b=some u->h'.get? b=some u)(Ba:∃u,h'.get? e=some u):Un fs ex H (upd H x o) h h':=by
 have hx:∀b,H b=none->b≠x:=fun b n z=>by subst z;rw[n]at mu;exact mu
 have hb:∀b,H b=none->b≠e:=fun b n z=>by
  subst z
  rcases he with r|r
  ·exact hx b n r
  ·rw[n]at r;cases r
 have hm:∀b u,H b=some u->¬tR (some u)->b≠x:=fun b u q nm z=>by subst z;rw[q]at mu;exact nm mu
 refine⟨fun b u q n _ _=>k b u (hb b n) q,fun b u q n _ _=>⟨u.slots,k b u (hb b n) q⟩,fun b u q n _=>by rw[ae (hx b n)];exact n,fun b u q _=>?_,
  fun b xs q=>by rw[ae (hm b _ q fun z=>z)];exact q,fun b u xs q=>by rw[ae (hm b _ q fun z=>z)];exact q,fun b ps q=>⟨#[],by rw[ae (hm b _ q fun z=>z),q];simp⟩⟩
 by_cases zV:b=e
 ·subst zV;exact Ba
 ·exact⟨u,k b u zV q⟩
end
noncomputable def vh(h:Heap)(H:Hp):List Addr:=(List.range h.objs.size).filter fun a=>(H a).isSome
noncomputable def gL(h:Heap)(H:Hp):Heap:=PySem.W.hideAll h (vh h H)
def kD(h:Heap)(H:Hp):(gL h H).objs.size=h.objs.size:=PySem.W.hideAll_size _ _
def lL{h:Heap}{H:Hp}{b:Addr}{o:Obj}(e:h.get? b=some o)(n:H b=none):(gL h H).get? b=some o:=
 PySem.W.hideAll_get _ e fun hm=>by
  have q:(H b).isSome=true:=(List.mem_filter.mp hm).2
  rw[n]at q;simp at q
def oi{h:Heap}{H:Hp}{b:Addr}{o:Obj}(e:(gL h H).get? b=some o):h.get? b=some o/\H b=none:=by
 have e':h.get? b=some o:=PySem.W.of_hideAll (vh h H) e
 refine⟨e',?_⟩
 cases q:H b with
 |none=>rfl
 |some x=>
  have hm:b∈vh h H:=List.mem_filter.mpr ⟨List.mem_range.mpr (Heap.lt_size e'),by simp[q]⟩
  have z:(gL h H).get? b=none:=PySem.W.hideAll_none (vh h H) hm
  rw[z]at e;cases e
structure Mod (K:Vo) (mg:Vr) (base:Heap):Prop where
 Bf:K.In base
 glob:base.Ns mainGlobals mg
 blt:∃mb,base.Ns builtinsNs mb/\∀x:Str,x ≠ "__name__"->mb x=bootBuiltins x
 nolimit:base.NoLimit
structure Cx where
 prog:Program
 w:World
 K:Vo
 mg:Vr
 base:Heap
 A:Around
 N:List Str
 s₀:Shared
 H₀:Hp
 env:Env
 outer:List Env
 stack:List Env
 ex:List Addr
 fn:Str->Bool
 calm:Bool
 pn:Va
 xe:Value->Shared->Prop
noncomputable def frs(l:List Env):List Addr:=l.filterMap (·.frame)
noncomputable abbrev Cx.fs(X:Cx):List Addr:=frs X.outer
def tS(sc:Scope)(x:Str):Prop:=sc.names.lookup x=some .local\/sc.names.lookup x=some .cell\/sc.names.lookup x=some .free
def pR(sc:Scope)(x:Str):Prop:=sc.names.lookup x=some .local\/sc.names.lookup x=some .cell
def vE(env:Env)(h:Heap)(m:Vr)(x:Str)(u:Value):Prop:=
 (env.kindOf x=some .local/\m x=some u)\/((env.kindOf x=some .cell\/env.kindOf x=some .free)/\∃c,env.cells.lookup x=some c/\h.IsCell c (some u))
structure Cx.Ok (X:Cx):Prop where
 mod:Mod X.K X.mg X.base
 kind:X.env.scope.kind = .function
 glob:X.env.globals=mainGlobals
 blt:X.env.builtins=builtinsNs
 above:X.s₀.heap.objs.size<=X.env.locals
 inj:∀x y c,X.env.cells.lookup x=some c->X.env.cells.lookup y=some c->x=y
 has:∀x,(X.env.kindOf x=some .cell\/X.env.kindOf x=some .free)->∃c,X.env.cells.lookup x=some c
 Ap:∀x c,X.fn x=true->X.env.cells.lookup x=some c->X.s₀.heap.objs.size<=c
 hd:X.calm=true->X.A.handled=none
 frames:X.A.frames=some X.stack
 stk:X.stack=X.outer\/(X.stack=X.env::X.outer/\X.env.frame=some X.env.locals)
 AM:∀b∈X.ex,b≠X.env.locals/\∀x c,X.env.cells.lookup x=some c->c≠b
 bs:∀b o,X.base.get? b=some o->X.s₀.heap.get? b=some o/\X.H₀ b=none
 zO:X.base.objs.size<=X.s₀.heap.objs.size
 y8:∀b o,X.base.get? b=some o->b ∉ X.ex
 zh:∀b∈X.ex,b ∉ X.fs
 yh:X.s₀.heap.FunFrames X.base X.outer
 z_:∀b∈X.fs,X.H₀ b=none
structure Inv (X:Cx) (pins:Va) (σ:List (Option V)) (H:Hp) (s:Shared):Prop where
 ok:X.Ok
 os:s.os=X.s₀.os
 bare:AllBare s.gens
 base:Un X.fs X.ex X.H₀ H X.s₀.heap s.heap
 loc:∃m,s.heap.Ns X.env.locals m/\∀(i:Nat) (x:Str) (v:V),X.N[i]?=some x->σ[i]?=some (some v)->tS X.env.scope x->∃u,RelV v u/\vE X.env s.heap m x u
 cell:∀x c,X.env.cells.lookup x=some c->∃v,s.heap.IsCell c v
 free:H X.env.locals=none
 xP:∀x c,X.env.cells.lookup x=some c->H c=none
 pin:∀p∈X.pn++pins,s.heap.get? p.1=some p.2/\H p.1=none/\p.1≠X.env.locals/\p.1 ∉ X.fs/\∀v,p.2.data ≠ .cell v
 hok:yg X.prog X.w H s.heap
 len:σ.length=X.N.length
section
variable {X:Cx} {pins:Va} {σ:List (Option V)} {H H':Hp} {s:Shared} {h':Heap}
def Cx.Ok.B2(ok:X.Ok){b:Addr}{o:Obj}(e:X.base.get? b=some o):b ∉ X.fs:=fun hb=>by
 have:=(ok.yh.mem hb).1
 rw[e]at this;cases this
theorem Inv.bs(I:Inv X pins σ H s):∀b o,X.base.get? b=some o->s.heap.get? b=some o/\H b=none:=fun b o e=>
 ⟨I.base.keep b o (I.ok.bs b o e).1 (I.ok.bs b o e).2 (I.ok.B2 e) (I.ok.y8 b o e),I.base.free b o (I.ok.bs b o e).1 (I.ok.bs b o e).2 (I.ok.y8 b o e)⟩
def Inv.bk(I:Inv X pins σ H s):∀b o,X.base.get? b=some o->s.heap.get? b=some o:=fun b o e=>(I.bs b o e).1
theorem Inv.mod(I:Inv X pins σ H s):Mod X.K X.mg X.base:=I.ok.mod
def Inv.y9(I:Inv X pins σ H s):X.K.In s.heap:=I.ok.mod.Bf.keeps I.bk
theorem Inv.lt(I:Inv X pins σ H s):X.env.locals < s.heap.objs.size:=let ⟨_,hn,_⟩:=I.loc;hn.lt
def Inv.sz(I:Inv X pins σ H s):X.s₀.heap.objs.size<=s.heap.objs.size:=Nat.le_trans I.ok.above (Nat.le_of_lt I.lt)
def Inv.Bg(I:Inv X pins σ H s){a:Addr}(h:s.heap.objs.size<=a):a ∉ X.fs:=fun hb=>by
 obtain⟨_,o,ho,_⟩:=I.ok.yh.mem hb
 exact absurd (Nat.lt_of_lt_of_le (Heap.lt_size ho) (Nat.le_trans I.sz h)) (Nat.lt_irrefl _)
def Inv.Ac(I:Inv X pins σ H s):∀x c,X.env.cells.lookup x=some c->c≠X.env.locals:=fun x c e z=>by
 obtain⟨v,o,ho,hd⟩:=I.cell x c e
 obtain⟨m,⟨o',es,ep,ho',hd',_⟩,_⟩:=I.loc
 rw[z,ho']at ho;cases ho;rw[hd']at hd;cases hd
theorem Inv.yh(I:Inv X pins σ H s):s.heap.FunFrames X.base X.outer:=by
 have all:∀(l:List Env),(∀b∈frs l,b∈X.fs)->X.s₀.heap.FunFrames X.base l->s.heap.FunFrames X.base l:=by
  intro l
  induction l with
  |nil=>intro _ _;trivial
  |cons env r ih=>
   intro hs hl
   obtain⟨hk,⟨L,o,hf,hn,ho,hd⟩,hr⟩:=hl
   have hL:L∈X.fs:=hs L (by unfold frs;rw[List.filterMap_cons,hf];exact List.mem_cons_self)
   obtain⟨sl,e⟩:=I.base.slot L o ho (I.ok.z_ L hL) hL fun z=>I.ok.zh L z hL
   exact⟨hk,⟨L,_,hf,hn,e,hd⟩,ih (fun b hb=>hs b (by unfold frs;rw[List.filterMap_cons,hf];exact List.mem_cons_of_mem _ hb)) hr⟩
 exact all X.outer (fun _ hb=>hb) I.ok.yh
theorem Inv.stack(I:Inv X pins σ H s):s.heap.FunFrames X.base X.stack:=by
 rcases I.ok.stk with e|⟨e,hf⟩
 ·rw[e];exact I.yh
 ·rw[e]
  obtain⟨m,hn,_⟩:=I.loc
  refine .cons (by rw[I.ok.kind];decide) hf hn ?_ I.yh
  exact Heap.get?_none_of_le (Nat.le_trans I.ok.zO I.ok.above)
def Inv.yI(I:Inv X pins σ H s):∀b∈frs X.stack,b∈X.env.locals::X.fs:=fun b hb=>by
 rcases I.ok.stk with e|⟨e,hf⟩
 ·rw[e]at hb;exact List.mem_cons_of_mem _ hb
 ·rw[e]at hb
  unfold frs at hb
  rw[List.filterMap_cons,hf]at hb
  exact hb
def Inv.zi(I:Inv X pins σ H s):∀b∈frs X.stack,H b=none:=fun b hb=>by
 rcases List.mem_cons.mp (I.yI b hb)with e|hb
 ·rw[e];exact I.free
 ·obtain⟨_,o,ho,_⟩:=I.ok.yh.mem hb
  exact I.base.free b o ho (I.ok.z_ b hb) fun z=>I.ok.zh b z hb
def Inv.step{g':Array GenState}{t':Nat}{d':Drawn}{ch:List Addr}(I:Inv X pins σ H s)
  (hch:∀b∈ch,(b∈X.ex\/X.s₀.heap.objs.size<=b)/\b≠X.env.locals/\(∀x c,X.env.cells.lookup x=some c->c≠b)/\∀p∈X.pn++pins,p.1≠b)
  (keep:∀b o,b≠X.env.locals->b ∉ X.fs->b ∉ ch->s.heap.get? b=some o->H b=none->h'.get? b=some o)
  (slot:∀b o,b≠X.env.locals->b∈X.fs->b ∉ ch->s.heap.get? b=some o->H b=none->∃sl,h'.get? b=some { o with slots:=sl }) (free:∀b o,b ∉ ch->s.heap.get? b=some o->H b=none->H' b=none)
  (there:∀b o,b ∉ ch->s.heap.get? b=some o->∃o',h'.get? b=some o')
  (tups:∀b xs,H b=some (.tup xs)->H' b=some (.tup xs)) (y6:∀b o u,H b=some (.frz o u)->H' b=some (.frz o u)) (zg:∀b ps,H b=some (.AK ps)->∃more,H' b=some (.AK (ps++more)))
  (ns:∀m,s.heap.Ns X.env.locals m->h'.Ns X.env.locals m) (hok:yg X.prog X.w H' h') (hg:AllBare g') :
  Inv X pins σ H' { s with heap:=h',gens:=g',drawn:=d',toks:=t' }:=by
 have CA:∀b o,X.s₀.heap.get? b=some o->b≠X.env.locals:=fun b o e=>Nat.ne_of_lt (Nat.lt_of_lt_of_le (Heap.lt_size e) I.ok.above)
 have BK:∀b o,X.s₀.heap.get? b=some o->b ∉ X.ex->b ∉ ch:=fun b o e hx hb=>by
  rcases(hch b hb).1 with z|z
  ·exact hx z
  ·exact absurd (Nat.lt_of_lt_of_le (Heap.lt_size e) z) (Nat.lt_irrefl _)
 have cellK:∀x c,X.env.cells.lookup x=some c->∀v,s.heap.IsCell c v->h'.IsCell c v:=fun x c e v ⟨o,ho,hd⟩=>by
  have Bh:c ∉ ch:=fun z=>(hch c z).2.2.1 x c e rfl
  by_cases hc:c∈X.fs
  ·obtain⟨sl,q⟩:=slot c o (I.Ac x c e) hc Bh ho (I.xP x c e)
   exact⟨_,q,hd⟩
  ·exact⟨o,keep c o (I.Ac x c e) hc Bh ho (I.xP x c e),hd⟩
 refine⟨I.ok,I.os,hg,⟨fun b o e n hb hx=>?_,fun b o e n hb hx=>?_,fun b o e n hx=>?_,fun b o e hx=>?_,fun b xs e=>tups b xs (I.base.tups b xs e),fun b o xs e=>y6 b o xs (I.base.y6 b o xs e),fun b ps e=>?_⟩,?_,fun x c e=>?_,?_,fun x c e=>?_,fun p hp=>?_,hok,I.len⟩
 ·exact keep b o (CA b o e) hb (BK b o e hx) (I.base.keep b o e n hb hx) (I.base.free b o e n hx)
 ·obtain⟨sl,e1⟩:=I.base.slot b o e n hb hx
  obtain⟨sl',e2⟩:=slot b _ (CA b o e) hb (BK b o e hx) e1 (I.base.free b o e n hx)
  exact⟨sl',e2⟩
 ·obtain⟨o',e1⟩:=I.base.there b o e hx
  exact free b o' (BK b o e hx) e1 (I.base.free b o e n hx)
 ·obtain⟨o',e1⟩:=I.base.there b o e hx
  exact there b o' (BK b o e hx) e1
 ·obtain⟨m1,e1⟩:=I.base.zg b ps e
  obtain⟨m2,e2⟩:=zg b _ e1
  exact⟨m1++m2,by rw[e2,Array.append_assoc]⟩
 ·obtain⟨m,hn,hl⟩:=I.loc
  refine⟨m,ns m hn,fun i x v e1 e2 e3=>?_⟩
  obtain⟨u,r,l⟩:=hl i x v e1 e2 e3
  refine⟨u,r,?_⟩
  rcases l with l|⟨k,c,e,z⟩
  ·exact .inl l
  ·exact .inr ⟨k,c,e,cellK x c e _ z⟩
 ·obtain⟨v,z⟩:=I.cell x c e
  exact⟨v,cellK x c e v z⟩
 ·obtain⟨m,⟨o,_,_,ho,_⟩,_⟩:=I.loc
  exact free _ o (fun z=>(hch _ z).2.1 rfl) ho I.free
 ·obtain⟨v,o,ho,hd⟩:=I.cell x c e
  exact free c o (fun z=>(hch c z).2.2.1 x c e rfl) ho (I.xP x c e)
 ·obtain⟨e,n,ne,nf,d⟩:=I.pin p hp
  have Bh:p.1 ∉ ch:=fun z=>(hch p.1 z).2.2.2 p hp rfl
  exact⟨keep p.1 p.2 ne nf Bh e n,free p.1 p.2 Bh e n,ne,nf,d⟩
def Inv.un{t':Nat}(I:Inv X pins σ H s)(u:Un X.fs [] H H' s.heap h')(hok:yg X.prog X.w H' h'):Inv X pins σ H' { s with heap:=h',toks:=t' }:=by
 obtain⟨m,⟨o,es,ep,ho,r⟩,_⟩:=id I.loc
 obtain⟨sl,hL⟩:=u.any ho I.free (by simp)
 exact I.step (g':=s.gens) (d':=s.drawn) (ch:=[]) (fun _ z=>nomatch z) (fun b o _ hb _ e n=>u.keep b o e n hb (by simp)) (fun b o _ hb _ e n=>u.slot b o e n hb (by simp)) (fun b o _ e n=>u.free b o e n (by simp)) (fun b o _ e=>u.there b o e (by simp)) u.tups u.y6 u.zg (fun m' hm=>by
  obtain⟨o',es',B3,ho',r'⟩:=hm
  rw[ho]at ho';cases ho'
  exact⟨_,es',B3,hL,r'⟩) hok I.bare
def Inv.call{g':Array GenState}{t':Nat}{d':Drawn}{ch:List Addr}(I:Inv X pins σ H s)(u:Un (frs X.stack) ch H H' s.heap h')(hok:yg X.prog X.w H' h')(hg:AllBare g')
  (hch:∀b∈ch,(b∈X.ex\/X.s₀.heap.objs.size<=b)/\b≠X.env.locals/\(∀x c,X.env.cells.lookup x=some c->c≠b)/\∀p∈X.pn++pins,p.1≠b) :
  Inv X pins σ H' { s with heap:=h',gens:=g',drawn:=d',toks:=t' }:=by
 obtain⟨m,⟨o,es,ep,ho,r⟩,_⟩:=id I.loc
 obtain⟨sl,hL⟩:=u.any ho I.free fun z=>(hch _ z).2.1 rfl
 exact I.step (ch:=ch) hch (fun b o hL hb hc e n=>u.keep b o e n (fun z=>(List.mem_cons.mp (I.yI b z)).elim hL hb) hc) (fun b o _ _ hc e n=>u.any e n hc) (fun b o hc e n=>u.free b o e n hc) (fun b o hc e=>u.there b o e hc) u.tups u.y6 u.zg (fun m' hm=>by
  obtain⟨o',es',B3,ho',r'⟩:=hm
  rw[ho]at ho';cases ho'
  exact⟨_,es',B3,hL,r'⟩) hok hg
def Inv.turned{t':Nat}{it:Addr}(I:Inv X pins σ H s)(k:∀b o,b≠it->s.heap.get? b=some o->h'.get? b=some o)(hn:H it=none)(hL:it≠X.env.locals)
  (h1:it∈X.ex\/X.s₀.heap.objs.size<=it) (h2:∀x c,X.env.cells.lookup x=some c->c≠it) (h3:∀p∈X.pn++pins,p.1≠it):Inv X pins σ H { s with heap:=h',toks:=t' }:=by
 have Bi:∀b u,H b=some u->b≠it:=fun b u e z=>by rw[z,hn]at e;cases e
 refine I.step (g':=s.gens) (d':=s.drawn) (ch:=[it]) (fun b hb=>?_) (fun b o _ _ hc e _=>k b o (fun z=>hc (by simp[z])) e) (fun b o _ _ hc e _=>⟨o.slots,k b o (fun z=>hc (by simp[z])) e⟩) (fun _ _ _ _ n=>n)
  (fun b o hc e=>⟨o,k b o (fun z=>hc (by simp[z])) e⟩) (fun _ _ e=>e) (fun _ _ _ e=>e) (fun b ps e=>⟨#[],by rw[e];simp⟩) (fun m hm=>?_) (fun b u e=>?_) I.bare
 ·have e:b=it:=by simpa using hb
  subst e
  exact⟨h1,hL,h2,h3⟩
 ·obtain⟨o,es,ep,ho,r⟩:=hm
  exact⟨o,es,ep,k _ o (Ne.symm hL) ho,r⟩
 ·refine(I.hok b u e).stay (fun c v hc q=>k c v ?_ q) (fun _ q=>q) fun _ _ q=>q
  rcases hc with z|z
  ·rw[z];exact Bi b u e
  ·exact Bi c _ z
def Inv.tok(I:Inv X pins σ H s)(t:Nat):Inv X pins σ H { s with toks:=t }:=I.un (h':=s.heap) (t':=t) Un.refl I.hok
theorem Inv.kept{t':Nat}(I:Inv X pins σ H s)(k:∀b u,s.heap.get? b=some u->h'.get? b=some u):Inv X pins σ H { s with heap:=h',toks:=t' }:=I.un (Un.kept k) (I.hok.kept k)
theorem Inv.laid{a:Addr}{o:HO}{t':Nat}(I:Inv X pins σ H s)(k:∀b u,s.heap.get? b=some u->h'.get? b=some u)(hp:s.heap.objs.size<=a)(new:xv X.prog X.w (upd H a o) h' a o) :
  Inv X pins σ (upd H a o) { s with heap:=h',toks:=t' }:=I.un (Un.laid k hp (I.hok.fresh hp)) (I.hok.laid k hp new)
theorem Inv.write{x e:Addr}{o:HO}{t':Nat}(I:Inv X pins σ H s)(mu:tR (H x))(he:e=x\/H e=some (.own x))(k:∀b u,b≠e->s.heap.get? b=some u->h'.get? b=some u)(Ba:∃u,h'.get? e=some u)
  (new:xv X.prog X.w (upd H x o) h' x o):Inv X pins σ (upd H x o) { s with heap:=h',toks:=t' }:=I.un (Un.write mu he k Ba) (I.hok.write mu he k Ba new)
def Inv.weak{σ':List (Option V)}(I:Inv X pins σ H s)(hl:σ'.length=σ.length)(w:∀(i:Nat) v,σ'[i]?=some (some v)->σ[i]?=some (some v)):Inv X pins σ' H s:=
 ⟨I.ok,I.os,I.bare,I.base,let ⟨m,hn,hl'⟩:=I.loc;⟨m,hn,fun i x v e1 e2 e3=>hl' i x v e1 (w i v e2) e3⟩,I.cell,I.free,I.xP,I.pin,I.hok,hl.trans I.len⟩
def Inv.yS{pins':Va}(I:Inv X pins σ H s)(h:∀p∈pins',s.heap.get? p.1=some p.2/\H p.1=none/\p.1≠X.env.locals/\p.1 ∉ X.fs/\∀v,p.2.data ≠ .cell v):Inv X pins' σ H s:=
 ⟨I.ok,I.os,I.bare,I.base,I.loc,I.cell,I.free,I.xP,fun p hp=>(List.mem_append.mp hp).elim (fun z=>I.pin p (List.mem_append_left _ z)) (h p),I.hok,I.len⟩
def fb{N:Vs}(hN:N.Nodup){i j:Nat}{x:Str}(a:N[i]?=some x)(b:N[j]?=some x):i=j:=by
 obtain⟨h1,e1⟩:=List.getElem?_eq_some_iff.mp a
 obtain⟨h2,e2⟩:=List.getElem?_eq_some_iff.mp b
 exact(List.getElem_inj hN).mp (e1.trans e2.symm)
def d0 {M : Model} {A : Around} {E : Value -> Shared -> Prop} {i : Nat} {x : Str} {v : V} {u : Value} {Q : Unit -> Shared -> Prop} (I : Inv X pins σ H s) (hN : X.N.Nodup) (hi : X.N[i]? = some x) (hx : pR X.env.scope x) (r : RelV v u)
  (h : ∀ s', Inv X pins (σ.set i (some v)) H s' -> (∃ a, Heap.SameBut a s.heap s'.heap /\ (a = X.env.locals \/ X.env.cells.lookup x = some a)) -> Q () s') (hf : X.fn x = true \/ X.env.scope.names.lookup x = some .local := by first | exact .inl rfl | exact .inr rfl | assumption) : wpAny M A (storeName X.env x u) Q E s := by
 obtain ⟨m, hn, hl⟩ := id I.loc
 have hcls : (X.env.scope.kind == .class || (X.env.scope.kind == .module && X.env.locals != X.env.globals)) = false := by rw [I.ok.kind]; rfl
 have CB : i < σ.length := by rw [I.len]; exact (List.getElem?_eq_some_iff.mp hi).1
 have Ac := I.Ac
 have tracked : ∀ {a : Addr} {h' : Heap}, (∃ o, s.heap.get? a = some o /\ H a = none) -> Heap.SameBut a s.heap h' -> yg X.prog X.w H h' := fun {a h'} ha hs b ob e => by
  obtain ⟨_, _, hfree⟩ := ha
  refine (I.hok b ob e).stay (fun c w' hc q => (hs.2 c ?_).trans q) (fun _ q => q) fun _ _ q => q
  rintro rfl
  rcases hc with rfl | hc
  ·rw [hfree] at e; cases e
  ·rw [hfree] at hc; cases hc
 rcases hx with hk | hk
 ·refine wpAny_storeName_local hk hn (fun h' hn' hs => ?_) hcls
  obtain ⟨oL, _, _, Db, _⟩ := id hn
  refine h _ ⟨I.ok, I.os, I.bare, ⟨fun b o e n hb hx => ?_, fun b o e n hb hx => ?_, I.base.free, fun b o e hx => ?_, I.base.tups, I.base.y6, I.base.zg⟩, ⟨_, hn', fun j y v' e1 e2 e3 => ?_⟩, fun y c e => ?_, I.free, I.xP, fun p hp => ?_, tracked ⟨oL, Db, I.free⟩ hs, by simpa using I.len⟩ ⟨_, hs, .inl rfl⟩
  ·exact (hs.2 b (Nat.ne_of_lt (Nat.lt_of_lt_of_le (Heap.lt_size e) I.ok.above))).trans (I.base.keep b o e n hb hx)
  ·obtain ⟨sl, e1⟩ := I.base.slot b o e n hb hx
   exact ⟨sl, (hs.2 b (Nat.ne_of_lt (Nat.lt_of_lt_of_le (Heap.lt_size e) I.ok.above))).trans e1⟩
  ·obtain ⟨o', e1⟩ := I.base.there b o e hx
   exact ⟨o', (hs.2 b (Nat.ne_of_lt (Nat.lt_of_lt_of_le (Heap.lt_size e) I.ok.above))).trans e1⟩
  ·by_cases hj : j = i
   ·subst hj
    rw [hi] at e1; cases e1
    rw [List.getElem?_set_self CB] at e2
    cases e2
    exact ⟨u, r, .inl ⟨hk, by simp⟩⟩
   ·rw [List.getElem?_set_ne (Ne.symm hj)] at e2
    obtain ⟨u', r', q⟩ := hl j y v' e1 e2 e3
    refine ⟨u', r', ?_⟩
    rcases q with ⟨k, e⟩ | ⟨k, c, e, z⟩
    ·refine .inl ⟨k, ?_⟩
     have : y ≠ x := fun e => hj (fb hN e1 (e ▸ hi))
     simp [this, e]
    ·exact .inr ⟨k, c, e, z.sameBut hs (Ac y c e)⟩
  ·obtain ⟨w', z⟩ := I.cell y c e
   exact ⟨w', z.sameBut hs (Ac y c e)⟩
  ·obtain ⟨e, n, ne, nf, d⟩ := I.pin p hp
   exact ⟨(hs.2 p.1 ne).trans e, n, ne, nf, d⟩
 ·have hfn : X.fn x = true := by
   rcases hf with z | z
   ·exact z
   ·rw [z] at hk; cases hk
  obtain ⟨c, hc⟩ := I.ok.has x (.inl hk)
  obtain ⟨w', z⟩ := I.cell x c hc
  refine wpAny_storeName_cell I.ok.kind hk hc z (fun h' hc' hs => ?_)
  obtain ⟨oc, hoc, B4⟩ := id z
  refine h { s with heap := h' } ⟨I.ok, I.os, I.bare, ⟨fun b o e n hb hx => ?_, fun b o e n hb hx => ?_, I.base.free, fun b o e hx => ?_, I.base.tups, I.base.y6, I.base.zg⟩, ⟨m, hn.sameBut hs (Ne.symm (Ac x c hc)), fun j y v' e1 e2 e3 => ?_⟩, fun y c' e => ?_, I.free, I.xP, fun p hp => ?_, tracked ⟨oc, hoc, I.xP x c hc⟩ hs, by simpa using I.len⟩ ⟨c, hs, .inr hc⟩
  ·exact (hs.2 b (Nat.ne_of_lt (Nat.lt_of_lt_of_le (Heap.lt_size e) (I.ok.Ap x c hfn hc)))).trans (I.base.keep b o e n hb hx)
  ·obtain ⟨sl, e1⟩ := I.base.slot b o e n hb hx
   exact ⟨sl, (hs.2 b (Nat.ne_of_lt (Nat.lt_of_lt_of_le (Heap.lt_size e) (I.ok.Ap x c hfn hc)))).trans e1⟩
  ·obtain ⟨o', e1⟩ := I.base.there b o e hx
   exact ⟨o', (hs.2 b (Nat.ne_of_lt (Nat.lt_of_lt_of_le (Heap.lt_size e) (I.ok.Ap x c hfn hc)))).trans e1⟩
  ·by_cases hj : j = i
   ·subst hj
    rw [hi] at e1; cases e1
    rw [List.getElem?_set_self CB] at e2
    cases e2
    exact ⟨u, r, .inr ⟨.inl hk, c, hc, hc'⟩⟩
   ·rw [List.getElem?_set_ne (Ne.symm hj)] at e2
    obtain ⟨u', r', q⟩ := hl j y v' e1 e2 e3
    refine ⟨u', r', ?_⟩
    rcases q with q | ⟨k, c', e, z'⟩
    ·exact .inl q
    ·refine .inr ⟨k, c', e, z'.sameBut hs ?_⟩
     rintro rfl
     exact hj (fb hN e1 (I.ok.inj _ _ _ e hc ▸ hi))
  ·by_cases hcc : c' = c
   ·subst hcc; exact ⟨_, hc'⟩
   ·obtain ⟨w2, z2⟩ := I.cell y c' e
    exact ⟨w2, z2.sameBut hs hcc⟩
  ·obtain ⟨e, n, ne, nf, d⟩ := I.pin p hp
   refine ⟨(hs.2 p.1 ?_).trans e, n, ne, nf, d⟩
   intro q
   rw [q, hoc] at e
   have q' : oc = p.2 := Option.some.inj e
   exact d w' (by rw [<- q']; exact B4)
def dE{M:Model}{A:Around}{E:Vq}{i:Nat}{x:Str}{v:V}{u:Value}{Q:Unit->Shared->Prop}(I:Inv X pins σ H s)(hN:X.N.Nodup)(hi:X.N[i]?=some x)(hx:pR X.env.scope x)(r:RelV v u)
  (h:∀s',Inv X pins (σ.set i (some v)) H s'->Q () s') (hf:X.fn x=true\/X.env.scope.names.lookup x=some .local:=by first|exact .inl rfl|exact .inr rfl|assumption):wpAny M A (storeName X.env x u) Q E s:=
 d0 I hN hi hx r (fun s' I' _=>h s' I') hf
def Inv.AC{s':Shared}{ch:List Addr}(I:Inv X pins σ H s)(ho:s'.os=s.os)(u:Un (frs X.stack) ch H H' s.heap s'.heap)(hok:yg X.prog X.w H' s'.heap)(hg:AllBare s'.gens)
  (hch:∀b∈ch,(b∈X.ex\/X.s₀.heap.objs.size<=b)/\b≠X.env.locals/\(∀x c,X.env.cells.lookup x=some c->c≠b)/\∀p∈X.pn++pins,p.1≠b):Inv X pins σ H' s':=by
 obtain⟨h',g',d',t',o'⟩:=s'
 have e:o'=s.os:=ho
 subst e
 exact I.call (g':=g') (t':=t') (d':=d') u hok hg hch
end
abbrev XK:=Value->Option Addr->Hp->Prop
abbrev St:=List (Option V)
abbrev VK:=V->Hp->Prop
abbrev TE:=St->Hp->VK->Prop
abbrev TT:=St->Hp->(Bool->Hp->Prop)->Prop
abbrev TA:=St->Hp->(List V->Hp->Prop)->Prop
structure eQ where
 nx:St->Hp->Prop
 rt:VK
 bk:St->Hp->Prop:=fun _ _=>False
 ct:St->Hp->Prop:=fun _ _=>False
abbrev TS:=eQ->St->Hp->Prop
def EP(X:Cx)(pins:Va)(σ:St)(Q:VK)(u:Value)(s':Shared):Prop:=∃v H',Inv X pins σ H' s'/\RelV v u/\Q v H'
def TP(X:Cx)(pins:Va)(σ:St)(Q:Bool->Hp->Prop)(b:Bool)(s':Shared):Prop:=∃H',Inv X pins σ H' s'/\Q b H'
def AP(X:Cx)(pins:Va)(σ:St)(Q:List V->Hp->Prop)(us:Vv)(s':Shared):Prop:=∃vs H',Inv X pins σ H' s'/\Vals vs us/\Q vs H'
def SP(X:Cx)(pins:Va)(D:eQ)(f:Flow)(s':Shared):Prop:=
 match f with
 | .next=>∃σ' H',Inv X pins σ' H' s'/\D.nx σ' H'
 | .brk=>∃σ' H',Inv X pins σ' H' s'/\D.bk σ' H'
 | .cont=>∃σ' H',Inv X pins σ' H' s'/\D.ct σ' H'
 | .ret u=>∃v σ' H',Inv X pins σ' H' s'/\RelV v u/\D.rt v H'
def PE(X:Cx)(e:Expr)(t:TE):Prop:=
 ∀(pins:Va) (s:Shared) (σ:St) (H:Hp) (Q:VK),Inv X pins σ H s->t σ H Q->wpAny (model X.prog X.w) X.A (eval e X.env) (EP X pins σ Q) X.xe s
def PT(X:Cx)(e:Expr)(t:TT):Prop:=
 ∀(pins:Va) (s:Shared) (σ:St) (H:Hp) (Q:Bool->Hp->Prop),Inv X pins σ H s->t σ H Q->wpAny (model X.prog X.w) X.A (isTrue e X.env (eval e X.env)) (TP X pins σ Q) X.xe s
def PW(X:Cx)(e:Expr)(t:TT):Prop:=
 ∀(whole:Sem Value) (pins:Va) (s:Shared) (σ:St) (H:Hp) (Q:Bool->Hp->Prop),Inv X pins σ H s->t σ H Q->wpAny (model X.prog X.w) X.A (isTrue e X.env whole) (TP X pins σ Q) X.xe s
def PW.pt{X:Cx}{e:Expr}{t:TT}(h:PW X e t):PT X e t:=h _
def PA(X:Cx)(es:List Expr)(t:TA):Prop:=
 ∀(pos:Pos) (pins:Va) (s:Shared) (σ:St) (H:Hp) (Q:List V->Hp->Prop),Inv X pins σ H s->t σ H Q->wpAny (model X.prog X.w) X.A (spliced (backTo pos (starEach es X.env))) (AP X pins σ Q) X.xe s
def PS(X:Cx)(st:Stmt)(t:TS):Prop:=
 ∀(pins:Va) (s:Shared) (σ:St) (H:Hp) (D:eQ),Inv X pins σ H s->t D σ H->wpAny (model X.prog X.w) X.A (exec st X.env) (SP X pins D) X.xe s
def zb(X:Cx)(st:List Stmt)(t:TS):Prop:=
 ∀(pins:Va) (s:Shared) (σ:St) (H:Hp) (D:eQ),Inv X pins σ H s->t D σ H->wpAny (model X.prog X.w) X.A (execs st X.env) (SP X pins D) X.xe s
def aL{α:Type}{t:Sem α}{Q Q':α->Shared->Prop}{M:Model}{A:Around}{E:Vq}{s:Shared}(h:wpAny M A t Q E s)(hQ:∀a s,Q a s->Q' a s):wpAny M A t Q' E s:=wpAny_mono h hQ fun _ _ x=>x
section
variable {X:Cx}
def kE(i:Nat):TE:=fun σ H Q=>∃v,σ[i]?=some (some v)/\Q v H
def tC(v:V):TE:=fun _ H Q=>Q v H
def lM{i:Nat}{x:Str}{pos:Pos}(hN:X.N[i]?=some x)(hv:tS X.env.scope x)(hd:(x == ("__debug__":Str))=false:=by decide)(hcd:(x == ("__classdict__":Str))=false:=by decide):PE X (.Name x pos) (kE i):=by
 intro pins s σ H Q I h
 obtain⟨v,e,h⟩:=h
 obtain⟨m,hn,hl⟩:=I.loc
 obtain⟨u,r,l⟩:=hl i x v hN e hv
 have fin:EP X pins σ Q u s:=⟨v,H,I,r,h⟩
 rcases l with⟨hk,hm⟩|⟨hk,c,hc,hcell⟩
 ·exact wpAny_Name (wpAny_loadName_local I.ok.kind hk hn hm fin) hd
 ·rcases hk with hk|hk
  ·exact wpAny_Name (wpAny_loadName_cell I.ok.kind hk hc hcell fin) hd
  ·exact wpAny_Name (wpAny_loadName_free I.ok.kind hk hc hcell fin hcd) hd
def qB{i j pos}:PE X (.Constant (.int i) j pos) (tC (.int i)):=fun _ _ _ H _ I h=>wpAny_Constant_int ⟨.int i,H,I.tok _,⟨_,rfl⟩,h⟩
def tT{b j pos}:PE X (.Constant (.bool b) j pos) (tC (.bl b)):=fun _ _ _ H _ I h=>Constant_bool ⟨.bl b,H,I,rfl,h⟩
def qC{j pos}:PE X (.Constant .none j pos) (tC .non):=fun _ _ _ H _ I h=>Constant_none ⟨.non,H,I,rfl,h⟩
def qD{x j pos}:PE X (.Constant (.str x) j pos) (tC (.str x)):=fun _ _ _ H _ I h=>Calls.Constant_str ⟨.str x,H,I.tok _,⟨_,rfl⟩,h⟩
def Gl(X:Cx)(x:Str):Prop:=X.env.kindOf x=some .globalImplicit
def cZ{E:Vq}{pins:Va}{s:Shared}{σ:St}{H:Hp}{x:Str}{u:Value}{pos:Pos}{Q:Vq}(I:Inv X pins σ H s)(hg:Gl X x)(hm:X.mg x=some u)(h:Q u s)
  (hd:(x == ("__debug__":Str))=false:=by decide):wpAny (model X.prog X.w) X.A (eval (.Name x pos) X.env) Q E s:=
 Calls.Name_function_global I.ok.kind hg (Calls.loadGlobal_global (by rw[I.ok.glob];exact I.mod.glob.keeps I.bk) hm h) hd
def cf{E:Vq}{pins:Va}{s:Shared}{σ:St}{H:Hp}{x:Str}{u:Value}{pos:Pos}{Q:Vq}(I:Inv X pins σ H s)(hg:Gl X x)(hm:X.mg x=none)(hv:bootBuiltins x=some u)(h:Q u s)
  (hn:x ≠ "__name__":=by decide) (hd:(x == ("__debug__":Str))=false:=by decide):wpAny (model X.prog X.w) X.A (eval (.Name x pos) X.env) Q E s:=by
 obtain⟨mb,h1,h2⟩:=I.mod.blt
 exact Calls.Name_function_global I.ok.kind hg (Calls.loadGlobal_builtin (by rw[I.ok.glob];exact I.mod.glob.keeps I.bk) hm (by rw[I.ok.blt];exact h1.keeps I.bk) ((h2 x hn).trans hv) h) hd
def jS{x:Str}{v:V}{u:Value}{pos:Pos}(hg:Gl X x)(hm:X.mg x=some u)(r:RelV v u)(hd:(x == ("__debug__":Str))=false:=by decide):PE X (.Name x pos) (tC v):=
 fun _ _ _ H _ I h=>cZ I hg hm ⟨v,H,I,r,h⟩ hd
def oj{x:Str}{v:V}{u:Value}{pos:Pos}(hg:Gl X x)(hm:X.mg x=none)(hv:bootBuiltins x=some u)(r:RelV v u)(hn:x ≠ "__name__":=by decide)(hd:(x == ("__debug__":Str))=false:=by decide):PE X (.Name x pos) (tC v):=
 fun _ _ _ H _ I h=>cf I hg hm hv ⟨v,H,I,r,h⟩ hn hd
variable {a b:Expr} {ta tb:TE} {pos:Pos}
def tB(t:TE):TT:=fun σ H Q=>t σ H fun x H1=>∃c,x = .bl c/\Q c H1
def qE{e:Expr}{t:TE}(h:PE X e t)(he:∀whole,isTrue e X.env whole=(do let v <-whole;standAt e.pos;holding [v] (truthy v)):=by intro _;rfl):PT X e (tB t):=by
 intro pins s σ H Q I hw
 refine isTrue_plain (aL (h pins s σ H _ I hw) fun v s1 ⟨x,H1,I1,r1,q1⟩=>?_) (he _)
 obtain⟨d,rfl,q⟩:=q1
 cases r1
 exact wpAny_truthy_bool ⟨H1,I1,q⟩
variable {tA BL:TT} {rest:List Expr}
def vF(t u:TT):TT:=fun σ H Q=>t σ H fun c H1=>if c=true then u σ H1 Q else Q false H1
def wI(t u:TT):TT:=fun σ H Q=>t σ H fun c H1=>if c=true then Q true H1 else u σ H1 Q
def vG(t:TT):TT:=fun σ H Q=>t σ H fun c H1=>Q (!c) H1
def ol(ha:PT X a tA):PW X (.BoolOp .And [a] pos) tA:=by
 intro wh pins s σ H Q I h
 refine isTrue_and (aL (ha pins s σ H Q I h) fun c s1 e=>?_)
 cases c with
 |true=>exact isTrue_and_nil e
 |false=>exact e
def qF(ha:PT X a tA):PW X (.BoolOp .Or [a] pos) tA:=by
 intro wh pins s σ H Q I h
 refine isTrue_or (aL (ha pins s σ H Q I h) fun c s1 e=>?_)
 cases c with
 |false=>exact isTrue_or_nil e
 |true=>exact e
def qG(ha:PT X a tA)(hb:PW X (.BoolOp .And (b::rest) pos) BL):PW X (.BoolOp .And (a::b::rest) pos) (vF tA BL):=by
 intro wh pins s σ H Q I h
 refine isTrue_and (aL (ha pins s σ H _ I h) fun c s1 ⟨H1,I1,q1⟩=>?_)
 cases c with
 |true=>exact hb wh pins s1 σ H1 Q I1 q1
 |false=>exact⟨H1,I1,q1⟩
def tU(ha:PT X a tA)(hb:PW X (.BoolOp .Or (b::rest) pos) BL):PW X (.BoolOp .Or (a::b::rest) pos) (wI tA BL):=by
 intro wh pins s σ H Q I h
 refine isTrue_or (aL (ha pins s σ H _ I h) fun c s1 ⟨H1,I1,q1⟩=>?_)
 cases c with
 |true=>exact⟨H1,I1,q1⟩
 |false=>exact hb wh pins s1 σ H1 Q I1 q1
def qH(ha:PT X a tA):PT X (.UnaryOp .Not a pos) (vG tA):=by
 intro pins s σ H Q I h
 exact isTrue_not (ha pins s σ H (fun c H1=>Q (!c) H1) I h)
def tV(ta tb:TE):TE:=fun σ H Q=>ta σ H fun x H1=>∃c,x = .bl c/\if c=true then tb σ H1 Q else Q (.bl false) H1
def vH(ta tb:TE):TE:=fun σ H Q=>ta σ H fun x H1=>∃c,x = .bl c/\if c=true then Q (.bl true) H1 else tb σ H1 Q
def qI{op}{t:TE}(h:PE X a t):PE X (.BoolOp op [a] pos) t:=fun pins s σ H Q I hw=>BoolOp_one (h pins s σ H Q I hw)
def qJ(ha:PE X a ta)(hb:PE X (.BoolOp .And (b::rest) pos) tb):PE X (.BoolOp .And (a::b::rest) pos) (tV ta tb):=by
 intro pins s σ H Q I h
 refine BoolOp_and (aL (ha pins s σ H _ I h) fun v s1 ⟨x,H1,I1,r1,q1⟩=>?_)
 obtain⟨c,rfl,q1⟩:=q1
 cases r1
 refine wpAny_truthy_bool ?_
 cases c with
 |true=>exact hb pins s1 σ H1 Q I1 q1
 |false=>exact⟨.bl false,H1,I1,rfl,q1⟩
def tW(ha:PE X a ta)(hb:PE X (.BoolOp .Or (b::rest) pos) tb):PE X (.BoolOp .Or (a::b::rest) pos) (vH ta tb):=by
 intro pins s σ H Q I h
 refine BoolOp_or (aL (ha pins s σ H _ I h) fun v s1 ⟨x,H1,I1,r1,q1⟩=>?_)
 obtain⟨c,rfl,q1⟩:=q1
 cases r1
 refine wpAny_truthy_bool ?_
 cases c with
 |false=>exact hb pins s1 σ H1 Q I1 q1
 |true=>exact⟨.bl true,H1,I1,rfl,q1⟩
end
def SqL(K:Vo)(H:Hp)(a:Addr)(xs:List V):Prop:=
 Rd H a (.lst xs) \/
  ∃(o:Obj) (its:Vw) (n:Nat),K.lookup a=some o/\o.cls = .type "list"/\o.dict=none/\o.data = .seq its n/\its.size<=sizeLine/\Vals xs its.toList
def yi(K:Vo)(H:Hp)(a:Addr)(xs:List V):Prop:=
 Rd H a (.tup xs) \/
  ∃(o:Obj) (its:Vw) (n:Nat),K.lookup a=some o/\o.cls = .type "tuple"/\o.dict=none/\o.data = .seq its n/\its.size<=sizeLine/\Vals xs its.toList
noncomputable def vI:Value->Option V
 | .none=>some .non
 | .bool b=>some (.bl b)
 | .int i _=>some (.int i)
 | .str x _=>some (.str x)
 | .bytes b _=>some (.z9 b)
 | .float b _=>some (.BJ b)
 | .ref a=>some (.ref a)
 | .type n=>some (.ty n)
 |_=>none
def RelV.abs{x:V}{u:Value}(r:RelV x u):vI u=some x:=by
 cases x with
 |non=>cases r;rfl
 |bl _=>cases r;rfl
 |int _=>obtain⟨t,rfl⟩:=r;rfl
 |str _=>obtain⟨t,rfl⟩:=r;rfl
 |z9 _=>obtain⟨t,rfl⟩:=r;rfl
 |BJ _=>obtain⟨t,rfl⟩:=r;rfl
 |ref _=>cases r;rfl
 |ty _=>cases r;rfl
theorem RelV.inj{x y:V}{u:Value}(r:RelV x u)(q:RelV y u):x=y:=Option.some.inj (r.abs.symm.trans q.abs)
theorem Vals.inj:∀{xs ys:List V} {us:Vv},Vals xs us->Vals ys us->xs=ys
 |_,_,_,.nil,.nil=>rfl
 |_,_,_,.cons r t,.cons r' t'=>by rw[r.inj r',Vals.inj t t']
section
variable {X:Cx} {pins:Va} {σ:St} {H:Hp} {s:Shared} {a:Addr} {xs ys:List V}
def SqL.of{K:Vo}(h:H a=some (.lst xs)):SqL K H a xs:=.inl (.inl h)
def yi.of{K:Vo}(h:H a=some (.tup xs)):yi K H a xs:=.inl (.inl h)
def Inv.list(I:Inv X pins σ H s)(h:SqL X.K H a xs):∃its:List Value,Vals xs its/\PlainL s.heap a its.toArray/\xs.length<=sizeLine:=by
 rcases h with h|⟨o,its,n,hk,hc,hd,hs,hz,r⟩
 ·obtain⟨z,its,n,r,e⟩:=h.ok I.hok
  exact⟨its,r,⟨_,n,e,rfl,rfl,rfl⟩,z⟩
 ·refine⟨its.toList,r,⟨o,n,I.y9 a o hk,hc,hd,by simpa using hs⟩,?_⟩
  have e:=r.length
  simp only[Array.length_toList]at e
  omega
def Inv.tuple(I:Inv X pins σ H s)(h:yi X.K H a xs):∃its:List Value,Vals xs its/\IsTup s.heap a its.toArray/\xs.length<=sizeLine:=by
 rcases h with h|⟨o,its,n,hk,hc,_,hs,hz,r⟩
 ·obtain⟨z,its,r,p⟩:=h.ok I.hok
  exact⟨its,r,p.tup,z⟩
 ·refine⟨its.toList,r,⟨o,I.y9 a o hk,hc,n,by simpa using hs⟩,?_⟩
  have e:=r.length
  simp only[Array.length_toList]at e
  omega
def Inv.zr(I:Inv X pins σ H s)(h:SqL X.K H a xs)(h':SqL X.K H a ys):xs=ys:=by
 obtain⟨its,r,⟨o,n,e,_,_,d⟩,_⟩:=I.list h
 obtain⟨its',r',⟨o',n',e',_,_,d'⟩,_⟩:=I.list h'
 rw[e]at e';cases e'
 rw[d]at d'
 injection d' with d1 _
 have:its=its':=by simpa using congrArg Array.toList d1
 subst this
 exact r.inj r'
def Inv.zc(I:Inv X pins σ H s)(h:yi X.K H a xs)(h':yi X.K H a ys):xs=ys:=by
 obtain⟨its,r,⟨o,e,_,n,d⟩,_⟩:=I.tuple h
 obtain⟨its',r',⟨o',e',_,n',d'⟩,_⟩:=I.tuple h'
 rw[e]at e';cases e'
 rw[d]at d'
 injection d' with d1 _
 have:its=its':=by simpa using congrArg Array.toList d1
 subst this
 exact r.inj r'
end
noncomputable abbrev Cx.wish(X:Cx)(E:Vq):Cx:={ X with xe:=E }
noncomputable abbrev Cx.AN(X:Cx):Cx:=X.wish fun _ _=>False
theorem Cx.Ok.wish{X:Cx}(ok:X.Ok)(E:Vq):(X.wish E).Ok:=
 ⟨ok.mod,ok.kind,ok.glob,ok.blt,ok.above,ok.inj,ok.has,ok.Ap,ok.hd,ok.frames,ok.stk,ok.AM,ok.bs,ok.zO,ok.y8,ok.zh,ok.yh,ok.z_⟩
def Cx.Ok.yj{X:Cx}{E:Vq}(ok:(X.wish E).Ok):X.Ok:=
 ⟨ok.mod,ok.kind,ok.glob,ok.blt,ok.above,ok.inj,ok.has,ok.Ap,ok.hd,ok.frames,ok.stk,ok.AM,ok.bs,ok.zO,ok.y8,ok.zh,ok.yh,ok.z_⟩
section
variable {X:Cx} {pins:Va} {σ:St} {H:Hp} {s:Shared} {E:Vq}
theorem Inv.wish(I:Inv X pins σ H s)(E:Vq):Inv (X.wish E) pins σ H s:=⟨I.ok.wish E,I.os,I.bare,I.base,I.loc,I.cell,I.free,I.xP,I.pin,I.hok,I.len⟩
theorem Inv.yj(I:Inv (X.wish E) pins σ H s):Inv X pins σ H s:=⟨I.ok.yj,I.os,I.bare,I.base,I.loc,I.cell,I.free,I.xP,I.pin,I.hok,I.len⟩
theorem SP.yj{D:eQ}{f:Flow}{s':Shared}(h:SP (X.wish E) pins D f s'):SP X pins D f s':=by
 cases f with
 |next=>obtain⟨σ',H',I,q⟩:=h;exact⟨σ',H',I.yj,q⟩
 |brk=>obtain⟨σ',H',I,q⟩:=h;exact⟨σ',H',I.yj,q⟩
 |cont=>obtain⟨σ',H',I,q⟩:=h;exact⟨σ',H',I.yj,q⟩
 |ret u=>obtain⟨v,σ',H',I,r,q⟩:=h;exact⟨v,σ',H',I.yj,r,q⟩
theorem zb.AN{st:List Stmt}{t:TS}(h:zb X.AN st t):zb X st t:=fun pins s σ H D I hw=>
 wpAny_mono (h pins s σ H D (I.wish _) hw) (fun _ _ q=>q.yj) fun _ _ z=>False.elim z
end
section
variable {X:Cx} {st:Stmt} {rest:List Stmt} {t u:TS} {e:Expr} {te:TE} {pos:Pos}
def tX:TS:=fun D σ H=>D.nx σ H
def vJ(t u:TS):TS:=fun D σ H=>t { D with nx:=u D } σ H
def om:zb X [] tX:=fun _ _ σ H _ I h=>wpAny_execs_nil ⟨σ,H,I,h⟩
def lN(h1:PS X st t)(h2:zb X rest u):zb X (st::rest) (vJ t u):=by
 intro pins s σ H D I h
 refine wpAny_execs_cons (aL (h1 pins s σ H { D with nx:=u D } I h) fun f s1 q=>?_)
 cases f with
 |next=>
  obtain⟨σ',H',I',q⟩:=q
  exact h2 pins s1 σ' H' D I' q
 |ret v=>exact q
 |brk=>exact q
 |cont=>exact q
def jT(h1:PS X st t):zb X [st] t:=by
 intro pins s σ H D I h
 refine wpAny_execs_cons (aL (h1 pins s σ H D I h) fun f s1 q=>?_)
 cases f with
 |next=>exact wpAny_execs_nil q
 |ret v=>exact q
 |brk=>exact q
 |cont=>exact q
def Inv.quiet{pins:Va}{σ:St}{H:Hp}{s:Shared}(I:Inv X pins σ H s):interactive X.env=false:=by simp[interactive,I.ok.kind]
def tY(te:TE):TS:=fun D σ H=>te σ H fun _ H1=>D.nx σ H1
def on(he:PE X e te)(hs:swapsWith e none pos.line X.env=pure false:=by rfl):PS X (.Expr e pos) (tY te):=by
 intro pins s σ H D I h
 exact wpAny_Expr_any (aL (he pins s σ H _ I h) fun v s1 ⟨x,H1,I1,r1,q1⟩=>⟨σ,H1,I1,q1⟩) I.quiet hs
def vK(te:TE):TS:=fun D σ H=>te σ H D.rt
def qK(he:PE X e te):PS X (.Return (some e) pos) (vK te):=by
 intro pins s σ H D I h
 exact wpAny_Return_some (aL (he pins s σ H _ I h) fun v s1 ⟨x,H1,I1,r1,q1⟩=>⟨x,σ,H1,I1,r1,q1⟩)
def vL(c:TT)(t u:TS):TS:=fun D σ H=>c σ H fun b H1=>if b=true then t D σ H1 else u D σ H1
def tZ{c:Expr}{a b:List Stmt}{tc:TT}(hc:PT X c tc)(ha:zb X a t)(hb:zb X b u):PS X (.If c a b pos) (vL tc t u):=by
 intro pins s σ H D I h
 refine wpAny_If (aL (hc pins s σ H _ I h) fun d s1 ⟨H1,I1,q1⟩=>?_)
 cases d with
 |true=>exact ha pins s1 σ H1 D I1 q1
 |false=>exact hb pins s1 σ H1 D I1 q1
end
abbrev TG:=V->St->Hp->(St->Hp->Prop)->Prop
abbrev pS:=List V->St->Hp->(St->Hp->Prop)->Prop
def PG(X:Cx)(target:Expr)(t:TG):Prop:=
 ∀(pins:Va) (s:Shared) (σ:St) (H:Hp) (v:V) (u:Value) (Q:St->Hp->Prop),Inv X pins σ H s->RelV v u->t v σ H Q->
  wpAny (model X.prog X.w) X.A (assign target X.env u) (fun _ s'=>∃σ' H',Inv X pins σ' H' s'/\Q σ' H') X.xe s
def t0(X:Cx)(ts:List Expr)(t:pS):Prop:=
 ∀(pins:Va) (s:Shared) (σ:St) (H:Hp) (vs:List V) (us:Vv) (Q:St->Hp->Prop),Inv X pins σ H s->Vals vs us->t vs σ H Q->
  wpAny (model X.prog X.w) X.A (assignInOrder ((assignEach ts X.env).map (·.2)) us) (fun _ s'=>∃σ' H',Inv X pins σ' H' s'/\Q σ' H') X.xe s
abbrev qL:=V->V->V->Hp->(Hp->Prop)->Prop
def oo(X:Cx)(t:qL):Prop:=
 ∀(pins:Va) (s:Shared) (σ:St) (H:Hp) (o i v:V) (ov iv u:Value) (Q:Hp->Prop),Inv X pins σ H s->RelV o ov->RelV i iv->RelV v u->t o i v H Q->
  wpAny (model X.prog X.w) X.A (setItem ov iv u) (fun _ s'=>∃H',Inv X pins σ H' s'/\Q H') X.xe s
section
variable {X:Cx} {pos:Pos}
def io(i:Nat):TG:=fun v σ H Q=>Q (σ.set i (some v)) H
def oq{i:Nat}{x:Str}(hN:X.N.Nodup)(hi:X.N[i]?=some x)(hx:pR X.env.scope x)(hf:X.fn x=true\/X.env.scope.names.lookup x=some .local:=by first|exact .inl rfl|exact .inr rfl|assumption):PG X (.Name x pos) (io i):=by
 intro pins s σ H v u Q I r h
 exact wpAny_assign_Name (dE I hN hi hx r (fun s' I'=>⟨_,H,I',h⟩) hf)
noncomputable def t6:pS:=fun vs σ H Q=>vs=[]/\Q σ H
noncomputable def pT(t:TG)(u:pS):pS:=fun vs σ H Q=>∃v r,vs=v::r/\t v σ H fun σ' H'=>u r σ' H' Q
def ot:t0 X [] t6:=by
 intro pins s σ H vs us Q I r h
 obtain⟨e,h⟩:=h
 subst e
 cases r
 exact assignInOrder_nil ⟨σ,H,I,h⟩
def lO{e:Expr}{es:List Expr}{t:TG}{u:pS}(h1:PG X e t)(h2:t0 X es u)
  (hs:(assignEach (e::es) X.env).map (·.2)=assign e X.env::(assignEach es X.env).map (·.2):=by rfl):t0 X (e::es) (pT t u):=by
 intro pins s σ H vs us Q I r h
 obtain⟨v,vr,e1,h⟩:=h
 subst e1
 cases r with
 |cons r rr=>
  rw[hs]
  refine assignInOrder_cons (aL (h1 pins s σ H _ _ _ I r h) fun _ s1 ⟨σ1,H1,I1,q1⟩=>?_)
  exact h2 pins s1 σ1 H1 _ _ Q I1 rr q1
def t7(K:Vo)(n:Nat)(t:pS):TG:=fun v σ H Q=>∃a xs,v = .ref a/\yi K H a xs/\xs.length=n/\t xs σ H Q
def qM{es:List Expr}{k:Nat}{t:pS}{n:Nat}(hc:X.calm=true)(h:t0 X es t)
  (hn:(assignEach es X.env).length=n:=by rfl) (hst:(assignEach es X.env).findIdx? (·.1)=none:=by rfl):PG X (.Tuple es k pos) (t7 X.K n t):=by
 intro pins s σ H v u Q I r hw
 obtain⟨a,xs,e1,hq,hl,hw⟩:=hw
 subst e1
 cases r
 obtain⟨its,rv,ht,hz⟩:=I.tuple hq
 refine assign_Tuple_tuple (I.ok.hd hc) ht (by simp[hn,<-hl,rv.length]) hst fun h' hx=>?_
 have I1:Inv X pins σ H { s with heap:=h' }:=I.kept (t':=s.toks) fun b o e=>hx b o (Nat.ne_of_lt (Heap.lt_size e)) e
 exact h pins _ σ H xs _ Q I1 (by simpa using rv) hw
def vM(to ti:TE)(t:qL):TG:=fun v σ H Q=>to σ H fun o H1=>ti σ H1 fun i H2=>t o i v H2 fun H3=>Q σ H3
def qN{o i:Expr}{to ti:TE}{t:qL}(ho:PE X o to)(hi:PE X i ti)(hs:oo X t)
  (ha:∀v,assign (.Subscript o i pos) X.env v=(do
   let ov <-holding [v] (eval o X.env)
   let iv <-holding [v,ov] (eval i X.env)
   standAt pos
   holding [v,ov,iv] (setItem ov iv v)
   release [v,ov,iv] []):=by intro _;rfl):PG X (.Subscript o i pos) (vM to ti t):=by
 intro pins s σ H v u Q I r h
 rw[ha]
 refine wpAny_bind (wpAny_holding (aL (ho pins s σ H _ I h) fun ov s1 ⟨x,H1,I1,r1,q1⟩=>?_))
 refine wpAny_bind (wpAny_holding (aL (hi pins s1 σ H1 _ I1 q1) fun iv s2 ⟨y,H2,I2,r2,q2⟩=>?_))
 refine wpAny_bind (wpAny_standAt (wpAny_bind (wpAny_holding (aL (hs pins s2 σ H2 x y v ov iv u _ I2 r1 r2 r q2) fun _ s3 ⟨H3,I3,q3⟩=>?_))))
 exact wpAny_release ⟨σ,H3,I3,q3⟩
def ou(te:TE)(g:TG):TS:=fun D σ H=>te σ H fun x H1=>g x σ H1 D.nx
def qO{tg e:Expr}{te:TE}{g:TG}(he:PE X e te)(hg:PG X tg g)(hs:swapsWithSole [tg] e pos.line X.env=pure false:=by rfl)(hw:swappedStores [tg] e X.env=pure none:=by rfl)
  (h1:(assignEach [tg] X.env).map (·.2)=[assign tg X.env]:=by rfl):PS X (.Assign [tg] e pos) (ou te g):=by
 intro pins s σ H D I h
 refine wpAny_Assign_stores (aL (he pins s σ H _ I h) fun v s1 ⟨x,H1,I1,r1,q1⟩=>?_) hs hw
 rw[h1]
 exact aL (hg pins s1 σ H1 x v _ I1 r1 q1) fun _ s2 q=>q
def qP{i:Nat}{x:Str}{e:Expr}{te:TE}{pos':Pos}(hN:X.N.Nodup)(hi:X.N[i]?=some x)(hx:pR X.env.scope x)(he:PE X e te)(hs:swapsWith e (some (.Name x pos')) pos.line X.env=pure false:=by rfl)(hf:X.fn x=true\/X.env.scope.names.lookup x=some .local:=by first|exact .inl rfl|exact .inr rfl|assumption) :
  PS X (.Assign [.Name x pos'] e pos) (ou te (io i)):=by
 intro pins s σ H D I h
 refine wpAny_Assign_Name (aL (he pins s σ H _ I h) fun v s1 ⟨y,H1,I1,r1,q1⟩=>?_) hs
 exact dE I1 hN hi hx r1 (fun s2 I2=>⟨_,H1,I2,q1⟩) hf
def vN(i j:Nat)(ta:TA):TS:=fun D σ H=>ta σ H fun vs H1=>∃v w,vs=[v,w]/\D.nx ((σ.set i (some v)).set j (some w)) H1
def qQ{i j:Nat}{x y:Str}{a b:Expr}{ta:TA}{px py pt:Pos}{kt k2 AO}(hc:X.calm=true)(hN:X.N.Nodup)(hi:X.N[i]?=some x)(hj:X.N[j]?=some y)(hij:i≠j)
  (hx:X.env.scope.names.lookup x=some .local) (hy:X.env.scope.names.lookup y=some .local) (ha:PA X [a,b] ta)
  (hw:swappedStores [.Tuple [.Name x px,.Name y py] kt pt] (.Tuple [a,b] k2 AO) X.env=pure (some [x,y]))
  (hs:swapsWithSole [.Tuple [.Name x px,.Name y py] kt pt] (.Tuple [a,b] k2 AO) pos.line X.env=pure false:=by rfl) :
  PS X (.Assign [.Tuple [.Name x px,.Name y py] kt pt] (.Tuple [a,b] k2 AO) pos) (vN i j ta):=by
 intro pins s σ H D I h
 rw[exec_Assign_arm]
 refine wpAny_bind (wpAny_standAt ?_)
 rw[hs]
 refine wpAny_bind (wpAny_pure ?_)
 rw[if_neg (by decide)]
 refine wpAny_bind (Tuple_ (aL (ha _ pins s σ H _ I h) fun us s1 ⟨vs,H1,I1,r1,q1⟩=>?_))
 obtain⟨v,w,e1,q1⟩:=q1
 subst e1
 obtain⟨u1,u2,rfl,rv,rw'⟩:∃u1 u2,us=[u1,u2]/\RelV v u1/\RelV w u2:=by
  cases r1 with
  |cons p q=>
   cases q with
   |cons p' q'=>
    cases q'
    exact⟨_,_,rfl,p,p'⟩
 refine wpAny_newObj_type ?_ (by show 2<=sizeLine;decide)
 have I2:Inv X pins σ H1 { s1 with heap:=s1.heap.push { cls:=.type "tuple",data:=.seq [u1,u2].toArray } }:=I1.kept (t':=s1.toks) fun b o e=>Heap.get?_push_of_some _ e
 rw[hw]
 refine wpAny_bind (wpAny_pure ?_)
 show wpAny (model X.prog X.w) X.A (do rule "assign.swapped-stores"; let items <-unpackItems (.ref s1.heap.objs.size) 2 none;assignInOrder [fun v=>bindName X.env y v,fun v=>bindName X.env x v] items.reverse;pure Flow.next) _ _ _
 refine wpAny_bind (wpAny_rule (wpAny_bind (unpackItems_tuple (items:=#[u1,u2]) (I.ok.hd hc) (IsTup.new s1.heap _) fun h' hx'=>?_)))
 have I3:=I2.kept (h':=h') (t':=s1.toks) fun b o e=>hx' b o (Nat.ne_of_lt (Heap.lt_size e)) e
 show wpAny _ _ (assignInOrder [fun v=>bindName X.env y v,fun v=>bindName X.env x v] [u2,u1] >>= fun _=>pure Flow.next) _ _ _
 refine wpAny_bind (assignInOrder_cons (wpAny_bindName (dE I3 hN hj (.inl hy) rw' (fun s2 I4=>?_) (.inr hy))))
 refine assignInOrder_cons (wpAny_bindName (dE I4 hN hi (.inl hx) rv (fun s3 I5=>assignInOrder_nil (wpAny_pure ?_)) (.inr hx)))
 rw[List.set_comm _ _ (Ne.symm hij)]at I5
 exact⟨_,H1,I5,q1⟩
end
section
variable {X:Cx} {pos:Pos}
def qR(c:TT)(tb:TS):TS:=fun D σ H=>∃W:Nat->St->Hp->Prop,(∃m,W m σ H)/\∀m σ H,W m σ H->
 c σ H fun b H1=>if b=true then ∃N:St->Hp->Prop,(∀σ' H',N σ' H'->∃m',m' < m/\W m' σ' H')/\tb { D with nx:=N,ct:=N,bk:=D.nx } σ H1 else D.nx σ H1
def lP{c:Expr}{body:List Stmt}{tc:TT}{tb:TS}(hp:PassesOwn (model X.prog X.w) X.A X.env X.xe)(hc:PT X c tc)(hb:zb X body tb):PS X (.While c body [] pos) (qR tc tb):=by
 intro pins s σ H D I h
 obtain⟨W,⟨m0,w0⟩,turn⟩:=h
 refine wpAny_While (codeAny_whileLoop (fun n s'=>∃σ' H',Inv X pins σ' H' s'/\W n σ' H') ?_ m0 ⟨σ,H,I,w0⟩)
 rintro n s1 ⟨σ1,H1,I1,w1⟩
 refine wpAny_passesOwn hp (aL (hc pins s1 σ1 H1 _ I1 (turn n σ1 H1 w1)) fun b s2 ⟨H2,I2,q2⟩=>?_)
 cases b with
 |true=>
  obtain⟨N,hN,q2⟩:=q2
  rw[if_pos rfl]
  refine wpAny_passesOwn hp (aL (hb pins s2 σ1 H2 _ I2 q2) fun f s3 q3=>?_)
  cases f with
  |next=>
   obtain⟨σ3,H3,I3,n3⟩:=q3
   obtain⟨m',hm,w3⟩:=hN σ3 H3 n3
   exact⟨m',hm,σ3,H3,I3,w3⟩
  |cont=>
   obtain⟨σ3,H3,I3,n3⟩:=q3
   obtain⟨m',hm,w3⟩:=hN σ3 H3 n3
   exact⟨m',hm,σ3,H3,I3,w3⟩
  |brk=>exact q3
  |ret v=>exact q3
 |false=>
  rw[if_neg Bool.false_ne_true]
  exact wpAny_execs_nil ⟨σ1,H2,I2,q2⟩
end
structure It where
 go:Nat->Hp->Prop
 BM:Nat->Hp->V->Hp->Prop
 stop:Nat->Hp->Prop
def xG(X:Cx)(pins:Va)(H:Hp)(b:Addr):Prop:=
 H b=none/\b≠X.env.locals/\b ∉ X.fs/\(b∈X.ex\/X.s₀.heap.objs.size<=b)/\(∀x c,X.env.cells.lookup x=some c->c≠b)/\∀p∈X.pn++pins,p.1≠b
def Inv.yz{X:Cx}{pins:Va}{σ:St}{H H':Hp}{s:Shared}{b:Addr}(I:Inv X pins σ H s)(hb:s.heap.objs.size<=b)(hn:H' b=none):xG X pins H' b:=by
 refine⟨hn,Nat.ne_of_gt (Nat.lt_of_lt_of_le I.lt hb),I.Bg hb,.inr (Nat.le_trans I.sz hb),fun x c e z=>?_,fun p hp z=>?_⟩
 ·obtain⟨v,q⟩:=I.cell x c e
  exact absurd (Nat.lt_of_lt_of_le q.lt (by rw[z];exact hb)) (Nat.lt_irrefl _)
 ·exact absurd (Nat.lt_of_lt_of_le (Heap.lt_size (I.pin p hp).1) (by rw[z];exact hb)) (Nat.lt_irrefl _)
structure gM (P:Program) (w:World) (K:Vo) (tg:Expr) (J:It) (fp:List Addr) (it:Addr) (tn:Nat->Heap->Prop):Prop where
 mem:it∈fp
 obj:∀i h,tn i h->∀b∈fp,∃o,h.get? b=some o/\∀v,o.data ≠ .cell v
 keep:∀i h h',tn i h->(∀b∈fp,∀o,h.get? b=some o->h'.get? b=some o)->tn i h'
 item:∀(X:Cx),X.prog=P->X.w=w->X.K=K->X.calm=true->∀(i:Nat) (pins:Va) (s:Shared) (σ:St) (H:Hp) (E:Vq),Inv X pins σ H s->(∀b∈fp,xG X pins H b)->tn i s.heap->J.go i H->
  wpAny (model P w) X.A (pyNext (.ref it)) (fun r s1=>∃u,r=some u/\
   wpAny (model P w) X.A (letOwnedTupleGo tg (.ref it) u) (fun _ s2=>∃x H',Inv X pins σ H' s2/\RelV x u/\J.BM i H x H'/\tn (i+1) s2.heap/\∀b∈fp,H' b=none) E s1) E s
 done:∀(X:Cx),X.prog=P->X.w=w->X.K=K->X.calm=true->∀(i:Nat) (pins:Va) (s:Shared) (σ:St) (H:Hp) (E:Vq),Inv X pins σ H s->(∀b∈fp,xG X pins H b)->tn i s.heap->J.stop i H->
  wpAny (model P w) X.A (pyNext (.ref it)) (fun r s1=>r=none/\Inv X pins σ H s1) E s
 self:∀(A:Around) (i:Nat) (s:Shared) (Q:Vq) (E:Vq),tn i s.heap->Q (.ref it) s->wpAny (model P w) A (pyIter (.ref it)) Q E s
abbrev TI:=St->Hp->(It->Hp->Prop)->Prop
def vi(X:Cx)(pins:Va)(σ:St)(tg:Expr)(R:It->Hp->Prop)(itv:Value)(s2:Shared):Prop:=
 ∃(it:Addr) (fp:List Addr) (tn:Nat->Heap->Prop) (J:It) (H':Hp),itv = .ref it/\Inv X pins σ H' s2/\gM X.prog X.w X.K tg J fp it tn/\tn 0 s2.heap/\(∀b∈fp,xG X pins H' b)/\R J H'
def PI(X:Cx)(tg iter:Expr)(wi:TI):Prop:=
 ∀(pins:Va) (s:Shared) (σ:St) (H:Hp) (R:It->Hp->Prop),Inv X pins σ H s->wi σ H R->
  wpAny (model X.prog X.w) X.A (eval iter X.env) (fun v s1=>wpAny (model X.prog X.w) X.A (pyIter v) (vi X pins σ tg R) X.xe s1) X.xe s
def ip {M : Model} {A : Around} {E : Value -> Shared -> Prop} {s : Shared} {tg : Expr} {it : Addr} {u : Value} {o : Obj} {n : String} {vs : Array Value} {Q : Unit -> Shared -> Prop} (ho : s.heap.get? it = some o) (hc : o.cls = .type n) (hd : o.data = .fields vs)
    (hn : ["enumerate", "zip", "dict_itemiterator", "dict_reverseitemiterator", "odict_iterator", "itertools.zip_longest", "itertools.pairwise"].contains n = false) (hQ : Q () s) : wpAny M A (letOwnedTupleGo tg (.ref it) u) Q E s := by
  unfold letOwnedTupleGo
  cases tg <;> first
    | exact wpAny_pure hQ
    | (cases u <;> first
        | exact wpAny_pure hQ
        | (refine wpAny_bind (wpAny_load ho ?_)
           rw [hc, hd]
           show wpAny M A (if (["enumerate", "zip", "dict_itemiterator", "dict_reverseitemiterator", "odict_iterator", "itertools.zip_longest", "itertools.pairwise"].contains n && vs[0]? == some (rawInt _)) = true then _ else _) Q E s
           rw [if_neg (by intro h; rw [hn, Bool.false_and] at h; cases h)]
           exact wpAny_pure hQ))
noncomputable def vj(K:Vo)(a:Addr):It:=
 ⟨fun i H=>∃xs x,SqL K H a xs/\xs[i]?=some x,fun i H x H'=>H'=H/\∀xs,SqL K H a xs->xs[i]?=some x,fun i H=>∃xs,SqL K H a xs/\xs.length<=i⟩
noncomputable def vO(K:Vo)(a:Addr):It:=
 ⟨fun i H=>∃xs x,yi K H a xs/\xs[i]?=some x,fun i H x H'=>H'=H/\∀xs,yi K H a xs->xs[i]?=some x,fun i H=>∃xs,yi K H a xs/\xs.length<=i⟩
noncomputable def vk(lo:Int)(n:Nat):It:=⟨fun i _=>i < n,fun i H x H'=>H'=H/\x = .int (lo+i),fun i _=>n<=i⟩
def kF{P:Program}{w:World}{K:Vo}{tg:Expr}(a it:Addr):gM P w K tg (vj K a) [it] it (fun i h=>h.IsListIter it a i) where
 mem:=by simp
 obj:=fun i h st b hb=>by
  have e:b=it:=by simpa using hb
  subst e
  obtain⟨o,e,c,d⟩:=st
  exact⟨o,e,fun v z=>by rw[d]at z;cases z⟩
 keep:=fun i h h' st k=>st.at fun o e=>k it (by simp) o e
 item:=by
  intro X hP hw hK hc i pins s σ H E I hf st hg
  subst hP hw hK
  obtain⟨xs,x,hq,hx⟩:=hg
  obtain⟨its,rv,p,hz⟩:=I.list hq
  obtain⟨u,hu,ru⟩:=rv.get hx
  obtain⟨f0,f1,f2,f3,f4,f5⟩:=hf it (by simp)
  refine wpAny_pyNext_list_item st p.isList (x:=u) (by simpa using hu) fun h' st' sb=>?_
  have I1:Inv X pins σ H { s with heap:=h' }:=I.turned (t':=s.toks) (fun b o hb e=>(sb.2 b hb).trans e) f0 f1 f3 f4 f5
  obtain⟨o,e,c,d⟩:=id st'
  exact⟨u,rfl,ip (s:={ s with heap:=h' }) e c d (by decide) ⟨x,H,I1,ru,⟨rfl,fun ys hy=>by rw[I.zr hy hq];exact hx⟩,st',fun b hb=>(hf b hb).1⟩⟩
 done:=by
  intro X hP hw hK hc i pins s σ H E I hf st hg
  subst hP hw hK
  obtain⟨xs,hq,hx⟩:=hg
  obtain⟨its,rv,p,hz⟩:=I.list hq
  obtain⟨f0,f1,f2,f3,f4,f5⟩:=hf it (by simp)
  have hl:=rv.length
  exact wpAny_pyNext_list_end (I.ok.hd hc) st p.isList (by simp;omega) fun h' eb=>⟨rfl,I.turned (t':=s.toks) (fun b o hb e=>eb b o hb e) f0 f1 f3 f4 f5⟩
 self:=fun _ _ _ _ _ st h=>wpAny_pyIter_listiter st h
def jc{P:Program}{w:World}{K:Vo}{tg:Expr}(a it:Addr):gM P w K tg (vO K a) [it] it (fun i h=>h.IsTupleIter it a i) where
 mem:=by simp
 obj:=fun i h st b hb=>by
  have e:b=it:=by simpa using hb
  subst e
  obtain⟨o,e,c,d⟩:=st
  exact⟨o,e,fun v z=>by rw[d]at z;cases z⟩
 keep:=fun i h h' st k=>st.at fun o e=>k it (by simp) o e
 item:=by
  intro X hP hw hK hc i pins s σ H E I hf st hg
  subst hP hw hK
  obtain⟨xs,x,hq,hx⟩:=hg
  obtain⟨its,rv,p,hz⟩:=I.tuple hq
  obtain⟨u,hu,ru⟩:=rv.get hx
  obtain⟨f0,f1,f2,f3,f4,f5⟩:=hf it (by simp)
  refine wpAny_pyNext_tuple_item st (show s.heap.IsTuple a its.toArray from p) (x:=u) (by simpa using hu) fun h' st' sb=>?_
  have I1:Inv X pins σ H { s with heap:=h' }:=I.turned (t':=s.toks) (fun b o hb e=>(sb.2 b hb).trans e) f0 f1 f3 f4 f5
  obtain⟨o,e,c,d⟩:=id st'
  exact⟨u,rfl,ip (s:={ s with heap:=h' }) e c d (by decide) ⟨x,H,I1,ru,⟨rfl,fun ys hy=>by rw[I.zc hy hq];exact hx⟩,st',fun b hb=>(hf b hb).1⟩⟩
 done:=by
  intro X hP hw hK hc i pins s σ H E I hf st hg
  subst hP hw hK
  obtain⟨xs,hq,hx⟩:=hg
  obtain⟨its,rv,p,hz⟩:=I.tuple hq
  obtain⟨f0,f1,f2,f3,f4,f5⟩:=hf it (by simp)
  have hl:=rv.length
  exact wpAny_pyNext_tuple_end (I.ok.hd hc) st (show s.heap.IsTuple a its.toArray from p) (by simp;omega) fun h' eb=>⟨rfl,I.turned (t':=s.toks) (fun b o hb e=>eb b o hb e) f0 f1 f3 f4 f5⟩
 self:=fun _ _ _ _ _ st h=>wpAny_pyIter_tupleiter st h
def jd{P:Program}{w:World}{K:Vo}{tg:Expr}(it:Addr)(lo:Int)(n:Nat):gM P w K tg (vk lo n) [it] it (fun i h=>IsRangeIter h it (lo+(i:Nat) * 1) ((n:Int) - (i:Nat)) 1) where
 mem:=by simp
 obj:=fun i h st b hb=>by
  have e:b=it:=by simpa using hb
  subst e
  exact⟨_,st,fun v z=>by
   have z':Data.fields _=Data.cell v:=z
   cases z'⟩
 keep:=fun i h h' st k=>k it (by simp) _ st
 item:=by
  intro X hP hw hK hc i pins s σ H E I hf st hg
  subst hP hw hK
  obtain⟨f0,f1,f2,f3,f4,f5⟩:=hf it (by simp)
  have W:=Walks.range (prog:=X.prog) (w:=X.w) (I.ok.hd hc) it lo 1 n
  refine W.item i s _ _ hg st fun v h' tk hv st' kk=>?_
  obtain⟨t,rfl⟩:=hv
  have I1:Inv X pins σ H { s with heap:=h',toks:=tk }:=I.turned (fun b o hb e=>kk b o (by simpa using hb) e) f0 f1 f3 f4 f5
  refine⟨_,rfl,ip (s:={ s with heap:=h',toks:=tk }) (n:="range_iterator") st' rfl rfl (by decide) ⟨.int (lo+i),H,I1,⟨t,?_⟩,⟨rfl,rfl⟩,st',fun b hb=>(hf b hb).1⟩⟩
  rw[Int.mul_one]
 done:=by
  intro X hP hw hK hc i pins s σ H E I hf st hg
  subst hP hw hK
  obtain⟨f0,f1,f2,f3,f4,f5⟩:=hf it (by simp)
  exact wpAny_pyNext_range_end (I.ok.hd hc) st (by have:n<=i:=hg;omega) fun h' eb=>⟨rfl,I.turned (t':=s.toks) (fun b o hb e=>eb b o hb e) f0 f1 f3 f4 f5⟩
 self:=fun _ _ _ _ _ st h=>wpAny_pyIter_rangeiter st h
section
variable {X:Cx} {tg:Expr}
def lQ{pins:Va}{σ:St}{H:Hp}{s:Shared}{R:It->Hp->Prop}{E:Vq}{lo hi:Int}{t u v:Tok}{tk:Nat}(I:Inv X pins σ H s)(h1:-(2 ^ 62)<=lo)(h2:lo < 2 ^ 62)(h3:-(2 ^ 62)<=hi)(h4:hi < 2 ^ 62)
  (q:R (vk lo (hi - lo).toNat) H):wpAny (model X.prog X.w) X.A (pyIter (.ref s.heap.objs.size)) (vi X pins σ tg R) E { s with heap:=s.heap.push { cls:=.type "range",data:=.fields #[.int lo t,.int hi u,.int 1 v] },toks:=tk }:=by
 refine wpAny_pyIter_range (IsRange.new ..) (small_one h1 h2 h3 h4) ?_
 have I1:Inv X pins σ H { s with heap:=s.heap.push { cls:=.type "range",data:=.fields #[.int lo t,.int hi u,.int 1 v] },toks:=tk }:=I.kept fun b o e=>Heap.get?_push_of_some _ e
 refine⟨(s.heap.push { cls:=.type "range",data:=.fields #[.int lo t,.int hi u,.int 1 v] }).objs.size,[(s.heap.push { cls:=.type "range",data:=.fields #[.int lo t,.int hi u,.int 1 v] }).objs.size],_,_,H,rfl,
  I1.kept (t':=tk) fun b o e=>Heap.get?_push_of_some _ e,jd _ lo (hi - lo).toNat,?_,fun b hb=>?_,q⟩
 ·have e1:lo+((0:Nat):Int) * 1=lo:=by simp
  have e2:(((hi - lo).toNat:Nat):Int) - ((0:Nat):Int)=Builtin.Range.rangeSize lo hi 1:=by rw[rangeSize_one];split<;>omega
  show IsRangeIter _ _ (lo+((0:Nat):Int) * 1) ((((hi - lo).toNat:Nat):Int) - ((0:Nat):Int)) 1
  rw[e1,e2]
  exact Heap.get?_push_size _ rfl
 ·have e:b=(s.heap.push { cls:=.type "range",data:=.fields #[.int lo t,.int hi u,.int 1 v] }).objs.size:=by simpa using hb
  subst e
  exact I1.yz (Nat.le_refl _) (I1.hok.fresh (Nat.le_refl _))
def t8(ta:TA):TI:=fun σ H R=>ta σ H fun vs H1=>∃j:Int,vs=[.int j]/\-(2 ^ 62)<=j/\j < 2 ^ 62/\R (vk 0 j.toNat) H1
def kG{a:Expr}{ta:TA}{p pos:Pos}(hg:Gl X "range")(hm:X.mg "range" = none)(ha:PA X [a] ta)(hs:starEach [a] X.env=[(false,eval a X.env)]:=by rfl):PI X tg (.Call (.Name "range" p) [a] [] pos) (t8 ta):=by
 intro pins s σ H R I h
 refine Call_ (cf I hg hm boot_range (PyProof.Rows.callWith_type1 (aL (ha pos pins s σ H _ I h) fun us s1 ⟨vs,H1,I1,r1,q1⟩=>?_) hs rfl))
 obtain⟨j,e,q1,q2,q⟩:=q1
 subst e
 cases r1 with
 |cons r rr=>
  cases rr
  obtain⟨t,rfl⟩:=r
  exact call_range_1 (lQ I1 (by omega) (by omega) q1 q2 (by simpa using q))
def vP(wi:TI)(g:TG)(tb:TS):TS:=fun D σ H=>wi σ H fun J H1=>∃W:Nat->Nat->St->Hp->Prop,(∃m,W 0 m σ H1)/\∀i m σ H,W i m σ H->
 (J.stop i H/\D.nx σ H)\/(J.go i H/\∃N:St->Hp->Prop,(∀σ' H',N σ' H'->∃m',m' < m/\W (i+1) m' σ' H')/\∀x H',J.BM i H x H'->g x σ H' fun σ2 H2=>tb { D with nx:=N,ct:=N,bk:=D.nx } σ2 H2)
noncomputable def fc(fp:List Addr)(h:Heap):List (Addr×Obj):=fp.filterMap fun b=>(h.get? b).map fun o=>(b,o)
def dr{fp:List Addr}{h:Heap}{b:Addr}{o:Obj}(hb:b∈fp)(e:h.get? b=some o):(b,o)∈fc fp h:=List.mem_filterMap.mpr ⟨b,hb,by rw[e];rfl⟩
def kH{fp:List Addr}{h:Heap}{p:Addr×Obj}(hp:p∈fc fp h):p.1∈fp/\h.get? p.1=some p.2:=by
 obtain⟨b,hb,e⟩:=List.mem_filterMap.mp hp
 cases q:h.get? b with
 |none=>rw[q]at e;cases e
 |some o=>
  rw[q]at e
  have e':(b,o)=p:=Option.some.inj e
  subst e'
  exact⟨hb,q⟩
def Inv.pinned{pins:Va}{σ:St}{H:Hp}{s:Shared}{fp:List Addr}(I:Inv X pins σ H s)(hf:∀b∈fp,xG X pins H b)(ho:∀b∈fp,∃o,s.heap.get? b=some o/\∀v,o.data ≠ .cell v):Inv X (pins++fc fp s.heap) σ H s:=
 I.yS fun p hp=>(List.mem_append.mp hp).elim (fun z=>I.pin p (List.mem_append_right _ z)) fun z=>by
  obtain⟨hb,e⟩:=kH z
  obtain⟨f0,f1,f2,_⟩:=hf p.1 hb
  obtain⟨o,e',d⟩:=ho p.1 hb
  rw[e]at e';cases e'
  exact⟨e,f0,f1,f2,d⟩
def Inv.yG{pins pl:Va}{σ:St}{H:Hp}{s:Shared}(I:Inv X (pins++pl) σ H s):Inv X pins σ H s:=I.yS fun p hp=>I.pin p (List.mem_append_right _ (List.mem_append_left _ hp))
def qS{iter:Expr}{body:List Stmt}{wi:TI}{g:TG}{tb:TS}{pos:Pos}(hp:PassesOwn (model X.prog X.w) X.A X.env X.xe)(hc:X.calm=true)(hi:PI X tg iter wi)(hg:PG X tg g)(hb:zb X body tb)
  (hs:∀x,foldedSetIterable iter X.env x=pure x:=by intro _;rfl):PS X (.For tg iter body [] pos) (vP wi g tb):=by
 intro pins s σ H D I h
 refine wpAny_For (aL (hi pins s σ H _ I h) fun v s1 h1=>aL h1 fun itv s2 h2=>?_) hs
 obtain⟨it,fp,tn,J,H2,e,I2,T,st2,f2,W,⟨m0,w0⟩,turn⟩:=h2
 subst e
 -- what stays true of the iterator's objects through the loop
 have stat:∀{H':Hp},(∀b∈fp,H' b=none)->∀b∈fp,xG X pins H' b:=fun hn b hb=>⟨hn b hb,(f2 b hb).2⟩
 refine codeAny_forLoop_any (fun n s'=>∃i σ' H',Inv X pins σ' H' s'/\tn i s'.heap/\(∀b∈fp,H' b=none)/\W i n σ' H') ?_ m0 ⟨0,σ,H2,I2,st2,fun b hb=>(f2 b hb).1,w0⟩
 rintro n s3 ⟨i,σ3,H3,I3,st3,CC,w3⟩
 rcases turn i n σ3 H3 w3 with⟨stop,qn⟩|⟨go,N,hN,step⟩
 ·refine wpAny_passesOwn hp (aL (T.done X rfl rfl rfl hc i pins s3 σ3 H3 X.xe I3 (stat CC) st3 stop) fun r s4 ⟨hr,I4⟩=>?_)
  subst hr
  exact wpAny_execs_nil ⟨σ3,H3,I4,qn⟩
 ·refine wpAny_passesOwn hp (aL (T.item X rfl rfl rfl hc i pins s3 σ3 H3 X.xe I3 (stat CC) st3 go) fun r s4 ⟨u,hr,h4⟩=>?_)
  subst hr
  refine wpAny_passesOwn hp (aL h4 fun _ s5 ⟨x,H5,I5,r5,y5,As,B5⟩=>?_)
  have B6:=I5.pinned (stat B5) (T.obj _ _ As)
  refine wpAny_passesOwn hp (aL (hg _ s5 σ3 H5 x u _ B6 r5 (step x H5 y5)) fun _ s6 ⟨σ6,H6,I6,q6⟩=>?_)
  refine wpAny_passesOwn hp (aL (hb _ s6 σ6 H6 _ I6 q6) fun f s7 q7=>?_)
  have again:∀{σ7:St} {H7:Hp},Inv X (pins++fc fp s5.heap) σ7 H7 s7->N σ7 H7->∃m,m < n/\∃i σ' H',Inv X pins σ' H' s7/\tn i s7.heap/\(∀b∈fp,H' b=none)/\W i m σ' H':=fun{σ7 H7} I7 n7=>by
   obtain⟨m',hm,w7⟩:=hN σ7 H7 n7
   refine⟨m',hm,i+1,σ7,H7,I7.yG,T.keep _ _ _ As fun b hb o e=>(I7.pin (b,o) (List.mem_append_right _ (List.mem_append_right _ (dr hb e)))).1,fun b hb=>?_,w7⟩
   obtain⟨o,e,d⟩:=T.obj _ _ As b hb
   exact(I7.pin (b,o) (List.mem_append_right _ (List.mem_append_right _ (dr hb e)))).2.1
  cases f with
  |next=>obtain⟨σ7,H7,I7,n7⟩:=q7;exact again I7 n7
  |cont=>obtain⟨σ7,H7,I7,n7⟩:=q7;exact again I7 n7
  |brk=>obtain⟨σ7,H7,I7,q7⟩:=q7;exact⟨σ7,H7,I7.yG,q7⟩
  |ret v=>obtain⟨x7,σ7,H7,I7,r7,q7⟩:=q7;exact⟨x7,σ7,H7,I7.yG,r7,q7⟩
end
abbrev R2:=V->V->Hp->VK->Prop
def dF(X:Cx)(f:Value->Value->Sem Value)(r:R2):Prop:=
 ∀(pins:Va) (s:Shared) (σ:St) (H:Hp) (x y:V) (v u:Value) (Q:VK),Inv X pins σ H s->RelV x v->RelV y u->r x y H Q->
  wpAny (model X.prog X.w) X.A (f v u) (EP X pins σ Q) X.xe s
def vm(X:Cx)(f:Value->Sem Value)(r:V->Hp->VK->Prop):Prop:=
 ∀(pins:Va) (s:Shared) (σ:St) (H:Hp) (x:V) (v:Value) (Q:VK),Inv X pins σ H s->RelV x v->r x H Q->
  wpAny (model X.prog X.w) X.A (f v) (EP X pins σ Q) X.xe s
def cx(X:Cx)(f:Value)(r:List V->Hp->VK->Prop):Prop:=
 ∀(pins:Va) (s:Shared) (σ:St) (H:Hp) (xs:List V) (us:Vv) (Q:VK),Inv X pins σ H s->Vals xs us->r xs H Q->
  wpAny (model X.prog X.w) X.A (call f us) (EP X pins σ Q) X.xe s
def t9(r:R2)(ta tb:TE):TE:=fun σ H Q=>ta σ H fun x H1=>tb σ H1 fun y H2=>r x y H2 Q
def wJ(r:V->Hp->VK->Prop)(ta:TE):TE:=fun σ H Q=>ta σ H fun x H1=>r x H1 Q
def rI(C:Int->Int->Prop)(g:Int->Int->V):R2:=fun x y H Q=>∃i j,x = .int i/\y = .int j/\C i j/\Q (g i j) H
def ow(g:Int->Int->V):R2:=fun x y H Q=>∃i j,x = .int i/\y = .int j/\Q (g i j) H
noncomputable def rU(g:Int->V):V->Hp->VK->Prop:=fun x H Q=>∃i,x = .int i/\Q (g i) H
section
variable {X:Cx} {a b c:Expr} {ta tb tc:TE} {pos:Pos}
def qT(ha:PE X a ta)(hb:PE X b tb){pins:Va}{s:Shared}{σ:St}{H:Hp}{R:V->V->Hp->Prop}(I:Inv X pins σ H s)
  (h:ta σ H fun x H1=>tb σ H1 fun y H2=>R x y H2) {Q:Vq} {f:Value->Value->Sem Value}
  (hf:∀v u s2 x y H2,Inv X pins σ H2 s2->RelV x v->RelV y u->R x y H2->wpAny (model X.prog X.w) X.A (f v u) Q X.xe s2) :
  wpAny (model X.prog X.w) X.A (eval a X.env) (fun v s₁=>wpAny (model X.prog X.w) X.A (eval b X.env) (fun u s₂=>wpAny (model X.prog X.w) X.A (f v u) Q X.xe s₂) X.xe s₁) X.xe s:=by
 refine aL (ha pins s σ H _ I h) fun v s1 ⟨x,H1,I1,r1,q1⟩=>?_
 refine aL (hb pins s1 σ H1 _ I1 q1) fun u s2 ⟨y,H2,I2,r2,q2⟩=>?_
 exact hf v u s2 x y H2 I2 r1 r2 q2
def t_{op:Operator}{r:R2}(ho:dF X (binaryOp op) r)(ha:PE X a ta)(hb:PE X b tb):PE X (.BinOp a op b pos) (t9 r ta tb):=by
 intro pins s σ H Q I h
 exact wpAny_BinOp (qT ha hb I h fun v u s2 x y H2 I2 rx ry q=>ho pins s2 σ H2 x y v u Q I2 rx ry q)
def ua{op:UnaryOp}{r:V->Hp->VK->Prop}(ho:vm X (unaryOp op) r)(ha:PE X a ta):PE X (.UnaryOp op a pos) (wJ r ta):=by
 intro pins s σ H Q I h
 exact UnaryOp_ (aL (ha pins s σ H _ I h) fun v s1 ⟨x,H1,I1,r1,q1⟩=>ho pins s1 σ H1 x v Q I1 r1 q1)
def vo{f:Value->Value->Sem Value}{C:Int->Int->Prop}{g:Int->Int->Int}
  (rule:∀(i j:Int) (t u:Tok) (s:Shared) (Q:Vq) (E:Vq),C i j->Q (.int (g i j) s.toks) { s with toks:=s.toks+1 }->wpAny (model X.prog X.w) X.A (f (.int i t) (.int j u)) Q E s) :
  dF X f (rI C fun i j=>.int (g i j)):=by
 intro pins s σ H x y v u Q I rx ry h
 obtain⟨i,j,rfl,rfl,hc,q⟩:=h
 obtain⟨t,rfl⟩:=rx
 obtain⟨t',rfl⟩:=ry
 exact rule i j t t' s _ _ hc ⟨.int (g i j),H,I.tok _,⟨_,rfl⟩,q⟩
def ub{f:Value->Value->Sem Value}{g:Int->Int->Int}
  (rule:∀(i j:Int) (t u:Tok) (s:Shared) (Q:Vq) (E:Vq),Q (.int (g i j) s.toks) { s with toks:=s.toks+1 }->wpAny (model X.prog X.w) X.A (f (.int i t) (.int j u)) Q E s) :
  dF X f (ow fun i j=>.int (g i j)):=by
 intro pins s σ H x y v u Q I rx ry h
 obtain⟨i,j,rfl,rfl,q⟩:=h
 obtain⟨t,rfl⟩:=rx
 obtain⟨t',rfl⟩:=ry
 exact rule i j t t' s _ _ ⟨.int (g i j),H,I.tok _,⟨_,rfl⟩,q⟩
def qU{f:Value->Value->Sem Value}{g:Int->Int->Bool}
  (rule:∀(i j:Int) (t u:Tok) (s:Shared) (Q:Vq) (E:Vq),Q (.bool (g i j)) s->wpAny (model X.prog X.w) X.A (f (.int i t) (.int j u)) Q E s) :
  dF X f (ow fun i j=>.bl (g i j)):=by
 intro pins s σ H x y v u Q I rx ry h
 obtain⟨i,j,rfl,rfl,q⟩:=h
 obtain⟨t,rfl⟩:=rx
 obtain⟨t',rfl⟩:=ry
 exact rule i j t t' s _ _ ⟨.bl (g i j),H,I,rfl,q⟩
def kI(i j:Int):Prop:=0<=j/\j<=1000000/\i.natAbs < 2 ^ 64
def At(i j:Int):Prop:=(-(2 ^ 64) < i/\i < 2 ^ 64)\/(-(2 ^ 64) < j/\j < 2 ^ 64)
def At.ok{i j:Int}(h:At i j):IntMulOk i j:=by
 rcases h with⟨h1,h2⟩|⟨h1,h2⟩
 ·exact .of_left (intBits_le_64 h1 h2)
 ·exact .of_right (intBits_le_64 h1 h2)
def qV:dF X (binaryOp .Add) (ow fun i j=>.int (i+j)):=ub fun _ _ _ _ _ _ _ q=>add_int q
def qW:dF X (binaryOp .Sub) (ow fun i j=>.int (i - j)):=ub fun _ _ _ _ _ _ _ q=>sub_int q
def oy:dF X (binaryOp .Mod) (rI (fun _ j=>j≠0) fun i j=>.int (i.fmod j)):=vo fun _ _ _ _ _ _ _ hc q=>mod_int' hc q
def qX:dF X (binaryOp .Pow) (rI kI fun i j=>.int (i ^ j.toNat)):=vo fun _ _ _ _ _ _ _ hc q=>pow_int_small hc.1 hc.2.1 hc.2.2 q
def wK{f:Value->Sem Value}{g:Int->Int}
  (rule:∀(i:Int) (t:Tok) (s:Shared) (Q:Vq) (E:Vq),Q (.int (g i) s.toks) { s with toks:=s.toks+1 }->wpAny (model X.prog X.w) X.A (f (.int i t)) Q E s) :
  vm X f (rU fun i=>.int (g i)):=by
 intro pins s σ H x v Q I rx h
 obtain⟨i,rfl,q⟩:=h
 obtain⟨t,rfl⟩:=rx
 exact rule i t s _ _ ⟨.int (g i),H,I.tok _,⟨_,rfl⟩,q⟩
def qY:vm X (unaryOp .USub) (rU fun i=>.int (-i)):=wK fun _ _ _ _ _ q=>neg_int q
end
noncomputable def uc:V->V->Bool
 | .non,.non=>true | .non,.int _=>true | .int _,.non=>true | .non,.bl _=>true | .bl _,.non=>true | .non,.str _=>true | .str _,.non=>true
 | .int _,.int _=>true | .bl _,.bl _=>true | .str _,.str _=>true | .z9 _,.z9 _=>true
 | .int _,.str _=>true | .str _,.int _=>true | .bl _,.str _=>true | .str _,.bl _=>true
 |_,_=>false
def wL:R2:=fun x y H Q=>uc x y=true/\Q (.bl (decide (x=y))) H
def wM:R2:=fun x y H Q=>uc x y=true/\Q (.bl (!decide (x=y))) H
def jU{i j:Int}:decide (V.int i=V.int j)=(i == j):=by
 rw[Bool.eq_iff_iff]
 simp
def lR{i j:Bool}:decide (V.bl i=V.bl j)=(i == j):=by
 rw[Bool.eq_iff_iff]
 simp
def jV{i j:Str}:decide (V.str i=V.str j)=(i == j):=by
 rw[Bool.eq_iff_iff]
 simp
def jW{i j:Array UInt8}:decide (V.z9 i=V.z9 j)=(i.toList == j.toList):=by
 rw[Bool.eq_iff_iff]
 cases i
 cases j
 simp
section
variable {X:Cx} {a b c:Expr} {ta tb tc:TE} {pos:Pos}
def aw{pins:Va}{σ:St}{H:Hp}{s:Shared}{Q:VK}{k k':Bool}(I:Inv X pins σ H s)(q:Q (.bl k) H)(e:k=k'):EP X pins σ Q (.bool k') s:=by
 subst e
 exact⟨.bl k,H,I,rfl,q⟩
def lS:dF X (compareOp .Eq) wL:=by
 intro pins s σ H x y v u Q I rx ry h
 obtain⟨hs,q⟩:=h
 cases x with
 |non=>
  cases rx
  cases y with
  |non=>cases ry;exact PySem.EqNone.eq_none_none (aw I q (by simp))
  |bl j=>cases ry;exact PySem.EqNone.eq_none_bool (aw I q (by simp))
  |int j=>obtain⟨t',rfl⟩:=ry;exact PySem.EqNone.eq_none_int (aw I q (by simp))
  |str j=>obtain⟨t',rfl⟩:=ry;exact PySem.EqNone.eq_none_str (aw I q (by simp))
  |_=>exact absurd (show false=true from hs) Bool.false_ne_true
 |bl i=>
  cases rx
  cases y with
  |non=>cases ry;exact PySem.EqNone.eq_bool_none (aw I q (by simp))
  |bl j=>cases ry;exact eq_bool (aw I q lR)
  |str j=>obtain⟨t',rfl⟩:=ry;exact PySem.EqMixed.eq_bool_str (aw I q (by simp))
  |_=>exact absurd (show false=true from hs) Bool.false_ne_true
 |int i=>
  obtain⟨t,rfl⟩:=rx
  cases y with
  |non=>cases ry;exact PySem.EqNone.eq_int_none (aw I q (by simp))
  |int j=>obtain⟨t',rfl⟩:=ry;exact eq_int (aw I q jU)
  |str j=>obtain⟨t',rfl⟩:=ry;exact PySem.EqMixed.eq_int_str (aw I q (by simp))
  |_=>exact absurd (show false=true from hs) Bool.false_ne_true
 |str i=>
  obtain⟨t,rfl⟩:=rx
  cases y with
  |non=>cases ry;exact PySem.EqNone.eq_str_none (aw I q (by simp))
  |bl j=>cases ry;exact PySem.EqMixed.eq_str_bool (aw I q (by simp))
  |int j=>obtain⟨t',rfl⟩:=ry;exact PySem.EqMixed.eq_str_int (aw I q (by simp))
  |str j=>obtain⟨t',rfl⟩:=ry;exact eq_str (aw I q jV)
  |_=>exact absurd (show false=true from hs) Bool.false_ne_true
 |z9 i=>
  obtain⟨t,rfl⟩:=rx
  cases y with
  |z9 j=>obtain⟨t',rfl⟩:=ry;exact PySem.W.eq_bytes (aw I q jW)
  |_=>exact absurd (show false=true from hs) Bool.false_ne_true
 |_=>cases y<;>exact absurd (show false=true from hs) Bool.false_ne_true
def lT:dF X (compareOp .NotEq) wM:=by
 intro pins s σ H x y v u Q I rx ry h
 obtain⟨hs,q⟩:=h
 cases x with
 |non=>
  cases rx
  cases y with
  |non=>cases ry;exact PySem.EqNone.ne_none_none (aw I q (by simp))
  |bl j=>cases ry;exact PySem.EqNone.ne_none_bool (aw I q (by simp))
  |int j=>obtain⟨t',rfl⟩:=ry;exact PySem.EqNone.ne_none_int (aw I q (by simp))
  |str j=>obtain⟨t',rfl⟩:=ry;exact PySem.EqNone.ne_none_str (aw I q (by simp))
  |_=>exact absurd (show false=true from hs) Bool.false_ne_true
 |bl i=>
  cases rx
  cases y with
  |non=>cases ry;exact PySem.EqNone.ne_bool_none (aw I q (by simp))
  |bl j=>cases ry;exact ne_bool (aw I q (congrArg not lR))
  |str j=>obtain⟨t',rfl⟩:=ry;exact PySem.EqMixed.ne_bool_str (aw I q (by simp))
  |_=>exact absurd (show false=true from hs) Bool.false_ne_true
 |int i=>
  obtain⟨t,rfl⟩:=rx
  cases y with
  |non=>cases ry;exact PySem.EqNone.ne_int_none (aw I q (by simp))
  |int j=>obtain⟨t',rfl⟩:=ry;exact ne_int (aw I q (congrArg not jU))
  |str j=>obtain⟨t',rfl⟩:=ry;exact PySem.EqMixed.ne_int_str (aw I q (by simp))
  |_=>exact absurd (show false=true from hs) Bool.false_ne_true
 |str i=>
  obtain⟨t,rfl⟩:=rx
  cases y with
  |non=>cases ry;exact PySem.EqNone.ne_str_none (aw I q (by simp))
  |bl j=>cases ry;exact PySem.EqMixed.ne_str_bool (aw I q (by simp))
  |int j=>obtain⟨t',rfl⟩:=ry;exact PySem.EqMixed.ne_str_int (aw I q (by simp))
  |str j=>obtain⟨t',rfl⟩:=ry;exact ne_str (aw I q (congrArg not jV))
  |_=>exact absurd (show false=true from hs) Bool.false_ne_true
 |z9 i=>
  obtain⟨t,rfl⟩:=rx
  cases y with
  |z9 j=>obtain⟨t',rfl⟩:=ry;exact PySem.W.ne_bytes (aw I q (congrArg not jW))
  |_=>exact absurd (show false=true from hs) Bool.false_ne_true
 |_=>cases y<;>exact absurd (show false=true from hs) Bool.false_ne_true
def ud:dF X (compareOp .Lt) (ow fun i j=>.bl (decide (i < j))):=qU fun _ _ _ _ _ _ _ q=>lt_int q
def ue:dF X (compareOp .Gt) (ow fun i j=>.bl (decide (j < i))):=qU fun _ _ _ _ _ _ _ q=>gt_int q
def uf:dF X (compareOp .GtE) (ow fun i j=>.bl (decide (j<=i))):=qU fun _ _ _ _ _ _ _ q=>ge_int q
def kJ:dF X (compareOp .In) (fun x y H Q=>∃i j,x = .str i/\y = .str j/\Q (.bl (!(Builtin.Str.occurrences j i 0 j.length 1).isEmpty)) H):=by
 intro pins s σ H x y v u Q I rx ry h
 obtain⟨i,j,rfl,rfl,q⟩:=h
 obtain⟨t,rfl⟩:=rx
 obtain⟨t',rfl⟩:=ry
 exact in_str (aw I q rfl)
def qZ:dF X (compareOp .Is) (fun x y H Q=>y = .non/\Q (.bl (decide (x = .non))) H):=by
 intro pins s σ H x y v u Q I rx ry h
 obtain⟨rfl,q⟩:=h
 cases ry
 refine is_none_gen (aw I q ?_)
 cases x<;>first
  |(cases rx;rfl)
  |(obtain⟨t,rfl⟩:=rx;rfl)
def aO(b:Expr){op:CmpOp}(h:op ≠ .In:=by decide)(h2:op ≠ .NotIn:=by decide):behindInMarks op b=false:=by
 have e1:(op == CmpOp.In)=false:=by cases op<;>first|rfl|exact absurd rfl h
 have e2:(op == CmpOp.NotIn)=false:=by cases op<;>first|rfl|exact absurd rfl h2
 cases b<;>simp[behindInMarks,e1,e2]
def oz{op:CmpOp}{r:R2}(ho:dF X (compareOp op) r)(ha:PE X a ta)(hb:PE X b tb)(hm:behindInMarks op b=false):PE X (.Compare a [op] [b] pos) (t9 r ta tb):=by
 intro pins s σ H Q I h
 exact wpAny_Compare1 (qT ha hb I h fun v u s2 x y H2 I2 rx ry q=>ho pins s2 σ H2 x y v u Q I2 rx ry q) hm
def ug(t:TE):TT:=fun σ H Q=>t σ H fun x H'=>∃k,x = .bl k/\Q k H'
def oA{op:CmpOp}{r:R2}(ho:dF X (compareOp op) r)(ha:PE X a ta)(hb:PE X b tb)(hm:behindInMarks op b=false):PT X (.Compare a [op] [b] pos) (ug (t9 r ta tb)):=by
 intro pins s σ H Q I h
 refine wpAny_isTrue_Compare1 (aL (ha pins s σ H _ I h) fun v s1 ⟨x,H1,I1,r1,q1⟩=>aL (hb pins s1 σ H1 _ I1 q1) fun u s2 ⟨y,H2,I2,r2,q2⟩=>
  aL (ho pins s2 σ H2 x y v u _ I2 r1 r2 q2) fun c s3 ⟨z,H3,I3,r3,k,e,q3⟩=>?_) hm
 subst e
 cases r3
 exact wpAny_truthy_bool ⟨H3,I3,q3⟩
def d3:(sizeLine:Nat) < 2 ^ 63:=by rw[sizeLine_eq];decide
def je:dF X (binaryOp .Add) (fun x y H Q=>∃i j,x = .str i/\y = .str j/\i.length+j.length<=sizeLine/\Q (.str (i++j)) H):=by
 intro pins s σ H x y v u Q I rx ry h
 obtain⟨i,j,rfl,rfl,hz,q⟩:=h
 obtain⟨t,rfl⟩:=rx
 obtain⟨t',rfl⟩:=ry
 exact add_str (fun t' tk=>⟨.str (i++j),H,I.tok _,⟨_,rfl⟩,q⟩) hz
def b3{x:V}{us:Vv}(r:Vals [x] us):∃u,us=[u]/\RelV x u:=by
 cases r with
 |cons r1 r2=>cases r2;exact⟨_,rfl,r1⟩
def uh{x y:V}{us:Vv}(r:Vals [x,y] us):∃u w',us=[u,w']/\RelV x u/\RelV y w':=by
 cases r with
 |cons r1 r2=>
  cases r2 with
  |cons r3 r4=>cases r4;exact⟨_,_,rfl,r1,r3⟩
def lU:cx X (.builtin "abs") (fun xs H Q=>∃i,xs=[.int i]/\Q (.int (if i < 0 then -i else i)) H):=by
 intro pins s σ H xs us Q I r h
 obtain⟨i,rfl,q⟩:=h
 obtain⟨u,rfl,t,rfl⟩:=b3 r
 exact call_abs_int fun u tk=>⟨.int (if i < 0 then -i else i),H,I.tok _,⟨_,rfl⟩,q⟩
def kK(hc:X.calm=true):cx X (.builtin "max") (fun xs H Q=>∃i j,xs=[.int i,.int j]/\Q (.int (if j > i then j else i)) H):=by
 intro pins s σ H xs us Q I r h
 obtain⟨i,j,rfl,q⟩:=h
 obtain⟨u,w',rfl,⟨t,rfl⟩,⟨t',rfl⟩⟩:=uh r
 refine max_two_ints (I.ok.hd hc) fun h' tk k=>⟨_,H,I.kept k,?_,q⟩
 by_cases hj:j > i
 ·rw[if_pos hj,if_pos hj];exact⟨_,rfl⟩
 ·rw[if_neg hj,if_neg hj];exact⟨_,rfl⟩
def fY:cx X (.type "int") (fun xs H Q=>(∃i,xs=[.int i]/\Q (.int i) H)\/∃k,xs=[.bl k]/\Q (.int (if k then 1 else 0)) H):=by
 intro pins s σ H xs us Q I r h
 rcases h with⟨i,rfl,q⟩|⟨k,rfl,q⟩
 ·obtain⟨u,rfl,t,rfl⟩:=b3 r
  exact call_int_int ⟨.int i,H,I,⟨_,rfl⟩,q⟩
 ·obtain⟨u,rfl,r1⟩:=b3 r
  cases r1
  exact call_int_bool ⟨.int (if k then 1 else 0),H,I.tok _,⟨_,rfl⟩,q⟩
def gN:cx X (.type "str") (fun xs H Q=>∃i,xs=[.int i]/\i.natAbs.log2 < 1920/\Q (.str (toString i)) H):=by
 intro pins s σ H xs us Q I r h
 obtain⟨i,rfl,hz,q⟩:=h
 obtain⟨u,rfl,t,rfl⟩:=b3 r
 exact PySem.P.str_of_int hz ⟨.str _,H,I.tok _,⟨_,rfl⟩,q⟩
end
def kL{h:Heap}{dx:Addr}{mA:Vr}(n:h.Ns1 dx mA):∃od,h.get? dx=some od/\∀name,PySem.W.lookIn name od=some (mA name):=by
 obtain⟨o,es,ep,ho,hd,hk,_,hm⟩:=n
 refine⟨o,ho,fun name=>?_⟩
 have e:=hm name
 unfold nsFind findBy at e
 rw[<-Array.find?_toList]at e
 unfold PySem.W.lookIn
 rw[hd]
 dsimp only
 split
 ·rename_i y q
  rw[q]at e
  exact congrArg some e
 ·rename_i q
  rw[q]at e
  have a:es.toList.any (·.refKey)=false:=by
   rw[List.any_eq_false]
   intro y hy
   obtain⟨z,t,hkey⟩:=hk y (Array.mem_toList_iff.mp hy)
   simp[DictEntry.refKey,hkey]
  have a':¬es.toList.any (·.refKey)=true:=by rw[a];exact Bool.false_ne_true
  rw[if_neg a']
  exact congrArg some e
def yF.some_of{v:V}{o:Option Value}(r:yF (some v) o):∃u,o=some u/\RelV v u:=by
 cases o with
 |none=>exact(show False from r).elim
 |some u=>exact⟨u,rfl,r⟩
def kM{v:V}{u:Value}(r:RelV v u):PySem.W.handedIn u=true:=by
 cases v with
 |non=>cases (show u=Value.none from r);rfl
 |bl b=>cases (show u=Value.bool b from r);rfl
 |int i=>obtain⟨t,e⟩:=(show ∃t,u=Value.int i t from r);cases e;rfl
 |str x=>obtain⟨t,e⟩:=(show ∃t,u=Value.str x t from r);cases e;rfl
 |z9 b=>obtain⟨t,e⟩:=(show ∃t,u=Value.bytes b t from r);cases e;rfl
 |BJ b=>obtain⟨t,e⟩:=(show ∃t,u=Value.float b t from r);cases e;rfl
 |ref a=>cases (show u=Value.ref a from r);rfl
 |ty n=>cases (show u=Value.type n from r);rfl
def NoAttr(K:Vo)(C:Addr)(f:Str):Prop:=PySem.W.findIn K (.ref C) f=some none
def NoAttr.Bj{K:Vo}{C:Addr}{f:Str}(n:NoAttr K C f):PySem.W.takerIn K C f=some none:=by
 unfold PySem.W.takerIn
 rw[show PySem.W.findIn K (.ref C) f=some none from n]
 rfl
section
variable {X:Cx} {pins:Va} {σ:St} {H:Hp} {s:Shared} {a C dx:Addr} {fs:List (Str×V)} {f:Str} {v:V} {A:Around} {E:Vq}
def oB{prog:Program}{w:World}{env:Env}{e:Expr}{f:Str}{pos:Pos}{s:Shared}{Q:Vq}(hb:attributeBase e f env (eval e env)=eval e env)
  (h:wpAny (model prog w) A (eval e env) (fun o s₁=>wpAny (model prog w) A (getAttr o f true) Q E s₁) E s):wpAny (model prog w) A (eval (.Attribute e f pos) env) Q E s:=
 Attribute_any_ h (by rw[arm_eval_Attribute,hb])
end
structure Room (k:Nat) (A:Around):Prop where
 hd:A.handled=none
 dp:A.depth+3 * k+5 < recursionLimit
 un:A.units+16 * k+200 < cLine
 gd:A.guards=some []
def Room.mono{j k:Nat}{A:Around}(r:Room k A)(h:j<=k):Room j A:=⟨r.hd,by have:=r.dp;omega,by have:=r.un;omega,r.gd⟩
theorem Room.deeper{k:Nat}{A:Around}(r:Room (k+1) A)(env:Env):Room k (A.deeper env):=
 ⟨r.hd,by have:=r.dp;show A.depth+1+3 * k+5 < _;omega,by have:=r.un;show A.units+3+16 * k+200 < _;omega,r.gd⟩
def jf{A:Around}{C:Addr}{us:Vv}{kw:List (Str×Value)}:(A.under (.builtin "type.__call__" ⟨.ref C::us,kw⟩)).depth=A.depth+1:=by
 first|rfl|simp[Around.under,Code.weight,Code.isCreation,Code.isGuard,Code.isCaller,Code.frames,Code.isFrame,guardIds]
def jg{A:Around}{C:Addr}{us:Vv}{kw:List (Str×Value)}:(A.under (.builtin "type.__call__" ⟨.ref C::us,kw⟩)).units=A.units+1:=by
 first|rfl|simp[Around.under,Code.cUnits,Code.frames,Code.isFrame]
def iq{A:Around}{C:Addr}{us:Vv}{kw:List (Str×Value)}:(A.under (.builtin "type.__call__" ⟨.ref C::us,kw⟩)).guards=A.guards:=by
 first|rfl|(cases h:A.guards<;>simp[Around.under,Code.guards,Code.isGuard,guardIds,pushGuards,h])
def Room.make{k:Nat}{A:Around}(r:Room (k+1) A)(C:Addr)(us:Vv)(kw:List (Str×Value)):Room k (A.under (.builtin "type.__call__" ⟨.ref C::us,kw⟩)):=
 ⟨r.hd,by have:=r.dp;rw[jf];omega,by have:=r.un;rw[jg];omega,by rw[iq];exact r.gd⟩
theorem Room.depth{k:Nat}{A:Around}(r:Room k A):A.depth < recursionLimit:=by have:=r.dp;omega
def q0:TA:=fun _ H Q=>Q [] H
def pU(ta:TE)(tr:TA):TA:=fun σ H Q=>ta σ H fun x H1=>tr σ H1 fun xs H2=>Q (x::xs) H2
section
variable {X:Cx} {e:Expr} {es:List Expr} {te:TE} {t:TA} {pos:Pos}
def q5:PA X [] q0:=fun _ _ _ _ H Q I h=>Calls.spliced_nil ⟨[],H,I,.nil,h⟩
def oC(ha:PE X e te)(hr:PA X es t)(hs:starEach (e::es) X.env=(false,eval e X.env)::starEach es X.env:=by rfl):PA X (e::es) (pU te t):=by
 intro pos pins s σ H Q I h
 rw[hs]
 show wpAny _ _ (spliced ((false,eval e X.env)::backTo pos (starEach es X.env))) _ _ s
 refine Calls.spliced_cons (aL (ha pins s σ H _ I h) fun u s1 ⟨x,H1,I1,r1,q1⟩=>?_)
 exact aL (hr pos pins s1 σ H1 _ I1 q1) fun us s2 ⟨xs,H2,I2,r2,q2⟩=>⟨x::xs,H2,I2,.cons r1 r2,q2⟩
def vQ(t:TA):TE:=fun σ H Q=>t σ H fun xs H1=>xs.length<=sizeLine/\∀p,H1 p=none->Q (.ref p) (upd H1 p (.tup xs))
def vR(t:TA):TE:=fun σ H Q=>t σ H fun xs H1=>xs.length<=sizeLine/\∀p,H1 p=none->Q (.ref p) (upd H1 p (.lst xs))
def q8{x1}(h:PA X es t):PE X (.Tuple es x1 pos) (vQ t):=by
 intro pins s σ H Q I hq
 refine wpAny_Tuple_spliced (aL (h pos pins s σ H _ I hq) fun us s1 ⟨xs,H1,I1,r,z,q⟩=>⟨by rw[<-r.length];exact z,?_⟩)
 have hf:H1 s1.heap.objs.size=none:=I1.hok.fresh (Nat.le_refl _)
 refine⟨.ref s1.heap.objs.size,upd H1 s1.heap.objs.size (.tup xs),I1.laid (t':=s1.toks) (fun b u e=>Heap.get?_push_of_some _ e) (Nat.le_refl _) ?_,rfl,q _ hf⟩
 exact⟨z,us,r,⟨_,Heap.get?_push_size _ rfl,rfl,rfl,_,rfl⟩⟩
def q9(h:PA X es t):PE X (.List es pos) (vR t):=by
 intro pins s σ H Q I hq
 refine wpAny_List_spliced (aL (h pos pins s σ H _ I hq) fun us s1 ⟨xs,H1,I1,r,z,q⟩=>⟨by rw[<-r.length];exact z,?_⟩)
 have hf:H1 s1.heap.objs.size=none:=I1.hok.fresh (Nat.le_refl _)
 refine⟨.ref s1.heap.objs.size,upd H1 s1.heap.objs.size (.lst xs),I1.laid (t':=s1.toks) (fun b u e=>Heap.get?_push_of_some _ e) (Nat.le_refl _) ?_,rfl,q _ hf⟩
 exact⟨z,us,0,r,Heap.get?_push_size _ rfl⟩
end
abbrev Sp:=List V->Hp->VK->XK->Prop
abbrev lV:=List Env->Hp->Shared->XK->Value->Shared->Prop
structure zE (P:Program) (w:World) (K:Vo) (mg:Vr) (base:Heap) (A:Around) (outer:List Env) (s:Shared) (H:Hp):Prop where
 frames:A.frames=some outer
 mod:Mod K mg base
 bs:∀b o,base.get? b=some o->s.heap.get? b=some o/\H b=none
 zO:base.objs.size<=s.heap.objs.size
 yh:s.heap.FunFrames base outer
 z_:∀b∈frs outer,H b=none
 hok:yg P w H s.heap
 bare:AllBare s.gens
def CE(outer:List Env)(P:Program)(w:World)(H:Hp)(s:Shared)(Q:VK)(u:Value)(s':Shared):Prop:=
 ∃v H',s'.os=s.os/\AllBare s'.gens/\Un (frs outer) [] H H' s.heap s'.heap/\yg P w H' s'.heap/\RelV v u/\Q v H'
def CR(CX:lV)(outer:List Env)(P:Program)(w:World)(H:Hp)(s:Shared)(Q:VK)(E:XK)(r:Result)(s':Shared):Prop:=
 match r with
 | .ok (.ret u)=>CE outer P w H s Q u s'
 | .ok _=>False
 | .error e=>CX outer H s E e s'
structure cG (P:Program) (w:World) (K:Vo) (mg:Vr) (base:Heap) (CX:lV) (k:Nat) (f:Addr) (fd:FuncData) (ps:Vs) (sp:Sp):Prop where
 len:∀vs H Q E,sp vs H Q E->vs.length=ps.length
 run:∀(A:Around) (outer:List Env) (s:Shared) (H:Hp) (args:Args) (us:Vv) (vs:List V) (Q:VK) (E:XK),Room k A->zE P w K mg base A outer s H->BindsTo s fd args (ps.zip us)->Vals vs us->sp vs H Q E->
  codeAny (model P w) A (.call (.ref f) args) (CR CX outer P w H s Q E) s
def zE.make{P:Program}{w:World}{K:Vo}{mg:Vr}{base:Heap}{A:Around}{outer:List Env}{s:Shared}{H:Hp}(e:zE P w K mg base A outer s H)(C:Addr)(us:Vv)(kw:List (Str×Value)) :
  zE P w K mg base (A.under (.builtin "type.__call__" ⟨.ref C::us,kw⟩)) outer s H:=⟨by first|exact e.frames|(simpa [Around.under,Code.envs,Code.isFrame,pushEnvs]using e.frames),e.mod,e.bs,e.zO,e.yh,e.z_,e.hok,e.bare⟩
section
variable {X:Cx} {pins:Va} {σ:St} {H:Hp} {s s':Shared}
def Inv.AQ(I:Inv X pins σ H s):zE X.prog X.w X.K X.mg X.base X.A X.stack s H:=
 ⟨I.ok.frames,I.ok.mod,I.bs,Nat.le_trans I.ok.zO I.sz,I.stack,I.zi,I.hok,I.bare⟩
def Inv.after{Q:VK}{u:Value}(I:Inv X pins σ H s)(h:CE X.stack X.prog X.w H s Q u s'):EP X pins σ Q u s':=by
 obtain⟨v,H',os,bare,un,hok,r,q⟩:=h
 obtain⟨hh,g,d,t,os'⟩:=s'
 obtain rfl:os'=s.os:=os
 exact⟨v,H',I.call (h':=hh) (g':=g) (d':=d) (t':=t) (ch:=[]) un hok bare (fun b z=>absurd z (by simp)),r,q⟩
end
def pV(sp:Sp)(dvs:List V)(E:XK)(t:TA):TE:=fun σ H Q=>t σ H fun vs H1=>sp (vs++dvs) H1 Q E
def Binds(K:Vo)(fd:FuncData)(ps:Vs)(ds:Vv):Prop:=
 ∀(s:Shared) (us:Vv),K.In s.heap->(us++ds).length=ps.length->BindsTo s fd ⟨us,[]⟩ (ps.zip (us++ds))
def Binds.all{K:Vo}{fd:FuncData}{ps:Vs}(h:∀us:List Value,us.length=ps.length->bindArgs fd ⟨us,[]⟩=pure (ps.zip us)):Binds K fd ps []:=fun s us _ hl=>by
 rw[List.append_nil]at hl ⊢
 exact .of_eq (h us hl)
def gO(CX:lV)(X:Cx)(E:XK):Prop:=∀(pins:Va) (σ:St) (H:Hp) (s:Shared) (e:Value) (s':Shared),Inv X pins σ H s->CX X.stack H s E e s'->X.xe e s'
section
variable {X:Cx} {CX:lV} {k:Nat} {f C:Addr} {fd:FuncData} {ps:Vs} {sp:Sp} {dvs:List V} {ds:Vv} {E:XK} {x m:Str} {p pos apos:Pos} {e o:Expr} {es:List Expr} {ta:TE} {t:TA}
def lW{pins:Va}{σ:St}{H:Hp}{s:Shared}{Q:VK}{us:Vv}{vs:List V}(F:cG X.prog X.w X.K X.mg X.base CX k f fd ps sp)(hr:Room k X.A)(hb:Binds X.K fd ps ds)(hd:Vals dvs ds)(hx:gO CX X E)
  (I:Inv X pins σ H s) (r:Vals vs us) (h:sp (vs++dvs) H Q E):wpAny (model X.prog X.w) X.A (call (.ref f) us) (EP X pins σ Q) X.xe s:=by
 have r2:Vals (vs++dvs) (us++ds):=r.append hd
 have hl:(us++ds).length=ps.length:=by rw[<-r2.length];exact F.len _ _ _ _ h
 refine wpAny_call (codeAny_mono (F.run X.A X.stack s H ⟨us,[]⟩ (us++ds) (vs++dvs) Q E hr I.AQ (hb s us I.y9 hl) r2 h) fun r s' hq=>?_)
 cases r with
 |error e=>exact hx pins σ H s e s' I hq
 |ok fl=>
  cases fl with
  |ret u=>exact I.after hq
  |next=>exact False.elim hq
  |brk=>exact False.elim hq
  |cont=>exact False.elim hq
def oE(F:cG X.prog X.w X.K X.mg X.base CX k f fd ps sp)(hr:Room k X.A)(hg:Gl X x)(hm:X.mg x=some (.ref f))(hk:PySem.W.keepIn X.K (.ref f)=true)(hb:Binds X.K fd ps ds)(hd:Vals dvs ds)(hx:gO CX X E)
  (ha:PA X (e::es) t) (hdb:(x == ("__debug__":Str))=false:=by decide) (he:starEach (e::es) X.env=(false,eval e X.env)::starEach es X.env:=by rfl) (hpl:(backTo pos (starEach es X.env)).any (·.1)=false:=by rfl) :
  PE X (.Call (.Name x p) (e::es) [] pos) (pV sp dvs E t):=by
 intro pins s σ H Q I h
 refine wpAny_Call_Name_kw (cZ I hg hm ?_ hdb)
 refine PySem.W.callWith_K (h₀:=X.base) I.ok.mod.Bf hk (aL (ha pos pins s σ H _ I h) fun us s1 ⟨vs,H1,I1,r,q⟩=>⟨I1.y9,?_⟩) he hpl
 exact lW F hr hb hd hx I1 r q
def lX(F:cG X.prog X.w X.K X.mg X.base CX k f fd ps sp)(hr:Room k X.A)(hg:Gl X x)(hm:X.mg x=some (.ref f))(hk:PySem.W.keepIn X.K (.ref f)=true)(hb:Binds X.K fd ps ds)(hd:Vals dvs ds)(hx:gO CX X E)
  (hdb:(x == ("__debug__":Str))=false:=by decide):PE X (.Call (.Name x p) [] [] pos) (pV sp dvs E q0):=by
 intro pins s σ H Q I h
 refine wpAny_Call_Name_kw (cZ I hg hm ?_ hdb)
 exact PySem.W.callWith_K0 I.y9 hk (lW (us:=[]) F hr hb hd hx I .nil h)
end
structure bi (N P:Vs) (sc:Scope):Prop where
 kind:sc.kind = .function
 co:sc.isCoroutine=false
 gen:sc.isGenerator=false
 nd:N.Nodup
 pre:N.take P.length=P
 par:∀x∈P,sc.names.lookup x=some .local\/sc.names.lookup x=some .cell
 AR:∀y∈sc.names,y.2 ≠ .free
theorem fZ{kindOf:Str->Option NameKind}{x:Str}:∀{binds:List (Str×Value)} {m:Vr},(∀v,(x,v) ∉ binds)->bindL kindOf binds m x=m x
 |[],_,_=>rfl
 |(n,v)::r,m,h=>by
  unfold bindL
  rw[fZ fun w hw=>h w (List.mem_cons_of_mem _ hw)]
  split
  ·have:x≠n:=by rintro rfl;exact h v List.mem_cons_self
   simp[this]
  ·rfl
theorem f6{kindOf:Str->Option NameKind}{x:Str}:∀{binds:List (Str×Value)} {m:Vr},(∀v,(x,v) ∉ binds)->bindC kindOf binds m x=m x
 |[],_,_=>rfl
 |(n,v)::r,m,h=>by
  unfold bindC
  rw[f6 fun w hw=>h w (List.mem_cons_of_mem _ hw)]
  split
  ·rfl
  ·have:x≠n:=by rintro rfl;exact h v List.mem_cons_self
   simp[this]
theorem f7{kindOf:Str->Option NameKind}{x:Str}{v:Value}:∀{P:Vs} {vs:Vv} {i:Nat} {m:Vr},P.Nodup->P[i]?=some x->vs[i]?=some v->kindOf x=some .local->
  bindL kindOf (P.zip vs) m x=some v
 |[],_,_,_,_,h,_,_=>by simp at h
 |_::_,[],_,_,_,_,h,_=>by simp at h
 |p::P,w::vs,0,m,nd,h1,h2,hk=>by
  simp at h1 h2;subst h1;subst h2
  show bindL kindOf ((p,w)::P.zip vs) m p=_
  unfold bindL
  rw[fZ fun v hv=>(List.nodup_cons.mp nd).1 (List.of_mem_zip hv).1,if_pos hk]
  simp
 |p::P,w::vs,i+1,m,nd,h1,h2,hk=>by
  show bindL kindOf ((p,w)::P.zip vs) m x=_
  unfold bindL
  exact f7 (i:=i) (List.nodup_cons.mp nd).2 (by simpa using h1) (by simpa using h2) hk
theorem f8{kindOf:Str->Option NameKind}{x:Str}{v:Value}:∀{P:Vs} {vs:Vv} {i:Nat} {m:Vr},P.Nodup->P[i]?=some x->vs[i]?=some v->kindOf x≠some .local->
  bindC kindOf (P.zip vs) m x=some v
 |[],_,_,_,_,h,_,_=>by simp at h
 |_::_,[],_,_,_,_,h,_=>by simp at h
 |p::P,w::vs,0,m,nd,h1,h2,hk=>by
  simp at h1 h2;subst h1;subst h2
  show bindC kindOf ((p,w)::P.zip vs) m p=_
  unfold bindC
  rw[f6 fun v hv=>(List.nodup_cons.mp nd).1 (List.of_mem_zip hv).1,if_neg hk]
  simp
 |p::P,w::vs,i+1,m,nd,h1,h2,hk=>by
  show bindC kindOf ((p,w)::P.zip vs) m x=_
  unfold bindC
  exact f8 (i:=i) (List.nodup_cons.mp nd).2 (by simpa using h1) (by simpa using h2) hk
noncomputable def cH(N:Vs)(vs:List V):St:=vs.map some++List.replicate (N.length - vs.length) none
noncomputable def du(CX:lV)(P:Program)(w:World)(K:Vo)(mg:Vr)(base:Heap)(N:Vs)(qual:Str)(scope:Scope)(f:Addr)(cd:Value)(A:Around)(outer:List Env)(s:Shared)(H:Hp)(E:XK):Cx where
 prog:=P
 w:=w
 K:=K
 mg:=mg
 base:=base
 A:=A.deeper (envOfC qual scope s.heap.objs.size f cd)
 N:=N
 s₀:=s
 H₀:=H
 env:=envOfC qual scope s.heap.objs.size f cd
 outer:=outer
 stack:=envOfC qual scope s.heap.objs.size f cd::outer
 ex:=[]
 calm:=true
 fn:=fun _=>true
 pn:=[]
 xe:=fun e s'=>wpAny (model P w) (A.deeper (envOfC qual scope s.heap.objs.size f cd)) (leaving (envOfC qual scope s.heap.objs.size f cd) e) (fun _ s''=>CX outer H s E e s'') (fun e' s''=>CX outer H s E e' s'') s'
def ir{sc:Scope}{n:Nat}{x:Str}(h:sc.names.lookup x=some .cell):∃c,(cellsFrom n sc.names []).lookup x=some c:=by
 have q:=PySem.W.cellsFrom_some sc.names n [] (.inl h)
 exact Option.isSome_iff_exists.mp q
def kN{CX:lV}{P:Program}{w:World}{K:Vo}{mg:Vr}{base:Heap}{N ps:Vs}{qual:Str}{scope:Scope}{f:Addr}{cd:Value}{A:Around}{outer:List Env}{s s1:Shared}{H:Hp}{E:XK}{us:Vv}{vs:List V}
  (S:bi N ps scope) (hd:A.handled=none) (e0:zE P w K mg base A outer s H) (hl:vs.length=ps.length) (r:Vals vs us)
  (x:InCallC s s.heap.objs.size (bindL (envOfC qual scope s.heap.objs.size f cd).kindOf (ps.zip us) fun _=>none) (cellsFrom (s.heap.objs.size+1) scope.names []) (bindC (envOfC qual scope s.heap.objs.size f cd).kindOf (ps.zip us) fun _=>none) s1) :
  Inv (du CX P w K mg base N qual scope f cd A outer s H E) [] (cH N vs) H s1:=by
 have hpl:ps.length<=N.length:=by have:=congrArg List.length S.pre;rw[List.length_take]at this;omega
 obtain⟨h1,tk,rfl,hk⟩:=x.done
 have Bl:∀b:Addr,b ∉ (du CX P w K mg base N qual scope f cd A outer s H E).ex:=fun b z=>absurd (show b∈([]:List Addr)from z) (by simp)
 refine⟨⟨e0.mod,S.kind,rfl,rfl,Nat.le_refl _,fun y z c h1 h2=>?_,fun y hy=>?_,fun y c _ h=>?_,fun _=>hd,Around.frames_deeper e0.frames,.inr ⟨rfl,rfl⟩,fun b z=>absurd z (Bl b),e0.bs,e0.zO,fun b _ _=>Bl b,fun b z=>absurd z (Bl b),e0.yh,e0.z_⟩,
  rfl,e0.bare,Un.kept hk,⟨_,x.toInCall.ns,fun i y v h1 h2 h3=>?_⟩,fun y c h=>⟨_,x.cell y c h⟩,e0.hok.fresh (Nat.le_refl _),fun y c h=>?_,fun p hp=>absurd (show p∈([]:Va)from hp) (by simp),e0.hok.kept hk,?_⟩
 ·exact name_of_addr x.apart (PySem.mem_of_lookup h1) (PySem.mem_of_lookup h2)
 ·have hy:scope.names.lookup y=some .cell\/scope.names.lookup y=some .free:=hy
  rcases hy with hy|hy
  ·exact ir hy
  ·exact absurd rfl (S.AR _ (PySem.mem_of_lookup hy))
 ·exact Nat.le_of_lt (x.above y c (PySem.mem_of_lookup h))
 ·have hi:i < vs.length:=by
   unfold cH at h2
   by_cases hi:i < vs.length
   ·exact hi
   ·rw[List.getElem?_append_right (by simpa using hi)]at h2
    rw[List.getElem?_replicate]at h2
    split at h2<;>cases h2
  have ha:vs[i]?=some v:=by
   unfold cH at h2
   rw[List.getElem?_append_left (by simpa using hi),List.getElem?_map]at h2
   cases e:vs[i]? with
   |none=>rw[e]at h2;cases h2
   |some a=>rw[e]at h2;cases h2;rfl
  obtain⟨u,hu,rv⟩:=r.get ha
  have hp:ps[i]?=some y:=by
   rw[<-S.pre,List.getElem?_take_of_lt (by omega)];exact h1
  have CD:ps.Nodup:=by rw[<-S.pre];exact S.nd.sublist (List.take_sublist _ _)
  refine⟨u,rv,?_⟩
  rcases S.par y (List.mem_of_getElem? hp)with k|k
  ·exact .inl ⟨k,f7 CD hp hu k⟩
  ·obtain⟨c,e⟩:=ir (n:=s.heap.objs.size+1) k
   refine .inr ⟨.inl k,c,e,?_⟩
   have q:=x.cell y c e
   rw[f8 CD hp hu (by show scope.names.lookup y≠_;rw[k];decide)]at q
   exact q
 ·exact e0.hok.fresh (Nat.le_of_lt (x.above y c (PySem.mem_of_lookup h)))
 ·unfold cH
  show _=N.length
  rw[List.length_append,List.length_map,List.length_replicate]
  omega
def pW{CX:lV}{P:Program}{w:World}{K:Vo}{mg:Vr}{base:Heap}{k:Nat}{f:Addr}{name qual:Str}{params:Arguments}{body:List Stmt}{scope:Scope}{dV kV doc pm cdv ct oc:Value}{an od:Option Addr}
  {osl:Array (Option Value)} {N ps:Vs} {sp:Sp} (lk:K.lookup f=some ⟨oc,od,.func (PySem.W.fnOf name qual params body scope dV kV doc pm an cdv ct),osl⟩) (hcd:PySem.W.codeIn K cdv qual=true) (S:bi N ps scope)
  (len:∀vs H Q E,sp vs H Q E->vs.length=ps.length)
  (hbody:∀(A:Around) (outer:List Env) (s:Shared) (H:Hp) (vs:List V) (Q:VK) (E:XK),Room k (A.deeper (envOfC qual scope s.heap.objs.size f cdv))->sp vs H Q E->
   ∃t,zb (du CX P w K mg base N qual scope f cdv A outer s H E) body t/\t { nx:=fun _ H'=>Q .non H',rt:=Q } (cH N vs) H) :
  cG P w K mg base CX (k+1) f (PySem.W.fnOf name qual params body scope dV kV doc pm an cdv ct) ps sp:=by
 refine⟨len,fun A outer s H args us vs Q E hr e0 hb r AD=>?_⟩
 have hl:=len _ _ _ _ AD
 have KX:K.In s.heap:=e0.mod.Bf.keeps fun b o e=>(e0.bs b o e).1
 have lim:s.heap.NoLimit:=e0.mod.nolimit.keeps fun b o e=>(e0.bs b o e).1
 have hkind:∀y∈ps.zip us,scope.names.lookup y.1=some .local\/(scope.names.lookup y.1=some .cell/\((cellsFrom (s.heap.objs.size+1) scope.names []).lookup y.1).isSome=true):=fun⟨n,v⟩ hy=>by
  rcases S.par n (List.of_mem_zip hy).1 with q|q
  ·exact .inl q
  ·exact .inr ⟨q,PySem.W.cellsFrom_some _ _ _ (.inl q)⟩
 refine codeAny_call_function hr.depth (KX _ _ lk) rfl S.co S.gen rfl (PySem.W.codeRec_of KX hcd) (hb _ _ _ _ ?_)
 refine wpAny_newFunctionEnv_cells S.kind hkind fun env he s1 x=>?_
 subst he
 refine⟨lim.keeps x.toInCall.keep,codeAny_func ?_⟩
 obtain⟨t,ht,hq⟩:=hbody A outer s H vs Q E (hr.deeper _) AD
 have I:Inv (du CX P w K mg base N qual scope f cdv A outer s H E) [] (cH N vs) H s1:=kN S hr.hd e0 hl r x
 refine wpAny_mono (ht [] s1 (cH N vs) H _ I hq) (fun fl s' hs=>?_) fun e s' hs=>hs
 have fin:∀{σ':St} {H':Hp} {v:V} {u:Value},Inv (du CX P w K mg base N qual scope f cdv A outer s H E) [] σ' H' s'->RelV v u->Q v H'->CE outer P w H s Q u s':=
  fun{σ' H' v u} J rv q=>⟨v,H',J.os,J.bare,J.base,J.hok,rv,q⟩
 cases fl with
 |ret u=>
  obtain⟨v,σ',H',J,rv,q⟩:=hs
  exact fin J rv q
 |next=>
  obtain⟨σ',H',J,q⟩:=hs
  exact fin (v:=V.non) (u:=Value.none) J rfl q
 |brk=>
  obtain⟨_,_,_,q⟩:=hs
  exact False.elim q
 |cont=>
  obtain⟨_,_,_,q⟩:=hs
  exact False.elim q
section
variable {X:Cx} {x:Str} {p pos:Pos} {e:Expr} {es:List Expr} {t:TA} {id T:String} {r:List V->Hp->VK->Prop}
def wC(r:List V->Hp->VK->Prop)(t:TA):TE:=fun σ H Q=>t σ H fun vs H1=>r vs H1 Q
def lY(hc:cx X (.builtin id) r)(hg:Gl X x)(hm:X.mg x=none)(hv:bootBuiltins x=some (.builtin id))(ha:PA X (e::es) t)(hn:x ≠ "__name__":=by decide)(hdb:(x == ("__debug__":Str))=false:=by decide)
  (he:starEach (e::es) X.env=(false,eval e X.env)::starEach es X.env:=by rfl) (hpl:(backTo pos (starEach es X.env)).any (·.1)=false:=by rfl):PE X (.Call (.Name x p) (e::es) [] pos) (wC r t):=by
 intro pins s σ H Q I h
 refine wpAny_Call_Name_kw (cf I hg hm hv ?_ hn hdb)
 exact PyProof.Rows.callWith_builtin1 (aL (ha pos pins s σ H _ I h) fun us s1 ⟨vs,H1,I1,r1,q1⟩=>hc pins s1 σ H1 vs us Q I1 r1 q1) he hpl
def kO(hc:cx X (.type T) r)(hg:Gl X x)(hm:X.mg x=none)(hv:bootBuiltins x=some (.type T))(ha:PA X (e::es) t)(hn:x ≠ "__name__":=by decide)(hdb:(x == ("__debug__":Str))=false:=by decide)
  (he:starEach (e::es) X.env=(false,eval e X.env)::starEach es X.env:=by rfl) (hpl:(backTo pos (starEach es X.env)).any (·.1)=false:=by rfl):PE X (.Call (.Name x p) (e::es) [] pos) (wC r t):=by
 intro pins s σ H Q I h
 refine wpAny_Call_Name_kw (cf I hg hm hv ?_ hn hdb)
 exact PyProof.Rows.callWith_type1 (aL (ha pos pins s σ H _ I h) fun us s1 ⟨vs,H1,I1,r1,q1⟩=>hc pins s1 σ H1 vs us Q I1 r1 q1) he hpl
end
end L2
namespace HT
open PySem PyProof.Rows
section
open PySem.SeqAt
open PySem.AutoSeq1 (wpAny_loadPart')
open PySem.MeetsSeq PySem.MeetsSeq2 PySem.MeetsSeq3
end
section
variable {prog:Program} {w:World} {A:Around} {E:Vq} {s:Shared}
def oF{t b:Addr}{vs ws:Vv}{Q:Vq}(ht:IsTup s.heap t vs.toArray)(hb:IsTup s.heap b ws.toArray)(hv:vs≠[])
  (h1:ws=[]->Q (.ref t) s) (h2:ws≠[]->Q (.ref s.heap.objs.size) { s with heap:=s.heap.push { cls:=.type "tuple",data:=.seq (vs++ws).toArray } })
  (hsz:vs.length+ws.length<=sizeLine):wpAny (model prog w) A (binaryOp .Add (.ref t) (.ref b)) Q E s:=by
 obtain⟨⟨cls,dd,data,sl⟩,ho,hc,n,hd⟩:=id ht
 obtain⟨⟨B7,dd2,data2,sl2⟩,ho2,hc2,n2,hd2⟩:=id hb
 simp only at hc hd hc2 hd2
 subst hc hd hc2 hd2
 have e:vs.toArray++ws.toArray=(vs++ws).toArray:=by simp
 by_cases hw:ws=[]
 ·exact concat_meets ⟨_,ho,rfl⟩ ⟨_,ho2,rfl⟩ noFill_tuple_add seq_tuple_add PySem.F.slot_tuple_add PySem.F.entry_tuple_add (PySem.F.args_tuple_add_2 _ _)
   (tuple_addW1 t b vs.toArray ws.toArray n n2 dd dd2 sl sl2 (by simpa using hv) (by simp[hw])) ⟨ho,ho2,h1 hw⟩
 ·refine concat_meets ⟨_,ho,rfl⟩ ⟨_,ho2,rfl⟩ noFill_tuple_add seq_tuple_add PySem.F.slot_tuple_add PySem.F.entry_tuple_add (PySem.F.args_tuple_add_2 _ _)
   (tuple_addW2 t b vs.toArray ws.toArray n n2 dd dd2 sl sl2 (by simpa using hv) (by simpa using hw) (by rw[List.size_toArray,List.size_toArray];exact hsz)) ⟨ho,ho2,?_⟩
  rw[e]
  exact h2 hw
noncomputable def xA(n d:Nat):Option Int->Nat
 |none=>d
 |some v=>if v < 0 then (v+(n:Int)).toNat else min v.toNat n
def q_(n d:Nat)(hd:d<=n)(o:Option Int):xA n d o<=n:=by
 cases o with
 |none=>exact hd
 |some v=>
  show(if v < 0 then (v+(n:Int)).toNat else min v.toNat n)<=n
  by_cases hv:v < 0
  ·rw[if_pos hv];omega
  ·rw[if_neg hv];exact Nat.min_le_right _ _
def jX(v:Int)(n d:Nat):(if v < 0 then max (v+(n:Int)) 0 else min v (n:Int))=((xA n d (some v):Nat):Int):=by
 show(if v < 0 then max (v+(n:Int)) 0 else min v (n:Int))=(((if v < 0 then (v+(n:Int)).toNat else min v.toNat n):Nat):Int)
 by_cases hv:v < 0
 ·simp only[if_pos hv];omega
 ·simp only[if_neg hv];omega
def jh(lo hi:Option Int)(n:Nat):Builtin.Slice.sliceAdjust lo hi 1 (n:Int)=(((xA n 0 lo:Nat):Int),((xA n n hi:Nat):Int)):=by
 have h1:¬((1:Int) < 0):=by omega
 unfold Builtin.Slice.sliceAdjust
 simp only[h1,if_false]
 refine Prod.ext ?_ ?_
 ·cases lo with
  |none=>rfl
  |some v=>exact jX v n 0
 ·cases hi with
  |none=>rfl
  |some v=>exact jX v n n
def ji(i j:Nat):Builtin.Slice.slicePlaces (i:Int) (j:Int) 1=j - i:=by
 unfold Builtin.Slice.slicePlaces
 have h1:(1:Int) > 0:=by omega
 simp only[h1,if_true,Int.ediv_one]
 split<;>omega
def fe{v:Value}{o:Option Int}{Q:Option Int->Shared->Prop}(p:IsPart v o)(h:Q o s):wpAny (model prog w) A (Builtin.Slice.slicePartIndex v) Q E s:=by
 cases p with
 |none=>exact slicePart_none h
 |int i t=>exact slicePart_int h
def b4{sl:Addr}{vl vu:Value}{lo hi:Option Int}{n:Nat}{Q:Int×Int×Nat->Shared->Prop}(hs:s.heap.IsSliceOf sl vl vu .none)(pl:IsPart vl lo)(pu:IsPart vu hi)
  (h:Q (((xA n 0 lo:Nat):Int),1,xA n n hi - xA n 0 lo) s):wpAny (model prog w) A (Builtin.Slice.sliceApplied (.ref sl) (pure (n:Int))) Q E s:=by
 obtain⟨os,hos,hcs,hds⟩:=id hs
 unfold Builtin.Slice.sliceApplied Builtin.Slice.sliceFields
 refine wpAny_bind (wpAny_bind (wpAny_field hos hds (x:=vl) rfl (wpAny_bind (wpAny_field hos hds (x:=vu) rfl (wpAny_bind (wpAny_field hos hds (x:=.none) rfl (wpAny_pure ?_)))))))
 refine wpAny_bind (slicePart_none ?_)
 show wpAny _ _ (if ((1:Int) == 0)=true then _ else _) _ _ s
 rw[if_neg (by decide)]
 refine wpAny_bind (fe pl (wpAny_bind (fe pu (wpAny_bind (wpAny_pure ?_)))))
 show wpAny _ _ (match Builtin.Slice.sliceAdjust lo hi 1 (n:Int)with|(lo,hi)=>pure (lo,(1:Int),Builtin.Slice.slicePlaces lo hi 1)) _ _ s
 rw[jh lo hi n]
 show wpAny _ _ (pure (((xA n 0 lo:Nat):Int),(1:Int),Builtin.Slice.slicePlaces ((xA n 0 lo:Nat):Int) ((xA n n hi:Nat):Int) 1)) _ _ s
 rw[ji]
 exact wpAny_pure h
def lZ(xs:Vw)(i k:Nat):((List.range k).filterMap fun(m:Nat)=>xs[((i:Int)+(m:Int) * 1).toNat]?).toArray=((xs.toList.drop i).take k).toArray:=by
 have e:(fun(m:Nat)=>xs[((i:Int)+(m:Int) * 1).toNat]?)=fun m=>xs[i+m]?:=by
  funext m
  have:((i:Int)+(m:Int) * 1).toNat=i+m:=by omega
  rw[this]
 rw[e]
 have:=pick_run xs i k
 rw[List.filterMap_map]at this
 have e2:((fun x=>xs[x]?) ∘ fun x=>i+x)=fun m=>xs[i+m]?:=rfl
 rw[e2]at this
 rw[this]
def dG{t sl:Addr}{items:Vw}{vl vu:Value}{lo hi:Option Int}{Q:Vq}(ht:IsTup s.heap t items)(hs:s.heap.IsSliceOf sl vl vu .none)(pl:IsPart vl lo)(pu:IsPart vu hi)
  (hw:¬(xA items.size 0 lo=0/\xA items.size items.size hi=items.size))
  (h:Q (.ref s.heap.objs.size) { s with heap:=s.heap.push { cls:=.type "tuple",data:=.seq ((items.toList.drop (xA items.size 0 lo)).take (xA items.size items.size hi - xA items.size 0 lo)).toArray } })
  (hsz:items.size<=sizeLine):wpAny (model prog w) A (getItem (.ref t) (.ref sl)) Q E s:=by
 have zP:sizeOk (.seq ((items.toList.drop (xA items.size 0 lo)).take (xA items.size items.size hi - xA items.size 0 lo)).toArray):=by
  show((items.toList.drop (xA items.size 0 lo)).take (xA items.size items.size hi - xA items.size 0 lo)).toArray.size<=sizeLine
  rw[List.size_toArray,List.length_take,List.length_drop,Array.length_toList]
  omega
 have hj:xA items.size items.size hi<=items.size:=q_ _ _ (Nat.le_refl _) hi
 obtain⟨os,hos,hcs,hds⟩:=id hs
 have B8:s.TypeIs (.ref sl) "slice":=⟨os,hos,hcs⟩
 unfold getItem
 try with_reducible refine wpAny_holding ?_
 first|refine wpAny_bind (wpAny_pure ?_)|skip
 refine wpAny_bind (wpAny_sequenceKey ht.typeIs (by decide) ?_)
 refine wpAny_bind (wpAny_callSpecial?_slot (name:=Str.ofString "__getitem__") ht.typeIs PyProof.Rows.slot_tuple_getitem
  (wpAny_call_entry PyProof.Rows.slot_tuple_getitem ht.typeIs entry_tuple_getitem ?_ (args_tuple_getitem _ _)))
 show wpAny _ _ (Builtin.Tuple.tupleItemsOf (.ref t) >>= _) _ _ s
 refine wpAny_bind (tupleItemsOf_ ht ?_)
 refine wpAny_bind (wpAny_typeOf B8 ?_)
 rw[if_pos (by decide)]
 refine wpAny_bind (b4 hs pl pu ?_)
 have hno:¬((((xA items.size 0 lo:Nat):Int) == 0&&(1:Int) == 1&&(xA items.size items.size hi - xA items.size 0 lo) == items.size)=true):=by
  intro q
  rw[Bool.and_eq_true,Bool.and_eq_true]at q
  have q1:((xA items.size 0 lo:Nat):Int)=0:=eq_of_beq q.1.1
  have q2:xA items.size items.size hi - xA items.size 0 lo=items.size:=eq_of_beq q.2
  exact hw ⟨by omega,by omega⟩
 show wpAny _ _ (if (((xA items.size 0 lo:Nat):Int) == 0&&(1:Int) == 1&&(xA items.size items.size hi - xA items.size 0 lo) == items.size)=true then _ else _) _ _ s
 rw[if_neg hno,lZ]
 first
  |exact wpAny_bind (m:=Builtin.Tuple.tupleExact _) (wpAny_newObj_type (wpAny_pure ⟨_,rfl,wpAny_pure h⟩) zP)
  |exact wpAny_bind (m:=Builtin.Tuple.tupleExact _) (wpAny_newObj_type (wpAny_bind (wpAny_pure (wpAny_pure ⟨_,rfl,wpAny_pure h⟩))) zP)
  |exact wpAny_bind (wpAny_bind (m:=Builtin.Tuple.tupleExact _) (wpAny_newObj_type (wpAny_pure (wpAny_pure ⟨_,rfl,wpAny_pure h⟩)) zP))
  |exact wpAny_bind (wpAny_bind (m:=Builtin.Tuple.tupleExact _) (wpAny_newObj_type (wpAny_pure ⟨_,rfl,wpAny_pure h⟩) zP))
end
end HT
namespace L2
open PySem PySem.Spec PyProof.Rows
abbrev TO:=St->Hp->(Option Int->Hp->Prop)->Prop
def PO(X:Cx)(e:Option Expr)(t:TO):Prop:=
 ∀(pins:Va) (s:Shared) (σ:St) (H:Hp) (Q:Option Int->Hp->Prop),Inv X pins σ H s->t σ H Q->
  wpAny (model X.prog X.w) X.A (evalPart e X.env) (fun u s'=>∃o H',Inv X pins σ H' s'/\IsPart u o/\Q o H') X.xe s
noncomputable def oG:TO:=fun _ H Q=>Q none H
noncomputable def uk(t:TE):TO:=fun σ H Q=>t σ H fun x H1=>∃i,x = .int i/\Q (some i) H1
section
variable {X:Cx} {e:Expr} {te:TE} {lo hi:Option Expr} {tl th:TO} {pos p2:Pos}
def oH:PO X none oG:=by
 intro pins s σ H Q I h
 rw[evalPart_none]
 exact wpAny_pure ⟨none,H,I,.none,h⟩
def oI(h:PE X e te):PO X (some e) (uk te):=by
 intro pins s σ H Q I hw
 rw[evalPart_some]
 refine aL (h pins s σ H _ I hw) fun u s1 ⟨x,H1,I1,r1,q1⟩=>?_
 obtain⟨i,rfl,q⟩:=q1
 obtain⟨t,rfl⟩:=r1
 exact⟨some i,H1,I1,.int i t,q⟩
def tu(X:Cx)(r:V->Option Int->Option Int->Hp->VK->Prop):Prop:=
 ∀(pins:Va) (s:Shared) (σ:St) (H:Hp) (x:V) (v vl vu:Value) (lo hi:Option Int) (sl:Addr) (Q:VK),Inv X pins σ H s->RelV x v->s.heap.IsSliceOf sl vl vu .none->IsPart vl lo->IsPart vu hi->r x lo hi H Q->
  ∃T id,typeLookup (.type T) "__getitem__" = pure (some (.builtin id))/\s.TypeIs v T/\wpAny (model X.prog X.w) X.A (getItem v (.ref sl)) (EP X pins σ Q) X.xe s
def wN(r:V->Option Int->Option Int->Hp->VK->Prop)(te:TE)(tl th:TO):TE:=fun σ H Q=>te σ H fun x H1=>tl σ H1 fun l H2=>th σ H2 fun u H3=>r x l u H3 Q
def l0{r:V->Option Int->Option Int->Hp->VK->Prop}(hr:tu X r)(he:PE X e te)(hl:PO X lo tl)(hu:PO X hi th):PE X (.Subscript e (.Slice lo hi none p2) pos) (wN r te tl th):=by
 intro pins s σ H Q I h
 refine Subscript_ (aL (he pins s σ H _ I h) fun v s1 ⟨x,H1,I1,r1,q1⟩=>?_)
 refine wpAny_Slice (aL (hl pins s1 σ H1 _ I1 q1) fun vl s2 ⟨l,H2,I2,pl,q2⟩=>aL (hu pins s2 σ H2 _ I2 q2) fun vu s3 ⟨u,H3,I3,pu,q3⟩=>?_)
 rw[evalPart_none]
 refine wpAny_pure ?_
 have I4:Inv X pins σ H3 { s3 with heap:=s3.heap.push { cls:=.type "slice",data:=.fields #[vl,vu,.none] } }:=I3.kept (t':=s3.toks) fun b ob q=>Heap.get?_push_of_some _ q
 obtain⟨T,id,hT,ht,hg⟩:=hr pins { s3 with heap:=s3.heap.push { cls:=.type "slice",data:=.fields #[vl,vu,.none] } } σ H3 x v vl vu l u s3.heap.objs.size Q I4 r1 (Heap.IsSliceOf.new ..) pl pu q3
 show wpAny (model X.prog X.w) X.A (subscriptTail e (.Slice lo hi none p2) v (.ref s3.heap.objs.size)) (EP X pins σ Q) X.xe { s3 with heap:=s3.heap.push { cls:=.type "slice",data:=.fields #[vl,vu,.none] } }
 exact tail_any (ops:=[.ref s3.heap.objs.size,v]) ht hT hg (by with_unfolding_all rfl)
noncomputable def fg(xs:List V)(lo hi:Option Int):List V:=(xs.drop (HT.xA xs.length 0 lo)).take (HT.xA xs.length xs.length hi - HT.xA xs.length 0 lo)
def eG(xs:List V)(lo hi:Option Int):(fg xs lo hi).length<=xs.length:=by
 unfold fg
 rw[List.length_take,List.length_drop]
 omega
noncomputable def vS(K:Vo):V->Option Int->Option Int->Hp->VK->Prop:=fun x lo hi H Q=>∃a xs,x = .ref a/\yi K H a xs/\
 ¬(HT.xA xs.length 0 lo=0/\HT.xA xs.length xs.length hi=xs.length)/\∀p,H p=none->Q (.ref p) (upd H p (.tup (fg xs lo hi)))
def rb:tu X (vS X.K):=by
 intro pins s σ H x v vl vu lo hi sl Q I rx hs pl pu h
 obtain⟨a,xs,rfl,hx,hw,q⟩:=h
 cases rx
 obtain⟨its,r,ht,hz⟩:=I.tuple hx
 have hlen:its.toArray.size=xs.length:=by rw[List.size_toArray];exact r.length.symm
 refine⟨"tuple",_,PyProof.Rows.slot_tuple_getitem.lookup,ht.typeIs,?_⟩
 refine HT.dG ht hs pl pu (by rw[hlen];exact hw) ?_ (by rw[hlen];exact hz)
 rw[hlen]
 refine⟨.ref s.heap.objs.size,_,I.laid (t':=s.toks) (o:=.tup (fg xs lo hi)) (fun b ob q=>Heap.get?_push_of_some _ q) (Nat.le_refl _) ?_,rfl,q _ (I.hok.fresh (Nat.le_refl _))⟩
 exact⟨Nat.le_trans (eG xs lo hi) hz,_,(r.drop (HT.xA xs.length 0 lo)).take (HT.xA xs.length xs.length hi - HT.xA xs.length 0 lo),xU.new _ _⟩
def ul(K:Vo):R2:=fun x y H Q=>∃a b xs ys,x = .ref a/\y = .ref b/\yi K H a xs/\yi K H b ys/\xs≠[]/\xs.length+ys.length<=sizeLine/\
 (ys=[]->Q (.ref a) H)/\(ys≠[]->∀p,H p=none->Q (.ref p) (upd H p (.tup (xs++ys))))
def Vals.zj{xs:List V}{us:Vv}(r:Vals xs us):us=[]↔xs=[]:=by
 cases r with
 |nil=>simp
 |cons _ _=>simp
def oJ:dF X (binaryOp .Add) (ul X.K):=by
 intro pins s σ H x y v u Q I rx ry h
 obtain⟨a,b,xs,ys,rfl,rfl,ha,hb,hx,hz,q1,q2⟩:=h
 cases rx
 cases ry
 obtain⟨its,r1,p1,_⟩:=I.tuple ha
 obtain⟨its2,r2,p2,_⟩:=I.tuple hb
 refine HT.oF p1 p2 (fun z=>hx (r1.zj.mp z)) (fun z=>⟨.ref a,H,I,rfl,q1 (r2.zj.mp z)⟩) (fun z=>?_) (by rw[<-r1.length,<-r2.length];exact hz)
 refine⟨.ref s.heap.objs.size,_,I.laid (t':=s.toks) (o:=.tup (xs++ys)) (fun b ob q=>Heap.get?_push_of_some _ q) (Nat.le_refl _) ?_,rfl,q2 (fun w=>z (r2.zj.mpr w)) _ (I.hok.fresh (Nat.le_refl _))⟩
 exact⟨by rw[List.length_append];exact hz,_,r1.append r2,xU.new _ _⟩
end
noncomputable def nY(n:Nat)(i:Int):Option Nat:=if 0<=i then (if i < n then some i.toNat else none) else if -(n:Int)<=i then some (i+n).toNat else none
noncomputable def xT{α:Type}(xs:List α)(i:Int):Option α:=(nY xs.length i).bind fun j=>xs[j]?
def jY{n:Nat}{i:Int}{j:Nat}(h:nY n i=some j):seqIndex? i n=some j/\j < n/\-(n:Int)<=i/\i < n:=by
 unfold nY at h
 by_cases h0:0<=i
 ·rw[if_pos h0]at h
  by_cases h1:i < n
  ·rw[if_pos h1]at h
   have e:i.toNat=j:=Option.some.inj h
   exact⟨by rw[seqIndex_of h0 h1,e],by omega,by omega,h1⟩
  ·rw[if_neg h1]at h;cases h
 ·rw[if_neg h0]at h
  by_cases h1:-(n:Int)<=i
  ·rw[if_pos h1]at h
   have e:(i+n).toNat=j:=Option.some.inj h
   exact⟨by rw[seqIndex_neg (by omega) h1,e],by omega,h1,by omega⟩
  ·rw[if_neg h1]at h;cases h
def gP{α:Type}{xs:List α}{i:Int}{v:α}(h:xT xs i=some v):∃j,seqIndex? i xs.length=some j/\xs[j]?=some v/\j < xs.length/\-(xs.length:Int)<=i/\i < xs.length:=by
 unfold xT at h
 cases e:nY xs.length i with
 |none=>rw[e]at h;cases h
 |some j=>
  rw[e]at h
  obtain⟨h1,h2,h3,h4⟩:=jY e
  exact⟨j,h1,h,h2,h3,h4⟩
def c_{α:Type}{xs:List α}{j:Nat}{v:α}(h:xs[j]?=some v):xT xs (j:Int)=some v:=by
 have hj:j < xs.length:=(List.getElem?_eq_some_iff.mp h).1
 have e:nY xs.length (j:Int)=some j:=by
  unfold nY
  rw[if_pos (by omega),if_pos (by omega)];simp
 unfold xT;rw[e];exact h
def eV(b:Expr):Prop:=∀o i,subscripted b false o i=operate [o,i] (getItem o i)
def tw(X:Cx)(r:R2):Prop:=
 ∀(value slice:Expr) (pins:Va) (s:Shared) (σ:St) (H:Hp) (x y:V) (v u:Value) (Q:VK),Inv X pins σ H s->RelV x v->RelV y u->r x y H Q->
  subscripted slice false v u=operate [v,u] (getItem v u)->wpAny (model X.prog X.w) X.A (subscriptTail value slice v u) (EP X pins σ Q) X.xe s
def tx(X:Cx)(id:String)(r:V->List V->Hp->VK->Prop):Prop:=
 ∀(pins:Va) (s:Shared) (σ:St) (H:Hp) (x:V) (xs:List V) (v:Value) (us:Vv) (Q:VK),Inv X pins σ H s->RelV x v->Vals xs us->r x xs H Q->
  wpAny (model X.prog X.w) X.A (call (.builtin id) (v::us)) (EP X pins σ Q) X.xe s
section
variable {X:Cx} {a b:Expr} {ta tb:TE} {pos:Pos}
def um{r:R2}(hr:tw X r)(ha:PE X a ta)(hb:PE X b tb)(hs:eV b):PE X (.Subscript a b pos) (t9 r ta tb):=by
 intro pins s σ H Q I h
 exact Subscript_ (qT ha hb I h fun v u s2 x y H2 I2 rx ry q=>hr a b pins s2 σ H2 x y v u Q I2 rx ry q (hs _ _))
def vT(K:Vo):R2:=fun x y H Q=>∃p xs i v,x = .ref p/\y = .int i/\SqL K H p xs/\xT xs i=some v/\Q v H
def vU(K:Vo):R2:=fun x y H Q=>∃p xs i v,x = .ref p/\y = .int i/\yi K H p xs/\xT xs i=some v/\Q v H
def vV:R2:=fun x y H Q=>∃z i c,x = .str z/\y = .int i/\z.length<=sizeLine/\xT z.cps.toList i=some c/\Q (.str ⟨#[c]⟩) H
def jZ:tw X (vT X.K):=by
 intro value slice pins s σ H x y v u Q I rx ry h hs
 obtain⟨p,xs,i,z,rfl,rfl,hq,he,q⟩:=h
 cases rx
 obtain⟨t,rfl⟩:=ry
 obtain⟨its,r,pl,hz⟩:=I.list hq
 obtain⟨j,h1,h2,h3,h4,h5⟩:=gP he
 obtain⟨w,ew,rw'⟩:=r.get h2
 have hl:=r.length
 have hn:=d3
 have fin:EP X pins σ Q w s:=⟨z,H,I,rw',q⟩
 by_cases h0:0<=i
 ·have hj:i.toNat=j:=by
   rw[seqIndex_of h0 h5]at h1
   exact Option.some.inj h1
  exact item_listR pl.isList h0 (by omega) (by rw[hj];simpa using ew) fin hs
 ·have hj:(i+(its.toArray.size:Int)).toNat=j:=by
   rw[seqIndex_neg (by omega) h4]at h1
   rw[List.size_toArray,<-hl]
   exact Option.some.inj h1
  exact subscriptTail_builtinR (x:=w) pl.isList.typeIs slot_list_getitem.lookup
   (wpAny_getItem_list_neg (Q:=fun r s'=>r=w/\EP X pins σ Q r s') pl.isList (by omega) (by rw[List.size_toArray]<;>omega) (by omega) (by rw[hj];simpa using ew) ⟨rfl,fin⟩) hs
def rc:tw X (vU X.K):=by
 intro value slice pins s σ H x y v u Q I rx ry h hs
 obtain⟨p,xs,i,z,rfl,rfl,hq,he,q⟩:=h
 cases rx
 obtain⟨t,rfl⟩:=ry
 obtain⟨its,r,pl,hz⟩:=I.tuple hq
 obtain⟨j,h1,h2,h3,h4,h5⟩:=gP he
 obtain⟨w,ew,rw'⟩:=r.get h2
 have hl:=r.length
 have hn:=d3
 have fin:EP X pins σ Q w s:=⟨z,H,I,rw',q⟩
 exact subscriptTail_builtinR (x:=w) pl.typeIs slot_tuple_getitem.lookup
  (getItem_tuple (j:=j) (Q:=fun r s'=>r=w/\EP X pins σ Q r s') pl (by omega) (by omega) (by rw[List.size_toArray,<-hl];exact h1) (by simpa using ew) ⟨rfl,fin⟩) hs
def re:tw X vV:=by
 intro value slice pins s σ H x y v u Q I rx ry h hs
 obtain⟨z,i,c,rfl,rfl,hz,he,q⟩:=h
 obtain⟨t,rfl⟩:=rx
 obtain⟨t',rfl⟩:=ry
 obtain⟨j,h1,h2,h3,h4,h5⟩:=gP he
 have hl:z.cps.toList.length=z.length:=by simp[Str.length]
 rw[hl]at h1 h4 h5
 have hn:=d3
 exact tail_any (typeIs_str s z t) slot_str_getitem.lookup (getItem_str (c:=c) (by
  have e1:decide (i < -(2 ^ 63:Int))=false:=decide_eq_false (by omega)
  have e2:decide (i>=2 ^ 63)=false:=decide_eq_false (by omega)
  rw[e1,e2,Bool.or_false]) (by rw[h1];simpa using h2) ⟨.str ⟨#[c]⟩,H,I.tok _,⟨_,rfl⟩,q⟩) hs
def jj(its:Vv)(n j:Nat)(u:Value):Obj.mapSeq (·.setIfInBounds j u) { cls:=.type "list",data:=.seq its.toArray n }={ cls:=.type "list",data:=.seq (its.set j u).toArray n }:=by
 simp[Obj.mapSeq]
theorem Inv.lst{pins:Va}{σ:St}{H:Hp}{s:Shared}{p:Addr}{xs:List V}(I:Inv X pins σ H s)(h:H p=some (.lst xs)) :
  ∃(its:Vv) (n:Nat),Vals xs its/\s.heap.get? p=some { cls:=.type "list",data:=.seq its.toArray n }/\xs.length<=sizeLine:=by
 obtain⟨z,its,n,r,e⟩:=I.hok p _ h
 exact⟨its,n,r,e,z⟩
def Inv.AS{pins:Va}{σ:St}{H:Hp}{s:Shared}{p:Addr}{xs ys:List V}{its its':Vv}{n n':Nat}{f:Obj->Obj}(I:Inv X pins σ H s)(h:H p=some (.lst xs))
  (ho:s.heap.get? p=some { cls:=.type "list",data:=.seq its.toArray n }) (hf:f { cls:=.type "list",data:=.seq its.toArray n }={ cls:=.type "list",data:=.seq its'.toArray n' }) (r:Vals ys its') (hz:ys.length<=sizeLine) (t:Nat) :
  Inv X pins σ (upd H p (.lst ys)) { s with heap:=s.heap.update p f,toks:=t }:=by
 have e:(s.heap.update p f).get? p=some { cls:=.type "list",data:=.seq its'.toArray n' }:=by
  rw[Heap.get?_update_self f ho (by rw[hf]<;>rfl),hf]
 refine I.write (x:=p) (e:=p) (by rw[h];trivial) (.inl rfl) (fun b u hb q=>(Heap.get?_update_other _ _ (Ne.symm hb)).trans q) ⟨_,e⟩ ?_
 exact⟨hz,its',n',r,e⟩
noncomputable def uo:V->V->V->Hp->(Hp->Prop)->Prop:=fun o i v H Q=>∃p xs k j,o = .ref p/\i = .int k/\H p=some (.lst xs)/\nY xs.length k=some j/\Q (upd H p (.lst (xs.set j v)))
def l4:oo X uo:=by
 intro pins s σ H o i v ov iv u Q I ro ri rv h
 obtain⟨p,xs,k,j,rfl,rfl,hp,hj,q⟩:=h
 cases ro
 obtain⟨t,rfl⟩:=ri
 obtain⟨its,n,r,ho,hz⟩:=I.lst hp
 obtain⟨h1,h2,h3,h4⟩:=jY hj
 have hl:=r.length
 have hn:=d3
 have I':Inv X pins σ (upd H p (.lst (xs.set j v))) { s with heap:=s.heap.update p (Obj.mapSeq (·.setIfInBounds j u)) }:=
  I.AS hp ho (jj its n j u) (r.set rv j) (by rw[List.length_set];exact hz) s.toks
 by_cases h0:0<=k
 ·have hk:k.toNat=j:=by
   rw[seqIndex_of h0 h4]at h1
   exact Option.some.inj h1
  exact PySem.W.ki_setAt ho h0 (by omega) (by rw[List.size_toArray,<-hl];exact h4) (by rw[hk];exact⟨_,I',q⟩)
 ·have hk:(k+(its.toArray.size:Int)).toNat=j:=by
   rw[seqIndex_neg (by omega) h3]at h1
   rw[List.size_toArray,<-hl]
   exact Option.some.inj h1
  exact PySem.W.ki_setBack ho (by omega) (by rw[List.size_toArray,<-hl];exact h3) (by omega) (by rw[hk];exact⟨_,I',q⟩)
def gQ(lo hi:Option Int)(n:Nat):(sliceBounds lo hi none n).1=((HT.xA n 0 lo:Nat):Int)/\(sliceBounds lo hi none n).2.1=((HT.xA n n hi:Nat):Int)/\(sliceBounds lo hi none n).2.2=1:=by
 refine⟨?_,?_,rfl⟩
 ·cases lo with
  |none=>simp[sliceBounds,HT.xA]
  |some i=>
   simp only[sliceBounds,HT.xA,Option.getD_none,show(1:Int) > 0 by decide,if_true]
   by_cases h:i < 0
   ·simp only[h,if_true]<;>omega
   ·simp only[h,if_false]<;>omega
 ·cases hi with
  |none=>simp[sliceBounds,HT.xA]
  |some i=>
   simp only[sliceBounds,HT.xA,Option.getD_none,show(1:Int) > 0 by decide,if_true]
   by_cases h:i < 0
   ·simp only[h,if_true]<;>omega
   ·simp only[h,if_false]<;>omega
def fO(its:Vv)(lo hi:Option Int):slicePick its.toArray lo hi none=((its.drop (HT.xA its.length 0 lo)).take (HT.xA its.length its.length hi - HT.xA its.length 0 lo)).toArray:=by
 obtain⟨h1,h2,h3⟩:=gQ lo hi its.toArray.size
 unfold slicePick
 rw[h1,h2,h3]
 simp only[sliceRange_one,pick_run,List.size_toArray]<;>rfl
noncomputable def vW(K:Vo):V->Option Int->Option Int->Hp->VK->Prop:=fun x lo hi H Q=>∃a xs,x = .ref a/\SqL K H a xs/\∀p,H p=none->Q (.ref p) (upd H p (.lst (fg xs lo hi)))
def j0:tu X (vW X.K):=by
 intro pins s σ H x v vl vu lo hi sl Q I rx hs pl pu h
 obtain⟨a,xs,rfl,hx,q⟩:=h
 cases rx
 obtain⟨its,r,ht,hz⟩:=I.list hx
 have hlen:=r.length
 refine⟨"list",_,slot_list_getitem.lookup,ht.isList.typeIs,?_⟩
 refine wpAny_getItem_list_slice ht.isList hs pl pu .none (by simp) ?_ (by rw[List.size_toArray]<;>omega)
 rw[fO,<-hlen]
 refine⟨.ref s.heap.objs.size,_,I.laid (t':=s.toks) (o:=.lst (fg xs lo hi)) (fun b ob q=>Heap.get?_push_of_some _ q) (Nat.le_refl _) ?_,rfl,q _ (I.hok.fresh (Nat.le_refl _))⟩
 exact⟨Nat.le_trans (eG xs lo hi) hz,_,0,(r.drop (HT.xA xs.length 0 lo)).take (HT.xA xs.length xs.length hi - HT.xA xs.length 0 lo),Heap.get?_push_size _ rfl⟩
def gR:dF X (compareOp .NotIn) (fun x y H Q=>∃i j,x = .str i/\y = .str j/\Q (.bl (!(!(Builtin.Str.occurrences j i 0 j.length 1).isEmpty))) H):=by
 intro pins s σ H x y v u Q I rx ry h
 obtain⟨i,j,rfl,rfl,q⟩:=h
 obtain⟨t,rfl⟩:=rx
 obtain⟨t',rfl⟩:=ry
 exact notIn_str ⟨.bl _,H,I,rfl,q⟩
def ci:cx X (.builtin "len") (fun xs H Q=>∃p ys,xs=[.ref p]/\(SqL X.K H p ys\/yi X.K H p ys)/\Q (.int ys.length) H):=by
 intro pins s σ H xs us Q I r h
 obtain⟨p,ys,rfl,hq,q⟩:=h
 obtain⟨u,rfl,rx⟩:=b3 r
 cases rx
 have hn:=d3
 rcases hq with hq|hq
 ·obtain⟨its,r',pl,hz⟩:=I.list hq
  have hlen:=r'.length
  exact Calls.call_len_list pl.isList (by simp only[List.size_toArray]<;>omega) ⟨.int ys.length,H,I.tok _,⟨s.toks+1,by rw[List.size_toArray,hlen]⟩,q⟩
 ·obtain⟨its,r',pl,hz⟩:=I.tuple hq
  have hlen:=r'.length
  exact len_tuple pl (by simp only[List.size_toArray]<;>omega) ⟨.int ys.length,H,I.tok _,⟨s.toks+1,by rw[List.size_toArray,hlen]⟩,q⟩
def gS:cx X (.builtin "len") (fun xs H Q=>∃z,xs=[.str z]/\z.length<=sizeLine/\Q (.int z.length) H):=by
 intro pins s σ H xs us Q I r h
 obtain⟨z,rfl,hz,q⟩:=h
 obtain⟨u,rfl,t,rfl⟩:=b3 r
 have hn:=d3
 exact len_str (by omega) ⟨.int z.length,H,I.tok _,⟨_,rfl⟩,q⟩
def vp(K:Vo)(T:String)(x:V)(H:Hp):Prop:=match x with
 | .str _=>T = "str"
 | .int _=>T = "int"
 | .ref p=>(T = "list"/\∃xs,SqL K H p xs)\/(T = "tuple"/\∃o,K.lookup p=some o/\o.cls = .type "tuple"/\o.dict=none) \/
   (T = "dict"/\((∃kvs,H p=some (.dK kvs))\/∃kvs,H p=some (.dT kvs)))\/(T = "set"/\∃S n,H p=some (.set S n))
 |_=>False
def jk{pins:Va}{σ:St}{H:Hp}{s:Shared}{T:String}{x:V}{v:Value}(I:Inv X pins σ H s)(r:RelV x v)(ty:vp X.K T x H) :
  s.TypeIs v T/\∀a,v = .ref a->∃ob,s.heap.get? a=some ob/\ob.dict=none:=by
 cases x with
 |str z=>
  obtain⟨t,rfl⟩:=r
  cases (show T = "str" from ty)
  exact⟨typeIs_str s z t,fun _ e=>nomatch e⟩
 |int i=>
  obtain⟨t,rfl⟩:=r
  cases (show T = "int" from ty)
  exact⟨typeIs_int s i t,fun _ e=>nomatch e⟩
 |ref p=>
  cases r
  rcases ty with⟨rfl,xs,hq⟩|⟨rfl,o,hk,hc,hd⟩|⟨rfl,hk⟩|⟨rfl,S,n,hk⟩
  ·obtain⟨its,_,pl,_⟩:=I.list hq
   refine⟨pl.isList.typeIs,fun a e=>?_⟩
   cases e
   obtain⟨o,n,e,c,hd,_⟩:=pl
   exact⟨o,e,hd⟩
  ·refine⟨⟨o,I.y9 p o hk,hc⟩,fun a e=>?_⟩
   cases e
   exact⟨o,I.y9 _ o hk,hd⟩
  ·have z:∃o,s.heap.get? p=some o/\o.ExactDict:=by
    rcases hk with⟨kvs,hk⟩|⟨kvs,hk⟩
    ·obtain⟨_,_,_,_,o,_,_,e,ex,_⟩:=I.hok p _ hk
     exact⟨o,e,ex⟩
    ·obtain⟨_,_,_,_,o,_,_,e,ex,_⟩:=I.hok p _ hk
     exact⟨o,e,ex⟩
   obtain⟨o,e,ex⟩:=z
   refine⟨⟨o,e,ex.1⟩,fun a e2=>?_⟩
   cases e2
   exact⟨o,e,ex.2.1⟩
  ·obtain⟨o,_,_,_,e,ex,_⟩:=I.hok p _ hk
   refine⟨⟨o,e,ex.1⟩,fun a e2=>?_⟩
   cases e2
   exact⟨o,e,ex.2.1⟩
 |_=>exact False.elim ty
def vX(K:Vo)(T:String)(r:V->List V->Hp->VK->Prop)(to:TE):TE:=fun σ H Q=>to σ H fun x H1=>vp K T x H1/\r x [] H1 Q
def wO(K:Vo)(T:String)(r:V->List V->Hp->VK->Prop)(to:TE)(t:TA):TE:=fun σ H Q=>to σ H fun x H1=>vp K T x H1/\t σ H1 fun xs H2=>r x xs H2 Q
variable {o e:Expr} {es:List Expr} {to:TE} {t:TA} {name:Str} {apos cpos:Pos} {T id:String} {r:V->List V->Hp->VK->Prop}
def rg(pa:PlainAttrs T)(slot:Slot T name id)(hty:typeOf (.builtin id)=pure (.type "method_descriptor"))(hm:tx X id r)(ho:PE X o to)
  (hbase:attributeBase o name X.env (eval o X.env)=eval o X.env:=by rfl) (hline:(apos.endLine == cpos.line)=true:=by rfl):PE X (.Call (.Attribute o name apos) [] [] cpos) (vX X.K T r to):=by
 intro pins s σ H Q I h
 refine wpAny_Call_method0_late hbase hline (aL (ho pins s σ H _ I h) fun v s1 ⟨x,H1,I1,r1,ty,q1⟩=>?_)
 obtain⟨h1,h2⟩:=jk I1 r1 ty
 exact⟨T,id,pa,slot,hty,h1,h2,Calls.callWith_builtin rfl (PySem.evalArgs_none (hm pins s1 σ H1 x [] v [] Q I1 r1 .nil q1))⟩
def uq(pa:PlainAttrs T)(slot:Slot T name id)(hty:typeOf (.builtin id)=pure (.type "method_descriptor"))(hm:tx X id r)(ho:PE X o to)(ha:PA X (e::es) t)
  (hbase:attributeBase o name X.env (eval o X.env)=eval o X.env:=by rfl)
  (hfew:((backTo cpos (starEach (e::es) X.env)).all (fun x=>!x.1)&&(backToKw cpos (keywordEach [] X.env)).all (fun x=>x.1.isSome)
   && decide ((e::es).length+([]:List Keyword).length+(if ([]:List Keyword).isEmpty then 0 else 1) < 30))=true:=by rfl)
  (hline:(apos.endLine == cpos.line)=true:=by rfl) (hs:starEach (e::es) X.env=(false,eval e X.env)::starEach es X.env:=by rfl) (hplain:(backTo cpos (starEach es X.env)).any (·.1)=false:=by rfl) :
  PE X (.Call (.Attribute o name apos) (e::es) [] cpos) (wO X.K T r to t):=by
 intro pins s σ H Q I h
 refine wpAny_Call_method_late hbase hfew hline rfl (aL (ho pins s σ H _ I h) fun v s1 ⟨x,H1,I1,r1,ty,q1⟩=>?_)
 obtain⟨h1,h2⟩:=jk I1 r1 ty
 refine⟨T,id,pa,slot,hty,h1,h2,?_⟩
 have hA:=ha cpos pins s1 σ H1 _ I1 q1
 rw[hs]at hA ⊢
 refine Calls.callWith_builtin (by show(false || (backTo cpos (starEach es X.env)).any (·.1))=false;rw[hplain]<;>rfl) (Calls.evalArgs_plain ?_)
 exact aL hA fun us s2 ⟨vs,H2,I2,r2,q2⟩=>hm pins s2 σ H2 x vs v us Q I2 r1 r2 q2
end
def vY(X:Cx)(id:String)(r:V->List V->Hp->VK->Prop):Prop:=
 ∀(pins:Va) (s:Shared) (σ:St) (H:Hp) (x:V) (xs:List V) (v:Value) (us:Vv) (Q:VK),Inv X pins σ H s->RelV x v->Vals xs us->r x xs H Q->
  wpAny (model X.prog X.w) X.A (call (.builtin id) (v::us)) (EP X pins σ Q) X.xe s
theorem Vals.one:∀{x:V} {us:Vv},Vals [x] us->∃u,us=[u]/\RelV x u
 |_,_,.cons r .nil=>⟨_,rfl,r⟩
theorem Vals.zero:∀{us:Vv},Vals [] us->us=[]
 |_,.nil=>rfl
theorem Vals.dropLast{xs:List V}{us:Vv}(h:Vals xs us):Vals xs.dropLast us.dropLast:=by
 induction h with
 |nil=>exact .nil
 |cons r t ih=>
  cases t with
  |nil=>exact .nil
  |cons q t'=>exact .cons r ih
theorem Vals.eraseIdx:∀{xs:List V} {us:Vv} (i:Nat),Vals xs us->Vals (xs.eraseIdx i) (us.eraseIdx i)
 |_,_,_,.nil=>.nil
 |_,_,0,.cons _ t=>t
 |_,_,i+1,.cons r t=>.cons r (Vals.eraseIdx i t)
theorem Vals.reverse{xs:List V}{us:Vv}(h:Vals xs us):Vals xs.reverse us.reverse:=by
 induction h with
 |nil=>exact .nil
 |cons r t ih=>rw[List.reverse_cons,List.reverse_cons];exact Vals.append ih (.cons r .nil)
theorem Vals.rep{xs:List V}{us:Vv}(h:Vals xs us):∀k:Nat,Vals (List.replicate k xs).flatten (List.replicate k us).flatten
 |0=>.nil
 |k+1=>by
  rw[List.replicate_succ,List.replicate_succ,List.flatten_cons,List.flatten_cons]
  exact Vals.append h (Vals.rep h k)
def jl{α:Type}(l:List α):l.eraseIdx (l.length - 1)=l.dropLast:=by
 induction l with
 |nil=>rfl
 |cons a r ih=>
  cases r with
  |nil=>rfl
  |cons b r=>
   have e:(a::b::r).length - 1=((b::r).length - 1)+1:=by
    have h1:(a::b::r).length=r.length+2:=rfl
    have h2:(b::r).length=r.length+1:=rfl
    omega
   rw[e,List.eraseIdx_cons_succ,ih]
   all_goals rfl
theorem f9{α:Type}:∀(l:List α) (i:Nat),(l.eraseIdx i).length<=l.length
 |[],_=>Nat.le_refl _
 |_::_,0=>Nat.le_succ _
 |_::r,i+1=>Nat.succ_le_succ (f9 r i)
theorem f_(its:Vv):∀(k:Nat) (acc:Vv),
  List.foldl (fun x1 x2=>x1++x2) acc.toArray (List.replicate k its.toArray)=(acc++(List.replicate k its).flatten).toArray
 |0,acc=>by simp
 |k+1,acc=>by
  have e:acc.toArray++its.toArray=(acc++its).toArray:=by simp
  have e2:(acc++its)++(List.replicate k its).flatten=acc++(List.replicate (k+1) its).flatten:=by
   rw[List.replicate_succ,List.flatten_cons,List.append_assoc]
  rw[<-e2,<-f_ its k (acc++its),<-e,List.replicate_succ,List.foldl_cons]
section
variable {X:Cx} {pins:Va} {σ:St} {H:Hp} {s:Shared} {l b:Addr} {xs ys zs:List V}
def Inv.AT{its its':Vv}{n:Nat}{f:Array Value->Array Value}{t':Nat}(I:Inv X pins σ H s)(hH:H l=some (.lst xs))
  (e:s.heap.get? l=some { cls:=.type "list",data:=.seq its.toArray n }) (hf:f its.toArray=its'.toArray) (hv:Vals ys its') (hz:ys.length<=sizeLine) :
  Inv X pins σ (upd H l (.lst ys)) { s with heap:=s.heap.update l (Obj.mapSeq f),toks:=t' }:=by
 have q:=PySem.IsL.update e f
 rw[hf]at q
 refine I.write (x:=l) (e:=l) (by rw[hH];exact trivial) (.inl rfl) (fun b' u hb hu=>(Heap.get?_update_other s.heap (Obj.mapSeq f) (Ne.symm hb)).trans hu) ⟨_,q⟩ ?_
 exact⟨hz,its',_,hv,q⟩
def Inv.Bm{its:Vv}{t':Nat}(I:Inv X pins σ H s)(hv:Vals ys its)(hz:ys.length<=sizeLine) :
  Inv X pins σ (upd H s.heap.objs.size (.lst ys)) { s with heap:=s.heap.push { cls:=.type "list",data:=.seq its.toArray },toks:=t' }:=
 I.laid (fun _ _ q=>Heap.get?_push_of_some _ q) (Nat.le_refl _) ⟨hz,its,0,hv,Heap.get?_push_size _ rfl⟩
theorem Inv.fresh(I:Inv X pins σ H s):H s.heap.objs.size=none:=I.hok.fresh (Nat.le_refl _)
def Inv.zW(I:Inv X pins σ H s)(hH:H l=some (.lst xs)):xs.length<=sizeLine/\∃(its:Vv) (n:Nat),Vals xs its/\xs.length=its.length/\s.heap.get? l=some { cls:=.type "list",data:=.seq its.toArray n }:=by
 obtain⟨z,its,n,r,e⟩:=I.hok l _ hH
 exact⟨z,its,n,r,r.length,e⟩
def l5{n:Nat}(h:n<=sizeLine):Builtin.List.listTooLong n=false:=by
 unfold Builtin.List.listTooLong
 exact decide_eq_false (by omega)
end
section
variable {X:Cx}
noncomputable def oK:V->List V->Hp->VK->Prop:=fun x vs H Q=>∃l xs y,x = .ref l/\vs=[y]/\H l=some (.lst xs)/\xs.length < sizeLine/\Q .non (upd H l (.lst (xs++[y])))
def kP:vY X "list.append" oK:=by
 intro pins s σ H x vs v us Q I rx rv h
 obtain⟨l,xs,y,rfl,rfl,hH,hz,q⟩:=h
 cases rx
 obtain⟨u,rfl,ru⟩:=rv.one
 obtain⟨z,its,n,r,hl,e⟩:=I.zW hH
 refine call_meets F.slot_list_append ⟨_,e,rfl⟩ F.entry_list_append (F.args_list_append_2 _ _) (PySem.list_append l its.toArray n u (by rw[List.size_toArray];omega)) ⟨e,?_⟩
 refine⟨.non,_,I.AT (its':=its++[u]) hH e (by simp) (r.append (.cons ru .nil)) ?_,rfl,q⟩
 rw[List.length_append,List.length_singleton]
 omega
noncomputable def vZ:V->List V->Hp->VK->Prop:=fun x vs H Q=>∃l xs y,x = .ref l/\vs=[]/\H l=some (.lst xs)/\xs[xs.length - 1]?=some y/\Q y (upd H l (.lst xs.dropLast))
def rh:vY X "list.pop" vZ:=by
 intro pins s σ H x vs v us Q I rx rv h
 obtain⟨l,xs,y,rfl,rfl,hH,hy,q⟩:=h
 cases rx
 have Dd:=rv.zero
 subst Dd
 obtain⟨z,its,n,r,hl,e⟩:=I.zW hH
 obtain⟨u,hu,ru⟩:=r.get hy
 have hy':its.toArray[its.toArray.size - 1]?=some u:=by
  show its.toArray[its.length - 1]?=some u
  rw[<-Array.getElem?_toList,<-hl]
  exact hu
 refine call_meets F.slot_list_pop ⟨_,e,rfl⟩ F.entry_list_pop (F.args_list_pop_1 _) (MeetsSeq.list_pop_last l its.toArray n u hy' (by rw[List.size_toArray];omega)) ⟨e,?_⟩
 refine⟨y,_,I.AT (its':=its.dropLast) hH e ?_ r.dropLast ?_,ru,q⟩
 ·show its.toArray.eraseIdxIfInBounds (its.toArray.size - 1)=its.dropLast.toArray
  rw[List.size_toArray,List.eraseIdxIfInBounds_toArray,jl]
 ·rw[List.length_dropLast]
  omega
noncomputable def rj:V->List V->Hp->VK->Prop:=fun x vs H Q=>∃l xs i k y,x = .ref l/\vs=[.int i]/\H l=some (.lst xs)/\-(2 ^ 63)<=i/\i < 2 ^ 63/\seqIndex? i xs.length=some k/\xs[k]?=some y/\Q y (upd H l (.lst (xs.eraseIdx k)))
def l6:vY X "list.pop" rj:=by
 intro pins s σ H x vs v us Q I rx rv h
 obtain⟨l,xs,i,k,y,rfl,rfl,hH,h1,h2,hk,hy,q⟩:=h
 cases rx
 obtain⟨u,rfl,ru⟩:=rv.one
 obtain⟨t,rfl⟩:=ru
 obtain⟨z,its,n,r,hl,e⟩:=I.zW hH
 obtain⟨w,hw,rw'⟩:=r.get hy
 refine call_meets F.slot_list_pop ⟨_,e,rfl⟩ F.entry_list_pop (F.args_list_pop_2 _ _)
  (MeetsSeq.list_pop_at l its.toArray n i t k w (fitsIndex_both h1 h2) (by rw[List.size_toArray,<-hl];exact hk) (by rw[<-Array.getElem?_toList];exact hw) (by rw[List.size_toArray];omega)) ⟨e,?_⟩
 refine⟨y,_,I.AT (its':=its.eraseIdx k) hH e ?_ (r.eraseIdx k) ?_,rw',q⟩
 ·show its.toArray.eraseIdxIfInBounds k=(its.eraseIdx k).toArray
  rw[List.eraseIdxIfInBounds_toArray]
 ·have:=f9 xs k
  omega
def v4:R2:=fun x y H Q=>∃l b xs zs,x = .ref l/\y = .ref b/\H l=some (.lst xs)/\H b=some (.lst zs)/\xs.length+zs.length<=sizeLine/\∀p,H p=none->Q (.ref p) (upd H p (.lst (xs++zs)))
def rm:dF X (binaryOp .Add) v4:=by
 intro pins s σ H x y v u Q I rx ry h
 obtain⟨l,b,xs,zs,rfl,rfl,hH,hB,hz,q⟩:=h
 cases rx
 cases ry
 obtain⟨z,its,n,r,hl,e⟩:=I.zW hH
 obtain⟨z2,its2,n2,r2,hl2,e2⟩:=I.zW hB
 refine PySem.P.add_list e e2 ?_ (by rw[List.size_toArray,List.size_toArray];omega)
 have ea:its.toArray++its2.toArray=(its++its2).toArray:=by simp
 rw[ea]
 exact⟨.ref _,_,I.Bm (t':=s.toks) (r.append r2) (by rw[List.length_append];omega),rfl,q _ I.fresh⟩
def v5:R2:=fun x y H Q=>∃l k xs,x = .ref l/\y = .int k/\H l=some (.lst xs)/\-(2 ^ 63)<=k/\k < 2 ^ 63/\xs.length * k.toNat<=sizeLine/\
 ∀p,H p=none->Q (.ref p) (upd H p (.lst (List.replicate k.toNat xs).flatten))
def oM{α:Type}(xs:List α)(k:Nat):(List.replicate k xs).flatten.length=k * xs.length:=by
 induction k with
 |zero=>simp
 |succ k ih=>rw[List.replicate_succ,List.flatten_cons,List.length_append,ih,Nat.succ_mul,Nat.add_comm]
def rq:dF X (binaryOp .Mult) v5:=by
 intro pins s σ H x y v u Q I rx ry h
 obtain⟨l,k,xs,rfl,rfl,hH,h1,h2,hz,q⟩:=h
 cases rx
 obtain⟨t,rfl⟩:=ry
 obtain⟨z,its,n,r,hl,e⟩:=I.zW hH
 have hlen:its.toArray.size * k.toNat<=sizeLine:=by rw[List.size_toArray,<-hl];exact hz
 have hcap:¬its.toArray.size * k.toNat > (2 ^ 63 - 1) / 8:=by
  have:(sizeLine:Nat)<=(2 ^ 63 - 1) / 8:=by decide
  omega
 have hfit:¬(!Builtin.List.listFitsIndex k)=true:=by
  rw[fitsIndex_both h1 h2]
  exact Bool.false_ne_true
 have Bn:¬Builtin.List.listTooLong (its.toArray.size * k.toNat)=true:=by
  rw[l5 hlen]
  exact Bool.false_ne_true
 have hnew:List.foldl (fun x1 x2=>x1++x2) #[] (List.replicate (if its.toArray.isEmpty=true then 0 else k.toNat) its.toArray)=(List.replicate k.toNat its).flatten.toArray:=by
  have f0:∀m:Nat,List.foldl (fun x1 x2=>x1++x2) #[] (List.replicate m its.toArray)=(List.replicate m its).flatten.toArray:=fun m=>by
   have:=f_ its m []
   rw[List.nil_append]at this
   exact this
  rw[f0]
  cases its with
  |nil=>simp
  |cons a r'=>rw[if_neg (by simp)]
 refine wpAny_binaryOp_repeat_ref (T:="list") (U:="int") (by decide) ⟨_,e,rfl⟩ (fun s'=>typeIs_int s' k t) noFill_list_mul F.fills_int_mul F.slot_int_rmul repeat_list F.slot_int_index.lookup
  (call_meets F.slot_int_rmul (typeIs_int s k t) F.entry_int_rmul (F.args_int_rmul_2 _ _) (int___rmul___int_list k t l its.toArray n)
   ⟨e,rfl,⟨_,e,rfl⟩,call_meets F.slot_list_mul ⟨_,e,rfl⟩ F.entry_list_mul (F.args_list_mul_2 _ _) (AutoListH.list___mul___list_int_3 l its.toArray n k t hfit hcap Bn) ⟨e,?_⟩⟩)
 rw[hnew]
 exact⟨.ref _,_,I.Bm (t':=s.toks) (r.rep k.toNat) (by rw[oM,Nat.mul_comm];exact hz),rfl,q _ I.fresh⟩
end
section
variable {κ:Type} [DecidableEq κ]
noncomputable def d4(kvs:List (κ×V))(k:κ):Option V:=(kvs.find? fun kv=>decide (kv.1=k)).map (·.2)
noncomputable def cI(kvs:List (κ×V))(k:κ)(v:V):List (κ×V):=
 if (kvs.any fun kv=>decide (kv.1=k))=true then kvs.map (fun kv=>if kv.1=k then (kv.1,v) else kv) else kvs++[(k,v)]
def yk{p:κ×V}{r:List (κ×V)}{k:κ}(e:p.1=k):d4 (p::r) k=some p.2:=by simp[d4,List.find?_cons,e]
def ym{p:κ×V}{r:List (κ×V)}{k:κ}(e:¬p.1=k):d4 (p::r) k=d4 r k:=by simp[d4,List.find?_cons,e]
theorem fi(k:κ):∀kvs:List (κ×V),(kvs.any fun kv=>decide (kv.1=k))=(d4 kvs k).isSome
 |[]=>rfl
 |p::r=>by
  rw[List.any_cons]
  by_cases e:p.1=k
  ·simp only[yk e,decide_eq_true e,Bool.true_or,Option.isSome_some]
  ·rw[ym e,decide_eq_false e,Bool.false_or];exact fi k r
def cJ(kvs:List (κ×V))(k:κ)(v:V):(cI kvs k v).length<=kvs.length+1:=by
 unfold cI
 split
 ·rw[List.length_map];omega
 ·rw[List.length_append,List.length_cons,List.length_nil];omega
def yF.xY{o:Option V}{u:Option Value}(r:yF o u):o.isSome=u.isSome:=by
 cases o with
 |none=>cases u with
  |none=>rfl
  |some _=>exact(show False from r).elim
 |some _=>cases u with
  |none=>exact(show False from r).elim
  |some _=>rfl
def KV.val{kvs:List (κ×V)}{vs:List (κ×Value)}(r:KV kvs vs)(k:κ):yF (d4 kvs k) (valueAt vs k):=by
 unfold KV at r
 induction r with
 |nil=>exact True.intro
 |@cons p q ps qs h t ih=>
  obtain⟨h1,h2⟩:=h
  by_cases e:p.1=k
  ·have e':q.1=k:=h1.symm.trans e
   have b:valueAt (q::qs) k=some q.2:=by simp[valueAt,List.find?_cons,e']
   rw[yk e,b];exact h2
  ·have e':¬q.1=k:=fun z=>e (h1.trans z)
   have b:valueAt (q::qs) k=valueAt qs k:=by simp[valueAt,List.find?_cons,e']
   rw[ym e,b];exact ih
theorem KV.any{kvs:List (κ×V)}{vs:List (κ×Value)}(r:KV kvs vs)(k:κ):(kvs.any fun kv=>decide (kv.1=k))=vs.any fun kv=>decide (kv.1=k):=by
 unfold KV at r
 induction r with
 |nil=>rfl
 |cons h t ih=>rw[List.any_cons,List.any_cons,ih,h.1]
def KV.repl{kvs:List (κ×V)}{vs:List (κ×Value)}(r:KV kvs vs)(k:κ){y:V}{u:Value}(ry:RelV y u) :
  KV (kvs.map fun kv=>if kv.1=k then (kv.1,y) else kv) (vs.map fun kv=>if kv.1=k then (kv.1,u) else kv):=by
 unfold KV at r ⊢
 induction r with
 |nil=>exact .nil
 |@cons p q ps qs h t ih=>
  rw[List.map_cons,List.map_cons]
  refine .cons ?_ ih
  obtain⟨h1,h2⟩:=h
  by_cases e:p.1=k
  ·rw[if_pos e,if_pos (h1.symm.trans e)];exact⟨h1,ry⟩
  ·rw[if_neg e,if_neg (fun z=>e (h1.trans z))];exact⟨h1,h2⟩
def KV.put{kvs:List (κ×V)}{vs:List (κ×Value)}(r:KV kvs vs)(k:κ){y:V}{u:Value}(ry:RelV y u):KV (cI kvs k y) (stored vs k u):=by
 unfold cI stored
 rw[r.any k]
 by_cases e:(vs.any fun kv=>decide (kv.1=k))=true
 ·rw[if_pos e,if_pos e];exact r.repl k ry
 ·rw[if_neg e,if_neg e];exact Paired.snoc r ⟨rfl,ry⟩
theorem KV.length{kvs:List (κ×V)}{vs:List (κ×Value)}(r:KV kvs vs):kvs.length=vs.length:=Paired.length r
end
def gb{P:Program}{w:World}{k:aS}{u:Value}(r:RelV (kV k) u):(aK P w).is k u=true:=by
 cases k with
 |inl i=>obtain⟨t,e⟩:=(show ∃t,u=Value.int i t from r);subst e;exact il P w i t
 |inr x=>obtain⟨t,e⟩:=(show ∃t,u=Value.str x t from r);subst e;exact im P w x t
theorem gc{P:Program}{w:World}:∀{ks:List aS} {us:Vv},Vals (ks.map kV) us->ItemsAre (aK P w) ks us
 |[],_,r=>by rw[List.map_nil]at r;cases r;exact .nil
 |k::ks,_,r=>by
  rw[List.map_cons]at r
  cases r with
  |cons h t=>exact .cons (gb h) (gc t)
noncomputable abbrev KT(H:Hp):List (List aS×V)->List (List aS×Addr×Value)->Prop:=Paired fun p q=>p.1=q.1/\H q.2.1=some (.tup (p.1.map kV))/\RelV p.2 q.2.2
def KT.val{H:Hp}{kvs:List (List aS×V)}{xs:List (List aS×Addr×Value)}(r:KT H kvs xs)(k:List aS):yF (d4 kvs k) ((atKey xs k).map (·.2)):=by
 induction r with
 |nil=>exact True.intro
 |@cons p q ps qs h t ih=>
  obtain⟨h1,_,h2⟩:=h
  by_cases e:p.1=k
  ·have e':q.1=k:=h1.symm.trans e
   have b:atKey (q::qs) k=some q.2:=by simp[atKey,List.find?_cons,e']
   rw[yk e,b];exact h2
  ·have e':¬q.1=k:=fun z=>e (h1.trans z)
   have b:atKey (q::qs) k=atKey qs k:=by simp[atKey,List.find?_cons,e']
   rw[ym e,b];exact ih
def KT.repl{H:Hp}{kvs:List (List aS×V)}{xs:List (List aS×Addr×Value)}(r:KT H kvs xs)(k:List aS){y:V}{u:Value}(ry:RelV y u) :
  KT H (kvs.map fun kv=>if kv.1=k then (kv.1,y) else kv) (xs.map (putAt k u)):=by
 induction r with
 |nil=>exact .nil
 |@cons p q ps qs h t ih=>
  rw[List.map_cons,List.map_cons]
  refine .cons ?_ ih
  obtain⟨h1,h2,h3⟩:=h
  unfold putAt
  by_cases e:p.1=k
  ·rw[if_pos e,if_pos (h1.symm.trans e)];exact⟨h1,h2,ry⟩
  ·rw[if_neg e,if_neg (fun z=>e (h1.trans z))];exact⟨h1,h2,h3⟩
def KT.put{H:Hp}{kvs:List (List aS×V)}{xs:List (List aS×Addr×Value)}(r:KT H kvs xs)(k:List aS){b:Addr}{y:V}{u:Value}(hb:H b=some (.tup (k.map kV)))(ry:RelV y u) :
  KT H (cI kvs k y) (storedH xs k b u):=by
 have e:(kvs.any fun kv=>decide (kv.1=k))=(atKey xs k).isSome:=by
  rw[fi,(r.val k).xY,Option.isSome_map]
 unfold cI storedH
 rw[e]
 by_cases q:(atKey xs k).isSome=true
 ·rw[if_pos q,if_pos q];exact r.repl k ry
 ·rw[if_neg q,if_neg q];exact Paired.snoc r ⟨rfl,hb,ry⟩
def KT.keeps{H H':Hp}{kvs:List (List aS×V)}{xs:List (List aS×Addr×Value)}(r:KT H kvs xs)(ht:∀b ys,H b=some (.tup ys)->H' b=some (.tup ys)):KT H' kvs xs:=
 Paired.AL r fun _ _ z=>⟨z.1,ht _ _ z.2.1,z.2.2⟩
section
variable {P:Program} {w:World} {H:Hp} {h:Heap} {a:Addr}
def pX{u:HO}(ok:yg P w H h)(e:Rd H a u):xv P w H h a u:=e.ok ok
def gf{kvs:List (aS×V)}(ok:yg P w H h)(e:Rd H a (.dK kvs)):kvs.length<=sizeLine/\(a == sysModules)=false/\∃vs,KV kvs vs/\h.DictOf (aK P w) a vs:=
 show xv P w H h a (.dK kvs)from pX ok e
def pY{kvs:List (aS×V)}(ok:yg P w H h)(e:H a=some (.dK kvs)):kvs.length<=sizeLine/\(a == sysModules)=false/\∃vs,KV kvs vs/\h.DictOf (aK P w) a vs:=gf ok (.inl e)
def cj{ks:List aS}(ok:yg P w H h)(e:H a=some (.tup (ks.map kV))):(tupleKind (aK P w)).is h ks a:=by
 obtain⟨_,its,r,o,h1,_,h2,n,h3⟩:=(show xv P w H h a (.tup (ks.map kV))from ok a _ e)
 exact⟨o,its.toArray,n,h1,h2,h3,by simpa using gc r⟩
def iu{kvs:List (List aS×V)}(ok:yg P w H h)(e:Rd H a (.dT kvs)):kvs.length<=sizeLine/\(a == sysModules)=false/\
  ∃xs,KT H kvs xs/\h.DictOfH (tupleKind (aK P w)) a xs:=by
 obtain⟨z,y,xs,r,o,es,ep,h1,h2,h3,h4,h5⟩:=(show xv P w H h a (.dT kvs)from pX ok e)
 refine⟨z,y,xs,r,o,es,ep,h1,h2,h3,h4,fun x hx=>?_,h5⟩
 have all:∀{l:List (List aS×V)} {m:List (List aS×Addr×Value)},KT H l m->∀x∈m,(tupleKind (aK P w)).is h x.1 x.2.1:=by
  intro l m q
  induction q with
  |nil=>intro x hx;exact nomatch hx
  |@cons p q ps qs hq t ih=>
   intro x hx
   rcases List.mem_cons.mp hx with e|hx
   ·subst e
    exact cj ok (by rw[<-hq.1];exact hq.2.1)
   ·exact ih x hx
 exact all r x hx
def ur{kvs:List (List aS×V)}(ok:yg P w H h)(e:H a=some (.dT kvs)):kvs.length<=sizeLine/\(a == sysModules)=false/\
  ∃xs,KT H kvs xs/\h.DictOfH (tupleKind (aK P w)) a xs:=iu ok (.inl e)
end
def DGet(H:Hp)(a:Addr)(y:V)(r:Option V):Prop:=
 (∃kvs k,Rd H a (.dK kvs)/\y=kV k/\r=d4 kvs k)\/∃kvs k b,Rd H a (.dT kvs)/\y = .ref b/\H b=some (.tup (k.map kV))/\r=d4 kvs k
def Ad(H:Hp)(a:Addr)(y v:V)(H':Hp):Prop:=
 (∃kvs k,H a=some (.dK kvs)/\y=kV k/\kvs.length < sizeLine/\H'=upd H a (.dK (cI kvs k v))) \/
 ∃kvs k b,H a=some (.dT kvs)/\y = .ref b/\H b=some (.tup (k.map kV))/\kvs.length < sizeLine/\H'=upd H a (.dT (cI kvs k v))
theorem DGet.k{H:Hp}{a:Addr}{kvs:List (aS×V)}{k:aS}(e:H a=some (.dK kvs)):DGet H a (kV k) (d4 kvs k):=.inl ⟨kvs,k,.inl e,rfl,rfl⟩
theorem Ad.k{H:Hp}{a:Addr}{kvs:List (aS×V)}{k:aS}{v:V}(e:H a=some (.dK kvs))(hl:kvs.length < sizeLine):Ad H a (kV k) v (upd H a (.dK (cI kvs k v))):=.inl ⟨kvs,k,e,rfl,hl,rfl⟩
section
variable {X:Cx} {pins:Va} {σ:St} {H:Hp} {s:Shared} {a:Addr} {y v:V} {u r:Value} {o:Option V} {A:Around} {E:Vq}
def Inv.big(I:Inv X pins σ H s):sysModules < s.heap.objs.size:=by
 have h:mainGlobals < s.heap.objs.size:=(I.mod.glob.keeps I.bk).lt
 exact Nat.lt_trans (by decide) h
def kQ{Q:Vq}(hu:A.units+1 < cLine)(I:Inv X pins σ H s)(g:DGet H a y (some v))(ry:RelV y u)(h:∀w' s',Inv X pins σ H s'->RelV v w'->Q w' s') :
  wpAny (model X.prog X.w) A (getItem (.ref a) u) Q E s:=by
 rcases g with⟨kvs,k,e,ey,l⟩|⟨kvs,k,b,e,ey,eb,l⟩
 ·subst ey
  obtain⟨z,hd,vs,rel,dd⟩:=gf I.hok e
  obtain⟨w',hw,rw'⟩:=yF.some_of (v:=v) (o:=valueAt vs k) (by rw[l];exact rel.val k)
  exact wpAny_getItem_of (gb ry) dd.mapOf hw (h w' _ (I.tok _) rw')
 ·subst ey
  cases (show u=Value.ref b from ry)
  obtain⟨z,hd,xs,rel,dd⟩:=iu I.hok e
  obtain⟨w',hw,rw'⟩:=yF.some_of (v:=v) (o:=(atKey xs k).map (·.2)) (by rw[l];exact rel.val k)
  obtain⟨p,hp,hp2⟩:=Option.map_eq_some_iff.mp hw
  refine wpAny_getItem_heap (tupleKind_room_in1 hu) (cj I.hok eb) dd hp ?_
  rw[hp2]
  exact h w' _ (I.tok _) rw'
def ut{Q:Vq}(hu:A.units+1 < cLine)(I:Inv X pins σ H s)(g:DGet H a y o)(ry:RelV y u)(h:∀s',Inv X pins σ H s'->Q (.bool o.isSome) s') :
  wpAny (model X.prog X.w) A (compareOp .In u (.ref a)) Q E s:=by
 rcases g with⟨kvs,k,e,ey,l⟩|⟨kvs,k,b,e,ey,eb,l⟩
 ·subst ey
  obtain⟨z,hd,vs,rel,dd⟩:=gf I.hok e
  refine wpAny_in_of (gb ry) hd dd.mapOf ?_
  rw[<-(rel.val k).xY,<-l]
  exact h _ (I.tok _)
 ·subst ey
  cases (show u=Value.ref b from ry)
  obtain⟨z,hd,xs,rel,dd⟩:=iu I.hok e
  refine wpAny_in_heap (tupleKind_room_in1 hu) (cj I.hok eb) hd dd ?_
  have q:=(rel.val k).xY
  rw[Option.isSome_map]at q
  rw[<-q,<-l]
  exact h _ (I.tok _)
def j1{Q:Vq}(hu:A.units+1 < cLine)(I:Inv X pins σ H s)(g:DGet H a y o)(ry:RelV y u)(h:∀s',Inv X pins σ H s'->Q (.bool (!o.isSome)) s') :
  wpAny (model X.prog X.w) A (compareOp .NotIn u (.ref a)) Q E s:=by
 rcases g with⟨kvs,k,e,ey,l⟩|⟨kvs,k,b,e,ey,eb,l⟩
 ·subst ey
  obtain⟨z,hd,vs,rel,dd⟩:=gf I.hok e
  refine wpAny_notIn_of (gb ry) hd dd.mapOf ?_
  rw[<-(rel.val k).xY,<-l]
  exact h _ (I.tok _)
 ·subst ey
  cases (show u=Value.ref b from ry)
  obtain⟨z,hd,xs,rel,dd⟩:=iu I.hok e
  refine wpAny_notIn_heap (tupleKind_room_in1 hu) (cj I.hok eb) hd dd ?_
  have q:=(rel.val k).xY
  rw[Option.isSome_map]at q
  rw[<-q,<-l]
  exact h _ (I.tok _)
def gT{h':Heap}{t':Nat}{ob:HO}(I:Inv X pins σ H s)(mu:tR (H a))(hs:Heap.SameBut a s.heap h')(he:∃q,h'.get? a=some q)(new:xv X.prog X.w (upd H a ob) h' a ob) :
  Inv X pins σ (upd H a ob) { s with heap:=h',toks:=t' }:=
 I.write (x:=a) (e:=a) mu (.inl rfl) (fun b q hb z=>(hs.2 b hb).trans z) he new
def l7{P:Program}{w:World}{H':Hp}{h':Heap}{kvs:List (aS×V)}{vs:List (aS×Value)}(z:kvs.length<=sizeLine)(hd:(a == sysModules)=false)(rel:KV kvs vs)(dd:h'.DictOf (aK P w) a vs) :
  xv P w H' h' a (.dK kvs):=⟨z,hd,vs,rel,dd⟩
def kR{H':Hp}{Q:Unit->Shared->Prop}(hu:A.units+1 < cLine)(I:Inv X pins σ H s)(g:Ad H a y v H')(ry:RelV y u)(rv:RelV v r)(h:∀s',Inv X pins σ H' s'->Q () s') :
  wpAny (model X.prog X.w) A (setItem (.ref a) u r) Q E s:=by
 rcases g with⟨kvs,k,e,ey,l,eH⟩|⟨kvs,k,b,e,ey,eb,l,eH⟩
 ·subst ey eH
  obtain⟨z,hd,vs,rel,dd⟩:=pY I.hok e
  have hz:vs.length<=sizeLine:=by rw[<-rel.length];exact z
  have hl:(cI kvs k v).length<=sizeLine:=by have:=cJ kvs k v;omega
  refine wpAny_setItem_pairs (hsz:=hz) (gb ry) dd fun h' AU hs=>h _ ?_
  have he:∃q,h'.get? a=some q:=let ⟨q,_,_,hq,_⟩:=AU;⟨q,hq⟩
  exact gT I (by rw[e];exact True.intro) hs he (l7 hl hd (rel.put k rv) AU)
 ·subst ey eH
  cases (show u=Value.ref b from ry)
  obtain⟨z,hd,xs,rel,dd⟩:=ur I.hok e
  have hz:xs.length<=sizeLine:=by rw[<-Paired.length rel];exact z
  have hl:(cI kvs k v).length<=sizeLine:=by have:=cJ kvs k v;omega
  refine wpAny_setItem_heap (hsz:=hz) (tupleKind_room_in1 hu) (cj I.hok eb) dd fun h' AU hs=>h _ ?_
  obtain⟨q,es,ep,hq,h2,h3,h4,_,h5⟩:=AU
  refine gT I (by rw[e];exact True.intro) hs ⟨q,hq⟩ ⟨hl,hd,_,(rel.put k eb rv).keeps fun c ys ec=>?_,q,es,ep,hq,h2,h3,h4,h5⟩
  rw[ae (tQ ec e (fun z=>nomatch z))]
  exact ec
end
section
variable {X:Cx} {pins:Va} {σ:St} {H:Hp} {s:Shared} {a:Addr} {kvs:List (aS×V)} {k:aS} {u:Value} {A:Around} {E:Vq}
def uu{Q:Vq}(I:Inv X pins σ H s)(e:Rd H a (.dK kvs))(h:∀t s',Inv X pins σ H s'->Q (.int kvs.length t) s'):wpAny (model X.prog X.w) A (call (.builtin "len") [.ref a]) Q E s:=by
 obtain⟨z,hd,vs,rel,dd⟩:=gf I.hok e
 refine call_len_dict hd dd (by rw[<-rel.length];rw[sizeLine_eq]at z;omega) ?_
 rw[<-rel.length]
 exact h _ _ (I.tok _)
end
def iw{X:Cx}{pins:Va}{σ:St}{H:Hp}{s:Shared}{a:Addr}{y:V}{o:Option V}(I:Inv X pins σ H s)(g:DGet H a y o):s.TypeIs (.ref a) "dict":=by
 rcases g with⟨kvs,k,e,_,_⟩|⟨kvs,k,b,e,_,_,_⟩
 ·obtain⟨_,_,vs,_,dd⟩:=gf I.hok e
  exact dd.typeIs
 ·obtain⟨_,_,xs,_,dd⟩:=iu I.hok e
  exact dd.typeIs
def l9{P:Program}{w:World}{H:Hp}(h:Heap)(hb:sysModules < h.objs.size):xv P w H (h.push { cls:=.type "dict",data:=.dict #[] }) h.objs.size (.dK []):=
 ⟨Nat.zero_le _,beq_eq_false_iff_ne.mpr (Ne.symm (Nat.ne_of_lt hb)),[],.nil,Heap.DictOf.new h⟩
noncomputable def gU:List (TE×TE)->St->Hp->(List (V×V)->Hp->Prop)->Prop
 |[],_,H,Q=>Q [] H
 |(tk,tv)::r,σ,H,Q=>tk σ H fun x H1=>tv σ H1 fun y H2=>gU r σ H2 fun ps H3=>Q ((x,y)::ps) H3
noncomputable abbrev VV:List (V×V)->List (Value×Value)->Prop:=Paired fun p q=>RelV p.1 q.1/\RelV p.2 q.2
def uv(X:Cx)(pos:Pos)(keys:List (Option Expr))(values:List Expr)(yT:List (TE×TE)):Prop:=
 ∀(pins:Va) (s:Shared) (σ:St) (H:Hp) (Q:List (V×V)->Hp->Prop),Inv X pins σ H s->gU yT σ H Q->
  wpAny (model X.prog X.w) X.A (evalPairs (pairTrees keys values X.env pos)) (fun vs s'=>∃ps H',Inv X pins σ H' s'/\VV ps vs/\Q ps H') X.xe s
def oN{X:Cx}{pos:Pos}:uv X pos [] [] []:=fun pins s σ H Q I h=>pairTrees_nil_walk ⟨[],H,I,.nil,h⟩
def l_{X:Cx}{pos:Pos}{k v:Expr}{ks:List (Option Expr)}{vs:List Expr}{tk tv:TE}{yT:List (TE×TE)}(hk:PE X k tk)(hv:PE X v tv)(hr:uv X pos ks vs yT) :
  uv X pos (some k::ks) (v::vs) ((tk,tv)::yT):=fun pins s σ H Q I h=>
 pairTrees_cons_walk (aL (hk pins s σ H _ I h) fun u s1 ⟨x,H1,I1,rx,q1⟩=>aL (hv pins s1 σ H1 _ I1 q1) fun w2 s2 ⟨y,H2,I2,ry,q2⟩=>
  aL (hr pins s2 σ H2 _ I2 q2) fun ws s3 ⟨ps,H3,I3,rel,q3⟩=>⟨(x,y)::ps,H3,I3,.cons ⟨rx,ry⟩ rel,q3⟩)
noncomputable def d5(kvs more:List (aS×V)):List (aS×V):=more.foldl (fun acc kv=>cI acc kv.1 kv.2) kvs
def KV.merge:∀{more:List (aS×V)} {rs:List (aS×Value)} {kvs:List (aS×V)} {vs:List (aS×Value)},KV more rs->KV kvs vs->KV (d5 kvs more) (merged vs rs):=by
 intro more rs kvs vs r
 unfold KV at r
 induction r generalizing kvs vs with
 |nil=>intro q;exact q
 |@cons p q ps qs h t ih=>
  intro r0
  have e:KV (cI kvs p.1 p.2) (stored vs q.1 q.2):=by
   have:=r0.put p.1 h.2
   rw[<-h.1];exact this
  exact ih e
theorem dk:∀(more kvs:List (aS×V)),(d5 kvs more).length<=kvs.length+more.length
 |[],kvs=>by show kvs.length<=kvs.length+0;omega
 |p::r,kvs=>by
  have h1:=dk r (cI kvs p.1 p.2)
  have h2:=cJ kvs p.1 p.2
  show(d5 (cI kvs p.1 p.2) r).length<=_
  rw[List.length_cons];omega
theorem fj{P:Program}{w:World}:∀{kvs:List (aS×V)} {ws:List (Value×Value)},VV (kvs.map fun kv=>(kV kv.1,kv.2)) ws->∃rs,Carries (aK P w) ws rs/\KV kvs rs
 |[],_,r=>by rw[List.map_nil]at r;cases r;exact⟨[],True.intro,.nil⟩
 |p::kvs,_,r=>by
  rw[List.map_cons]at r
  cases r with
  |@cons a b as bs h t=>
   obtain⟨rs,c,q⟩:=fj (P:=P) (w:=w) t
   obtain⟨b1,b2⟩:=b
   exact⟨(p.1,b2)::rs,⟨gb h.1,rfl,c⟩,.cons ⟨rfl,h.2⟩ q⟩
def uw(yT:List (TE×TE)):TE:=fun σ H Q=>∀p,H p=none->gU yT σ (upd H p (.dK [])) fun ps H2=>H2 p=some (.dK [])/\∃kvs:List (aS×V),ps=kvs.map (fun kv=>(kV kv.1,kv.2))/\kvs.length<=15/\Q (.ref p) (upd H2 p (.dK (d5 [] kvs)))
def oO{X:Cx}{pos:Pos}{keys:List (Option Expr)}{values:List Expr}{yT:List (TE×TE)}(h:uv X pos keys values yT)(hall:keys.all (·.isSome)=true)(hl:keys.length=values.length)(h0:keys≠[])
  (B9:keys.length<=15):PE X (.Dict keys values pos) (uw yT):=by
 intro pins s σ H Q I q
 have hn:=I.hok.fresh (Nat.le_refl s.heap.objs.size)
 have I1:=I.laid (a:=s.heap.objs.size) (o:=.dK []) (h':=s.heap.push { cls:=.type "dict",data:=.dict #[] }) (t':=s.toks) (fun _ _ q=>Heap.get?_push_of_some _ q) (Nat.le_refl _) (l9 s.heap I.big)
 refine wpAny_Dict_walk (knd:=aK X.prog X.w) hall hl h0 B9 (aL (h pins _ σ _ _ I1 (q _ hn)) fun ws s2 ⟨ps,H2,I2,rel,e,kvs,ep,lk,q2⟩=>?_)
 subst ep
 obtain⟨rs,c,rk⟩:=fj (P:=X.prog) (w:=X.w) rel
 obtain⟨z,hd,vs0,r0,dd⟩:=pY I2.hok e
 cases r0
 refine⟨rs,c,dd,fun h' AU hs=>⟨.ref s.heap.objs.size,_,?_,rfl,q2⟩⟩
 have hz:(d5 [] kvs).length<=sizeLine:=by
  have h1:=dk kvs []
  rw[List.length_nil]at h1
  rw[sizeLine_eq];omega
 have he:∃q,h'.get? s.heap.objs.size=some q:=let ⟨q,_,_,hq,_⟩:=AU;⟨q,hq⟩
 exact gT I2 (by rw[e];exact True.intro) hs he (l7 hz hd (rk.merge .nil) AU)
end L2
namespace Att
open PySem PySem.W PySem.Calls PyProof.Rows
def eR{P:Params}{h:Heap}:∀(ns:Vu) (vs:Vv),WellAll P h vs (ns.map WData.int)->IntsAre vs ns:=by
 intro ns
 induction ns with
 |nil=>
  intro vs w
  rw[List.map_nil]at w
  cases w
  exact .nil
 |cons n ns ih=>
  intro vs w
  rw[List.map_cons]at w
  cases w with
  |cons a b=>
   cases a
   exact .cons _ _ (ih _ b)
def kS{l:OpenLaw}{n:Nat}(hn:l.most=some n){P:Params}{h:Heap}{args:List WData}{vals:Vv}
  (hpre:l.row.toRowW.claim.pre args=true) (hwl:WellAll P h vals args) :
  ∃a vs ns,vals=[Value.ref a]/\args=[WData.list (ns.map WData.int)]/\h.get? a=some { cls:=.type "list",data:=.seq vs.toArray }/\IntsAre vs ns/\ns.length<=n:=by
 have hsh:WShape.hasAll [] args [.list .int]=true:=(pre_splitW hpre).1
 have hc:l.pre.holds [] { args:=args }=true:=(pre_splitW hpre).2
 obtain⟨d,r,rfl,h1,h2⟩:=hasAllW_cons hsh
 obtain rfl:=hasAllW_nil h2
 obtain⟨xs,rfl,h3⟩:=hasW_list h1
 obtain⟨ns,rfl⟩:=items_int h3
 have hlen:ns.length<=n:=by
  unfold OpenLaw.pre at hc
  have h4:(WTm.not (.lt (.lit (.int (n:Int))) (.len (.arg 0)))).holds [] { args:=[.list (ns.map .int)] }=true:=by
   have h4:=(holds_andW hc).1
   rw[hn]at h4
   exact h4
  have h5:=condW_of h4 (w_not (w_lt w_lit (w_len_list (w_arg rfl))))
  rw[List.length_map]at h5
  refine Nat.le_of_not_lt fun q=>?_
  have q':(n:Int) < ((ns.length:Nat):Int):=by omega
  first
   |(rw[decide_eq_true q']at h5;exact absurd h5 (by decide))
   |(simp at h5;omega)
 cases hwl with
 |cons w1 w2=>
  cases w2
  cases w1 with
  |list ho hall=>exact⟨_,_,ns,rfl,rfl,ho,eR ns _ hall,hlen⟩
def kT(l:OpenLaw)(args:List WData):l.row.toRowW.claim.post args (.bool true) args=true:=
 postW_of (r:=l.row.toRowW) (X:=(true == true))
  (show WShape.has [] (.bool true) .bool=true by first|rfl|decide|simp[WShape.has,WShape.arms,WShape.armsAll])
  (show(WTm.eq .res (.lit (.bool true))).value [] { args:=args,res:=some (.bool true),after:=args }=some (.bool (true == true))from w_eq_bool (w_res rfl) w_lit) rfl
def ix{l:OpenLaw}{n:Nat}{q:Program}{loose:Vs}{XP:(Vr)->Heap->Prop}{YP:World->Heap->Prop}{d:DefRec}
  (hn:l.most=some n) (hdf:d.params.defaults=[])
  (call:∀(w:World) (s₀ s₁:Shared) (mg mb:Vr) (fa:Addr) (o:Obj) (pm cd doc:Value) (a:Addr) (vs:Vv) (ns:Vu),
   Ground q loose [] XP w s₀ mg mb s₁.heap->YP w s₁.heap->
   s₁.heap.get? fa=some o->o.data = .func (docDef d.name d.params d.body d.scope pm cd doc)->s₁.heap.CodeRec cd d.name->mg d.name=some (.ref fa)->
   s₁.heap.get? a=some { cls:=.type "list",data:=.seq vs.toArray }->IntsAre vs ns->ns.length<=n->s₁.gens=#[]->
   codeAny (model l.prog w) callerA (.call (.ref fa) ⟨[.ref a],[]⟩) (fun r s'=>r = .ok (.ret (.bool true))/\OldK s₁.heap s'.heap/\s'.os=s₁.os/\AllBare s'.gens) s₁) :
  WalkO q loose XP YP l.row.toRowW d [] (fun f vs=>PySem.call f vs):=by
 intro w s₀ s₁ mg mb G Y fa o pm cd doc dV kV ho hd hcd hD hmg hg args vals as hpre hlay hrd hwl hlo
 obtain rfl:dV = .none:=Dflts.none hD hdf
 obtain rfl:kV = .none:=Dflts.noKw hD
 obtain⟨a,vs,ns,rfl,rfl,hobj,hints,hlen⟩:=kS hn hpre hwl
 refine enter_call (codeAny_mono (call w s₀ s₁ mg mb fa o pm cd doc a vs ns G Y ho (fd_plain hd) hcd hmg hobj hints hlen hg) fun r s' hq=>?_)
 obtain⟨rfl,h2,h3,h4⟩:=hq
 exact⟨.inl ⟨.bool true,.bool true,[],rfl,fun _=>rfl,.bool true,kT l _,fun _=>⟨List.Pairwise.nil,fun _ hm=>(nomatch hm)⟩⟩,h2,h3,h4⟩
end Att
namespace L2
open PySem PySem.Spec PyProof.Rows
theorem gg:∀{vs:Vv} {ns:Vu},IntsAre vs ns->Vals (ns.map V.int) vs
 |_,_,.nil=>.nil
 |_,_,.cons n t h=>.cons ⟨t,rfl⟩ (gg h)
def oP(H:Hp):Prop:=∀b,H b=none\/∃o xs,H b=some (.frz o (.lst xs))
def ma{P:Program}{w:World}{K:Vo}{mg mb:Vr}{CX:lV}{k:Nat}{fa a:Addr}{fd:FuncData}{x:Str}{sp:Sp}{s₁:Shared}{vs:Vv}{ns:Vu}
  (KX:K.In s₁.heap) (hns:s₁.heap.Ns mainGlobals mg) (hb:s₁.heap.Ns builtinsNs mb) (De:∀x:Str,x ≠ "__name__"->mb x=bootBuiltins x) (hlim:s₁.heap.NoLimit) (hg:s₁.gens=#[])
  (ha:s₁.heap.get? a=some { cls:=.type "list",data:=.seq vs.toArray }) (hi:IntsAre vs ns) (hl:ns.length<=sizeLine) (hr:Room k callerA)
  (F:∀base:Heap,K.In base->base.Ns mainGlobals mg->cG P w K mg base CX k fa fd [x] sp) (hbind:∀(s:Shared) (u:Value),BindsTo s fd ⟨[u],[]⟩ [(x,u)])
  (AD:∀H:Hp,oP H->SqL K H a (ns.map V.int)->sp [.ref a] H (fun v _=>v = .bl true) fun _ _ _=>False)
  (B_:∀H e s',CX [] H s₁ (fun _ _ _=>False) e s'->False) :
  codeAny (model P w) callerA (.call (.ref fa) ⟨[.ref a],[]⟩) (fun r s'=>r = .ok (.ret (.bool true))/\OldK s₁.heap s'.heap/\s'.os=s₁.os/\AllBare s'.gens) s₁:=by
 have rv:=gg hi
 have Ca:=hi.length
 -- from an abstract heap in which nothing but the script may be tracked
 have core:∀H:Hp,oP H->SqL K H a (ns.map V.int)->yg P w H s₁.heap->(∀b,H b≠none->b=a)->(H a≠none->K.lookup a=none)->
   codeAny (model P w) callerA (.call (.ref fa) ⟨[.ref a],[]⟩) (fun r s'=>r = .ok (.ret (.bool true))/\OldK s₁.heap s'.heap/\s'.os=s₁.os/\AllBare s'.gens) s₁:=by
  intro H hO hS hok hA hK
  have zQ:∀{b:Addr} {o:Obj},s₁.heap.get? b=some o->H b=none->(gL s₁.heap H).get? b=some o:=fun e n=>lL e n
  have Bl:∀{b:Addr} {o:Obj} {es:Array DictEntry} {ep:Nat},s₁.heap.get? b=some o->o.data = .dict es ep->H b=none:=fun{b o es ep} e d=>by
   cases q:H b with
   |none=>rfl
   |some u=>
    have e':b=a:=hA b (by rw[q];simp)
    subst e'
    rw[ha]at e;cases e
    have d':Data.seq vs.toArray _=Data.dict es ep:=d
    cases d'
  have BN:∀{b:Addr} {m:Vr},s₁.heap.Ns b m->(gL s₁.heap H).Ns b m:=fun{b m} ⟨o,es,ep,e,d,r⟩=>⟨o,es,ep,zQ e (Bl e d),d,r⟩
  have CF:K.In (gL s₁.heap H):=fun b o e=>zQ (KX b o e) (by
   cases q:H b with
   |none=>rfl
   |some u=>
    have e':b=a:=hA b (by rw[q];simp)
    subst e'
    rw[hK (by rw[q];simp)]at e;cases e)
  have hM:Mod K mg (gL s₁.heap H):=⟨CF,BN hns,⟨mb,BN hb,De⟩,let ⟨mc,h1,h2⟩:=hlim;⟨mc,BN h1,h2⟩⟩
  have e0:zE P w K mg (gL s₁.heap H) callerA [] s₁ H:=⟨rfl,hM,fun b o e=>oi e,Nat.le_of_eq (kD _ _),trivial,fun b hb=>absurd (show b∈([]:List Addr)from hb) (by simp),hok,.of_eq hg⟩
  refine codeAny_mono ((F _ CF (BN hns)).run callerA [] s₁ H ⟨[.ref a],[]⟩ [.ref a] [.ref a] _ _ hr e0 (hbind s₁ (.ref a)) (.cons rfl .nil) (AD H hO hS)) fun r s' h=>?_
  cases r with
  |error e=>exact(B_ H e s' h).elim
  |ok fl=>
   cases fl with
   |next=>exact False.elim h
   |brk=>exact False.elim h
   |cont=>exact False.elim h
   |ret u=>
    obtain⟨v,H',os,bare,un,Cb,r',q⟩:=h
    have q':v = .bl true:=q
    subst q'
    obtain rfl:u=Value.bool true:=r'
    refine⟨rfl,OldK.of_keep fun b o e=>?_,os,bare⟩
    cases q:H b with
    |none=>exact un.keep b o e q (by intro z;exact absurd (show b∈([]:List Addr)from z) (by simp)) (by simp)
    |some u=>
     rcases hO b with z|⟨ob,xs,z⟩
     ·rw[q]at z;cases z
     ·have z2:=un.y6 b ob _ z
      obtain⟨e1,_⟩:=hok b _ z
      obtain⟨e2,_⟩:=Cb b _ z2
      rw[e]at e1;cases e1
      exact e2
 cases hk:K.lookup a with
 |some o=>
  -- the script is one of the module's own objects
  have e:=KX a o hk
  rw[ha]at e
  cases e
  refine core (fun _=>none) (fun _=>.inl rfl) (.inr ⟨_,vs.toArray,_,hk,rfl,rfl,rfl,by rw[List.size_toArray,Ca];exact hl,by simpa using rv⟩) (fun b u z=>by have z':(none:Option HO)=some u:=z;cases z') (fun b z=>absurd rfl z) fun z=>absurd rfl z
 |none=>
  refine core (fun b=>if b=a then some (.frz { cls:=.type "list",data:=.seq vs.toArray } (.lst (ns.map V.int))) else none) (fun b=>?_) (.inl (.inr ⟨{ cls:=.type "list",data:=.seq vs.toArray },if_pos rfl⟩)) (fun b u z=>?_) (fun b z=>?_) fun _=>hk
  ·by_cases hb:b=a
   ·exact .inr ⟨_,_,if_pos hb⟩
   ·exact .inl (if_neg hb)
  ·by_cases hb:b=a
   ·have z':=(if_pos hb).symm.trans z
    cases z'
    subst hb
    exact⟨ha,by rw[List.length_map];exact hl,vs,_,rv,ha⟩
   ·have z':=(if_neg hb).symm.trans z
    cases z'
  ·by_cases hb:b=a
   ·exact hb
   ·exact absurd (if_neg hb) z
def oQ{l:PySem.W.OpenLaw}{n k:Nat}{q:Program}{loose:Vs}{XP:(Vr)->Heap->Prop}{YP:World->Heap->Prop}{d:DefRec}{K:Params->PySem.W.Frag}{CX:World->lV}{sp:World->Sp}{x:Str}
  (hn:l.most=some n) (hn2:n<=sizeLine) (hdf:d.params.defaults=[]) (hr:Room k callerA)
  (hY:∀(w:World) (h:Heap),YP w h->(K w.params).In h)
  (F:∀(w:World) (mg:Vr) (fa:Addr) (h:Heap),(K w.params).In h->h.Ns mainGlobals mg->mg d.name=some (.ref fa)->
   ∃fd:FuncData,(∀(s:Shared) (u:Value),BindsTo s fd ⟨[u],[]⟩ [(x,u)])/\
    ∀base:Heap,(K w.params).In base->base.Ns mainGlobals mg->cG l.prog w (K w.params) mg base (CX w) k fa fd [x] (sp w))
  (AD:∀(w:World) (H:Hp) (a:Addr) (ns:Vu),ns.length<=n->oP H->SqL (K w.params) H a (ns.map V.int)->sp w [.ref a] H (fun v _=>v = .bl true) fun _ _ _=>False)
  (B_:∀(w:World) (H:Hp) (s:Shared) (e:Value) (s':Shared),CX w [] H s (fun _ _ _=>False) e s'->False) :
  PySem.W.WalkO q loose XP YP l.row.toRowW d [] (fun f vs=>PySem.call f vs):=by
 refine Att.ix hn hdf fun w s₀ s₁ mg mb fa o pm cd doc a vs ns G Y ho hd hcd hmg hobj hints hlen hg=>?_
 have KX:=hY w _ Y
 obtain⟨fd,hb,hF⟩:=F w mg fa _ KX G.T.g hmg
 exact ma KX G.T.g G.T.b G.T.builtins G.T.nolimit hg hobj hints (Nat.le_trans hlen hn2) hr hF hb (fun H hO hS=>AD w H a ns hlen hO hS) fun H e s'=>B_ w H s₁ e s'
noncomputable def bB(s:Stmt):Arguments:=match s with
 | .FunctionDef _ a _ _ _ _ _ _ _ _=>a
 |_=>{ posonlyargs:=[],args:=[],vararg:=none,kwonlyargs:=[],kw_defaults:=[],kwarg:=none,defaults:=[] }
noncomputable def aH(s:Stmt):List Stmt:=match s with
 | .FunctionDef _ _ b _ _ _ _ _ _ _=>b
 |_=>[]
noncomputable def am(s:Stmt):Scope:=match s with
 | .FunctionDef _ _ _ _ _ _ sc _ _ _=>sc
 |_=>{ kind:=.function,names:=[],isGenerator:=false,isCoroutine:=false }
noncomputable abbrev j2:lV:=fun _ _ _ _ _ _=>False
noncomputable abbrev E0:XK:=fun _ _ _=>False
def pZ{X:Cx}:gO j2 X E0:=fun _ _ _ _ _ _ _ h=>h.elim
structure Ae (K:Vo) (x qual:Str) (st:Stmt) (f:Addr) (fd:FuncData):Prop where
 ex:∃(oc:Value) (od:Option Addr) (kV doc pm:Value) (an:Option Addr) (cdv ct:Value) (osl:Array (Option Value)),
  fd=PySem.W.fnOf x qual (bB st) (aH st) (am st) .none kV doc pm an cdv ct/\K.lookup f=some ⟨oc,od,.func fd,osl⟩/\PySem.W.codeIn K cdv qual=true
 kp:PySem.W.keepIn K (.ref f)=true
section
variable {P:Program} {w:World} {K:Vo} {mg:Vr} {base:Heap}
def Ae.ok{x qual:Str}{st:Stmt}{f:Addr}{fd:FuncData}{N ps:Vs}{k:Nat}{sp:Sp}(F:Ae K x qual st f fd)(S:bi N ps (am st))(len:∀vs H Q E,sp vs H Q E->vs.length=ps.length)
  (hbody:∀(cdv:Value) (A:Around) (outer:List Env) (s:Shared) (H:Hp) (vs:List V) (Q:VK) (E:XK),Room k (A.deeper (envOfC qual (am st) s.heap.objs.size f cdv))->sp vs H Q E->
   ∃t,zb (du j2 P w K mg base N qual (am st) f cdv A outer s H E).AN (aH st) t/\t { nx:=fun _ H'=>Q .non H',rt:=Q } (cH N vs) H):cG P w K mg base j2 (k+1) f fd ps sp:=by
 obtain⟨oc,od,kV,doc,pm,an,cdv,ct,osl,rfl,lk,hcd⟩:=F.ex
 refine pW lk hcd S len fun A outer s H vs Q E hr AD=>?_
 obtain⟨t,h,q⟩:=hbody cdv A outer s H vs Q E hr AD
 exact⟨t,h.AN,q⟩
def Ae.binds{x qual:Str}{st:Stmt}{f:Addr}{fd:FuncData}{ps:Vs}(F:Ae K x qual st f fd)
  (h:∀(kV doc pm:Value) (an:Option Addr) (cdv ct:Value) (us:Vv),us.length=ps.length->bindArgs (PySem.W.fnOf x qual (bB st) (aH st) (am st) .none kV doc pm an cdv ct) ⟨us,[]⟩=pure (ps.zip us)):Binds K fd ps []:=by
 obtain⟨oc,od,kV,doc,pm,an,cdv,ct,osl,rfl,lk,hcd⟩:=F.ex
 exact .all (h kV doc pm an cdv ct)
def gV{x qual:Str}{st:Stmt}{f:Addr}{oc:Value}{od an:Option Addr}{osl:Array (Option Value)}{kV doc pm cdv ct:Value}(l:K.lookup f=some ⟨oc,od,.func (PySem.W.fnOf x qual (bB st) (aH st) (am st) .none kV doc pm an cdv ct),osl⟩)
  (c:PySem.W.codeIn K cdv qual=true) (k:PySem.W.keepIn K (.ref f)=true):Ae K x qual st f (PySem.W.fnOf x qual (bB st) (aH st) (am st) .none kV doc pm an cdv ct):=⟨⟨oc,od,kV,doc,pm,an,cdv,ct,osl,rfl,l,c⟩,k⟩
end
def b5{n:Nat}(h:n<=1000):n < sizeLine:=Nat.lt_of_le_of_lt h (by decide)
section
variable {X:Cx}
def pv(i:Nat){x:Str}{pos:Pos}(hN:X.N[i]?=some x:=by rfl)(hv:tS X.env.scope x:=by first|exact Or.inl rfl|exact Or.inr (Or.inl rfl)|exact Or.inr (Or.inr rfl))(hd:(x == ("__debug__":Str))=false:=by decide)
  (hcd:(x == ("__classdict__":Str))=false:=by decide):PE X (.Name x pos) (kE i):=lM hN hv hd hcd
def kU:cx X (.builtin "len") (fun xs H Q=>∃a kvs,xs=[V.ref a]/\H a=some (.dK kvs)/\Q (.int kvs.length) H):=by
 intro pins s σ H xs us Q I r h
 obtain⟨a,kvs,rfl,ha,q⟩:=h
 obtain⟨u,rfl,ru⟩:=b3 r
 cases ru
 exact uu I (.inl ha) fun t s' I'=>⟨.int kvs.length,H,I',⟨t,rfl⟩,q⟩
end
end L2
set_option maxHeartbeats 4000000
namespace L2
open PySem PySem.Spec PyProof.Rows
def gW{prog:Program}{w:World}{A:Around}{R:Result->Shared->Prop}{s:Shared}{elt target iter:Expr}{ifs:List Expr}{scope:Scope}{pos:Pos}{it acc:Value}{env:Env}(I:Nat->Shared->Prop)
  (turn:∀n s,I n s->wpAny (model prog w) A (pyNext it) (fun r s₁=>match r with
   |none=>R (.ok .next) s₁
   |some v=>wpAny (model prog w) A (letOwnedTupleGo target it v) (fun _ s₁'=>wpAny (model prog w) A (assign target env v) (fun _ s₂=>
     wpAny (model prog w) A (forIn ifs true fun c r=>if r=true then do let ok <-isTrue c env (eval c env);pure (ForInStep.yield ok) else pure (ForInStep.yield r)) (fun ok s₃=>
      if ok=true then wpAny (model prog w) A (eval elt env) (fun x s₄=>
       wpAny (model prog w) A (call (.builtin "list.append") [acc,x]) (fun _ s₅=>∃m,m < n/\I m s₅) (fun _ _=>False) s₄) (fun _ _=>False) s₃
      else ∃m,m < n/\I m s₃) (fun _ _=>False) s₂) (fun _ _=>False) s₁') (fun _ _=>False) s₁) (fun _ _=>False) s)
  (n:Nat) (h:I n s) :
  codeAny (model prog w) A (.compLoop (.ListComp elt [⟨target,iter,ifs,0⟩] scope pos) 0 it acc env) R s:=by
 refine codeAny_loop rfl I (fun n s hI=>?_) n h
 show wpAny _ A ((compTurn (.ListComp elt [⟨target,iter,ifs,0⟩] scope pos) 0 it acc env).onRaise (fun x=>do noteFrame x env;theTreesLotGoes x)) _ _ s
 refine wpAny_noted ?_
 rw[compTurn_list]
 refine wpAny_bind (wpAny_standAt (wpAny_bind (wpAny_mono (turn n s hI) (fun r s₁ h₁=>?_) fun _ _ h'=>h'.elim)))
 cases r with
 |none=>exact wpAny_pure h₁
 |some v=>
  refine wpAny_bind (wpAny_mono h₁ (fun _ s₁' h₁'=>?_) fun _ _ h'=>h'.elim)
  refine wpAny_bind (wpAny_mono h₁' (fun _ s₂ h₂=>wpAny_bind (wpAny_mono h₂ (fun ok s₃ h₃=>?_) fun _ _ h'=>h'.elim)) fun _ _ h'=>h'.elim)
  cases ok with
  |false=>exact wpAny_pure ⟨rfl,h₃⟩
  |true=>
   exact wpAny_bind (wpAny_bind (wpAny_mono h₃ (fun x s₄ h₄=>wpAny_bind (wpAny_mono h₄ (fun _ s₅ h₅=>wpAny_pure (wpAny_pure ⟨rfl,h₅⟩)) fun _ _ h'=>h'.elim)) fun _ _ h'=>h'.elim))
structure Bk where
 C:Addr
 s:Shared
 H:Hp
 fp:List Addr
 pn:Va
noncomputable def bg(env:Env)(fs:Vs):List (Str×Addr):=fs.map fun x=>(x,(env.cells.lookup x).getD 0)
noncomputable abbrev Cx.yx(X:Cx)(N:Vs)(scope:Scope)(fs:Vs)(B:Bk):Cx:=
 { X with N:=N,s₀:=B.s,H₀:=B.H,env:=compEnvC scope (bg X.env fs) B.C X.env,outer:=X.stack,ex:=B.fp,fn:=fun _=>false,pn:=B.pn,xe:=fun _ _=>False }
noncomputable def aZ(env:Env):List Str->Prop
 |[]=>True
 |x::r=>(∃c,env.cells.lookup x=some c)/\aZ env r
theorem eI{env:Env}:∀{fs:Vs},aZ env fs->∀{x:Str} {c:Addr},(bg env fs).lookup x=some c->env.cells.lookup x=some c
 |[],_,x,c,h=>by cases h
 |y::r,k,x,c,h=>by
  obtain⟨⟨d,hd⟩,k⟩:=k
  have h':List.lookup x ((y,(env.cells.lookup y).getD 0)::bg env r)=some c:=h
  rw[List.lookup_cons]at h'
  cases e:x == y with
  |true=>
   rw[e]at h'
   have e':x=y:=by simpa using e
   subst e'
   rw[hd]at h'
   rw[hd]
   exact h'
  |false=>
   rw[e]at h'
   exact eI k h'
noncomputable def hasB(names:List (Str×NameKind))(cl:List (Str×Addr)):Bool:=names.all fun y=>(y.2 != .cell&&y.2 != .free) || (cl.lookup y.1).isSome
def md{names:List (Str×NameKind)}{cl:List (Str×Addr)}{x:Str}{k:NameKind}(h:hasB names cl=true)(e:names.lookup x=some k)(hk:k = .cell\/k = .free):∃c,cl.lookup x=some c:=by
 have hm:(x,k)∈names:=PySem.mem_of_lookup e
 have q:=List.all_eq_true.mp h _ hm
 have z:(cl.lookup x).isSome=true:=by
  rcases hk with rfl|rfl
  ·simpa using q
  ·simpa using q
 exact Option.isSome_iff_exists.mp z
noncomputable def xK(env:Env)(scope:Scope)(cl:List (Str×Addr)):List Str->Prop
 |[]=>True
 |x::r=>((env.scope.names.lookup x=some .cell\/env.scope.names.lookup x=some .free)/\((relabel scope env).names.lookup x=some .cell\/(relabel scope env).names.lookup x=some .free)/\cl.lookup x=env.cells.lookup x)/\xK env scope cl r
theorem xK.mem{env:Env}{scope:Scope}{cl:List (Str×Addr)}:∀{l:Vs},xK env scope cl l->∀x∈l,
  (env.scope.names.lookup x=some .cell\/env.scope.names.lookup x=some .free)/\((relabel scope env).names.lookup x=some .cell\/(relabel scope env).names.lookup x=some .free)/\cl.lookup x=env.cells.lookup x
 |[],_,x,h=>nomatch h
 |y::r,k,x,h=>by
  rcases List.mem_cons.mp h with rfl|h
  ·exact k.1
  ·exact xK.mem k.2 x h
noncomputable def b6(own:Nat)(fr:List Nat)(σ:St):St:=List.replicate own none++fr.map fun j=>(σ[j]?).getD none
noncomputable abbrev d6(us:Vv):Obj:={ cls:=.type "list",data:=.seq us.toArray us.length }
def kW(us:Vv)(u:Value):({ cls:=.type "list",data:=.seq (us.toArray.push u) (us.length+1) }:Obj)=d6 (us++[u]):=by
 show({ cls:=.type "list",data:=.seq (us.toArray.push u) (us.length+1) }:Obj)={ cls:=.type "list",data:=.seq (us++[u]).toArray (us++[u]).length }
 rw[List.length_append,List.length_singleton,List.push_toArray]
section
variable {X:Cx} {pins:Va} {σ:St} {H:Hp} {s:Shared}
def Inv.Bo{D:Addr}{us:Vv}{n:Nat}{ys:List V}(I:Inv X pins σ H s)(f:xG X pins H D)(e:s.heap.get? D=some { cls:=.type "list",data:=.seq us.toArray n })(r:Vals ys us)(hz:ys.length<=sizeLine) :
  Inv X pins σ (upd H D (.lst ys)) s:=by
 obtain⟨f0,f1,f2,f3,f4,f5⟩:=f
 have nD:∀b u,H b=some u->b≠D:=fun b u q=>aA q f0
 have hok:yg X.prog X.w (upd H D (.lst ys)) s.heap:=fun b u q=>by
  by_cases hb:b=D
  ·subst hb
   rw[ag]at q
   cases q
   exact⟨hz,us,n,r,e⟩
  ·rw[ae hb]at q
   exact(I.hok b u q).stay (fun _ _ _ z=>z) (fun c z=>by rw[ae (nD c _ z)];exact z) fun c xs z=>by rw[ae (nD c _ z)];exact z
 exact I.step (H':=upd H D (.lst ys)) (h':=s.heap) (g':=s.gens) (t':=s.toks) (d':=s.drawn) (ch:=[D])
  (fun b hb=>by
   have z:b=D:=by simpa using hb
   subst z
   exact⟨f3,f1,f4,f5⟩)
  (fun _ _ _ _ _ q _=>q) (fun _ o _ _ _ q _=>⟨o.slots,q⟩)
  (fun b o hb _ n=>by rw[ae (fun z=>hb (by simp[z]))];exact n)
  (fun _ o _ q=>⟨o,q⟩) (fun b xs q=>by rw[ae (nD b _ q)];exact q) (fun b o u q=>by rw[ae (nD b _ q)];exact q)
  (fun b ps q=>⟨#[],by rw[ae (nD b _ q),q];simp⟩) (fun _ q=>q) hok I.bare
def rA{N:Vs}{scope:Scope}{fs:Vs}{C:Addr}{fp:List Addr}(I:Inv X pins σ H s)(hkind:scope.kind = .function)(hC:s.heap.objs.size<=C)(hcl:aZ X.env fs)
  (hhas:hasB (relabel scope X.env).names (bg X.env fs)=true) (hf:∀b∈fp,xG X pins H b) (hlt:∀b∈fp,b < s.heap.objs.size):(X.yx N scope fs ⟨C,s,H,fp,X.pn++pins⟩).Ok where
 mod:=I.ok.mod
 kind:=hkind
 glob:=I.ok.glob
 blt:=I.ok.blt
 above:=hC
 inj:=fun x y c h1 h2=>I.ok.inj x y c (eI hcl h1) (eI hcl h2)
 has:=fun x hx=>by
  rcases hx with e|e
  ·exact md hhas e (.inl rfl)
  ·exact md hhas e (.inr rfl)
 Ap:=fun x c h=>by cases h
 hd:=I.ok.hd
 frames:=I.ok.frames
 stk:=.inl rfl
 AM:=fun b hb=>⟨Nat.ne_of_lt (Nat.lt_of_lt_of_le (hlt b hb) hC),fun x c e=>(hf b hb).2.2.2.2.1 x c (eI hcl e)⟩
 bs:=I.bs
 zO:=Nat.le_trans I.ok.zO I.sz
 y8:=fun b o e hb=>(hf b hb).2.2.2.1.elim (fun z=>I.ok.y8 b o e z) fun z=>absurd (Nat.lt_of_lt_of_le (Heap.lt_size e) (Nat.le_trans I.ok.zO z)) (Nat.lt_irrefl _)
 zh:=fun b hb z=>(List.mem_cons.mp (I.yI b z)).elim (hf b hb).2.1 (hf b hb).2.2.1
 yh:=I.stack
 z_:=I.zi
def oR{N:Vs}{scope:Scope}{fs:Vs}{C D:Addr}{fp:List Addr}{own:Nat}{fr:List Nat}{h₁:Heap}{m0:Vr}{t':Nat}(I:Inv X pins σ H s)
  (ok:(X.yx N scope fs ⟨C,s,H,fp,X.pn++pins⟩).Ok) (hC:s.heap.objs.size<=C) (hD:s.heap.objs.size<=D) (hDC:D≠C) (hcl:aZ X.env fs)
  (old:∀b o,s.heap.get? b=some o->h₁.get? b=some o) (hns:h₁.Ns C m0) (hacc:h₁.get? D=some (d6 [])) (hlen:N.length=own+fr.length) (hN:(N.drop own).map some=fr.map fun j=>X.N[j]?)
  (hF:xK X.env scope (bg X.env fs) (N.drop own)) :
  Inv (X.yx N scope fs ⟨C,s,H,fp,X.pn++pins⟩) [(D,d6 [])] (b6 own fr σ) H { s with heap:=h₁,toks:=t' }:=by
 refine⟨ok,rfl,I.bare,Un.kept old,⟨m0,hns,fun i x v e1 e2 e3=>?_⟩,fun x c e=>?_,I.hok.fresh hC,fun x c e=>I.xP x c (eI hcl e),fun p hp=>?_,I.hok.kept old,?_⟩
 ·have e1:N[i]?=some x:=e1
  by_cases hi:i < own
  ·unfold b6 at e2
   rw[List.getElem?_append_left (by rw[List.length_replicate];exact hi),List.getElem?_replicate,if_pos hi]at e2
   cases e2
  ·obtain⟨k,rfl⟩:∃k,i=own+k:=⟨i - own,by omega⟩
   have e1':(N.drop own)[k]?=some x:=by rw[List.getElem?_drop];exact e1
   have q:=congrArg (fun l=>l[k]?) hN
   simp only[List.getElem?_map,e1',Option.map_some]at q
   unfold b6 at e2
   rw[List.getElem?_append_right (by rw[List.length_replicate];omega),List.length_replicate,Nat.add_sub_cancel_left,List.getElem?_map]at e2
   cases hj:fr[k]? with
   |none=>rw[hj]at e2;cases e2
   |some j=>
    rw[hj]at e2 q
    simp only[Option.map_some,Option.some.injEq]at e2 q
    have hσ:σ[j]?=some (some v):=by
     cases z:σ[j]? with
     |none=>rw[z]at e2;cases e2
     |some w=>rw[z]at e2;simp only[Option.getD_some]at e2;rw[e2]
    obtain⟨k1,k2,k3⟩:=hF.mem x (List.mem_of_getElem? e1')
    obtain⟨m,hn,hl⟩:=I.loc
    have vis:tS X.env.scope x:=by
     rcases k1 with z|z
     ·exact .inr (.inl z)
     ·exact .inr (.inr z)
    obtain⟨u,ru,l⟩:=hl j x v q.symm hσ vis
    rcases l with⟨hk,_⟩|⟨_,c,hc,o,ho,hd⟩
    ·have hk':X.env.scope.names.lookup x=some .local:=hk
     rcases k1 with z|z
     ·rw[z]at hk';cases hk'
     ·rw[z]at hk';cases hk'
    ·exact⟨u,ru,.inr ⟨k2,c,k3.trans hc,o,old _ _ ho,hd⟩⟩
 ·obtain⟨v,o,ho,hd⟩:=I.cell x c (eI hcl e)
  exact⟨v,o,old _ _ ho,hd⟩
 ·rcases List.mem_append.mp hp with z|z
  ·obtain⟨e,n,ne,nf,d⟩:=I.pin p z
   exact⟨old _ _ e,n,Nat.ne_of_lt (Nat.lt_of_lt_of_le (Heap.lt_size e) hC),fun q=>(List.mem_cons.mp (I.yI _ q)).elim ne nf,d⟩
  ·have z':p=(D,d6 []):=by simpa using z
   subst z'
   exact⟨hacc,I.hok.fresh hD,hDC,fun q=>(List.mem_cons.mp (I.yI _ q)).elim (fun e=>absurd e (Nat.ne_of_gt (Nat.lt_of_lt_of_le I.lt hD))) (I.Bg hD),fun v z=>by cases z⟩
 ·show(b6 own fr σ).length=N.length
  unfold b6
  rw[List.length_append,List.length_replicate,List.length_map,hlen]
end
def PF(X:Cx)(ifs:List Expr)(t:TT):Prop:=
 ∀(pins:Va) (s:Shared) (σ:St) (H:Hp) (Q:Bool->Hp->Prop),Inv X pins σ H s->t σ H Q->
  wpAny (model X.prog X.w) X.A (forIn ifs true fun c r=>if r=true then do let ok <-isTrue c X.env (eval c X.env);pure (ForInStep.yield ok) else pure (ForInStep.yield r)) (TP X pins σ Q) X.xe s
def v7:TT:=fun _ H Q=>Q true H
def rB{X:Cx}:PF X [] v7:=fun _ _ _ H _ I h=>wpAny_tests_nil ⟨H,I,h⟩
def rC{X:Cx}{c:Expr}{t:TT}(h:PT X c t):PF X [c] t:=fun pins s σ H Q I q=>wpAny_tests_one (h pins s σ H Q I q)
def p0(J:It)(g:TG)(tc:TT)(te:TE)(own:Nat)(σ':St)(fin:List V->Hp->Prop)(H1:Hp):Prop:=
 ∃W:Nat->Nat->List V->Hp->Prop,(∃m,W 0 m [] H1)/\∀i m ys H,W i m ys H->
  (J.stop i H/\ys.length<=sizeLine/\fin ys H) \/
  (J.go i H/\ys.length<=sizeLine/\∃Nx:List V->Hp->Prop,(∀ys' H',Nx ys' H'->∃m',m' < m/\W (i+1) m' ys' H')/\∀x H',J.BM i H x H'->g x σ' H' fun σ2 H2=>σ2.drop own=σ'.drop own/\tc σ2 H2 fun b H3=>
   if b=true then te σ2 H3 fun y H4=>Nx (ys++[y]) H4 else Nx ys H3)
section
variable {X:Cx} {pins:Va} {σ:St} {H:Hp} {s:Shared}
variable {elt iter tg:Expr} {ifs:List Expr} {scope:Scope} {pos:Pos} {N:Vs} {own:Nat} {fr:List Nat} {fs:Vs} {g:TG} {tc:TT} {te:TE}
def fk{J:It}{fp:List Addr}{it:Addr}{tn:Nat->Heap->Prop}{fin:List V->Hp->Prop}{E:Vq}{RR:Value->Addr->Result->Shared->Prop}
  (hc:X.calm=true) (hcell:∀y∈scope.names,y.2 ≠ .cell) (hkind:scope.kind = .function) (hcl:aZ X.env fs) (hhas:hasB (relabel scope X.env).names (bg X.env fs)=true)
  (hlen:N.length=own+fr.length) (hN:(N.drop own).map some=fr.map fun j=>X.N[j]?) (hF:xK X.env scope (bg X.env fs) (N.drop own))
  (hg:∀B,PG (X.yx N scope fs B) tg g) (hf:∀B,PF (X.yx N scope fs B) ifs tc) (he:∀B,PE (X.yx N scope fs B) elt te)
  (I:Inv X pins σ H s) (T:gM X.prog X.w X.K tg J fp it tn) (st:tn 0 s.heap) (f:∀b∈fp,xG X pins H b) (W:p0 J g tc te own (b6 own fr σ) fin H)
  (hRR:∀D C s' ys H' m',Inv X pins σ (upd H' D (.lst ys)) s'->H' D=none->s'.heap.Ns C m'->xG X pins (upd H' D (.lst ys)) C->fin ys H'->RR (.ref D) C (.ok .next) s') :
  wpAny (model X.prog X.w) X.A (newList []) (fun acc s₃=>wpAny (model X.prog X.w) X.A (newFunctionEnv scope X.env.globals (bg X.env fs) [] X.env.qual none .none (some X.env)) (fun cenv s₄=>
   codeAny (model X.prog X.w) X.A (.compStart (.ListComp elt [⟨tg,iter,ifs,0⟩] scope pos) 0 (.ref it) acc { cenv with scope:=relabel scope X.env }) (RR acc cenv.locals) s₄) E s₃) E s:=by
 refine wpAny_newObj_type (wpAny_newFunctionEnv hcell (by intro y hy;simp at hy) (fun h₁ AV Au=>?_) hkind)
 dsimp only at AV Au ⊢
 generalize Cc:s.heap.push { cls:=.type "list",dict:=none,data:=.seq ([]:Vv).toArray }=H2 at AV Au ⊢
 have hC:H2.objs.size=s.heap.objs.size+1:=by rw[<-Cc,Heap.size_push]
 have AW:s.heap.objs.size<=H2.objs.size:=by rw[hC];exact Nat.le_succ _
 have hDC:s.heap.objs.size≠H2.objs.size:=by rw[hC];exact Nat.ne_of_lt (Nat.lt_succ_self _)
 have below:∀b,b < s.heap.objs.size->b≠H2.objs.size/\b≠s.heap.objs.size:=fun b hb=>⟨by rw[hC];exact Nat.ne_of_lt (Nat.lt_succ_of_lt hb),Nat.ne_of_lt hb⟩
 have old:∀b o,s.heap.get? b=some o->h₁.get? b=some o:=fun b o e=>Au.extBut b o (below b (Heap.lt_size e)).1 (Heap.get?_push_of_some _ (Cc▸Heap.get?_push_of_some _ e))
 have hacc:h₁.get? s.heap.objs.size=some (d6 []):=Au.extBut _ _ hDC (Heap.get?_push_of_some _ (Cc▸Heap.get?_push_size _ rfl))
 have hlt:∀b∈fp,b < s.heap.objs.size:=fun b hb=>by
  obtain⟨o,e,_⟩:=T.obj 0 _ st b hb
  exact Heap.lt_size e
 obtain⟨Wv,⟨m0,w0⟩,turn⟩:=W
 have ok:=rA (N:=N) I hkind AW hcl hhas f hlt
 have loop:∀s₃:Shared,s₃={ s with heap:=h₁,toks:=s.toks+([]:List (Str×Value)).length }->
   codeAny (model X.prog X.w) X.A (.compLoop (.ListComp elt [⟨tg,iter,ifs,0⟩] scope pos) 0 (.ref it) (.ref s.heap.objs.size) (compEnvC scope (bg X.env fs) H2.objs.size X.env))
    (RR (.ref s.heap.objs.size) H2.objs.size) s₃:=by
  rintro s₃ rfl
  have I0:=oR (own:=own) (fr:=fr) (t':=s.toks+([]:List (Str×Value)).length) I ok AW (Nat.le_refl _) hDC hcl old AV hacc hlen hN hF
  have Df:tn 0 h₁:=T.keep 0 _ _ st fun b _ o e=>old b o e
  have stat:∀{us:Vv} {H':Hp},(∀b∈fp,H' b=none)->∀b∈fp,xG (X.yx N scope fs ⟨H2.objs.size,s,H,fp,X.pn++pins⟩) [(s.heap.objs.size,d6 us)] H' b:=fun{us H'} hn b hb=>by
   obtain⟨f0,f1,f2,f3,f4,f5⟩:=f b hb
   refine⟨hn b hb,(below b (hlt b hb)).1,fun z=>(List.mem_cons.mp (I.yI b z)).elim f1 f2,.inl hb,fun x c e=>f4 x c (eI hcl e),fun p hp=>?_⟩
   rcases List.mem_append.mp hp with z|z
   ·exact f5 p z
   ·have z':p=(s.heap.objs.size,d6 us):=by simpa using z
    subst z'
    exact Ne.symm (below b (hlt b hb)).2
  have Cd:∀p∈X.pn++pins,p.1 < s.heap.objs.size:=fun p hp=>Heap.lt_size (I.pin p hp).1
  refine gW (fun k s'=>∃i ys us H',Inv (X.yx N scope fs ⟨H2.objs.size,s,H,fp,X.pn++pins⟩) [(s.heap.objs.size,d6 us)] (b6 own fr σ) H' s'/\Vals ys us/\tn i s'.heap/\(∀b∈fp,H' b=none)/\Wv i k ys H') ?_ m0
   ⟨0,[],[],H,I0,.nil,Df,fun b hb=>(f b hb).1,w0⟩
  rintro n s' ⟨i,ys,us,H',I',rv,st',CG,w'⟩
  rcases turn i n ys H' w' with⟨stop,hz,Ce⟩|⟨go,hz,Nx,CH,step⟩
  ·refine aL (T.done (X.yx N scope fs ⟨H2.objs.size,s,H,fp,X.pn++pins⟩) rfl rfl rfl hc i _ s' _ H' (fun _ _=>False) I' (stat CG) st' stop) (fun r s1 ⟨hr,I1⟩=>?_)
   subst hr
   show RR _ _ (.ok .next) s1
   have IX:Inv X pins σ H' s1:=I.AC I1.os I1.base I1.hok I1.bare fun b hb=>by
    obtain⟨f0,f1,f2,f3,f4,f5⟩:=f b hb
    exact⟨f3,f1,f4,f5⟩
   obtain⟨eD,nD,_⟩:=I1.pin (s.heap.objs.size,d6 us) (by simp)
   have IT:=IX.Bo (I.yz (H':=H') (Nat.le_refl _) nD) eD rv hz
   obtain⟨m',hn',_⟩:=I1.loc
   exact hRR _ _ s1 ys H' m' IT nD hn' (I.yz AW (by rw[ae (Ne.symm hDC)];exact I1.free)) Ce
  ·refine aL (T.item (X.yx N scope fs ⟨H2.objs.size,s,H,fp,X.pn++pins⟩) rfl rfl rfl hc i _ s' _ H' (fun _ _=>False) I' (stat CG) st' go) (fun r s1 ⟨u,hr,h1⟩=>?_)
   subst hr
   show wpAny _ _ (letOwnedTupleGo tg (.ref it) u) _ _ s1
   refine aL h1 (fun _ s5 ⟨x,H5,I5,r5,y5,As,B5⟩=>?_)
   have B6:=I5.pinned (stat B5) (T.obj _ _ As)
   refine aL (hg _ _ s5 _ H5 x u _ B6 r5 (step x H5 y5)) (fun _ s6 ⟨σ6,H6,I6,Dg,q6⟩=>?_)
   refine aL (hf _ _ s6 σ6 H6 _ I6 q6) (fun b s7 ⟨H7,I7,q7⟩=>?_)
   -- AX the turn's own names
   have forget:∀{H8:Hp} {s8:Shared} {pl:Va},Inv (X.yx N scope fs ⟨H2.objs.size,s,H,fp,X.pn++pins⟩) pl σ6 H8 s8->Inv (X.yx N scope fs ⟨H2.objs.size,s,H,fp,X.pn++pins⟩) pl (b6 own fr σ) H8 s8:=fun{H8 s8 pl} I8=>by
    refine I8.weak (I0.len.trans I8.len.symm) fun j v e=>?_
    by_cases hj:j < own
    ·unfold b6 at e
     rw[List.getElem?_append_left (by rw[List.length_replicate];exact hj),List.getElem?_replicate,if_pos hj]at e
     cases e
    ·obtain⟨k,rfl⟩:∃k,j=own+k:=⟨j - own,by omega⟩
     rw[<-List.getElem?_drop]at e ⊢
     rw[Dg]
     exact e
   have BO:∀{H8:Hp} {s8:Shared},Inv (X.yx N scope fs ⟨H2.objs.size,s,H,fp,X.pn++pins⟩) ([(s.heap.objs.size,d6 us)]++fc fp s5.heap) σ6 H8 s8->∀b∈fp,∀o,s5.heap.get? b=some o->s8.heap.get? b=some o/\H8 b=none:=fun I8 b hb o e=>
    let z:=I8.pin (b,o) (List.mem_append_right _ (List.mem_append_right _ (dr hb e)))
    ⟨z.1,z.2.1⟩
   cases b with
   |false=>
    show ∃m,m < n/\_
    obtain⟨m',hm,w7⟩:=CH _ _ (show Nx ys H7 from q7)
    refine⟨m',hm,i+1,ys,us,H7,(forget I7).yG,rv,T.keep _ _ _ As fun b hb o e=>(BO I7 b hb o e).1,fun b hb=>?_,w7⟩
    obtain⟨o,e,_⟩:=T.obj _ _ As b hb
    exact(BO I7 b hb o e).2
   |true=>
    show wpAny _ _ (eval elt _) _ _ s7
    have Dh:te σ6 H7 fun y H4=>Nx (ys++[y]) H4:=q7
    refine aL (he _ _ s7 σ6 H7 _ I7 Dh) (fun v s8 ⟨y,H8,I8,r8,n8⟩=>?_)
    obtain⟨m',hm,w8⟩:=CH _ _ n8
    obtain⟨eD,nD,CI,Di,_⟩:=I8.pin (s.heap.objs.size,d6 us) (List.mem_append_right _ (List.mem_append_left _ (by simp)))
    refine append_at (hsz:=by show us.toArray.size<=sizeLine;rw[List.size_toArray,<-rv.length];exact hz) eD fun h9 CJ Dj=>?_
    have J0:Inv (X.yx N scope fs ⟨H2.objs.size,s,H,fp,X.pn++pins⟩) [] σ6 H8 s8:=I8.yS fun p hp=>nomatch hp
    have J1:Inv (X.yx N scope fs ⟨H2.objs.size,s,H,fp,X.pn++pins⟩) [] σ6 H8 { s8 with heap:=h9 }:=J0.turned (t':=s8.toks) (it:=s.heap.objs.size) (fun b o hb e=>(CJ.2 b hb).trans e) nD CI (.inr (Nat.le_refl _))
     (fun x c e z=>by
      obtain⟨v',q⟩:=I.cell x c (eI hcl e)
      exact absurd (Nat.lt_of_lt_of_le q.lt (by rw[z];exact Nat.le_refl _)) (Nat.lt_irrefl _))
     (fun p hp=>by
      rw[List.append_nil]at hp
      exact Nat.ne_of_lt (Cd p hp))
    have J2:Inv (X.yx N scope fs ⟨H2.objs.size,s,H,fp,X.pn++pins⟩) [(s.heap.objs.size,d6 (us++[v]))] σ6 H8 { s8 with heap:=h9 }:=J1.yS fun p hp=>by
     have z':p=(s.heap.objs.size,d6 (us++[v])):=by simpa using hp
     subst z'
     exact⟨Dj.trans (congrArg some (kW us v)),nD,CI,Di,fun v z=>by cases z⟩
    refine⟨m',hm,i+1,ys++[y],us++[v],H8,forget J2,Vals.append rv (.cons r8 .nil),T.keep _ _ _ As fun b hb o e=>(CJ.2 b (below b (hlt b hb)).2).trans (BO I8 b hb o e).1,fun b hb=>?_,w8⟩
    obtain⟨o,e,_⟩:=T.obj _ _ As b hb
    exact(BO I8 b hb o e).2
 exact codeAny_compStart_list (loop _ rfl) (T.self _ 0 _ _ _ (T.keep 0 _ _ st fun b _ o e=>old b o e) (loop _ rfl))
def me(wi:TI)(g:TG)(tc:TT)(te:TE)(own:Nat)(fr:List Nat):TE:=fun σ H Q=>wi σ H fun J H1=>
 p0 J g tc te own (b6 own fr σ) (fun ys H2=>∀D,H2 D=none->Q (.ref D) (upd H2 D (.lst ys))) H1
def oS(fs:Vs)(own:Nat)(fr:List Nat)(N:Vs){wi:TI}(hc:X.calm=true)(hclos:closureFor scope X.env=pure (bg X.env fs))(hcell:∀y∈scope.names,y.2 ≠ .cell)(hkind:scope.kind = .function)
  (hnames:∀x∈scope.names,x.2 = .local->scope.names.lookup x.1=some .local) (hcl:aZ X.env fs) (hhas:hasB (relabel scope X.env).names (bg X.env fs)=true)
  (hlen:N.length=own+fr.length) (hN:(N.drop own).map some=fr.map fun j=>X.N[j]?) (hF:xK X.env scope (bg X.env fs) (N.drop own))
  (hi:PI X tg iter wi) (hg:∀B,PG (X.yx N scope fs B) tg g) (hf:∀B,PF (X.yx N scope fs B) ifs tc) (he:∀B,PE (X.yx N scope fs B) elt te)
  (hs:∀x,foldedSetIterable iter X.env x=pure x:=by intro _;rfl):PE X (.ListComp elt [⟨tg,iter,ifs,0⟩] scope pos) (me wi g tc te own fr):=by
 intro pins s σ H Q I h
 rw[eval_ListComp]
 refine wpAny_comprehension_free (use:=none) (g:=⟨tg,iter,ifs,0⟩) (gs:=[]) rfl hs hclos hkind hnames (aL (hi pins s σ H _ I h) fun v s1 h1=>aL h1 fun itv s2 h2=>?_)
 obtain⟨it,fp,tn,J,H2,e,I2,T,st2,f2,W⟩:=h2
 subst e
 refine fk (RR:=fun acc C=>compPost (model X.prog X.w) X.A X.xe none (EP X pins σ Q) acc C) hc hcell hkind hcl hhas hlen hN hF hg hf he I2 T st2 f2 W ?_
 intro D C s' ys H' m' I' nD hn fC fin
 exact⟨m',hn,fun h' hs'=>⟨.ref D,_,I'.turned (t':=s'.toks) (fun b o hb e=>(hs'.2 b hb).trans e) fC.1 fC.2.1 fC.2.2.2.1 fC.2.2.2.2.1 fC.2.2.2.2.2,rfl,fin D nD⟩⟩
def oU(fs:Vs)(own:Nat)(fr:List Nat)(N:Vs){wi:TI}{i:Nat}{y:Str}{py spos:Pos}(hX:X.N.Nodup)(hix:X.N[i]?=some y)(hy:X.env.scope.names.lookup y=some .local)
  (hsw:swapsWith (.ListComp elt [⟨tg,iter,ifs,0⟩] scope pos) (some (.Name y py)) spos.line X.env=pure true)
  (hc:X.calm=true) (hclos:closureFor scope X.env=pure (bg X.env fs)) (hcell:∀y∈scope.names,y.2 ≠ .cell) (hkind:scope.kind = .function)
  (hnames:∀x∈scope.names,x.2 = .local->scope.names.lookup x.1=some .local) (hcl:aZ X.env fs) (hhas:hasB (relabel scope X.env).names (bg X.env fs)=true)
  (hlen:N.length=own+fr.length) (hN:(N.drop own).map some=fr.map fun j=>X.N[j]?) (hF:xK X.env scope (bg X.env fs) (N.drop own))
  (hi:PI X tg iter wi) (hg:∀B,PG (X.yx N scope fs B) tg g) (hf:∀B,PF (X.yx N scope fs B) ifs tc) (he:∀B,PE (X.yx N scope fs B) elt te)
  (hs:∀x,foldedSetIterable iter X.env x=pure x:=by intro _;rfl):PS X (.Assign [.Name y py] (.ListComp elt [⟨tg,iter,ifs,0⟩] scope pos) spos) (ou (me wi g tc te own fr) (io i)):=by
 intro pins s σ H D I h
 rw[exec_Assign_Name_used _ _ _ _ hsw]
 refine wpAny_bind (wpAny_standAt (wpAny_bind ?_))
 show wpAny _ X.A (do let _ <-comprehension (.ListComp elt [⟨tg,iter,ifs,0⟩] scope pos) scope X.env _ (newList []) false (eval iter X.env) (some (assign (.Name y py) X.env))) _ _ s
 refine wpAny_bind (wpAny_mono (wpAny_comprehension_free (use:=some (assign (.Name y py) X.env)) (Q:=fun _ s'=>SP X pins D .next s') (g:=⟨tg,iter,ifs,0⟩) (gs:=[]) rfl hs hclos hkind hnames
  (aL (hi pins s σ H _ I h) fun v s1 h1=>aL h1 fun itv s2 h2=>?_)) (fun _ s' hq=>wpAny_pure (wpAny_pure hq)) fun _ _ e=>e)
 obtain⟨it,fp,tn,J,H2,e,I2,T,st2,f2,W⟩:=h2
 subst e
 refine fk (RR:=fun acc C=>compPost (model X.prog X.w) X.A X.xe (some (assign (.Name y py) X.env)) (fun _ s'=>SP X pins D .next s') acc C) hc hcell hkind hcl hhas hlen hN hF hg hf he I2 T st2 f2 W ?_
 intro Da C s' ys H' m' I' nD hn fC fin
 show wpAny _ X.A (assign (.Name y py) X.env (.ref Da)) _ _ s'
 refine wpAny_assign_Name (d0 (v:=.ref Da) I' hX hix (.inl hy) rfl (fun s2 I3 ⟨a,sb,ha⟩=>?_) (.inr hy))
 have ca:C≠a:=by
  rcases ha with z|z
  ·rw[z];exact fC.2.1
  ·exact Ne.symm (fC.2.2.2.2.1 _ _ z)
 exact⟨m',hn.sameBut sb ca,fun h' hs'=>⟨_,_,I3.turned (t':=s2.toks) (fun b o hb e=>(hs'.2 b hb).trans e) fC.1 fC.2.1 fC.2.2.2.1 fC.2.2.2.2.1 fC.2.2.2.2.2,fin Da nD⟩⟩
end
end L2
namespace PySem
open Sem (wp)
namespace F
def gi:typeLookup (.type "list_reverseiterator") "__len__" = pure none:=by rw[typeLookup_type,builtinLookup_eq_fast];kernel_rfl
def iy:typeLookup (.type "list_reverseiterator") "__length_hint__" = pure (some (.builtin "list_reverseiterator.__length_hint__")):=by rw[typeLookup_type,builtinLookup_eq_fast];kernel_rfl
end F
section
variable {prog:Program} {w:World} {A:Around} {s:Shared} {R:Result->Shared->Prop}
variable {I:Addr} {fp wr:List Addr} {G:Array GenState->Array GenState->Prop} {n:Nat} {P:Nat->Value->Prop} {St:Nat->Shared->Prop}
def jm(W:WalksS prog w A.in1 I fp wr G n P St)(hT:∀i s,St i s->s.TypeIs (.ref I) "list_reverseiterator")(S:Addr)(res:Value)(c₀:Nat)(hst:St 0 s)(hSf:S ∉ fp)(hI:I∈fp)
  (hS:s.heap.get? S=some { cls:=.type "list",data:=.seq #[] c₀ })
  (hR:∀s' acc' c',Moved (S::wr) G s s'->s'.heap.get? S=some { cls:=.type "list",dict:=none,data:=.seq acc' c',slots:=#[] }->ItemsOf P acc' n->R (.ok (.ret res)) s') (hn:n<=sizeLine) :
  wpAny (model prog w) A.in1 (Builtin.List.listExtendWith (.ref S) (.ref I) res)
   (fun fin s'=>match fin with | .done f=>R (.ok f) s' | .again c'=>c'.quiet=true/\codeAny (model prog w) A c' R s') (fun e s'=>R (.error e) s') s:=by
 have hSI:S≠I:=fun e=>hSf (e▸hI)
 have h1:Builtin.List.listSameRef (.ref S) (.ref I)=false:=by simp[Builtin.List.listSameRef,hSI]
 unfold Builtin.List.listExtendWith
 refine wpAny_bind (wpAny_typeOf (hT 0 _ hst) ?_)
 rw[if_neg (by rw[h1];decide)]
 refine wpAny_bind (W.self 0 _ _ _ hst ?_)
 refine wpAny_bind (wpAny_holding ?_)
 unfold Builtin.List.listLengthHint
 refine wpAny_bind (wpAny_specialOf (hT 0 _ hst) F.gi ?_)
 show wpAny _ A.in1 (specialOf (Value.ref I) (Str.ofString "__length_hint__") >>= _) _ _ _
 refine wpAny_bind (wpAny_specialOf (hT 0 _ hst) F.iy ?_)
 (generalize hid:("list_reverseiterator.__length_hint__":String)=Cf;wp_delta;rw[show splitId Cf=some ("list_reverseiterator","__length_hint__")from by subst hid;decide +kernel];subst hid)
 refine wpAny_bind (wpAny_isInstance (b:=true) (hT 0 _ hst) (by rw[isSubtype_type];kernel_rfl) ?_)
 refine wpAny_pure ?_
 rw[if_neg (by decide)]
 exact wpAny_pure ⟨plainId_quiet F.plain_extend_loop _,codeAny_extend_loopS W hn _ hSf _ n 0 _ _ _ rfl (Nat.zero_le _) hst hS (ItemsOf.nil P) fun s' acc' c' hm hS' hacc=>hR s' acc' c' hm hS' hacc⟩
def fP(W:WalksS prog w A.in1 I fp wr G n P St)(hT:∀i s,St i s->s.TypeIs (.ref I) "list_reverseiterator")(S:Addr)(hst:St 0 s)(hSf:S ∉ fp)(hI:I∈fp)
  (hS:s.heap.get? S=some { cls:=.type "list",data:=.seq #[] })
  (hR:∀s' acc' c',Moved (S::wr) G s s'->s'.heap.get? S=some { cls:=.type "list",dict:=none,data:=.seq acc' c',slots:=#[] }->ItemsOf P acc' n->R (.ok (.ret .none)) s') (hn:n<=sizeLine) :
  wpAny (model prog w) A.in1 (Builtin.«list.__init__» ⟨[.ref S,.ref I],[]⟩)
   (fun fin s'=>match fin with | .done f=>R (.ok f) s' | .again c'=>c'.quiet=true/\codeAny (model prog w) A c' R s') (fun e s'=>R (.error e) s') s:=by
 show wpAny _ A.in1 (do let old <-Builtin.List.listItems (.ref S);Builtin.List.listUpdate (.ref S) (fun _=>#[]);letGo old.toList.reverse;Builtin.List.listExtendWith (.ref S) (.ref I) .none) _ _ s
 refine wpAny_bind ?_
 unfold Builtin.List.listItems
 refine wpAny_bind (wpAny_seqItems hS rfl (wpAny_pure ?_))
 show wpAny _ A.in1 (updateSeq S (fun _=>#[]) >>= fun _=>letGo (#[]:Vw).toList.reverse >>= fun _=>Builtin.List.listExtendWith (.ref S) (.ref I) .none) _ _ s
 refine wpAny_bind (wpAny_updateSeq hS rfl ?_)
 have Dk:=Heap.get?_update_self (Obj.mapSeq (fun _=>(#[]:Vw))) hS rfl
 have CK:∀b o,b≠S->s.heap.get? b=some o->(s.heap.update S (Obj.mapSeq (fun _=>(#[]:Vw)))).get? b=some o:=
  fun b o hb e=>(Heap.get?_update_other _ _ (Ne.symm hb)).trans e
 refine wpAny_bind (wpAny_letGo ?_)
 refine jm (hn:=hn) W hT S .none _ (W.frame 0 s _ s.toks hst (Nat.le_refl _) fun b hb o e=>CK b o (fun h=>hSf (h▸hb)) e) hSf hI Dk fun s' acc' c' hm hS' hacc=>?_
 exact hR s' acc' c' (Moved.trans W.gtrans ((Moved.refl W.grefl).then_heap (Nat.le_refl _) fun b o hb e=>CK b o (fun h=>hb (h▸List.mem_cons_self)) e) hm) hS' hacc
end
section
variable {prog:Program} {w:World} {A:Around} {E:Vq} {s:Shared}
def fQ{I l:Addr}{items:Vw}{Q:Vq}(hh:A.handled=none)(hl:s.heap.IsList l items)(hit:s.heap.IsRevIter I l ((items.size:Int) - 1))(hne:l≠I)(hn:items.size<=sizeLine)
  (hQ:∀h' tk acc' c',(∀b o,b≠I->s.heap.get? b=some o->h'.get? b=some o)->h'.get? s.heap.objs.size=some { cls:=.type "list",dict:=none,data:=.seq acc' c',slots:=#[] }->
   acc'.toList=items.toList.reverse->Q (.ref s.heap.objs.size) { s with heap:=h',toks:=tk }) :
  wpAny (model prog w) A (call (.type "list") [.ref I]) Q E s:=by
 have W:=(Walks.listRev (prog:=prog) (w:=w) (A:=A.in1.in1) hh I l hne items).toS
 have AY:I < s.heap.objs.size:=by obtain⟨o,ho,_⟩:=hit;exact Heap.lt_size ho
 have AZ:l < s.heap.objs.size:=by obtain⟨o,ho,_⟩:=hl;exact Heap.lt_size ho
 have hfp:∀b∈[I,l],b < s.heap.objs.size:=fun b hb=>by
  rcases List.mem_cons.mp hb with rfl|hb
  ·exact AY
  ·rw[List.mem_singleton.mp hb];exact AZ
 have hSf:s.heap.objs.size ∉ [I,l]:=fun hm=>Nat.lt_irrefl _ (hfp _ hm)
 have hst:(fun i (s:Shared)=>i<=items.size/\s.heap.IsRevIter I l ((items.size:Int) - 1 - (i:Int))/\s.heap.IsList l items) 0 s:=⟨Nat.zero_le _,by simpa using hit,hl⟩
 refine callType_codes (Q₁:=fun obj s₁=>obj = .ref s.heap.objs.size/\s₁={ s with heap:=s.heap.push { cls:=.type "list",data:=.seq #[] } }) F.called_list (F.typeCall_list_1 _) F.entry_list_init
  (code_list_new _ ⟨rfl,rfl⟩) fun obj s₁ h₁=>?_
 obtain⟨rfl,rfl⟩:=h₁
 have hS:(s.heap.push { cls:=.type "list",data:=.seq #[] }).get? s.heap.objs.size=some { cls:=.type "list",data:=.seq #[] }:=Heap.get?_push_size _ rfl
 refine⟨⟨_,hS,rfl⟩,F.args_list_init_2 _ _,fP (hn:=hn) W (fun i s st=>st.2.1.typeIs) _ (W.frame 0 s _ s.toks hst (Nat.le_refl _) fun b _ o e=>Heap.get?_push_of_some _ e) hSf (List.mem_cons_self ..) hS fun s' acc' c' hm hS' hacc=>?_⟩
 refine⟨rfl,?_⟩
 rw[hm.eq_with]
 refine hQ s'.heap s'.toks acc' c' (fun b o hb e=>hm.heap b o (fun z=>?_) (Heap.get?_push_of_some _ e)) hS' ?_
 ·rcases List.mem_cons.mp z with z|z
  ·exact absurd (Heap.lt_size e) (by rw[z];exact Nat.lt_irrefl _)
  ·exact hb (List.mem_singleton.mp z)
 ·obtain⟨hsz,hP⟩:=hacc
  apply List.ext_getElem?
  intro j
  by_cases hj:j < items.size
  ·have hj':j < acc'.size:=by rw[hsz];exact hj
   have q:=hP j acc'[j] (by simp[hj'])
   have e1:acc'.toList[j]?=some acc'[j]:=by simp[hj']
   rw[e1,List.getElem?_reverse (by simpa using hj)]
   simpa using q.symm
  ·rw[List.getElem?_eq_none (by simpa [hsz]using hj),List.getElem?_eq_none (by simpa using hj)]
end
end PySem
namespace L2
open PySem PySem.Spec PyProof.Rows
section
variable {X:Cx}
def mf(K:Vo)(te:TE):TE:=fun σ H Q=>te σ H fun x H1=>∃a xs,x = .ref a/\SqL K H1 a xs/\∀q,H1 q=none->Q (.ref q) (upd H1 q (.lst xs.reverse))
def jn{e:Expr}{te:TE}{p1 p2 q1 q2:Pos}(hc:X.calm=true)(he:PE X e te)(Cg:Gl X "list")(hm1:X.mg "list" = none)(Bp:Gl X "reversed")(hm2:X.mg "reversed" = none)
  (hs:starEach [e] X.env=[(false,eval e X.env)]:=by rfl) (hs2:starEach [.Call (.Name "reversed" p2) [e] [] q2] X.env=[(false,eval (.Call (.Name "reversed" p2) [e] [] q2) X.env)]:=by rfl) :
  PE X (.Call (.Name "list" p1) [.Call (.Name "reversed" p2) [e] [] q2] [] q1) (mf X.K te):=by
 intro pins s σ H Q I h
 refine wpAny_Call_Name_kw (cf I Cg hm1 (u:=.type "list") (by decide +kernel) ?_)
 refine PyProof.Rows.callWith_type1 ?_ hs2 rfl
 rw[hs2]
 show wpAny _ _ (spliced ((false,eval (.Call (.Name "reversed" p2) [e] [] q2) X.env)::backTo q1 [])) _ _ s
 refine Calls.spliced_cons ?_
 refine wpAny_Call_Name_kw (cf I Bp hm2 (u:=.type "reversed") boot_reversed ?_)
 refine PyProof.Rows.callWith_type1 ?_ hs rfl
 rw[hs]
 show wpAny _ _ (spliced ((false,eval e X.env)::backTo q2 [])) _ _ s
 refine Calls.spliced_cons (aL (he pins s σ H _ I h) fun u s1 ⟨x,H1,I1,r1,a,xs,ex,hx,q⟩=>?_)
 subst ex
 cases r1
 obtain⟨its,rv,p,hz⟩:=I1.list hx
 have hl:=rv.length
 have hal:a < s1.heap.objs.size:=by obtain⟨o,ho,_⟩:=p.isList;exact Heap.lt_size ho
 refine Calls.spliced_nil (call_reversed_list p.isList ?_)
 refine Calls.spliced_nil ?_
 refine fQ (I.ok.hd hc) (p.isList.push _) ⟨_,Heap.get?_push_size _ rfl,rfl,rfl⟩ (Nat.ne_of_lt hal) (by rw[List.size_toArray,<-hl];exact hz) fun h' tk acc c hk hS ha=>?_
 have hsz:(s1.heap.push (revObj a ((its.toArray.size:Int) - 1))).objs.size=s1.heap.objs.size+1:=Heap.size_push _ _
 have hle:s1.heap.objs.size<=(s1.heap.push (revObj a ((its.toArray.size:Int) - 1))).objs.size:=by rw[hsz];exact Nat.le_succ _
 refine⟨.ref _,_,I1.laid (a:=(s1.heap.push (revObj a ((its.toArray.size:Int) - 1))).objs.size) (o:=.lst xs.reverse) (h':=h') (t':=tk) (fun b u e=>hk b u (Nat.ne_of_lt (Heap.lt_size e)) (Heap.get?_push_of_some _ e)) hle ?_,rfl,q _ (I1.hok.fresh hle)⟩
 refine⟨by rw[List.length_reverse];exact hz,its.reverse,c,Vals.reverse rv,?_⟩
 rw[hS]
 have e:acc=its.reverse.toArray:=by
  apply Array.toList_inj.mp
  rw[ha]
 rw[e]
end
section
variable {X:Cx}
noncomputable abbrev sgn(c:Nat):Str:=⟨#[c]⟩
noncomputable def v8(z:Str):It:=⟨fun i _=>i < z.cps.size,fun i H x H'=>H'=H/\∃c,z.cps[i]?=some c/\x = .str (sgn c),fun i _=>z.cps.size<=i⟩
def mh{P:Program}{w:World}{K:Vo}{tg:Expr}{ty:String}(hty:ty = "str_ascii_iterator" \/ ty = "str_iterator")(it:Addr)(z:Str)(t:Tok):gM P w K tg (v8 z) [it] it (fun i h=>i<=z.cps.size/\h.IsStrIter it ty z t i):=by
 have W:∀A':Around,A'.handled=none->Walks P w A' it [it] [it] z.cps.size (SignAt z) (fun i h=>h.IsStrIter it ty z t i):=fun A' hA=>by
  rcases hty with rfl|rfl
  ·exact Walks.strAscii hA it z t
  ·exact Walks.strWide hA it z t
 have nt:(["enumerate","zip","dict_itemiterator","dict_reverseitemiterator","odict_iterator","itertools.zip_longest","itertools.pairwise"].contains ty)=false:=by
  rcases hty with rfl|rfl<;>decide
 refine⟨by simp,fun i h st b hb=>?_,fun i h h' st k=>?_,?_,?_,?_⟩
 ·have e:b=it:=by simpa using hb
  subst e
  obtain⟨_,o,e,c,d⟩:=st
  exact⟨o,e,fun v q=>by rw[d]at q;cases q⟩
 ·obtain⟨hi,o,e,r⟩:=st
  exact⟨hi,o,k it (by simp) o e,r⟩
 ·intro X hP hw hK hc i pins s σ H E I hf st hg
  subst hP hw hK
  obtain⟨f0,f1,f2,f3,f4,f5⟩:=hf it (by simp)
  refine(W X.A (I.ok.hd hc)).item i s _ _ hg st.2 fun v h' tk hv st' kk=>?_
  obtain⟨c,u,hcp,rfl⟩:=hv
  have I1:Inv X pins σ H { s with heap:=h',toks:=tk }:=I.turned (fun b o hb e=>kk b o (by simpa using hb) e) f0 f1 f3 f4 f5
  obtain⟨o,e,co,d⟩:=id st'
  exact⟨_,rfl,ip (s:={ s with heap:=h',toks:=tk }) e co d nt ⟨.str (sgn c),H,I1,⟨u,rfl⟩,⟨rfl,c,hcp,rfl⟩,⟨hg,st'⟩,fun b hb=>(hf b hb).1⟩⟩
 ·intro X hP hw hK hc i pins s σ H E I hf st hg
  subst hP hw hK
  obtain⟨f0,f1,f2,f3,f4,f5⟩:=hf it (by simp)
  have e:i=z.cps.size:=Nat.le_antisymm st.1 hg
  subst e
  exact(W X.A (I.ok.hd hc)).done s _ _ st.2 fun h' tk kk=>⟨rfl,I.turned (fun b o hb e=>kk b o (by simpa using hb) e) f0 f1 f3 f4 f5⟩
 ·intro A i s Q E st h
  rcases hty with rfl|rfl
  ·exact wpAny_pyIter_striter_ascii st.2 h
  ·exact wpAny_pyIter_striter_wide st.2 h
def kX(hc:X.calm=true):cx X (.builtin "all") (fun xs H Q=>∃(p:Addr) (bs:List Bool),xs=[.ref p]/\SqL X.K H p (bs.map V.bl)/\Q (.bl (bs.all id)) H):=by
 intro pins s σ H xs us Q I r h
 obtain⟨p,bs,rfl,hp,q⟩:=h
 obtain⟨u,rfl,rx⟩:=b3 r
 cases rx
 obtain⟨its,rv,pl,hz⟩:=I.list hp
 have hl:=rv.length
 rw[List.length_map]at hl
 have hlt:p < s.heap.objs.size:=by obtain⟨o,ho,_⟩:=pl.isList;exact Heap.lt_size ho
 refine call_all_walk (wpAny_pyIter_list pl.isList ?_)
 have up:∀b o,s.heap.get? b=some o->(s.heap.push { cls:=.type "list_iterator",data:=.fields #[.ref p,.int 0 0] }).get? b=some o:=fun b o e=>Heap.get?_push_of_some _ e
 refine⟨s.heap.objs.size,_,_,_,_,_,fun i=>(bs[i]?).getD true,rfl,Walks.list (A:=X.A.in1) (I.ok.hd hc) s.heap.objs.size p (Nat.ne_of_lt hlt) its.toArray,⟨⟨_,Heap.get?_push_size _ rfl,rfl,rfl⟩,pl.isList.push _⟩,?_,fun h' tk hk=>?_⟩
 ·intro i v s' Q' E' hv hq
  have hi:i < its.length:=by
   by_cases z:i < its.length
   ·exact z
   ·rw[Array.getElem?_eq_none (by simpa using z)]at hv;cases hv
  obtain⟨u',e1,r1⟩:=rv.get (i:=i) (x:=.bl bs[i]) (by rw[List.getElem?_map,List.getElem?_eq_getElem (by omega)];rfl)
  have e2:v=u':=by
   have z:its[i]?=some v:=by simpa using hv
   rw[z]at e1;exact Option.some.inj e1
  subst e2
  cases (show v=Value.bool bs[i] from r1)
  refine wpAny_truthy_bool ?_
  have hq':Q' ((bs[i]?).getD true) s':=hq
  rw[List.getElem?_eq_getElem (show i < bs.length by omega)]at hq'
  exact hq'
 ·have e:(List.range its.toArray.size).all (fun i=>(bs[i]?).getD true)=bs.all id:=by
   rw[List.size_toArray,<-hl,Bool.eq_iff_iff,List.all_eq_true,List.all_eq_true]
   constructor
   ·intro h1 x hx
    obtain⟨j,hj,e⟩:=List.getElem_of_mem hx
    have q1:=h1 j (List.mem_range.mpr hj)
    rw[List.getElem?_eq_getElem hj]at q1
    rw[<-e];exact q1
   ·intro h1 j hj
    have hj':=List.mem_range.mp hj
    rw[List.getElem?_eq_getElem hj']
    exact h1 _ (List.getElem_mem hj')
  rw[e]
  exact⟨.bl _,H,(I.kept (t':=tk) (h':=h') fun b o eo=>hk b o (by
   intro hm
   have hb:b=s.heap.objs.size:=by simpa using hm
   exact absurd (Heap.lt_size eo) (by rw[hb];exact Nat.lt_irrefl _)) (up b o eo)),rfl,q⟩
end
section
variable {X:Cx}
noncomputable def v9:V->Option Int->Option Int->Hp->VK->Prop:=fun x lo hi H Q=>∃z,x = .str z/\z.length<=sizeLine/\Q (.str (Txt.slice z lo hi)) H
def rD:tu X v9:=by
 intro pins s σ H x v vl vu lo hi sl Q I rx hs pl pu h
 obtain⟨z,rfl,hz,q⟩:=h
 obtain⟨t,rfl⟩:=rx
 refine⟨"str",_,F.slot_str_getitem.lookup,typeIs_str _ _ _,?_⟩
 obtain⟨o,e,c,d⟩:=hs
 have fin:∀l u:Option (Int×Tok),(vl=partValue l/\lo=l.map (·.1))->(vu=partValue u/\hi=u.map (·.1))->wpAny (model X.prog X.w) X.A (getItem (.str z t) (.ref sl)) (EP X pins σ Q) X.xe s:=by
  rintro l u ⟨rfl,rfl⟩ ⟨rfl,rfl⟩
  exact wpAny_getItem_str_slice (l:=l) (u:=u) (st:=none) ⟨o,e,c,d⟩ rfl (post_val_or_str ⟨Nat.le_trans (Txt.slice_le z _ _) hz,fun t' k=>⟨.str _,H,I.tok k,⟨t',rfl⟩,q⟩⟩)
 cases pl with
 |none=>
  cases pu with
  |none=>exact fin none none ⟨rfl,rfl⟩ ⟨rfl,rfl⟩
  |int j uj=>exact fin none (some (j,uj)) ⟨rfl,rfl⟩ ⟨rfl,rfl⟩
 |int i ui=>
  cases pu with
  |none=>exact fin (some (i,ui)) none ⟨rfl,rfl⟩ ⟨rfl,rfl⟩
  |int j uj=>exact fin (some (i,ui)) (some (j,uj)) ⟨rfl,rfl⟩ ⟨rfl,rfl⟩
end
end L2
namespace Zt
open PySem
open Sem (wp)
section
variable {prog:Program} {w:World} {A:Around} {E:Vq} {s:Shared}
def nx{j t:Addr}{i:Nat}{its:Vw}{x:Value}{Q:Vq}(hj:s.heap.IsTupleIter j t i)(ht:s.heap.IsTuple t its)(hx:its[i]?=some x)
  (k:∀g:Heap,g.IsTupleIter j t (i+1)->Heap.SameBut j s.heap g->Q x { s with heap:=g }):wpAny (model prog w) A (Builtin.SmallTypes.nextOf (.ref j)) Q E s:=by
 obtain⟨ob,eb,kb,db⟩:=id hj
 obtain⟨oc,ec,_,nc,dc⟩:=ht
 unfold Builtin.SmallTypes.nextOf
 refine wpAny_bind (wpAny_callSpecial?_slot (name:=Str.ofString "__next__") hj.typeIs F.slot_tuple_iterator_next (wpAny_call_entry F.slot_tuple_iterator_next hj.typeIs F.entry_tuple_iterator_next ?_ (F.args_tuple_iterator_next_1 _)))
 show wpAny _ _ (field (.ref j) 0 >>= _) _ _ s;refine wpAny_bind (wpAny_field eb db (x:=.ref t) rfl ?_)
 show wpAny _ _ (if (Value.ref t == Value.none)=true then _ else _) _ _ s;rw[if_neg (show ¬((Value.ref t == Value.none)=true)from Bool.false_ne_true)]
 show wpAny _ _ (field (.ref j) 1 >>= _) _ _ s;refine wpAny_bind (wpAny_field eb db (x:=.int i 0) rfl ?_)
 show wpAny _ _ (seqItems? (.ref t) >>= _) _ _ s;refine wpAny_bind (wpAny_seqItems ec dc ?_)
 simp only[Int.toNat_natCast,hx];refine wpAny_bind (wpAny_setField eb db (by simp) (wpAny_pure ⟨x,rfl,wpAny_pure (k _ ?_ (Heap.SameBut.update ..))⟩))
 exact⟨_,Heap.get?_update_self _ eb (Obj.isFreed_of_fields (Obj.data_mapFields db _)),(Obj.cls_mapFields ..).trans kb,by rw[Obj.data_mapFields db];simp[rawInt]⟩
def wP{j t:Addr}{i:Nat}{its:Vw}{Q:Vq}(hh:A.handled=none)(hj:s.heap.IsTupleIter j t i)(ht:s.heap.IsTuple t its)(hx:its[i]?=none)
  (k:∀(g:Heap) (e:Addr),Heap.ExtBut j s.heap g->(∃o,g.get? e=some o/\o.cls = .type "StopIteration")->E (.ref e) { s with heap:=g }):wpAny (model prog w) A (Builtin.SmallTypes.nextOf (.ref j)) Q E s:=by
 obtain⟨ob,eb,kb,db⟩:=id hj
 obtain⟨oc,ec,_,nc,dc⟩:=ht
 unfold Builtin.SmallTypes.nextOf
 refine wpAny_bind (wpAny_callSpecial?_slot (name:=Str.ofString "__next__") hj.typeIs F.slot_tuple_iterator_next (wpAny_call_entry F.slot_tuple_iterator_next hj.typeIs F.entry_tuple_iterator_next ?_ (F.args_tuple_iterator_next_1 _)))
 show wpAny _ _ (field (.ref j) 0 >>= _) _ _ s;refine wpAny_bind (wpAny_field eb db (x:=.ref t) rfl ?_)
 show wpAny _ _ (if (Value.ref t == Value.none)=true then _ else _) _ _ s;rw[if_neg (show ¬((Value.ref t == Value.none)=true)from Bool.false_ne_true)]
 show wpAny _ _ (field (.ref j) 1 >>= _) _ _ s;refine wpAny_bind (wpAny_field eb db (x:=.int i 0) rfl ?_)
 show wpAny _ _ (seqItems? (.ref t) >>= _) _ _ s;refine wpAny_bind (wpAny_seqItems ec dc ?_)
 simp only[Int.toNat_natCast,hx];refine wpAny_bind (wpAny_rule (wpAny_bind (wpAny_setField eb db (by simp) ?_)))
 show wpAny _ _ (newExc (.type "StopIteration") [] >>= _) _ _ _;refine wpAny_bind ?_
 simp only[newExc,newTuple];refine wpAny_bind (wpAny_newObj_type ?_ (by size_fits))
 refine wpAny_bind (m:=firstArgMember _ _) (wpAny_of_eq (a:=Value.none) (by first|rfl|(simp only[firstArgMember];rfl)) ?_);refine wpAny_newObj_type ?_ (by size_fits)
 simp only[raiseNew];refine wpAny_bind (wpAny_handled ?_)
 first|(rw[hh])|(rw[show A.in1.handled=none from hh])
 exact wpAny_bind (wpAny_pure (wpAny_throw (k _ _ (((Heap.SameBut.update ..).extBut.push _).push _) ⟨_,Heap.get?_push_size _ rfl,rfl⟩)))
variable {ka kb:Bool} {z TI TO i1 i2 l1 l2:Addr} {k1 k2:Nat} {xs ys:Vw} {x y a b:Value}
end
end Zt
namespace L2
open PySem PySem.Spec PyProof.Rows
section
variable {X:Cx} {pins:Va} {σ:St} {H:Hp} {s:Shared} {h':Heap}
def Inv.yU{t':Nat}{fp:List Addr}(I:Inv X pins σ H s)(k:∀b o,b ∉ fp->s.heap.get? b=some o->h'.get? b=some o)(hf:∀b∈fp,xG X pins H b):Inv X pins σ H { s with heap:=h',toks:=t' }:=by
 have Bi:∀b u,H b=some u->b ∉ fp:=fun b u e z=>by rw[(hf b z).1]at e;cases e
 refine I.step (g':=s.gens) (d':=s.drawn) (ch:=fp) (fun b hb=>?_) (fun b o _ _ hc e _=>k b o hc e) (fun b o _ _ hc e _=>⟨o.slots,k b o hc e⟩) (fun _ _ _ _ n=>n)
  (fun b o hc e=>⟨o,k b o hc e⟩) (fun _ _ e=>e) (fun _ _ _ e=>e) (fun b ps e=>⟨#[],by rw[e];simp⟩) (fun m hm=>?_) (fun b u e=>?_) I.bare
 ·obtain⟨f0,f1,f2,f3,f4,f5⟩:=hf b hb
  exact⟨f3,f1,f4,f5⟩
 ·obtain⟨o,es,ep,ho,r⟩:=hm
  exact⟨o,es,ep,k _ o (fun z=>(hf _ z).2.1 rfl) ho,r⟩
 ·refine(I.hok b u e).stay (fun c v hc q=>k c v ?_ q) (fun _ q=>q) fun _ _ q=>q
  rcases hc with z|z
  ·rw[z];exact Bi b u e
  ·exact Bi c _ z
def Inv.Af{D:Addr}{us:Vv}{ys:List V}(I:Inv X pins σ H s)(f:xG X pins H D)(e:xU s.heap D us.toArray)(r:Vals ys us)(hz:ys.length<=sizeLine) :
  Inv X pins σ (upd H D (.tup ys)) s:=by
 obtain⟨f0,f1,f2,f3,f4,f5⟩:=f
 have nD:∀b u,H b=some u->b≠D:=fun b u q=>aA q f0
 have hok:yg X.prog X.w (upd H D (.tup ys)) s.heap:=fun b u q=>by
  by_cases hb:b=D
  ·subst hb
   rw[ag]at q
   cases q
   exact⟨hz,us,r,e⟩
  ·rw[ae hb]at q
   exact(I.hok b u q).stay (fun _ _ _ z=>z) (fun c z=>by rw[ae (nD c _ z)];exact z) fun c xs z=>by rw[ae (nD c _ z)];exact z
 exact I.step (H':=upd H D (.tup ys)) (h':=s.heap) (g':=s.gens) (t':=s.toks) (d':=s.drawn) (ch:=[D])
  (fun b hb=>by
   have z:b=D:=by simpa using hb
   subst z
   exact⟨f3,f1,f4,f5⟩)
  (fun _ _ _ _ _ q _=>q) (fun _ o _ _ _ q _=>⟨o.slots,q⟩)
  (fun b o hb _ n=>by rw[ae (fun z=>hb (by simp[z]))];exact n)
  (fun _ o _ q=>⟨o,q⟩) (fun b xs q=>by rw[ae (nD b _ q)];exact q) (fun b o u q=>by rw[ae (nD b _ q)];exact q)
  (fun b ps q=>⟨#[],by rw[ae (nD b _ q),q];simp⟩) (fun _ q=>q) hok I.bare
end
section
variable {env:Env} {rest:List Expr} {pos:Pos}
def oV{x:Str}:starEach (.Name x pos::rest) env=(false,eval (.Name x pos) env)::starEach rest env:=rfl
def kY{a:Expr}{gs:List Comprehension}{sc:Scope}:starEach (.ListComp a gs sc pos::rest) env=(false,eval (.ListComp a gs sc pos) env)::starEach rest env:=rfl
end
noncomputable def v_(K:Vo)(a:Addr):It:=
  ⟨fun i H=>∃xs x,SqL K H a xs/\xs[i]?=some x,
   fun i H v H'=>∃p x,v = .ref p/\H p=none/\H'=upd H p (.tup [.int (i:Nat),x])/\∀xs,SqL K H a xs->xs[i]?=some x,
   fun i H=>∃xs,SqL K H a xs/\xs.length<=i⟩
def kZ{P:Program}{w:World}{K:Vo}{elts:List Expr}{k0:Nat}{zF:Pos}{e it a:Addr}(hei:e≠it) :
  gM P w K (.Tuple elts k0 zF) (v_ K a) [e,it] e (fun i h=>(∃old,IsEnum h e it i old)/\h.IsListIter it a i) where
 mem:=by simp
 obj:=fun i h st c hc=>by
  obtain⟨⟨old,ge⟩,⟨o1,e1,_,d1⟩⟩:=st
  simp only[List.mem_cons,List.not_mem_nil,or_false]at hc
  rcases hc with rfl|rfl
  ·exact⟨_,ge,fun v q=>by cases q⟩
  ·exact⟨_,e1,fun v q=>by rw[d1]at q;cases q⟩
 keep:=fun i h h' st k=>by
  obtain⟨⟨old,ge⟩,g1⟩:=st
  exact⟨⟨old,k e (by simp) _ ge⟩,g1.at fun o q=>k it (by simp) o q⟩
 item:=by
  intro X hP hw hK hc i pins s σ H E I hf st hg
  subst hP hw hK
  obtain⟨⟨old,ge⟩,g1⟩:=st
  obtain⟨xs,x,Av,hx⟩:=hg
  obtain⟨ia,ra,pa,za⟩:=I.list Av
  obtain⟨u,hu,ru⟩:=ra.get hx
  refine wpAny_pyNext_enum_item ge g1 pa.isList (x:=u) (by simpa using hu) hei fun g a1 a2 a3 a4 a5=>?_
  refine⟨_,rfl,wpAny_letOwnedTupleGo_enum (s:={ s with heap:=g,toks:=s.toks+1 }) a1 fun g' z' q'=>?_⟩
  have kk:∀c o,c ∉ [e,it]->s.heap.get? c=some o->g'.get? c=some o:=fun c o hc q=>by
   simp only[List.mem_cons,List.not_mem_nil,or_false,not_or]at hc
   exact(q'.2 c hc.1).trans (a5 c o hc.1 hc.2 q)
  have I1:Inv X pins σ H { s with heap:=g',toks:=s.toks+1 }:=I.yU kk hf
  have f0:xG X pins H s.heap.objs.size:=I.yz (Nat.le_refl _) (I.hok.fresh (Nat.le_refl _))
  have A0:s.heap.objs.size≠e:=Nat.ne_of_gt (Heap.lt_size ge)
  have eT:xU g' s.heap.objs.size [Value.int i s.toks,u].toArray:=⟨_,(q'.2 _ A0).trans a3,rfl,rfl,_,rfl⟩
  have I2:=I1.Af (ys:=[.int i,x]) f0 eT (.cons ⟨_,rfl⟩ (.cons ru .nil)) (by show 2<=sizeLine;decide)
  refine⟨.ref s.heap.objs.size,_,I2,rfl,⟨s.heap.objs.size,x,rfl,f0.1,rfl,fun xs' h1=>by rw[I.zr h1 Av];exact hx⟩,⟨⟨u,by simpa using z'⟩,a2.at fun o q=>(q'.2 it hei.symm).trans q⟩,fun c hc=>?_⟩
  have hlt:c < s.heap.objs.size:=by
   obtain⟨o1,e1,_⟩:=g1
   simp only[List.mem_cons,List.not_mem_nil,or_false]at hc
   rcases hc with rfl|rfl
   ·exact Heap.lt_size ge
   ·exact Heap.lt_size e1
  rw[ae (Nat.ne_of_lt hlt)]
  exact(hf c hc).1
 done:=by
  intro X hP hw hK hc i pins s σ H E I hf st hg
  subst hP hw hK
  obtain⟨⟨old,ge⟩,g1⟩:=st
  obtain⟨xs,Av,hl⟩:=hg
  obtain⟨ia,ra,pa,za⟩:=I.list Av
  have la:=ra.length
  refine wpAny_pyNext_enum_end (I.ok.hd hc) ge g1 pa.isList (by simp;omega) fun g kk=>⟨rfl,I.yU (t':=s.toks) (fun c o hc q=>?_) hf⟩
  simp only[List.mem_cons,List.not_mem_nil,or_false,not_or]at hc
  exact kk c o hc.2 q
 self:=fun _ _ _ _ _ st h=>by
  obtain⟨⟨old,ge⟩,_⟩:=st
  exact wpAny_pyIter_enum ge h
end L2
namespace Et
open PySem
open Sem (wp)
open AutoSeq1 (wpAny_loadPart')
def p_{P:Program}{w:World}{A:Around}(hh:A.handled=none)(it t:Addr)(hne:t≠it)(its:Vw) :
  Draws P w A it [it,t] its.size (fun i v=>its[i]?=some v) (fun i h=>h.IsTupleIter it t i/\h.IsTuple t its) where
 live:=fun i h st=>let ⟨⟨o,e,_⟩,_⟩:=st;⟨o,e⟩
 frame:=fun i h h' st k=>⟨st.1.at fun o e=>k it (by simp) o e,let ⟨o,e,r⟩:=st.2;⟨o,k t (by simp) o e,r⟩⟩
 item:=fun i s Q E hi st hQ=>Zt.nx st.1 st.2 (Array.getElem?_eq_getElem hi) fun g a b=>hQ _ g s.toks (Array.getElem?_eq_getElem hi) ⟨a,st.2.extBut b.extBut hne⟩ b
 done:=fun s Q E st hE=>Zt.wP hh st.1 st.2 (Array.getElem?_eq_none (Nat.le_refl _)) hE
noncomputable abbrev E1(h:Heap)(l:Addr):Heap:=h.push { cls:=.type "tuple_iterator",data:=.fields #[.ref l,.int 0 0] }
noncomputable abbrev E2(h:Heap)(l:Addr):Heap:=(E1 h l).push { cls:=.type "enumerate",data:=.fields #[.none,.bool false,.ref h.objs.size,rawInt 0,.none,.none] }
def k4(l:Addr)(its:Vw)(n:Nat)(dct:Option Addr)(sl:Array (Option Value)) :
  Meets (Builtin.«enumerate.__new__» ⟨[.type "enumerate",.ref l],[]⟩) (fun _ R s=>s.heap.get? l=some { cls:=.type "tuple",dict:=dct,data:=.seq its n,slots:=sl }/\R (.ok (.ret (.ref (E1 s.heap l).objs.size))) { s with heap:=E2 s.heap l }):=
 .of_wp fun prog w A R s h=>by
  obtain⟨hp,g,d,tk,os⟩:=s;obtain⟨hl,h⟩:=h
  have hsub:=sub_enumerate
  have T:Heap.IsTuple (Shared.heap ⟨hp,g,d,tk,os⟩) l its:=⟨_,hl,rfl,n,rfl⟩
  wp_walk using wpAny_loadPart' hl
  refine wpAny_stack_any fun st=>wpAny_pure ?_
  split
  ·rename_i c _ _ _ _ _
   cases (c == Value.type "enumerate")
   ·wp_walk using wpAny_loadPart' hl,wpAny_pyIter_tuple T
    exact⟨_,rfl,h⟩
   ·wp_walk using wpAny_loadPart' hl,wpAny_pyIter_tuple T
    exact⟨_,rfl,h⟩
  ·wp_walk using wpAny_loadPart' hl,wpAny_pyIter_tuple T
   exact⟨_,rfl,h⟩
def mi{P:Program}{w:World}{A:Around}{E:Vq}{s:Shared}{l:Addr}{its:Vw}{Q:Vq}(hT:s.heap.IsTuple l its)
  (k:∀g,IsEnum g (s.heap.objs.size+1) s.heap.objs.size 0 .none->g.IsTupleIter s.heap.objs.size l 0->(∀b o,s.heap.get? b=some o->g.get? b=some o)->Q (.ref (s.heap.objs.size+1)) { s with heap:=g }) :
  wpAny (model P w) A (call (.type "enumerate") [.ref l]) Q E s:=by
 obtain⟨⟨c,dct,dt,sl⟩,hl,hc,n,hd⟩:=hT
 replace hc:c = .type "tuple":=hc
 replace hd:dt = .seq its n:=hd
 subst hc hd
 refine callType_new F.called_enumerate (by decide) (F.typeCall_enumerate_1 _) (F.newCall_enumerate_1 _) (fun obj=>F.args_object_init_2 obj _) F.entry_enumerate_new (k4 l its n dct sl) ⟨hl,?_⟩
 have hz:(E1 s.heap l).objs.size=s.heap.objs.size+1:=Heap.size_push ..
 show _/\_
 rw[hz]
 have he:IsEnum (E2 s.heap l) (s.heap.objs.size+1) s.heap.objs.size 0 .none:=by
  have q:=Heap.get?_push_size (E1 s.heap l) (o:={ cls:=.type "enumerate",data:=.fields #[.none,.bool false,.ref s.heap.objs.size,rawInt 0,.none,.none] }) rfl
  rw[hz]at q
  exact q
 exact⟨⟨_,he,rfl⟩,k _ he ⟨_,Heap.get?_push_of_some _ (Heap.get?_push_size _ rfl),rfl,rfl⟩ fun b o x=>Heap.get?_push_of_some _ (Heap.get?_push_of_some _ x)⟩
end Et
namespace L2
open PySem PySem.Spec PyProof.Rows
noncomputable def wa(K:Vo)(a:Addr):It:=
  ⟨fun i H=>∃xs x,yi K H a xs/\xs[i]?=some x,
   fun i H v H'=>∃p x,v = .ref p/\H p=none/\H'=upd H p (.tup [.int (i:Nat),x])/\∀xs,yi K H a xs->xs[i]?=some x,
   fun i H=>∃xs,yi K H a xs/\xs.length=i⟩
def jo{P:Program}{w:World}{K:Vo}{elts:List Expr}{k0:Nat}{zF:Pos}{e it a:Addr}(hei:e≠it)(Dl:a≠e)(hai:a≠it) :
  gM P w K (.Tuple elts k0 zF) (wa K a) [e,it] e (fun i h=>(∃old,IsEnum h e it i old)/\h.IsTupleIter it a i) where
 mem:=by simp
 obj:=fun i h st c hc=>by
  obtain⟨⟨old,ge⟩,⟨o1,e1,_,d1⟩⟩:=st
  simp only[List.mem_cons,List.not_mem_nil,or_false]at hc
  rcases hc with rfl|rfl
  ·exact⟨_,ge,fun v q=>by cases q⟩
  ·exact⟨_,e1,fun v q=>by rw[d1]at q;cases q⟩
 keep:=fun i h h' st k=>by
  obtain⟨⟨old,ge⟩,g1⟩:=st
  exact⟨⟨old,k e (by simp) _ ge⟩,g1.at fun o q=>k it (by simp) o q⟩
 item:=by
  intro X hP hw hK hc i pins s σ H E I hf st hg
  subst hP hw hK
  obtain⟨⟨old,ge⟩,g1⟩:=st
  obtain⟨xs,x,Av,hx⟩:=hg
  obtain⟨ia,ra,pa,za⟩:=I.tuple Av
  obtain⟨u,hu,ru⟩:=ra.get hx
  have hil:i < ia.toArray.size:=by
   rcases Nat.lt_or_ge i ia.length with q|q
   ·simpa using q
   ·rw[List.getElem?_eq_none q]at hu;cases hu
  refine wpAny_pyNext_enum_itemD (Et.p_ (P:=X.prog) (w:=X.w) (A:=X.A.in1) (I.ok.hd hc) it a hai ia.toArray) ge ⟨g1,(show s.heap.IsTuple a ia.toArray from pa)⟩ hil hei (by simp[hei,Ne.symm Dl]) fun v g tk hv a1 a2 a3 a4 a5=>?_
  have ev:v=u:=by
   have q:ia[i]?=some v:=by simpa using hv
   rw[q]at hu
   exact Option.some.inj hu
  subst ev
  refine⟨_,rfl,wpAny_letOwnedTupleGo_enum (s:={ s with heap:=g,toks:=tk+1 }) a1 fun g' z' q'=>?_⟩
  have kk:∀c o,c ∉ [e,it]->s.heap.get? c=some o->g'.get? c=some o:=fun c o hc q=>by
   simp only[List.mem_cons,List.not_mem_nil,or_false,not_or]at hc
   exact(q'.2 c hc.1).trans (a5 c o hc.1 hc.2 q)
  have I1:Inv X pins σ H { s with heap:=g',toks:=tk+1 }:=I.yU kk hf
  have f0:xG X pins H s.heap.objs.size:=I.yz (Nat.le_refl _) (I.hok.fresh (Nat.le_refl _))
  have A0:s.heap.objs.size≠e:=Nat.ne_of_gt (Heap.lt_size ge)
  have eT:xU g' s.heap.objs.size [Value.int i tk,v].toArray:=⟨_,(q'.2 _ A0).trans a3,rfl,rfl,_,rfl⟩
  have I2:=I1.Af (ys:=[.int i,x]) f0 eT (.cons ⟨_,rfl⟩ (.cons ru .nil)) (by show 2<=sizeLine;decide)
  refine⟨.ref s.heap.objs.size,_,I2,rfl,⟨s.heap.objs.size,x,rfl,f0.1,rfl,fun xs' h1=>by rw[I.zc h1 Av];exact hx⟩,⟨⟨v,by simpa using z'⟩,a2.1.at fun o q=>(q'.2 it hei.symm).trans q⟩,fun c hc=>?_⟩
  have hlt:c < s.heap.objs.size:=by
   obtain⟨o1,e1,_⟩:=g1
   simp only[List.mem_cons,List.not_mem_nil,or_false]at hc
   rcases hc with rfl|rfl
   ·exact Heap.lt_size ge
   ·exact Heap.lt_size e1
  rw[ae (Nat.ne_of_lt hlt)]
  exact(hf c hc).1
 done:=by
  intro X hP hw hK hc i pins s σ H E I hf st hg
  subst hP hw hK
  obtain⟨⟨old,ge⟩,g1⟩:=st
  obtain⟨xs,Av,hl⟩:=hg
  obtain⟨ia,ra,pa,za⟩:=I.tuple Av
  have la:=ra.length
  have ei:i=ia.toArray.size:=by simp;omega
  subst ei
  refine wpAny_pyNext_enum_endD (Et.p_ (P:=X.prog) (w:=X.w) (A:=X.A.in1) (I.ok.hd hc) it a hai ia.toArray) ge ⟨g1,(show s.heap.IsTuple a ia.toArray from pa)⟩ fun g kk=>⟨rfl,I.yU (t':=s.toks) (fun c o hc q=>?_) hf⟩
  simp only[List.mem_cons,List.not_mem_nil,or_false,not_or]at hc
  exact kk c o hc.2 q
 self:=fun _ _ _ _ _ st h=>by
  obtain⟨⟨old,ge⟩,_⟩:=st
  exact wpAny_pyIter_enum ge h
section
variable {X:Cx}
def rE:dF X (compareOp .Is) (fun x y H Q=>x = .bl true/\y = .bl true/\Q (.bl true) H):=by
 intro pins s σ H x y v u Q I rx ry h
 obtain⟨rfl,rfl,q⟩:=h
 cases (show v=Value.bool true from rx)
 cases (show u=Value.bool true from ry)
 exact wpAny_is_self rfl ⟨.bl true,H,I,rfl,q⟩
end
end L2
namespace Wd
open PySem L2 PyProof.Rows
end Wd
namespace M3
def mj(x y:Int):Int.gcd y (x.fmod y)=Int.gcd x y:=by
 have q:=Int.mul_fdiv_add_fmod x y
 have e:Int.gcd y (x.fmod y+x.fdiv y * y)=Int.gcd y (x.fmod y):=Int.gcd_add_mul_right_right _ _ _
 rw[<-e,Int.mul_comm (x.fdiv y) y,Int.add_comm,q,Int.gcd_comm]
end M3
namespace Xc
open PySem PySem.W PySem.Calls PyProof.Rows Builtin Builtin.ObjectAttr
noncomputable abbrev rF:List Value:=[.type "ValueError",.type "Exception",.type "BaseException",.type "object"]
noncomputable def eJ(K:Frag)(C:Addr):Bool:=match K.lookup C with
 |some ⟨.type "type",_,.cls cd,sl⟩=>(match cd.mro,sl.toList with
  | .ref C'::bm,[_,_,_,_,some (.builtin n),_]=>C' == C&&n == "ValueError.__new__" && !cd.hasDel&&cd.hasDict&&tailIn K rF bm
  |_,_=>false)
 |_=>false
def jp{K:Frag}{h:Heap}{C:Addr}(X:K.In h)(q:eJ K C=true):∃nm qn N bs bm sn sub ab col dd k0 k1 k2 k3 k5,
  K.lookup C=some (excClassObj nm qn C N bs bm true sn sub ab col dd k0 k1 k2 k3 k5 "ValueError.__new__")/\OwnTail h rF bm:=by
 unfold eJ at q
 split at q
 ·rename_i dd cd sl ho
  split at q
  ·rename_i C' bm k0 k1 k2 k3 n k5 hm hs
   simp only[Bool.and_eq_true,beq_iff_eq,Bool.not_eq_true']at q
   obtain⟨⟨⟨⟨rfl,rfl⟩,Bq⟩,hdct⟩,ht⟩:=q
   obtain⟨nm,bs,mro,ns,qn,hd,sn,sub,ab,col,del⟩:=cd
   dsimp only at hm Bq hdct
   subst hm Bq hdct
   have hsl:sl=#[k0,k1,k2,k3,some (.builtin "ValueError.__new__"),k5]:=by
    obtain⟨l⟩:=sl
    simp only at hs
    rw[hs]
   subst hsl
   exact⟨nm,qn,ns,bs,bm,sn,sub,ab,col,dd,k0,k1,k2,k3,k5,ho,tail_of_in X ht⟩
  ·cases q
 ·cases q
noncomputable abbrev ck(rest:Vv):Obj:={ cls:=.type "tuple",data:=.seq rest.toArray }
noncomputable abbrev cm(C:Addr)(t:Addr):Obj:={ cls:=.ref C,data:=.fields #[.ref t,.none,.none,.none,.bool false,.none] }
section
variable {prog:Program} {w:World} {A:Around} {K:Frag} {C f:Addr} {R:Result->Shared->Prop} {h:Heap} {g:Array GenState} {d:Drawn} {t:Nat} {os:OsState}
def ml{rest:Vv}(X:K.In h)(q:eJ K C=true)(hi:findIn K (.ref C) "__init__" = some (some (.ref f)))(hf:typeIn K (.ref f)=some (.type "function"))(hrest:rest.length<=sizeLine)
  (hq:codeAny (model prog w) (A.under (.builtin "type.__call__" ⟨.ref C::rest,[]⟩)) (.call (.ref f) ⟨.ref (h.objs.size+1)::rest,[]⟩) (InitBack (h.objs.size+1) R) ⟨(h.push (ck rest)).push (cm C h.objs.size),g,d,t,os⟩) :
  codeAny (model prog w) A (.call (.ref C) ⟨rest,[]⟩) R ⟨h,g,d,t,os⟩:=by
 obtain⟨nm,qn,N,bs,bm,sn,sub,ab,col,dd,k0,k1,k2,k3,k5,hK,T⟩:=jp X q
 have hC:=X _ _ hK
 have F0:=PySem.F.excBase_ValueError
 have f1:=tc_lookup
 have f2:=tc_bind (.ref C)
 have hT:(⟨h,g,d,t,os⟩:Shared).TypeIs (.ref C) "type":=⟨_,hC,rfl⟩
 refine codeAny_of_tree ?_
 show wpAny _ _ (callAny (.ref C) _) _ _ _
 repeat (any_goals (first|assumption|with_reducible refine wpAny_loadPart_at hC ?_|wp_step))
 refine⟨rfl,?_⟩
 refine codeAny_call_builtin_at (Code.quiet_builtin _ (by decide +kernel)) entry_typeCall (wpAny_check_type_call_sub hC ?_)
 repeat (first|with_reducible refine wpAny_loadPart_at hC ?_|with_reducible refine wpAny_madeBy_exc hC ?_|wp_step)
 refine codeAny_call_builtin_code (Code.quiet_builtin _ F0.quiet) (wpAny_check_new_subU F0 F0.hasB T hC ?_)
 refine codeAny_exc_new_subU F0 F0.hasB F0 T hC ?_ hrest
 show wpAny _ _ _ _ _ _
 have k:∀b o,h.get? b=some o->((h.push (ck rest)).push (cm C h.objs.size)).get? b=some o:=fun b o e=>Heap.get?_push_of_some _ (Heap.get?_push_of_some _ e)
 have hx:((h.push (ck rest)).push (cm C h.objs.size)).get? (h.objs.size+1)=some (cm C h.objs.size):=by heap_get
 have t1:Looks (model prog w) ((h.push (ck rest)).push (cm C h.objs.size)) (typeOf (.ref (h.objs.size+1))) (.ref C):=(Looks.ld hx).andThen .now
 have hC₁:=k _ _ hC
 have hcC:(Value.ref C::bm).contains (.ref C)=true:=by simp
 have i1:=(looks_findIn (M:=model prog w) X hi).keeps k
 have b1:=(bind_fn (M:=model prog w) X (.ref (h.objs.size+1)) hf).keeps k
 show wpAny (model prog w) (A.under (.builtin "type.__call__" ⟨.ref C::rest,[]⟩)) _ _ _ ⟨(h.push (ck rest)).push (cm C h.objs.size),g,d,t,os⟩
 unfold isInstance callSpecial? specialOf
 repeat (first|with_reducible refine wpAny_call ?_|simp only[hcC,Bool.not_true,Bool.false_eq_true,if_false]|lk)
 refine codeAny_mono hq fun r s' z=>?_
 rcases r with e|(v|_|_|_)<;>first|exact z|exact z.elim|skip
 obtain⟨rfl,z⟩:=z
 exact wpAny_pure (wpAny_pure z)
end
structure mn (h:Heap) (e:Addr) (oe:Obj) (vs:Vw):Prop where
 at_:h.get? e=some oe
 dat:oe.data = .fields vs
 tb:vs[1]?=some .none\/∃T oT ts,vs[1]?=some (.ref T)/\T≠e/\h.get? T=some oT/\oT.data = .fields ts/\ts[3]?=some .none
section
variable {M:Model} {A:Around} {E:Vq} {s:Shared}
noncomputable abbrev vq(l:List Env):List Addr:=l.filterMap (·.frame)
structure j3 (l:List Env) (e:Addr) (oe:Obj) (old:Addr->Prop) (h h':Heap):Prop where
 lies:∃AE vs' T oT ts,h'.get? e=some AE/\AE.cls=oe.cls/\AE.dict=oe.dict/\AE.data = .fields vs'/\vs'[1]?=some (.ref T)/\h.objs.size<=T/\T≠e/\h'.get? T=some oT/\oT.data = .fields ts/\ts[3]?=some .none
 keep:∀b o,b≠e->¬old b->b ∉ vq l->h.get? b=some o->h'.get? b=some o
 slot:∀b o,b∈vq l->h.get? b=some o->∃sl,h'.get? b=some { o with slots:=sl }
def gj{base:Heap}{env:Env}{outer:List Env}{L e:Addr}{oe:Obj}{vs:Vw}{head:Value}{hadNext:Bool}{Q:Unit->Shared->Prop}
  (hfr:A.frames=some (env::outer)) (hl:s.heap.FunFrames base (env::outer)) (hf:env.frame=some L) (he:s.heap.get? e=some oe) (hd:oe.data = .fields vs) (hsz:1 < vs.size)
  (h:∀h',j3 (env::outer) e oe (fun _=>False) s.heap h'->Q () { s with heap:=h' }) :
  wpAny M A (do let a <-frameOf env;let pl <-entryPlaceOf L hadNext;let b <-EntryCells.newEntry head a .none (rawInt L) .none pl;setField (.ref e) 1 b) (fun _ s'=>wpAny M A (setFlight (.ref e) none) Q E s') E s:=by
 have Br:e ∉ (env::outer).filterMap (·.frame):=fun hm=>by
  obtain⟨_,o,ho,hnf⟩:=hl.mem hm
  rw[he]at ho;injection ho with ho;subst ho;exact hnf vs hd
 refine wpAny_bind (wpAny_frameOf_fun hfr hl hf fun h₁ hs₁=>?_)
 refine wpAny_bind (wpAny_entryPlaceOf fun pl hpl=>?_)
 unfold EntryCells.newEntry newFields
 refine wpAny_bind (wpAny_newObj_type ?_ (hpl.sizeOk5 _ _ _ _ _))
 have CL:h₁.get? e=some oe:=(hs₁.2.1 e Br).trans he
 have CM:=Heap.get?_push_of_some (h:=h₁) { cls:=.type "traceback",dict:=none,data:=.fields ([head,.ref L,.none,rawInt L,.none]++(if pl.isEmpty then List.replicate 6 Value.none else pl)).toArray } CL
 refine wpAny_setField CM hd hsz ?_
 have Bs:h₁.objs.size≠e:=Nat.ne_of_gt (Heap.lt_size CL)
 have hd₃:=Obj.data_mapFields hd (·.setIfInBounds 1 (Value.ref h₁.objs.size))
 have CN:=Heap.get?_update_self (Obj.mapFields (·.setIfInBounds 1 (Value.ref h₁.objs.size))) CM (Obj.isFreed_of_fields hd₃)
 have CO:=(Heap.get?_update_other (h₁.push { cls:=.type "traceback",dict:=none,data:=.fields ([head,.ref L,.none,rawInt L,.none]++(if pl.isEmpty then List.replicate 6 Value.none else pl)).toArray })
  (Obj.mapFields (·.setIfInBounds 1 (Value.ref h₁.objs.size))) (Ne.symm Bs)).trans (Heap.get?_push_size h₁ rfl)
 unfold setFlight
 refine wpAny_bind (wpAny_field CN hd₃ (x:=.ref h₁.objs.size) (by simp[hsz]) ?_)
 rw[if_pos (show(Value.ref h₁.objs.size != Value.none)=true from by simp)]
 refine wpAny_setField CO rfl (by simp only[List.size_toArray,List.length_append,List.length_cons,List.length_nil]<;>omega) (h _ ?_)
 have keep:∀b o,b≠e->h₁.get? b=some o->
   (((h₁.push { cls:=.type "traceback",dict:=none,data:=.fields ([head,.ref L,.none,rawInt L,.none]++(if pl.isEmpty then List.replicate 6 Value.none else pl)).toArray }).update e (Obj.mapFields (·.setIfInBounds 1 (Value.ref h₁.objs.size)))).update h₁.objs.size
    (Obj.mapFields (·.setIfInBounds 3 ((none:Option Addr).elim Value.none fun f=>rawInt f)))).get? b=some o:=fun b o zV hb=>by
  have Dm:h₁.objs.size≠b:=Nat.ne_of_gt (Heap.lt_size hb)
  rw[Heap.get?_update_other _ _ Dm,Heap.get?_update_other _ _ (Ne.symm zV)]
  exact Heap.get?_push_of_some _ hb
 refine⟨⟨_,_,h₁.objs.size,_,_,?_,Obj.cls_mapFields _ _,?_,hd₃,by simp[hsz],Nat.le_of_eq hs₁.1.symm,Bs,Heap.get?_update_self _ CO (Obj.isFreed_of_fields (Obj.data_mapFields rfl _)),Obj.data_mapFields rfl _,by first|(simp;done)|(rcases hpl with rfl|⟨_,_,_,_,_,_,_,rfl⟩<;>simp)⟩,fun b o zV _ AF hb=>keep b o zV ((hs₁.2.1 b AF).trans hb),fun b o AF hb=>?_⟩
 ·rw[Heap.get?_update_other _ _ Bs];exact CN
 ·obtain⟨c,dd,da,sl⟩:=oe;cases hd;rfl
 ·obtain⟨sl,hs⟩:=hs₁.2.2 b o hb
  exact⟨sl,keep b _ (fun z=>Br (z▸AF)) hs⟩
def dH(vs:Vw)(b:Addr):Prop:=vs[1]?=some (.ref b)
def j4{base:Heap}{env:Env}{outer:List Env}{L e:Addr}{oe:Obj}{vs:Vw}{Q:Unit->Shared->Prop}
  (hfr:A.frames=some (env::outer)) (hl:s.heap.FunFrames base (env::outer)) (hf:env.frame=some L) (x:mn s.heap e oe vs)
  (h:∀h',j3 (env::outer) e oe (dH vs) s.heap h'->Q () { s with heap:=h' }) :
  wpAny M A (noteFrame (.ref e) env) (fun _ s'=>wpAny M A (setFlight (.ref e) none) Q E s') E s:=by
 obtain⟨he,hd,h1|⟨T,oT,ts,h1,Bs,hT,BP,h3⟩⟩:=x
 ·unfold noteFrame
  simp only[hf]
  refine wpAny_bind (wpAny_field he hd h1 ?_)
  rw[if_neg (by decide)]
  refine gj hfr hl hf he hd (Array.getElem?_eq_some_iff.mp h1).1 fun h' n=>h h' ⟨n.lies,fun b o hb _=>n.keep b o hb id,n.slot⟩
 ·unfold noteFrame
  simp only[hf]
  refine wpAny_bind (wpAny_field he hd h1 ?_)
  rw[if_pos (show(Value.ref T != Value.none)=true from by simp)]
  refine wpAny_bind (wpAny_field hT BP h3 ?_)
  rw[if_neg (show ¬((Value.none == rawInt L)=true)from by simp[rawInt])]
  refine wpAny_bind (wpAny_setField hT BP (Array.getElem?_eq_some_iff.mp h3).1 ?_)
  have other:∀b,b≠T->(s.heap.update T (Obj.mapFields (·.setIfInBounds 3 Value.none))).get? b=s.heap.get? b:=fun b hb=>Heap.get?_update_other _ _ (Ne.symm hb)
  have Ag:∀b o,s.heap.get? b=some o->(∀vs,o.data ≠ .fields vs)->b≠T:=fun b o hb hnf q=>by
   rw[q,hT]at hb;injection hb with hb;subst hb;exact hnf ts BP
  refine gj hfr (hl.of_keeps fun b o hb hnf=>⟨o,(other b (Ag b o hb hnf)).trans hb,rfl⟩) hf ((other e (Ne.symm Bs)).trans he) hd (Array.getElem?_eq_some_iff.mp h1).1 fun h' n=>h h' ⟨?_,fun b o hb ho AF q=>n.keep b o hb id AF ((other b fun z=>ho (by rw[z];exact h1)).trans q),fun b o AF q=>n.slot b o AF ((other b fun z=>?_).trans q)⟩
  ·obtain⟨AE,vs',T',Dn,ts',a1,a2,a3,a4,a5,a6,a7⟩:=n.lies
   exact⟨AE,vs',T',Dn,ts',a1,a2,a3,a4,a5,by simpa [Heap.size_after_update]using a6,a7⟩
  ·obtain⟨_,o',ho',hnf⟩:=hl.mem AF
   rw[z,hT]at ho';injection ho' with ho';subst ho';exact hnf ts BP
def mo{base:Heap}{env:Env}{outer:List Env}{L e:Addr}{oe:Obj}{vs:Vw}{Q:Unit->Shared->Prop}
  (hfr:A.frames=some (env::outer)) (hl:s.heap.FunFrames base (env::outer)) (hf:env.frame=some L) (x:mn s.heap e oe vs)
  (h:∀h',j3 (env::outer) e oe (dH vs) s.heap h'->Q () { s with heap:=h' }):wpAny M A (leaving env (.ref e)) Q E s:=by
 unfold leaving
 exact wpAny_bind (j4 hfr hl hf x h)
end
section
variable {M:Model} {A:Around} {E:Vq} {env:Env} {K:Frag} {C:Addr}
def k6{s:Shared}{x:Sem Value}{Q:Flow->Shared->Prop}(q:eJ K C=true)(hh:A.handled=none)
  (h:wpAny M A x (fun v s₁=>∃e oe vs,v = .ref e/\K.In s₁.heap/\s₁.heap.get? e=some oe/\oe.cls = .ref C/\oe.data = .fields vs/\vs[1]?=some .none/\E (.ref e) s₁) E s) :
  wpAny M A (raiseStmt env (some x) none) Q E s:=by
 unfold raiseStmt
 refine wpAny_bind (wpAny_mono h (fun v s₁ h₁=>?_) fun _ _ x=>x)
 obtain⟨e,oe,vs,rfl,X,he,hc,hd,h1,hE⟩:=h₁
 obtain⟨nm,qn,N,bs,bm,sn,sub,ab,col,dd,k0,k1,k2,k3,k5,hK,T⟩:=jp X q
 have hC:=X _ _ hK
 obtain⟨hp,g,d,tk,os⟩:=s₁
 have Do:(Value.ref C::bm).contains (.type "BaseException")=true:=by rw[List.contains_cons,T.hasType PySem.F.excBase_ValueError.hasBase];rfl
 have Dp:(Value.ref C::bm).contains (.type "type")=false:=by rw[List.contains_cons,T.hasType (b:=false) (by decide +kernel)];rfl
 repeat (first|(with_reducible refine wpAny_loadPart_at he ?_;rw[hc])|with_reducible refine wpAny_loadPart_at hC ?_|(with_reducible refine wpAny_isSubtype_exc hC ?_;first|rw[Do]|rw[Dp])|with_reducible refine wpAny_field he hd h1 ?_|wp_step)
 exact wpAny_raiseNew_none hh hE
end
structure ExcK (K:Frag) (C:Addr):Prop where
 ok:eJ K C=true
 sa:findIn K (.ref C) "__setattr__" = some (some (.builtin "object.__setattr__"))
 ga:findIn K (.ref C) "__getattribute__" = some (some (.builtin "BaseException.__getattribute__"))
 gh:findIn K (.ref C) "__getattr__" = some none
 be:mroIn K C (.type "BaseException")=some true
 ob:mroIn K C (.type "object")=some true
 cl:findIn K (.ref C) "__class__" = some (some (.builtin "object.__class__"))
 cg:specialIn K (.builtin "object.__class__") "__get__" = some (some (.builtin "getset_descriptor.__get__"))
 ct:takesIn K (.builtin "object.__class__")=some true
def ExcK.dict{K:Frag}{C:Addr}(k:ExcK K C):hasDictIn K C=true:=by
 have q:=k.ok
 unfold eJ at q
 unfold hasDictIn clsIn
 split at q
 ·rename_i dd cd sl ho
  rw[ho]
  split at q
  ·simp only[Bool.and_eq_true]at q
   exact q.1.2
  ·cases q
 ·cases q
section
variable {prog:Program} {w:World} {A:Around} {E:Vq} {s:Shared} {K:Frag} {x C:Addr} {ox:Obj} {od:Option Obj} {name:Str} {expr:Bool} {Q:Vq}
def mq{M:Model}{nameV:Value}{Q:Unit->Shared->Prop}(X:K.In s.heap)(I:InstAt s.heap x ox C od)(k:ExcK K C)(hq:Q () s) :
  wpAny M A (checkBuiltinCall "BaseException.__getattribute__" ⟨[.ref x,nameV],[]⟩) Q E s:=
 @check_slot M A E s "BaseException.__getattribute__" "BaseException" "__getattribute__" (.ref x) [nameV] [] Q (by decide +kernel) (by decide +kernel) (I.type.andThen (looks_mroIn X k.be)) (F.args_bexc_ga (.ref x) nameV) hq
def mr{nameV:Value}{fill:Bool}(X:K.In s.heap)(I:InstAt s.heap x ox C od)(k:ExcK K C)
  (h:codeAny (model prog w) A (.call (.builtin "BaseException.__getattribute__") ⟨[.ref x,nameV],[]⟩) (fun r s'=>match r with | .ok (.ret v)=>wpAny (model prog w) A (handedOut v) Q E s'|_=>False) s) :
  wpAny (model prog w) A (getAttrBy (.ref x) nameV fill expr) Q E s:=by
 obtain⟨hh,g,d,t,os⟩:=s
 have L0:=I.type (M:=model prog w)
 have L1:=looks_findIn (M:=model prog w) X k.ga
 have L2:=looks_findIn (M:=model prog w) X k.gh
 have f3:=F.attr_ValueError.ga.bind (.ref x)
 have Dq:(expr&&onTheHeap (Value.builtin "BaseException.__getattribute__"))=false:=by cases expr<;>rfl
 have Dr:(Value.builtin "BaseException.__getattribute__" == Value.builtin "object.__getattribute__")=false:=by decide +kernel
 have Ds:(onTheHeap (Value.ref C)&&Value.builtin "BaseException.__getattribute__" == Value.builtin "object.__getattribute__")=false:=by rw[Dr];rfl
 unfold getAttrBy
 refine wpAny_holding (wpAny_bind (L0.at (wpAny_bind (L1.at ?_))))
 dsimp only
 rw[if_neg (by rw[Ds];decide)]
 unfold getAttrByItsOwn hookBefore
 refine wpAny_bind ?_
 show wpAny _ _ (typeLookup (.ref C) "__getattr__") _ _ _
 refine L2.at (wpAny_bind (wpAny_attempt (wpAny_holding ?_)))
 unfold callGetattribute
 rw[if_neg (by rw[Dq];decide)]
 unfold boundAndCalled
 rw[f3]
 refine wpAny_bind (wpAny_pure (wpAny_call (codeAny_mono h fun r s' z=>?_)))
 rcases r with e|(v|_|_|_)<;>first|exact z.elim|exact z
def ms{nameV:Value}{R:Result->Shared->Prop}(X:K.In s.heap)(I:InstAt s.heap x ox C od)(k:ExcK K C)
  (h:wpAny (model prog w) A.in1 (Builtin.«object.__getattribute__» ⟨[.ref x,nameV],[]⟩) (fun fin s'=>match fin with | .done f=>R (.ok f) s' | .again c'=>c'.quiet=true/\codeAny (model prog w) A c' R s') (fun e s'=>R (.error e) s') s) :
  codeAny (model prog w) A (.call (.builtin "BaseException.__getattribute__") ⟨[.ref x,nameV],[]⟩) R s:=
 codeAny_call_builtin F.attr_ValueError.ga.plain F.entry_bexc_ga (mq X I k h)
def oW{v:Value}(X:K.In s.heap)(I:InstAt s.heap x ox C od)(k:ExcK K C)(hf:findObj K C od name=some (.value v))(hh:handedIn v=true)(h:Q v { s with toks:=s.toks+1 }) :
  wpAny (model prog w) A (getAttr (.ref x) name expr) Q E s:=by
 unfold getAttr
 refine wpAny_bind (wpAny_mkText ?_)
 refine mr (s:={ s with toks:=s.toks+1 }) X I k (ms (s:={ s with toks:=s.toks+1 }) X I k ?_)
 obtain⟨hh',g,d,t,os⟩:=s
 have L0:=I.type (M:=model prog w)
 have L1:=looks_find (M:=model prog w) X I hf
 unfold Builtin.«object.__getattribute__»
 refine wpAny_bind (wpAny_pure (wpAny_bind (wpAny_pure (wpAny_bind (L0.at (wpAny_bind (L1.at ?_)))))))
 refine wpAny_pure ?_
 show wpAny _ _ (handedOut v) _ _ _
 rw[handedOut_of hh];exact wpAny_pure h
def k7{od:Obj}{Q:Option Value->Shared->Prop}(X:K.In s.heap)(I:InstAt s.heap x ox C (some od))(k:ExcK K C)(h:Q (some (.ref C)) { s with toks:=s.toks+1 }) :
  wpAny (model prog w) A (getAttr? (.ref x) "__class__") Q E s:=by
 have hf:findObj K C (some od) "__class__" = some (.bind (.builtin "getset_descriptor.__get__") (.builtin "object.__class__")):=findObj_data (by obtain⟨cd,hc,_⟩:=any_some k.dict;rw[hc];rfl) k.cl k.cg k.ct
 unfold getAttr? getAttrBy?
 refine wpAny_bind (wpAny_mkText (wpAny_bind (wpAny_attempt ?_)))
 refine mr (s:={ s with toks:=s.toks+1 }) X I k (ms (s:={ s with toks:=s.toks+1 }) X I k ?_)
 obtain⟨hh',g,d,t,os⟩:=s
 have L0:=I.type (M:=model prog w)
 have L1:=looks_find (M:=model prog w) X I hf
 unfold Builtin.«object.__getattribute__»
 refine wpAny_bind (wpAny_pure (wpAny_bind (wpAny_pure (wpAny_bind (L0.at (wpAny_bind (L1.at ?_)))))))
 show wpAny _ _ (holding [Value.builtin "object.__class__"] (call (.builtin "getset_descriptor.__get__") [.builtin "object.__class__",.ref x,.ref C]) >>= ret) _ _ _
 refine wpAny_bind (wpAny_holding (wpAny_call (class_get (s:=⟨hh',g,d,t+1,os⟩) (ox:=ox) (od:=some od) X I k.ob ?_)))
 refine wpAny_pure ?_
 show wpAny _ _ (handedOut (.ref C)) _ _ _
 rw[handedOut_of rfl];exact wpAny_pure (wpAny_pure h)
end
def fo{K:Frag}{x C:Addr}{ox od:Obj}(k:ExcK K C):KitX K (.ref x) (.ref C) (fun h=>InstAt h x ox C (some od)) where
 ty:=fun _ _ _ I=>I.type
 it:=fun _ _ X _=>by
  obtain⟨cdD,zX,_⟩:=any_some k.dict
  unfold clsIn at zX
  split at zX
  ·rename_i c' d' CP sl' ho
   intro A' Q' E' s' k q
   unfold isType loadHead
   exact wpAny_bind (wpAny_loadPart (k _ _ (X _ _ ho)) (wpAny_pure q))
  ·cases zX
 ne:=fun h tp dd its n sl X htp=>by
  obtain⟨cdD,zX,_⟩:=any_some k.dict
  refine Bool.eq_false_iff.mpr fun q=>?_
  have e:C=tp:=Value.ref.inj (beq_iff_eq.mp q)
  subst e
  unfold clsIn at zX
  split at zX
  ·rename_i c' d' CP sl' ho
   have z:=(X _ _ ho).symm.trans htp
   cases z
  ·cases zX
 ca:=fun X I q=>k7 X I k q
def iz(self:Value){h:Heap}{l:Vv}(T:OwnTail h rF l):refuseLoop self "__setattr__" l=pure ():=by
 induction T with
 |base=>exact PySem.F.store_ValueError.passes self
 |own _ _ _ _ ih=>rw[refuseLoop_ref];exact ih
section
variable {prog:Program} {w:World} {A:Around} {E:Vq} {s:Shared} {K:Frag} {x C:Addr} {ox:Obj} {od:Option Obj} {name:Str} {v:Value} {R:Result->Shared->Prop}
def oX{tk:Tok}{r:Option Value}(X:K.In s.heap)(I:InstAt s.heap x ox C od)(k:ExcK K C)(ht:takerIn K C name=some r)
  (h:∀b,wpAny (model prog w) A.in1 (match r with|some a=>setByDescriptor a (.ref x) v|none=>storeInOwnDict (.ref x) (.ref C) (.str name tk) name v b)
   (fun fin s'=>match fin with | .done f=>R (.ok f) s' | .again c'=>c'.quiet=true/\codeAny (model prog w) A c' R s') (fun e s'=>R (.error e) s') s) :
  codeAny (model prog w) A (.call (.builtin "object.__setattr__") ⟨[.ref x,.str name tk,v],[]⟩) R s:=by
 have SF:=PySem.F.store_object
 obtain⟨nm,qn,N,bs,bm,sn,sub,ab,col,dd,k0,k1,k2,k3,k5,hK,T⟩:=jp X k.ok
 have hc:clsIn K C=some { name:=nm,bases:=bs,mro:=.ref C::bm,ns:=N,qualname:=qn,hasDict:=true,slotNames:=sn,subclasses:=sub,abstract:=ab,collection:=col,hasDel:=false }:=by unfold clsIn;rw[hK]
 have sub:Looks (model prog w) s.heap (isInstance (.ref x) (.type "object")) true:=I.type.andThen (looks_mroIn X k.ob)
 refine codeAny_call_builtin SF.slot.plain SF.entry (@check_slot (model prog w) _ _ s "object.__setattr__" "object" "__setattr__" (.ref x) [.str name tk,v] [] _ SF.kind SF.split sub (SF.args (.ref x) (.str name tk) v) ?_)
 obtain⟨attr,ha,hr⟩:=Option.bind_eq_some_iff.mp ht
 have hm:Looks (model prog w) s.heap (mroOf (.ref C)) (.ref C::bm):=(looks_clsIn X hc).andThen .now
 have L3:Looks (model prog w) s.heap (storeTaker? attr) r:=by
  cases attr with
  |none=>cases hr;exact .now
  |some a=>
   obtain⟨b,hb,rfl⟩:=Option.map_eq_some_iff.mp hr
   refine(looks_takesIn X hb).andThen ?_
   cases b<;>exact .now
 rw[osa_eq,refuse_eq]
 refine wpAny_bind (wpAny_bind (I.type.here (wpAny_bind (hm.here ?_))))
 rw[refuseLoop_ref,iz _ T]
 refine wpAny_pure (wpAny_bind (I.type.here (wpAny_bind ((looks_findIn X ha).here (wpAny_bind (L3.here ?_))))))
 exact h _
def mv{Q:Unit->Shared->Prop}(X:K.In s.heap)(hx:s.heap.get? x=some ox)(hcl:ox.cls = .ref C)(hno:∀c,ox.data ≠ .cls c)(hd:ox.dict=none)(k:ExcK K C)(ht:takerIn K C name=some none)
  (h:∀h',h'.Ns1 s.heap.objs.size (fun y=>if y=name then some v else none)->h'.get? x=some { ox with dict:=some s.heap.objs.size }->(∀b o,b≠x->s.heap.get? b=some o->h'.get? b=some o)->Q () { s with heap:=h',toks:=s.toks+2 }) :
  wpAny (model prog w) A (setAttr (.ref x) name v) Q E s:=by
 have I:InstAt s.heap x ox C none:=⟨hx,hcl,by obtain⟨a,b,c,d⟩:=ox;cases c<;>first|rfl|exact absurd rfl (hno _),by rw[hd];trivial⟩
 refine set_plain X I k.sa (oX (s:={ s with toks:=s.toks+1 }) X I k ht fun b=>?_)
 obtain⟨cd,hc,hd'⟩:=any_some k.dict
 obtain⟨oc,odd,Ch,osl⟩:=ox
 dsimp only at hcl hd hno
 subst hcl hd
 obtain⟨hp,g,d,t,os⟩:=s
 unfold storeInOwnDict ownDictForStores instanceDict
 refine wpAny_bind (wpAny_pure (wpAny_bind (wpAny_bind (wpAny_loadPart hx (wpAny_bind (Looks.here (s:=⟨hp,g,d,t+1,os⟩) (looks_clsIn X hc) ?_))))))
 rw[hd']
 simp only[Bool.not_true,Bool.false_eq_true,if_false]
 rw[if_neg (by simp[typeHasDict])]
 have CQ:(hp.push { cls:=.type "dict",data:=.dict #[] }).get? x=some { cls:=Value.ref C,data:=Ch,slots:=osl }:=Heap.get?_push_of_some _ hx
 have hxs:x≠hp.objs.size:=Nat.ne_of_lt (Heap.lt_size hx)
 refine wpAny_bind (wpAny_alloc' ?_)
 refine wpAny_bind (wpAny_update' CQ ?_)
 refine wpAny_pure ?_
 have hgd:((hp.push { cls:=.type "dict",data:=.dict #[] }).update x fun o=>{ cls:=o.cls,dict:=some hp.objs.size,data:=o.data,slots:=o.slots }).get? hp.objs.size=some { cls:=.type "dict",data:=.dict #[] }:=
  (Heap.get?_update_ne _ _ _ _ hxs.symm).trans (Heap.get?_push_at rfl rfl)
 have hnd:((hp.push { cls:=.type "dict",data:=.dict #[] }).update x fun o=>{ cls:=o.cls,dict:=some hp.objs.size,data:=o.data,slots:=o.slots }).Ns hp.objs.size (fun _=>none):=
  ⟨_,#[],_,hgd,rfl,fun e he=>absurd he (by simp),fun _=>rfl⟩
 show wpAny _ _ (storeInDict hp.objs.size (.str name t) name v) _ _ _
 unfold storeInDict newKeyGuard
 refine wpAny_bind (wpAny_pure (wpAny_bind (wpAny_nsSet1 (Heap.Ns1.of_empty hnd) fun h' hn' hs=>?_)))
 obtain⟨oD,esD,epD,Dt,Du,zX⟩:=hn'.count (Within.cons name v Within.nil)
 refine wpAny_bind (wpAny_lookBehind Dt (by rw[Du];exact pastItsLine_dict (Nat.le_trans zX (by rw[List.length_cons,List.length_nil,sizeLine_eq];omega))) ?_)
 refine wpAny_pure (h h' hn' ?_ fun b o hb q=>(hs.2 b (Nat.ne_of_lt (Heap.lt_size q))).trans ((Heap.get?_update_ne _ _ _ _ hb).trans (Heap.get?_push_of_some _ q)))
 refine(hs.2 x hxs).trans (Heap.get?_update_self _ CQ ?_)
 have hfr:=(Heap.get?_some_iff.mp hx).2
 cases Ch<;>first|rfl|exact hfr
end
def iA{M:Model}{A:Around}{E:Vq}{s:Shared}{K:Frag}{x C D:Addr}{ox:Obj}{b:Bool}{Q:Bool->Shared->Prop}(X:K.In s.heap)(hx:s.heap.get? x=some ox)(hcl:ox.cls = .ref C)(hb:mroIn K C (.ref D)=some b)
  (hD:typeIn K (.ref D)=some (.type "type")) (zX:(clsIn K D).isSome=true) (zV:mroIn K D (.type "BaseException")=some true) (h:Q b s):wpAny M A (excMatches (.ref x) (.ref D)) Q E s:=by
 obtain⟨hp,g,d,t,os⟩:=s
 have t1:Looks M hp (typeOf (.ref x)) (.ref C):=by rw[<-hcl];exact(Looks.ld hx).andThen .now
 have t2:Looks M hp (typeOf (.ref D)) (.type "type"):=looks_typeIn X hD
 have t3:Looks M hp (isType (.ref D)) true:=by
  unfold clsIn at zX
  split at zX
  ·rename_i c' d' CP sl' ho
   intro A' Q' E' s' k q
   unfold isType loadHead
   exact wpAny_bind (wpAny_loadPart (k _ _ (X _ _ ho)) (wpAny_pure q))
  ·cases zX
 have i1:Looks M hp (isInstance (.ref D) (.type "tuple")) false:=t2.andThen (Looks.of_pure tc_notTuple)
 have i2:Looks M hp (isExcClass (.ref D)) true:=by
  unfold isExcClass
  refine t3.andThen ?_
  exact looks_mroIn X zV
 have i3:Looks M hp (isSubtype (.ref C) (.ref D)) b:=looks_mroIn X hb
 unfold excMatches
 refine wpAny_bind (m:=isInstance (.ref D) (.type "tuple")) (i1.at ?_)
 simp only[Bool.false_eq_true,if_false]
 refine wpAny_bind (wpAny_pure ?_)
 rw[List.forIn_cons]
 refine wpAny_bind (wpAny_bind (wpAny_bind (i2.at ?_)))
 simp only[Bool.not_true,Bool.false_eq_true,if_false]
 refine wpAny_pure (wpAny_pure (wpAny_bind (t1.at ?_)))
 rw[List.forIn_cons]
 refine wpAny_bind (wpAny_bind (wpAny_bind (i3.at ?_)))
 cases b with
 |true=>exact wpAny_pure (wpAny_pure (wpAny_pure h))
 |false=>exact wpAny_pure (wpAny_pure (wpAny_pure h))
end Xc
namespace L2
open PySem PySem.Spec PyProof.Rows Xc
def tD(X:Cx)(pins:Va)(H:Hp)(h:Heap)(a C dx:Addr):Prop:=
 ∃oe vs,mn h a oe vs/\oe.cls = .ref C/\oe.dict=some dx/\xG X pins H a/\∀T,vs[1]?=some (.ref T)->xG X pins H T
def ux(n:Nat)(H:Hp)(h:Heap)(a C dx:Addr):Prop:=
 ∃oe vs,mn h a oe vs/\oe.cls = .ref C/\oe.dict=some dx/\H a=none/\n<=a/\∀T,vs[1]?=some (.ref T)->H T=none/\n<=T
noncomputable def nZ(P:Program)(w:World):lV:=fun outer H s E e s'=>
 ∃a C dx H',e = .ref a/\s'.os=s.os/\AllBare s'.gens/\Un (frs outer) [] H H' s.heap s'.heap/\yg P w H' s'.heap/\ux s.heap.objs.size H' s'.heap a C dx/\E (.ref C) (some dx) H'
section
variable {X:Cx} {pins:Va} {σ:St} {H H':Hp} {s s':Shared} {a C dx:Addr}
def Inv.noted{oe:Obj}{vs:Vw}{h':Heap}(I:Inv X pins σ H s)(n:j3 X.stack a oe (dH vs) s.heap h')(x:mn s.heap a oe vs)(hc:oe.cls = .ref C)(hd:oe.dict=some dx)(f:xG X pins H a)(fT:∀T,vs[1]?=some (.ref T)->xG X pins H T) :
  Inv X pins σ H { s with heap:=h' }/\tD X pins H h' a C dx:=by
 have tr:∀b u,H b=some u->b≠a/\¬dH vs b/\b ∉ vq X.stack:=fun b u e=>⟨fun z=>(by rw[z,f.1]at e;cases e),fun z=>(by rw[(fT b z).1]at e;cases e),fun z=>(by rw[I.zi b z]at e;cases e)⟩
 have ff:∀b,(b=a\/dH vs b)->xG X pins H b:=fun b hb=>by
  rcases hb with rfl|hb
  ·exact f
  ·exact fT b hb
 have hok:yg X.prog X.w H h':=fun b u e=>(I.hok b u e).stay (fun c v hc q=>by
  rcases hc with rfl|hc
  ·obtain⟨t1,t2,t3⟩:=tr c u e;exact n.keep c v t1 t2 t3 q
  ·obtain⟨t1,t2,t3⟩:=tr c _ hc;exact n.keep c v t1 t2 t3 q) (fun _ z=>z) fun _ _ z=>z
 have Dv:∀b o,s.heap.get? b=some o->b≠a->¬dH vs b->∃o',h'.get? b=some o':=fun b o e h1 h2=>by
  by_cases hb:b∈vq X.stack
  ·obtain⟨sl,q⟩:=n.slot b o hb e;exact⟨_,q⟩
  ·exact⟨o,n.keep b o h1 h2 hb e⟩
 have go:∀ch:List Addr,(∀b,b∈ch↔(b=a\/dH vs b))->Inv X pins σ H { s with heap:=h' }:=fun ch hch=>by
  refine I.call (g':=s.gens) (t':=s.toks) (d':=s.drawn) (ch:=ch) ⟨fun b o e n1 n2 n3=>?_,fun b o e _ n2 _=>n.slot b o n2 e,fun _ _ _ z _=>z,fun b o e n1=>?_,fun _ _ z=>z,fun _ _ _ z=>z,fun _ ps z=>⟨#[],by rw[z];simp⟩⟩ hok I.bare fun b hb=>?_
  ·exact n.keep b o (fun z=>n3 ((hch b).mpr (.inl z))) (fun z=>n3 ((hch b).mpr (.inr z))) n2 e
  ·exact Dv b o e (fun z=>n1 ((hch b).mpr (.inl z))) (fun z=>n1 ((hch b).mpr (.inr z)))
  ·obtain⟨f0,f1,f2,f3,f4,f5⟩:=ff b ((hch b).mp hb)
   exact⟨f3,f1,f4,f5⟩
 refine⟨?_,?_⟩
 ·rcases x.tb with h1|⟨T,oT,ts,h1,_⟩
  ·refine go [a] fun b=>⟨fun z=>.inl (by simpa using z),fun z=>?_⟩
   rcases z with z|z
   ·simp[z]
   ·unfold dH at z;rw[h1]at z;cases z
  ·refine go [a,T] fun b=>⟨fun z=>?_,fun z=>?_⟩
   ·simp only[List.mem_cons,List.not_mem_nil,or_false]at z
    rcases z with z|z
    ·exact .inl z
    ·exact .inr (by rw[z];exact h1)
   ·rcases z with z|z
    ·simp[z]
    ·unfold dH at z;rw[h1]at z;cases z;simp
 ·obtain⟨AE,vs',T,oT,ts,a1,a2,a3,a4,a5,a6,a7,a8,a9,Dw⟩:=n.lies
  refine⟨AE,vs',⟨a1,a4,.inr ⟨T,oT,ts,a5,a7,a8,a9,Dw⟩⟩,a2.trans hc,a3.trans hd,f,fun T' hT'=>?_⟩
  rw[a5]at hT'
  cases hT'
  exact I.yz a6 (I.hok.fresh a6)
def Inv.raised{E:XK}{e:Value}(I:Inv X pins σ H s)(h:nZ X.prog X.w X.stack H s E e s'):∃a C dx H',e = .ref a/\Inv X pins σ H' s'/\tD X pins H' s'.heap a C dx/\E (.ref C) (some dx) H':=by
 obtain⟨a,C,dx,H',rfl,os,bare,un,hok,⟨oe,vs,x,hc,hd,h0,hn,hT⟩,hE⟩:=h
 refine⟨a,C,dx,H',rfl,I.AC (ch:=[]) os un hok bare (fun b z=>absurd z (by simp)),⟨oe,vs,x,hc,hd,I.yz hn h0,fun T z=>I.yz (hT T z).2 (hT T z).1⟩,hE⟩
end
def k8{P:Program}{w:World}{K:Vo}{mg:Vr}{base:Heap}{N:Vs}{qual:Str}{scope:Scope}{f:Addr}{cd:Value}{A:Around}{outer:List Env}{s s':Shared}{H H':Hp}{E:XK}{pins:Va}{σ:St}{a C dx:Addr}
  (I:Inv (du (nZ P w) P w K mg base N qual scope f cd A outer s H E) pins σ H' s') (x:tD (du (nZ P w) P w K mg base N qual scope f cd A outer s H E) pins H' s'.heap a C dx) (hE:E (.ref C) (some dx) H') :
  (du (nZ P w) P w K mg base N qual scope f cd A outer s H E).xe (.ref a) s':=by
 obtain⟨oe,vs,x,hc,hd,fa,fT⟩:=x
 have hfr:(du (nZ P w) P w K mg base N qual scope f cd A outer s H E).A.frames=some (envOfC qual scope s.heap.objs.size f cd::outer):=I.ok.frames
 have hl:=I.stack
 refine mo (s:=s') (env:=envOfC qual scope s.heap.objs.size f cd) (outer:=outer) hfr hl rfl x fun h' n=>?_
 obtain⟨I2,x2⟩:=I.noted (h':=h') n x hc hd fa fT
 obtain⟨Bt,Aa,x2,hc2,hd2,BQ,BR⟩:=x2
 have lt:∀b,xG (du (nZ P w) P w K mg base N qual scope f cd A outer s H E) pins H' b->s.heap.objs.size<=b:=fun b q=>by
  rcases q.2.2.2.1 with z|z
  ·exact absurd (show b∈([]:List Addr)from z) (by simp)
  ·exact z
 exact⟨a,C,dx,H',rfl,I2.os,I2.bare,I2.base,I2.hok,⟨Bt,Aa,x2,hc2,hd2,BQ.1,lt a BQ,fun T z=>⟨(BR T z).1,lt T (BR T z)⟩⟩,hE⟩
section
variable {X:Cx} {k:Nat} {f C:Addr} {fd:FuncData} {ps:Vs} {sp:Sp} {x m:Str} {p pos apos:Pos} {e o:Expr} {es:List Expr} {ta:TE} {t:TA}
noncomputable def EX(X:Cx)(pins:Va)(σ:St):XK:=fun c d H'=>∀s' a C dx,c = .ref C->d=some dx->Inv X pins σ H' s'->tD X pins H' s'.heap a C dx->X.xe (.ref a) s'
def oY{pins:Va}{σ:St}{H:Hp}{s:Shared}{Q:VK}{E:XK}{us:Vv}{vs:List V}(F:cG X.prog X.w X.K X.mg X.base (nZ X.prog X.w) k f fd ps sp)(hr:Room k X.A)(hb:Binds X.K fd ps [])
  (hE:∀c d H',E c d H'->EX X pins σ c d H') (I:Inv X pins σ H s) (r:Vals vs us) (h:sp vs H Q E):wpAny (model X.prog X.w) X.A (call (.ref f) us) (EP X pins σ Q) X.xe s:=by
 have hl:(us++[]).length=ps.length:=by rw[List.append_nil,<-r.length];exact F.len _ _ _ _ h
 have hb':=hb s us I.y9 hl
 rw[List.append_nil]at hb'
 refine wpAny_call (codeAny_mono (F.run X.A X.stack s H ⟨us,[]⟩ us vs Q E hr I.AQ hb' r h) fun r s' hq=>?_)
 cases r with
 |error e=>
  obtain⟨a,C,dx,H',rfl,I',xa,he⟩:=I.raised hq
  exact hE _ _ _ he s' a C dx rfl rfl I' xa
 |ok fl=>
  cases fl with
  |ret u=>exact I.after hq
  |next=>exact False.elim hq
  |brk=>exact False.elim hq
  |cont=>exact False.elim hq
def rG(X:Cx)(sp:Sp)(t:TA):TE:=fun σ H Q=>t σ H fun vs H1=>∃E,sp vs H1 Q E/\∀pins c d H',E c d H'->EX X pins σ c d H'
def mw(F:cG X.prog X.w X.K X.mg X.base (nZ X.prog X.w) k f fd ps sp)(hr:Room k X.A)(hg:Gl X x)(hm:X.mg x=some (.ref f))(hk:PySem.W.keepIn X.K (.ref f)=true)(hb:Binds X.K fd ps [])
  (ha:PA X (e::es) t) (hdb:(x == ("__debug__":Str))=false:=by decide) (he:starEach (e::es) X.env=(false,eval e X.env)::starEach es X.env:=by rfl) (hpl:(backTo pos (starEach es X.env)).any (·.1)=false:=by rfl) :
  PE X (.Call (.Name x p) (e::es) [] pos) (rG X sp t):=by
 intro pins s σ H Q I h
 refine wpAny_Call_Name_kw (cZ I hg hm ?_ hdb)
 refine PySem.W.callWith_K (h₀:=X.base) I.ok.mod.Bf hk (aL (ha pos pins s σ H _ I h) fun us s1 ⟨vs,H1,I1,r,E,q,hE⟩=>⟨I1.y9,?_⟩) he hpl
 exact oY F hr hb (hE pins) I1 r q
end
def XO(a C:Addr)(d:Option Addr)(h:Heap):Prop:=∃oe vs,h.get? a=some oe/\oe.cls = .ref C/\oe.dict=d/\oe.data = .fields vs/\vs[1]?=some .none
def XD(dx:Addr)(fs:List (Str×V))(h:Heap):Prop:=∃mA,h.Ns1 dx mA/\(∀f,yF (fs.lookup f) (mA f))/\PySem.Within mA (fs.map (·.1))
def XO.stay{a C:Addr}{d:Option Addr}{h1 h2:Heap}(x:XO a C d h1)(k:∀o,h1.get? a=some o->h2.get? a=some o):XO a C d h2:=let ⟨oe,vs,e,r⟩:=x;⟨oe,vs,k oe e,r⟩
def XD.stay{dx:Addr}{fs:List (Str×V)}{h1 h2:Heap}(x:XD dx fs h1)(k:∀o,h1.get? dx=some o->h2.get? dx=some o):XD dx fs h2:=let ⟨mA,⟨o,es,ep,e,r⟩,q⟩:=x;⟨mA,⟨o,es,ep,k o e,r⟩,q⟩
def XO.ok{P:Program}{w:World}{H:Hp}{h:Heap}{a C:Addr}{d:Option Addr}(x:XO a C d h):xv P w H h a (.ext (XO a C d)):=⟨x,let ⟨oe,_,e,_⟩:=x;⟨oe,e⟩,fun _ _ y k=>y.stay k⟩
def XD.ok{P:Program}{w:World}{H:Hp}{h:Heap}{dx:Addr}{fs:List (Str×V)}(x:XD dx fs h):xv P w H h dx (.ext (XD dx fs)):=⟨x,let ⟨_,⟨o,_,_,e,_⟩,_⟩:=x;⟨o,e⟩,fun _ _ y k=>y.stay k⟩
def XO.of{P:Program}{w:World}{H:Hp}{h:Heap}{a C:Addr}{d:Option Addr}(hok:yg P w H h)(e:H a=some (.ext (XO a C d))):XO a C d h:=(show xv P w H h a (.ext (XO a C d))from hok a _ e).1
def XD.of{P:Program}{w:World}{H:Hp}{h:Heap}{a:Addr}{fs:List (Str×V)}(hok:yg P w H h)(e:H a=some (.ext (XD a fs))):XD a fs h:=(show xv P w H h a (.ext (XD a fs))from hok a _ e).1
section
variable {X:Cx} {pins:Va} {σ:St} {H:Hp} {s:Shared}
def Inv.Ah{D:Addr}{o:HO}(I:Inv X pins σ H s)(f:xG X pins H D)(n:xv X.prog X.w (upd H D o) s.heap D o):Inv X pins σ (upd H D o) s:=by
 obtain⟨f0,f1,f2,f3,f4,f5⟩:=f
 have nD:∀b u,H b=some u->b≠D:=fun b u q=>aA q f0
 have hok:yg X.prog X.w (upd H D o) s.heap:=fun b u q=>by
  by_cases hb:b=D
  ·subst hb
   rw[ag]at q
   cases q
   exact n
  ·rw[ae hb]at q
   exact(I.hok b u q).stay (fun _ _ _ z=>z) (fun c z=>by rw[ae (nD c _ z)];exact z) fun c xs z=>by rw[ae (nD c _ z)];exact z
 exact I.step (H':=upd H D o) (h':=s.heap) (g':=s.gens) (t':=s.toks) (d':=s.drawn) (ch:=[D])
  (fun b hb=>by
   have z:b=D:=by simpa using hb
   subst z
   exact⟨f3,f1,f4,f5⟩)
  (fun _ _ _ _ _ q _=>q) (fun _ o _ _ _ q _=>⟨o.slots,q⟩)
  (fun b o hb _ n=>by rw[ae (fun z=>hb (by simp[z]))];exact n)
  (fun _ o _ q=>⟨o,q⟩) (fun b xs q=>by rw[ae (nD b _ q)];exact q) (fun b o u q=>by rw[ae (nD b _ q)];exact q)
  (fun b ps q=>⟨#[],by rw[ae (nD b _ q),q];simp⟩) (fun _ q=>q) hok I.bare
def Inv.forget{H':Hp}{D:Addr}{φ:Heap->Prop}(I:Inv X pins σ H s)(e:H D=some (.ext φ))(h1:H' D=none)(h2:∀b,b≠D->H' b=H b):Inv X pins σ H' s:=by
 have ne:∀b u,H b=some u->u ≠ .ext φ->b≠D:=fun b u q z y=>by rw[y,e]at q;exact z (Option.some.inj q).symm
 refine I.un (h':=s.heap) (t':=s.toks) ⟨fun _ _ q _ _ _=>q,fun _ o q _ _ _=>⟨o.slots,q⟩,fun b o q n _=>?_,fun _ o q _=>⟨o,q⟩,fun b xs q=>?_,fun b o u q=>?_,fun b ps q=>?_⟩ fun b u q=>?_
 ·by_cases z:b=D
  ·rw[z];exact h1
  ·rw[h2 b z];exact n
 ·rw[h2 b (ne b _ q fun z=>nomatch z)];exact q
 ·rw[h2 b (ne b _ q fun z=>nomatch z)];exact q
 ·exact⟨#[],by rw[h2 b (ne b _ q fun z=>nomatch z),q];simp⟩
 ·have hb:b≠D:=fun z=>by rw[z,h1]at q;cases q
  rw[h2 b hb]at q
  exact(I.hok b u q).stay (fun _ _ _ z=>z) (fun c z=>by rw[h2 c (ne c _ z fun y=>nomatch y)];exact z) fun c xs z=>by rw[h2 c (ne c _ z fun y=>nomatch y)];exact z
end
def rH(K:Vo)(ta tv:TE)(f:Str):TS:=fun D σ H=>tv σ H fun y H1=>ta σ H1 fun x H2=>∃a C,x = .ref a/\H2 a=some (.ext (XO a C none))/\ExcK K C/\NoAttr K C f/\
 ∀dx,H2 dx=none->dx≠a->D.nx σ (upd (upd H2 a (.ext (XO a C (some dx)))) dx (.ext (XD dx [(f,y)])))
section
variable {X:Cx} {o value:Expr} {f:Str} {pos pos':Pos} {ta tv:TE}
def rJ(ha:PE X o ta)(hv:PE X value tv)(hs:swapsWith value (some (.Attribute o f pos')) pos.line X.env=pure false):PS X (.Assign [.Attribute o f pos'] value pos) (rH X.K ta tv f):=by
 intro pins s σ H D I h
 refine plainObj_wpAny_Assign_Attribute (aL (hv pins s σ H _ I h) fun u s1 ⟨y,H1,I1,ry,q⟩=>aL (ha pins s1 σ H1 _ I1 q) fun ov s2 ⟨x,H2,I2,rx,a,C,ex,ea,k,n,q2⟩=>?_) hs
 subst ex
 obtain rfl:ov=Value.ref a:=rx
 obtain⟨oe,vs,g1,g2,g3,g4,g5⟩:=XO.of I2.hok ea
 have ne:s2.heap.objs.size≠a:=Nat.ne_of_gt (Heap.lt_size g1)
 refine mv I2.y9 g1 g2 (fun c z=>by rw[g4]at z;cases z) g3 k n.Bj fun h' n1 n2 n3=>?_
 have J1:Inv X pins σ (upd H2 a (.ext (XO a C (some s2.heap.objs.size)))) { s2 with heap:=h',toks:=s2.toks+2 }:=
  I2.write (x:=a) (e:=a) (by rw[ea];exact True.intro) (.inl rfl) (fun b u hb z=>n3 b u hb z) ⟨_,n2⟩ (XO.ok ⟨_,vs,n2,g2,rfl,g4,g5⟩)
 have f0:H2 s2.heap.objs.size=none:=I2.hok.fresh (Nat.le_refl _)
 have f1:xG X pins (upd H2 a (.ext (XO a C (some s2.heap.objs.size)))) s2.heap.objs.size:=I2.yz (Nat.le_refl _) (by rw[ae ne];exact f0)
 have xd:XD s2.heap.objs.size [(f,y)] h':=⟨_,n1,fun g=>by
  show yF (List.lookup g [(f,y)]) (if g=f then some u else none)
  by_cases q:g=f
  ·subst q;rw[if_pos rfl];simp;exact ry
  ·rw[if_neg q,List.lookup_cons,beq_eq_false_iff_ne.mpr q];exact True.intro,fun g hg=>by
  by_cases q:g=f
  ·simp[q]
  ·exact absurd (show(if g=f then some u else none)=none by rw[if_neg q]) hg⟩
 exact⟨σ,_,J1.Ah f1 xd.ok,q2 _ f0 ne⟩
end
noncomputable def gX(K:Vo)(C:Addr)(ks:Vs):Sp:=fun vs H Q _=>∃a rest,vs = .ref a::rest/\rest.length=ks.length/\H a=some (.ext (XO a C none))/\ExcK K C/\(∀k∈ks,NoAttr K C k)/\
 ∀dx,H dx=none->dx≠a->Q .non (upd (upd H a (.ext (XO a C (some dx)))) dx (.ext (XD dx (ks.zip rest))))
section
variable {P:Program} {w:World} {K:Vo} {mg:Vr} {base:Heap}
def uy{qual:Str}{st:Stmt}{f C:Addr}{fd:FuncData}{N ps:Vs}{k1:Str}(F:Ae K "__init__" qual st f fd)(S:bi N ps (am st))(hp:ps.length=2)
  (hbody:∀(cdv:Value) (A:Around) (outer:List Env) (s:Shared) (H:Hp) (E:XK),zb (du j2 P w K mg base N qual (am st) f cdv A outer s H E).AN (aH st) (rH K (kE 0) (kE 1) k1)) :
  cG P w K mg base j2 1 f fd ps (gX K C [k1]):=
 F.ok S (fun vs H Q E ⟨a,rest,e,l,_⟩=>by rw[e,List.length_cons,l,hp];rfl) fun cdv A outer s H vs Q E hr ⟨a,rest,e,l,ea,ek,en,q⟩=>by
  obtain⟨x,rfl⟩:=List.length_eq_one_iff.mp l
  subst e
  refine⟨_,hbody cdv A outer s H E,?_⟩
  exact⟨x,rfl,.ref a,rfl,a,C,rfl,ea,ek,en k1 (by simp),fun dx h1 h2=>q dx h1 h2⟩
end
section
variable {X:Cx} {f C:Addr} {fd:FuncData} {ps ks:Vs} {x:Str} {p cpos pos:Pos} {e:Expr} {es:List Expr} {t:TA}
def rK(X:Cx)(C:Addr)(ks:Vs)(t:TA):TS:=fun D σ H=>t σ H fun vs H1=>vs.length=ks.length/\∀pins dx od,H1 dx=none->EX X pins σ (.ref C) (some dx) (upd H1 dx (.frz od (.ext (XD dx (ks.zip vs)))))
def mx(F:cG X.prog X.w X.K X.mg X.base j2 1 f fd ps (gX X.K C ks))(hps:ps.length=ks.length+1)(hks:ks.length<=1000)(ek:ExcK X.K C)(en:∀k∈ks,NoAttr X.K C k)(hi:PySem.W.findIn X.K (.ref C) "__init__" = some (some (.ref f)))(hf:PySem.W.isFn X.K (.ref f)=true)(hkp:PySem.W.keepIn X.K (.ref C)=true)
  (hr:Room 2 X.A) (zt:X.calm=true) (hg:Gl X x) (hm:X.mg x=some (.ref C)) (hb:Binds X.K fd ps []) (ha:PA X (e::es) t)
  (hdb:(x == ("__debug__":Str))=false:=by decide) (he:starEach (e::es) X.env=(false,eval e X.env)::starEach es X.env:=by rfl) (hpl:(backTo cpos (starEach es X.env)).any (·.1)=false:=by rfl) :
  PS X (.Raise (some (.Call (.Name x p) (e::es) [] cpos)) none pos) (rK X C ks t):=by
 intro pins s σ H D I h
 rw[arm_exec_Raise]
 refine wpAny_bind (wpAny_standAt ?_)
 show wpAny _ _ (raiseStmt X.env (some (do let v <-eval (.Call (.Name x p) (e::es) [] cpos) X.env;standAt pos;pure v)) none) _ _ _
 refine k6 (K:=X.K) (C:=C) ek.ok (I.ok.hd zt) (wpAny_bind ?_)
 refine wpAny_Call_Name_kw (cZ I hg hm ?_ hdb)
 refine PySem.W.callWith_K (h₀:=X.base) I.ok.mod.Bf hkp (aL (ha cpos pins s σ H _ I h) fun us s1 ⟨vs,H1,I1,r,hl,q⟩=>⟨I1.y9,?_⟩) he hpl
 have CS:us.length=ks.length:=by rw[<-r.length];exact hl
 obtain⟨hp,g,d,tk,os⟩:=s1
 have e1:(hp.push (ck us)).objs.size=hp.objs.size+1:=Heap.size_push _ _
 have Dx:Inv X pins σ H1 ⟨hp.push (ck us),g,d,tk,os⟩:=I1.kept (t':=tk) fun b o q=>Heap.get?_push_of_some _ q
 have ex:((hp.push (ck us)).push (cm C hp.objs.size)).get? (hp.objs.size+1)=some (cm C hp.objs.size):=by heap_get
 have I2:Inv X pins σ (upd H1 (hp.objs.size+1) (.ext (XO (hp.objs.size+1) C none))) ⟨(hp.push (ck us)).push (cm C hp.objs.size),g,d,tk,os⟩:=
  Dx.laid (a:=hp.objs.size+1) (t':=tk) (fun b o q=>Heap.get?_push_of_some _ q) (Nat.le_of_eq e1) (XO.ok ⟨_,_,ex,rfl,rfl,rfl,rfl⟩)
 have n0:H1 (hp.objs.size+1)=none:=I1.hok.fresh (Nat.le_succ _)
 have r2:Vals (V.ref (hp.objs.size+1)::vs) (Value.ref (hp.objs.size+1)::us):=.cons rfl r
 have Ai:(Value.ref (hp.objs.size+1)::us++[]).length=ps.length:=by rw[List.append_nil,List.length_cons,CS,hps]
 have hb':=hb _ (Value.ref (hp.objs.size+1)::us) I2.y9 Ai
 rw[List.append_nil]at hb'
 refine wpAny_call (ml (f:=f) I1.y9 ek.ok hi (beq_iff_eq.mp hf) (by rw[List.nil_append,CS];exact Nat.le_of_lt (b5 hks)) (codeAny_mono (F.run _ X.stack _ _ ⟨Value.ref (hp.objs.size+1)::us,[]⟩ (Value.ref (hp.objs.size+1)::us) _
  (fun v H2=>v = .non/\∃dx,H1 dx=none/\dx≠hp.objs.size+1/\H2=upd (upd (upd H1 (hp.objs.size+1) (.ext (XO (hp.objs.size+1) C none))) (hp.objs.size+1) (.ext (XO (hp.objs.size+1) C (some dx)))) dx (.ext (XD dx (ks.zip vs)))) (fun _ _ _=>False) (hr.make C us [])
  (I2.AQ.make C us []) hb' r2 ⟨_,vs,rfl,hl,ag,ek,en,fun dx h1 h2=>⟨rfl,dx,by rw[ae h2]at h1;exact h1,h2,rfl⟩⟩) fun r s' hq'=>?_))
 cases r with
 |error e=>exact hq'.elim
 |ok fl=>
  cases fl with
  |ret u=>
   obtain⟨v,H',I3,rv,ev,dx,d1,d2,rfl⟩:=I2.after hq'
   subst ev
   refine⟨rv,wpAny_bind (wpAny_standAt (wpAny_pure ?_))⟩
   obtain⟨oe,ws,g1,g2,g3,g4,g5⟩:=XO.of (a:=hp.objs.size+1) (C:=C) (d:=some dx) I3.hok (by rw[ae d2.symm,ag])
   have xd:XD dx (ks.zip vs) s'.heap:=XD.of I3.hok ag
   obtain⟨od,hod⟩:∃o,s'.heap.get? dx=some o:=let ⟨_,⟨o,_,_,e,_⟩,_⟩:=xd;⟨o,e⟩
   refine⟨hp.objs.size+1,oe,ws,rfl,I3.y9,g1,g2,g4,g5,?_⟩
   have I4:Inv X pins σ (upd (upd (upd (upd H1 (hp.objs.size+1) (.ext (XO (hp.objs.size+1) C none))) (hp.objs.size+1) (.ext (XO (hp.objs.size+1) C (some dx)))) dx (.ext (XD dx (ks.zip vs)))) dx (.frz od (.ext (XD dx (ks.zip vs))))) s':=by
    have J:=I3.write (x:=dx) (e:=dx) (o:=.frz od (.ext (XD dx (ks.zip vs)))) (h':=s'.heap) (t':=s'.toks) (by rw[ag];exact True.intro) (.inl rfl) (fun _ _ _ z=>z) ⟨od,hod⟩ ⟨hod,xd.ok⟩
    exact J
   have I5:Inv X pins σ (upd H1 dx (.frz od (.ext (XD dx (ks.zip vs))))) s':=I4.forget (D:=hp.objs.size+1) (φ:=XO (hp.objs.size+1) C (some dx)) (by rw[oh,ae d2.symm,ag]) (by rw[ae d2.symm];exact n0) fun b hb=>by
    by_cases z:b=dx
    ·rw[z,ag,ag]
    ·rw[ae z,ae z,ae z,ae hb,ae hb]
   refine q pins dx od d1 s' _ C dx rfl rfl I5 ⟨oe,ws,⟨g1,g4,.inl g5⟩,g2,g3,I1.yz (Nat.le_succ _) (by rw[ae d2.symm];exact n0),fun T z=>?_⟩
   rw[g5]at z
   cases z
  |next=>exact hq'.elim
  |brk=>exact hq'.elim
  |cont=>exact hq'.elim
end
noncomputable abbrev Cx.tr(X:Cx)(E:Vq)(pins:Va):Cx:={ X with xe:=E,pn:=X.pn++pins }
noncomputable abbrev Cx.zq(X:Cx)(a:Addr):Cx:={ X with A:=X.A.mark (some (.ref a)),calm:=false,xe:=fun _ _=>False }
section
variable {X:Cx} {pins pins':Va} {σ:St} {H H':Hp} {s s':Shared} {E:Vq}
theorem Cx.Ok.tr(ok:X.Ok):(X.tr E pins).Ok:=⟨ok.mod,ok.kind,ok.glob,ok.blt,ok.above,ok.inj,ok.has,ok.Ap,ok.hd,ok.frames,ok.stk,ok.AM,ok.bs,ok.zO,ok.y8,ok.zh,ok.yh,ok.z_⟩
def Cx.Ok.yP(ok:(X.tr E pins).Ok):X.Ok:=⟨ok.mod,ok.kind,ok.glob,ok.blt,ok.above,ok.inj,ok.has,ok.Ap,ok.hd,ok.frames,ok.stk,ok.AM,ok.bs,ok.zO,ok.y8,ok.zh,ok.yh,ok.z_⟩
theorem Cx.Ok.zq{a:Addr}(ok:X.Ok):(X.zq a).Ok:=⟨ok.mod,ok.kind,ok.glob,ok.blt,ok.above,ok.inj,ok.has,ok.Ap,fun z=>absurd (show false=true from z) (by decide),ok.frames,ok.stk,ok.AM,ok.bs,ok.zO,ok.y8,ok.zh,ok.yh,ok.z_⟩
def Cx.Ok.A1{a:Addr}(hc:X.calm=true->X.A.handled=none)(ok:(X.zq a).Ok):X.Ok:=⟨ok.mod,ok.kind,ok.glob,ok.blt,ok.above,ok.inj,ok.has,ok.Ap,hc,ok.frames,ok.stk,ok.AM,ok.bs,ok.zO,ok.y8,ok.zh,ok.yh,ok.z_⟩
theorem Inv.tr(I:Inv X pins σ H s):Inv (X.tr E pins) [] σ H s:=⟨I.ok.tr,I.os,I.bare,I.base,I.loc,I.cell,I.free,I.xP,fun p hp=>I.pin p (by simpa using hp),I.hok,I.len⟩
theorem Inv.yP(I:Inv (X.tr E pins) pins' σ H s):Inv X pins σ H s:=⟨I.ok.yP,I.os,I.bare,I.base,I.loc,I.cell,I.free,I.xP,fun p hp=>I.pin p (List.mem_append_left _ hp),I.hok,I.len⟩
theorem Inv.zq{a:Addr}(I:Inv X pins σ H s):Inv (X.zq a) pins σ H s:=⟨I.ok.zq,I.os,I.bare,I.base,I.loc,I.cell,I.free,I.xP,I.pin,I.hok,I.len⟩
theorem Inv.A1{a:Addr}(hc:X.calm=true->X.A.handled=none)(I:Inv (X.zq a) pins σ H s):Inv X pins σ H s:=⟨I.ok.A1 hc,I.os,I.bare,I.base,I.loc,I.cell,I.free,I.xP,I.pin,I.hok,I.len⟩
def xG.yP{b:Addr}(f:xG (X.tr E pins) pins' H b):xG X pins H b:=⟨f.1,f.2.1,f.2.2.1,f.2.2.2.1,f.2.2.2.2.1,fun p hp=>f.2.2.2.2.2 p (List.mem_append_left _ hp)⟩
theorem SP.yP{D:eQ}{f:Flow}(h:SP (X.tr E pins) [] D f s'):SP X pins D f s':=by
 cases f with
 |next=>obtain⟨a,b,I,q⟩:=h;exact⟨a,b,I.yP,q⟩
 |brk=>obtain⟨a,b,I,q⟩:=h;exact⟨a,b,I.yP,q⟩
 |cont=>obtain⟨a,b,I,q⟩:=h;exact⟨a,b,I.yP,q⟩
 |ret v=>obtain⟨v,a,b,I,r,q⟩:=h;exact⟨v,a,b,I.yP,r,q⟩
def k9{A:Around}{E:Vq}{i:Nat}{n:Str}{pos:Pos}{Q:Unit->Shared->Prop}(I:Inv X pins σ H s)(hN:X.N.Nodup)(hi:X.N[i]?=some n)(hk:X.env.scope.names.lookup n=some .local)(h:∀s',Inv X pins (σ.set i none) H s'->Q () s') :
  wpAny (model X.prog X.w) A (do bindName X.env n .none;unbindBehindTheSuite X.env n pos) Q E s:=by
 obtain⟨m,hn,hl⟩:=id I.loc
 have hcls:(X.env.scope.kind == .class || (X.env.scope.kind == .module&&X.env.locals != X.env.globals))=false:=by rw[I.ok.kind];rfl
 have Ac:=I.Ac
 refine wpAny_nameGoes_keeps hk hn hcls fun h' v hn' hs=>h _ ?_
 have A0:∀b o,X.s₀.heap.get? b=some o->b≠X.env.locals:=fun b o e=>Nat.ne_of_lt (Nat.lt_of_lt_of_le (Heap.lt_size e) I.ok.above)
 refine⟨I.ok,I.os,I.bare,⟨fun b o e n hb hx=>(hs.2 b (A0 b o e)).trans (I.base.keep b o e n hb hx),fun b o e n hb hx=>?_,I.base.free,fun b o e hx=>?_,I.base.tups,I.base.y6,I.base.zg⟩,⟨_,hn',fun j y v' e1 e2 e3=>?_⟩,fun y c e=>?_,I.free,I.xP,fun p hp=>?_,fun b ob e=>?_,by simpa using I.len⟩
 ·obtain⟨sl,e1⟩:=I.base.slot b o e n hb hx
  exact⟨sl,(hs.2 b (A0 b o e)).trans e1⟩
 ·obtain⟨o',e1⟩:=I.base.there b o e hx
  exact⟨o',(hs.2 b (A0 b o e)).trans e1⟩
 ·by_cases hj:j=i
  ·subst hj
   rw[List.getElem?_set]at e2
   split at e2
   ·split at e2
    ·cases e2
    ·cases e2
   ·rename_i z;exact absurd rfl z
  ·rw[List.getElem?_set_ne (Ne.symm hj)]at e2
   obtain⟨u',r',q⟩:=hl j y v' e1 e2 e3
   refine⟨u',r',?_⟩
   rcases q with⟨k,e⟩|⟨k,c,e,z⟩
   ·refine .inl ⟨k,?_⟩
    have:y≠n:=fun e=>hj (fb hN e1 (e▸hi))
    simp[this,e]
   ·exact .inr ⟨k,c,e,z.sameBut hs (Ac y c e)⟩
 ·obtain⟨w',z⟩:=I.cell y c e
  exact⟨w',z.sameBut hs (Ac y c e)⟩
 ·obtain⟨e,n,ne,nf,d⟩:=I.pin p hp
  exact⟨(hs.2 p.1 ne).trans e,n,ne,nf,d⟩
 ·refine(I.hok b ob e).stay (fun c w' hc q=>(hs.2 c ?_).trans q) (fun _ q=>q) fun _ _ q=>q
  rintro rfl
  rcases hc with rfl|hc
  ·rw[I.free]at e;cases e
  ·rw[I.free]at hc;cases hc
end
structure rL (K:Vo) (Dc:Addr):Prop where
 ty:PySem.W.typeIn K (.ref Dc)=some (.type "type")
 cl:(PySem.W.clsIn K Dc).isSome=true
 be:PySem.W.mroIn K Dc (.type "BaseException")=some true
noncomputable abbrev my(D:eQ)(i:Nat):eQ:={ nx:=fun σ H=>D.nx (σ.set i none) H,rt:=D.rt,bk:=fun σ H=>D.bk (σ.set i none) H,ct:=fun σ H=>D.ct (σ.set i none) H }
section
variable {X:Cx} {pins pins':Va} {σ:St} {H:Hp} {s':Shared} {E:Vq} {a C dx Dc:Addr} {i:Nat} {n x:Str} {np hpos:Pos} {b₀:Stmt} {suite:List Stmt} {th:Addr->TS} {D:eQ}
def rM(hst:X.stack=X.env::X.outer)(Aj:X.env.frame=some X.env.locals)(hN:X.N.Nodup)(hi:X.N[i]?=some n)(hk:X.env.scope.names.lookup n=some .local)(hg:Gl X x)(hm:X.mg x=some (.ref Dc))(hD:rL X.K Dc)
  (hs:∀a,zb (X.zq a) (b₀::suite) (th a)) (I:Inv (X.tr E pins) pins' σ H s') (xa:tD (X.tr E pins) pins' H s'.heap a C dx) (hb:PySem.W.mroIn X.K C (.ref Dc)=some true)
  (q:∀oe:Obj,oe.cls = .ref C->oe.dict=some dx->(∀c,oe.data ≠ .cls c)->th a (my D i) (σ.set i (some (.ref a))) (upd H a (.frz oe (.ext fun _=>True))))
  (hdb:(x == ("__debug__":Str))=false:=by decide) :
  wpAny (model X.prog X.w) X.A (noteFrame (.ref a) X.env) (fun _ s₂=>wpAny (model X.prog X.w) X.A (setFlight (.ref a) none) (fun _ s₃=>wpAny (model X.prog X.w) X.A (handleBy (.ref a) X.env [.ExceptHandler (some (.Name x np)) (some n) (b₀::suite) hpos]) (SP X pins D) X.xe s₃) X.xe s₂) X.xe s':=by
 have I0:Inv X pins σ H s':=I.yP
 obtain⟨oe,vs,lx,hc,hd,fa,fT⟩:=xa
 have hfr:X.A.frames=some (X.env::X.outer):=by rw[<-hst];exact I0.ok.frames
 refine j4 (base:=X.base) hfr (by rw[<-hst];exact I0.stack) Aj lx fun h' nt=>?_
 obtain⟨I2,Bt,Aa,Aw,hc2,hd2,BQ,BR⟩:=I0.noted (h':=h') (by rw[hst];exact nt) lx hc hd fa.yP fun T z=>(fT T z).yP
 refine PySem.wpAny_handleBy_cons (codeAny_handlers_test ?_) (by intro q;cases q)
 have IH:=I2.zq (a:=a)
 refine cZ (X:=X.zq a) IH hg hm ?_ hdb
 refine iA IH.y9 Aw.at_ hc2 hb hD.ty hD.cl hD.be ?_
 refine codeAny_handlers_suite_as ?_
 -- the flight is none already
 have flight:∀{Q:Unit->Shared->Prop} {E:Vq},(∀h3,Inv (X.zq a) pins σ H { s' with heap:=h3 }->h3.get? a=some Bt->Q () { s' with heap:=h3 })->wpAny (model X.prog X.w) (X.zq a).A (setFlight (.ref a) none) Q E { s' with heap:=h' }:=by
  intro Q E hQ
  rcases Aw.tb with t1|⟨T,oT,ts,t1,t2,t3,t4,t5⟩
  ·unfold setFlight
   refine wpAny_bind (wpAny_field Aw.at_ Aw.dat t1 ?_)
   rw[if_neg (by decide)]
   exact wpAny_pure (hQ _ IH Aw.at_)
  ·have Bu:=BR T t1
   refine wpAny_setFlight_none Aw.at_ Aw.dat t1 t3 t4 (Array.getElem?_eq_some_iff.mp t5).1 (hQ _ ?_ ((Heap.get?_update_other _ _ t2).trans Aw.at_))
   exact Inv.turned (s:={ s' with heap:=h' }) IH (t':=s'.toks) (it:=T) (fun b o hb e=>(Heap.get?_update_other _ _ (Ne.symm hb)).trans e) Bu.1 Bu.2.1 Bu.2.2.2.1 Bu.2.2.2.2.1 Bu.2.2.2.2.2
 refine flight fun h3 I3 ga=>?_
 have f3:xG (X.zq a) pins H a:=BQ
 have I4:Inv (X.zq a) pins σ (upd H a (.frz Bt (.ext fun _=>True))) { s' with heap:=h3 }:=I3.Ah f3 ⟨ga,True.intro,⟨_,ga⟩,fun _ _ _ _=>True.intro⟩
 refine d0 (X:=X.zq a) I4 hN hi (.inl hk) (v:=.ref a) rfl (fun s5 I5 _=>?_) (.inr hk)
 refine wpAny_mono (hs a pins s5 _ _ (my D i) I5 (q Bt hc2 hd2 fun c z=>by rw[Aw.dat]at z;cases z)) (fun f s6 hf=>?_) fun _ _ z=>False.elim z
 have fin:∀{σ6:St} {H6:Hp} {Q:Unit->Shared->Prop},Inv (X.zq a) pins σ6 H6 s6->(∀s7,Inv X pins (σ6.set i none) H6 s7->Q () s7)->wpAny (model X.prog X.w) X.A (do bindName X.env n .none;unbindBehindTheSuite X.env n hpos) Q X.xe s6:=fun I6 hq=>
  k9 (I6.A1 I0.ok.hd) hN hi hk fun s7 I7=>hq s7 I7
 cases f with
 |next=>obtain⟨σ6,H6,I6,q6⟩:=hf;exact fin I6 fun s7 I7=>⟨_,_,I7,q6⟩
 |brk=>obtain⟨σ6,H6,I6,q6⟩:=hf;exact fin I6 fun s7 I7=>⟨_,_,I7,q6⟩
 |cont=>obtain⟨σ6,H6,I6,q6⟩:=hf;exact fin I6 fun s7 I7=>⟨_,_,I7,q6⟩
 |ret u=>obtain⟨v6,σ6,H6,I6,r6,q6⟩:=hf;exact fin I6 fun s7 I7=>⟨_,_,_,I7,r6,q6⟩
end
noncomputable def tryXe(X:Cx)(pins:Va)(D:eQ)(hs:List ExceptHandler):Value->Shared->Prop:=fun e s₁=>
 wpAny (model X.prog X.w) X.A (noteFrame e X.env) (fun _ s₂=>wpAny (model X.prog X.w) X.A (setFlight e none) (fun _ s₃=>wpAny (model X.prog X.w) X.A (handleBy e X.env hs) (SP X pins D) X.xe s₃) X.xe s₂) X.xe s₁
def tryXe.passes{X:Cx}{pins:Va}{D:eQ}{hs:List ExceptHandler}:PassesOwn (model X.prog X.w) X.A X.env (tryXe X pins D hs):=PassesOwn.looking
def rN{X:Cx}{h₀:ExceptHandler}{body:List Stmt}{pos:Pos}{tb:(E:Vq)->List (Addr×Obj)->TS}
  (hb:∀E pins,PassesOwn (model X.prog X.w) X.A X.env E->zb (X.tr E pins) body (tb E pins)) :
  PS X (.Try body [h₀] [] [] pos) (fun D σ H=>∀pins,tb (tryXe X pins D [h₀]) pins D σ H):=by
 intro pins s σ H D I h
 refine wpAny_Try_except ?_
 refine wpAny_mono (hb (tryXe X pins D [h₀]) pins tryXe.passes [] s σ H D I.tr (h pins)) (fun f s1 q=>?_) fun e s1 q=>q
 have q':=SP.yP q
 cases f with
 |next=>exact wpAny_execs_nil q'
 |ret v=>exact q'
 |brk=>exact q'
 |cont=>exact q'
end L2
namespace L3
open PySem L2
inductive PV where
 |non|bl (b:Bool)|int (i:Int)|str (x:Str)|tup (xs:List PV)|cl (xs:List PV)|ref (a:Addr)|ty (n:String)|exc (c:Str) (ks:Vs) (ps:List PV)|cls (c:Str)
def Bb(K:Vo)(H:Hp)(a:Addr)(xs:List V):Prop:=
 (∃o,H a=some (.frz o (.lst xs))) \/
  ∃(o:Obj) (its:Vw) (n:Nat),K.lookup a=some o/\o.cls = .type "list"/\o.dict=none/\o.data = .seq its n/\its.size<=sizeLine/\Vals xs its.toList
def Bb.sq{K:Vo}{H:Hp}{a:Addr}{xs:List V}(h:Bb K H a xs):SqL K H a xs:=h.elim (fun z=>.inl (.inr z)) .inr
def Bv(H:Hp)(a C:Addr)(ks:Vs)(vs:List V):Prop:=
 ∃oe dx od,H a=some (.frz oe (.ext fun _=>True))/\oe.cls = .ref C/\oe.dict=some dx/\(∀c,oe.data ≠ .cls c)/\H dx=some (.frz od (.ext (XD dx (ks.zip vs))))
def xL(K:Vo)(c:Str)(C:Addr):Prop:=PySem.W.nsIn K mainGlobals c=some (some (.ref C))
mutual
inductive Rep (K:Vo) (H:Hp):V->PV->Prop
 |non:Rep K H .non .non
 |bl (b:Bool):Rep K H (.bl b) (.bl b)
 |int (i:Int):Rep K H (.int i) (.int i)
 |str (x:Str):Rep K H (.str x) (.str x)
 |ty (n:String):Rep K H (.ty n) (.ty n)
 |ref (a:Addr):Rep K H (.ref a) (.ref a)
 |tup {a:Addr} {vs:List V} {ps:List PV}:yi K H a vs->Reps K H vs ps->Rep K H (.ref a) (.tup ps)
 |cl {a:Addr} {vs:List V} {ps:List PV}:Bb K H a vs->Reps K H vs ps->Rep K H (.ref a) (.cl ps)
 |exc {a C:Addr} {c:Str} {ks:Vs} {vs:List V} {ps:List PV}:xL K c C->Bv H a C ks vs->Reps K H vs ps->Rep K H (.ref a) (.exc c ks ps)
 |cls {C:Addr} {c:Str}:xL K c C->Rep K H (.ref C) (.cls c)
inductive Reps (K:Vo) (H:Hp):List V->List PV->Prop
 |nil:Reps K H [] []
 |cons {v:V} {p:PV} {vs:List V} {ps:List PV}:Rep K H v p->Reps K H vs ps->Reps K H (v::vs) (p::ps)
end
structure Grow (K:Vo) (H H':Hp):Prop where
 t:∀a vs,yi K H a vs->yi K H' a vs
 c:∀a vs,Bb K H a vs->Bb K H' a vs
 x:∀a o u,H a=some (.frz o u)->H' a=some (.frz o u)
def Grow.refl{K:Vo}{H:Hp}:Grow K H H:=⟨fun _ _ h=>h,fun _ _ h=>h,fun _ _ _ h=>h⟩
def Grow.trans{K:Vo}{H H1 H2:Hp}(a:Grow K H H1)(b:Grow K H1 H2):Grow K H H2:=⟨fun x vs h=>b.t x vs (a.t x vs h),fun x vs h=>b.c x vs (a.c x vs h),fun x o u h=>b.x x o u (a.x x o u h)⟩
def Bv.mono{K:Vo}{H H':Hp}(g:Grow K H H'){a C:Addr}{ks:Vs}{vs:List V}(h:Bv H a C ks vs):Bv H' a C ks vs:=let ⟨oe,dx,od,h1,h2,h3,h4,h5⟩:=h;⟨oe,dx,od,g.x _ _ _ h1,h2,h3,h4,g.x _ _ _ h5⟩
def Grow.of{K:Vo}{H H':Hp}(h:∀a xs,H a=some (.tup xs)->H' a=some (.tup xs))(h2:∀a o u,H a=some (.frz o u)->H' a=some (.frz o u)):Grow K H H':=by
 refine⟨fun a vs q=>?_,fun a vs q=>?_,h2⟩
 ·rcases q with(q|⟨o,q⟩)|q
  ·exact .inl (.inl (h a vs q))
  ·exact .inl (.inr ⟨o,h2 a o _ q⟩)
  ·exact .inr q
 ·rcases q with⟨o,q⟩|q
  ·exact .inl ⟨o,h2 a o _ q⟩
  ·exact .inr q
def Grow.same{K:Vo}{H H':Hp}(h:∀c o,H c=some o->H' c=some o):Grow K H H':=.of (fun a _ q=>h a _ q) (fun a _ _ q=>h a _ q)
def Grow.new{K:Vo}{H:Hp}{p:Addr}{o:HO}(h:H p=none):Grow K H (upd H p o):=.same fun c u q=>by rw[ae (aA q h)];exact q
noncomputable def Mu:HO->Prop
 | .tup _=>False
 | .frz _ _=>False
 |_=>True
def Grow.mut{K:Vo}{H:Hp}{p:Addr}{o u:HO}(h:H p=some u)(m:Mu u):Grow K H (upd H p o):=
 .of (fun a xs q=>by rw[ae (fun e=>by subst e;rw[h]at q;cases q;exact m)];exact q) (fun a _ _ q=>by rw[ae (fun e=>by subst e;rw[h]at q;cases q;exact m)];exact q)
mutual
theorem Rep.mono{K:Vo}{H H':Hp}(g:Grow K H H'):∀{v:V} {p:PV},Rep K H v p->Rep K H' v p
 |_,_,.non=>.non
 |_,_,.bl b=>.bl b
 |_,_,.int i=>.int i
 |_,_,.str x=>.str x
 |_,_,.ty n=>.ty n
 |_,_,.ref a=>.ref a
 |_,_,.tup h r=>.tup (g.t _ _ h) (Reps.mono g r)
 |_,_,.cl h r=>.cl (g.c _ _ h) (Reps.mono g r)
 |_,_,.exc n h r=>.exc n (h.mono g) (Reps.mono g r)
 |_,_,.cls n=>.cls n
theorem Reps.mono{K:Vo}{H H':Hp}(g:Grow K H H'):∀{vs:List V} {ps:List PV},Reps K H vs ps->Reps K H' vs ps
 |_,_,.nil=>.nil
 |_,_,.cons a r=>.cons (Rep.mono g a) (Reps.mono g r)
end
theorem Reps.length{K:Vo}{H:Hp}:∀{vs:List V} {ps:List PV},Reps K H vs ps->vs.length=ps.length
 |_,_,.nil=>rfl
 |_,_,.cons _ r=>by rw[List.length_cons,List.length_cons,Reps.length r]
theorem Reps.append{K:Vo}{H:Hp}:∀{vs us:List V} {ps qs:List PV},Reps K H vs ps->Reps K H us qs->Reps K H (vs++us) (ps++qs)
 |_,_,_,_,.nil,s=>s
 |_,_,_,_,.cons a r,s=>.cons a (Reps.append r s)
theorem Reps.get{K:Vo}{H:Hp}:∀{vs:List V} {ps:List PV} {i:Nat} {p:PV},Reps K H vs ps->ps[i]?=some p->∃v,vs[i]?=some v/\Rep K H v p
 |_,_,_,_,.nil,e=>by simp at e
 |_,_,0,_,.cons a r,e=>by simp at e;subst e;exact⟨_,rfl,a⟩
 |_,_,i+1,p,.cons a r,e=>by
  obtain⟨v,h1,h2⟩:=Reps.get (i:=i) (p:=p) r (by simpa using e)
  exact⟨v,by simpa using h1,h2⟩
theorem Reps.take{K:Vo}{H:Hp}:∀{vs:List V} {ps:List PV} (n:Nat),Reps K H vs ps->Reps K H (vs.take n) (ps.take n)
 |_,_,0,_=>.nil
 |_,_,_+1,.nil=>.nil
 |_,_,n+1,.cons a r=>.cons a (Reps.take n r)
theorem Reps.drop{K:Vo}{H:Hp}:∀{vs:List V} {ps:List PV} (n:Nat),Reps K H vs ps->Reps K H (vs.drop n) (ps.drop n)
 |_,_,0,r=>r
 |_,_,_+1,.nil=>.nil
 |_,_,n+1,.cons _ r=>Reps.drop n r
theorem Reps.set{K:Vo}{H:Hp}{v:V}{p:PV}(q:Rep K H v p):∀{vs:List V} {ps:List PV} (n:Nat),Reps K H vs ps->Reps K H (vs.set n v) (ps.set n p)
 |_,_,_,.nil=>.nil
 |_,_,0,.cons _ r=>.cons q r
 |_,_,n+1,.cons a r=>.cons a (Reps.set q n r)
theorem Reps.eraseIdx{K:Vo}{H:Hp}:∀{vs:List V} {ps:List PV} (n:Nat),Reps K H vs ps->Reps K H (vs.eraseIdx n) (ps.eraseIdx n)
 |_,_,_,.nil=>.nil
 |_,_,0,.cons _ r=>r
 |_,_,n+1,.cons a r=>.cons a (Reps.eraseIdx n r)
theorem Reps.reverse{K:Vo}{H:Hp}:∀{vs:List V} {ps:List PV},Reps K H vs ps->Reps K H vs.reverse ps.reverse
 |_,_,.nil=>.nil
 |_,_,.cons a r=>by rw[List.reverse_cons,List.reverse_cons];exact(Reps.reverse r).append (.cons a .nil)
theorem Reps.dropLast{K:Vo}{H:Hp}{vs:List V}{ps:List PV}(r:Reps K H vs ps):Reps K H vs.dropLast ps.dropLast:=by
 rw[List.dropLast_eq_take,List.dropLast_eq_take,r.length]
 exact r.take _
inductive SO where
 |lst (xs:List PV)
 |dct (kvs:List (aS×PV))
 |ins (c:Str) (fs:List (Str×PV))
abbrev au:=Addr->Option SO
noncomputable def xi(S:au)(a:Addr)(o:SO):au:=fun b=>if b=a then some o else S b
def aa{S:au}{a:Addr}{o:SO}:xi S a o a=some o:=by unfold xi;rw[if_pos rfl]
def aq{S:au}{a b:Addr}{o:SO}(h:b≠a):xi S a o b=S b:=by unfold xi;rw[if_neg h]
inductive xy (K:Vo) (H:Hp) {κ:Type}:List (κ×V)->List (κ×PV)->Prop
 |nil:xy K H [] []
 |cons {k:κ} {v:V} {p:PV} {vs:List (κ×V)} {ps:List (κ×PV)}:Rep K H v p->xy K H vs ps->xy K H ((k,v)::vs) ((k,p)::ps)
theorem xy.mono{K:Vo}{H H':Hp}(g:Grow K H H'){κ:Type}:∀{vs:List (κ×V)} {ps:List (κ×PV)},xy K H vs ps->xy K H' vs ps
 |_,_,.nil=>.nil
 |_,_,.cons a r=>.cons (a.mono g) (xy.mono g r)
theorem xy.length{K:Vo}{H:Hp}{κ:Type}:∀{vs:List (κ×V)} {ps:List (κ×PV)},xy K H vs ps->vs.length=ps.length
 |_,_,.nil=>rfl
 |_,_,.cons _ r=>by rw[List.length_cons,List.length_cons,xy.length r]
noncomputable def zu(K:Vo)(H:Hp)(a:Addr):SO->Prop
 | .lst xs=>∃vs,H a=some (.lst vs)/\Reps K H vs xs
 | .dct kvs=>∃kv,H a=some (.dK kv)/\xy K H kv kvs
 | .ins c fs=>∃C dx f',xL K c C/\H a=some (.ins C dx f')/\xy K H f' fs
theorem zu.stay{K:Vo}{H H':Hp}(g:Grow K H H'){a:Addr}(e:H' a=H a):∀{o:SO},zu K H a o->zu K H' a o
 | .lst _,⟨vs,h,r⟩=>⟨vs,e.trans h,r.mono g⟩
 | .dct _,⟨vs,h,r⟩=>⟨vs,e.trans h,r.mono g⟩
 | .ins _ _,⟨C,dx,vs,n,h,r⟩=>⟨C,dx,vs,n,e.trans h,r.mono g⟩
theorem zu.some{K:Vo}{H:Hp}{a:Addr}:∀{o:SO},zu K H a o->∃u,H a=Option.some u/\Mu u
 | .lst _,⟨_,h,_⟩=>⟨_,h,trivial⟩
 | .dct _,⟨_,h,_⟩=>⟨_,h,trivial⟩
 | .ins _ _,⟨_,_,_,_,h,_⟩=>⟨_,h,trivial⟩
def xm(K:Vo)(H:Hp)(S:au):Prop:=∀a o,S a=some o->zu K H a o
def xm.free{K:Vo}{H:Hp}{S:au}(r:xm K H S){p:Addr}(h:H p=none):S p=none:=by
 cases e:S p with
 |none=>rfl
 |some o=>
  obtain⟨u,q,_⟩:=(r p o e).some
  rw[h]at q;cases q
def xm.grow{K:Vo}{H H':Hp}{S:au}(r:xm K H S)(h:∀c o,H c=some o->H' c=some o):xm K H' S:=fun a o e=>by
 obtain⟨u,q,_⟩:=(r a o e).some
 exact(r a o e).stay (.same h) ((h a u q).trans q.symm)
def xm.other{K:Vo}{H:Hp}{S:au}(r:xm K H S){p:Addr}{o:HO}(h:H p=none):xm K (upd H p o) S:=r.grow fun c u q=>by rw[ae (aA q h)];exact q
theorem xm.new{K:Vo}{H:Hp}{S:au}(r:xm K H S){p:Addr}{u:HO}{o:SO}(h:H p=none)(q:zu K (upd H p u) p o):xm K (upd H p u) (xi S p o):=fun a x e=>by
 by_cases z:a=p
 ·subst z;rw[aa]at e;cases e;exact q
 ·rw[aq z]at e;exact(r a x e).stay (.new h) (ae z)
def xm.put{K:Vo}{H:Hp}{S:au}(r:xm K H S){p:Addr}{u0 u:HO}{o:SO}(h:H p=some u0)(m:Mu u0)(q:zu K (upd H p u) p o):xm K (upd H p u) (xi S p o):=fun a x e=>by
 by_cases z:a=p
 ·subst z;rw[aa]at e;cases e;exact q
 ·rw[aq z]at e;exact(r a x e).stay (.mut h m) (ae z)
abbrev bq:=List (Option PV)
noncomputable def lk:bq->Nat->Option PV
 |[],_=>none
 |x::_,0=>x
 |_::r,i+1=>lk r i
def mz{σ:bq}{i:Nat}{p:PV}(h:lk σ i=some p):σ[i]?=some (some p):=by
 induction σ generalizing i with
 |nil=>cases h
 |cons x r ih=>
  cases i with
  |zero=>exact congrArg some h
  |succ i=>exact ih h
structure xu (K:Vo) (H:Hp) (σ:St) (σ3:bq):Prop where
 len:σ.length=σ3.length
 at':∀(i:Nat) (p:PV),σ3[i]?=some (some p)->∃v,σ[i]?=some (some v)/\Rep K H v p
theorem xu.mono{K:Vo}{H H':Hp}{σ:St}{σ3:bq}(r:xu K H σ σ3)(g:Grow K H H'):xu K H' σ σ3:=⟨r.len,fun i p e=>let ⟨v,h,q⟩:=r.at' i p e;⟨v,h,q.mono g⟩⟩
theorem xu.set{K:Vo}{H:Hp}{σ:St}{σ3:bq}(r:xu K H σ σ3){v:V}{p:PV}(q:Rep K H v p)(i:Nat):xu K H (σ.set i (some v)) (σ3.set i (some p)):=by
 refine⟨by rw[List.length_set,List.length_set,r.len],fun j x e=>?_⟩
 rw[List.getElem?_set]at e ⊢
 split at e
 ·rename_i hij
  rw[if_pos hij]
  subst hij
  split at e
  ·rename_i hl
   cases e
   rw[if_pos (by rw[r.len];exact hl)]
   exact⟨v,rfl,q⟩
  ·cases e
 ·rename_i hij
  rw[if_neg hij]
  exact r.at' j x e
abbrev cE:=PV->au->Prop
abbrev de:=PV->bq->au->Prop
abbrev aD:=bq->au->cE->de->Prop
abbrev fq:=bq->au->(Bool->au->Prop)->de->Prop
abbrev wQ:=bq->au->(List PV->au->Prop)->de->Prop
structure eK where
 nx:bq->au->Prop
 rt:cE
 ex:de
 bk:bq->au->Prop:=fun _ _=>False
 ct:bq->au->Prop:=fun _ _=>False
abbrev bj:=eK->bq->au->Prop
def Ab(X:Cx)(H:Hp)(E:de):Prop:=∀(c:Str) (ks:Vs) (ps:List PV) (σ3:bq) (S':au) (H':Hp) (pins:Va) (σ:St) (s':Shared) (a C dx:Addr) (od:Obj) (vs:List V),E (.exc c ks ps) σ3 S'->xL X.K c C->vs.length=ks.length->
 H' dx=some (.frz od (.ext (XD dx (ks.zip vs))))->Reps X.K H' vs ps->xm X.K H' S'->xu X.K H' σ σ3->Grow X.K H H'->Inv X pins σ H' s'->tD X pins H' s'.heap a C dx->X.xe (.ref a) s'
def Ab.mono{X:Cx}{H H':Hp}{E:de}(x:Ab X H E)(g:Grow X.K H H'):Ab X H' E:=fun c ks ps σ3 S' H2 pins σ s' a C dx od vs h1 h2 h3 h4 h5 h6 h7 h8 h9 Bc=>x c ks ps σ3 S' H2 pins σ s' a C dx od vs h1 h2 h3 h4 h5 h6 h7 (g.trans h8) h9 Bc
def zY(K:Vo)(H:Hp)(Q3:cE)(Q:VK):Prop:=∀p S' v H',Q3 p S'->Rep K H' v p->xm K H' S'->Grow K H H'->Q v H'
def zY.mono{K:Vo}{H H':Hp}{Q3:cE}{Q:VK}(r:zY K H Q3 Q)(g:Grow K H H'):zY K H' Q3 Q:=fun p S' v H2 h1 h2 h3 h4=>r p S' v H2 h1 h2 h3 (g.trans h4)
def Ax(K:Vo)(H:Hp)(N3:bq->au->Prop)(N:St->Hp->Prop):Prop:=∀σ3 S' σ H',N3 σ3 S'->xu K H' σ σ3->xm K H' S'->Grow K H H'->N σ H'
def Ax.mono{K:Vo}{H H':Hp}{Q3:bq->au->Prop}{Q:St->Hp->Prop}(r:Ax K H Q3 Q)(g:Grow K H H'):Ax K H' Q3 Q:=fun p S' v H2 h1 h2 h3 h4=>r p S' v H2 h1 h2 h3 (g.trans h4)
def LE(X:Cx)(t:aD):TE:=fun σ H Q=>∃σ3 S Q3 E3,xu X.K H σ σ3/\xm X.K H S/\t σ3 S Q3 E3/\Ab X H E3/\zY X.K H Q3 Q
def LT(X:Cx)(t:fq):TT:=fun σ H Q=>∃σ3 S Q3 E3,xu X.K H σ σ3/\xm X.K H S/\t σ3 S Q3 E3/\Ab X H E3/\∀b S' H',Q3 b S'->xm X.K H' S'->Grow X.K H H'->Q b H'
def LS(X:Cx)(t:bj):TS:=fun D σ H=>∃σ3 S D3,xu X.K H σ σ3/\xm X.K H S/\t D3 σ3 S/\Ab X H D3.ex/\Ax X.K H D3.nx D.nx/\zY X.K H D3.rt D.rt/\Ax X.K H D3.bk D.bk/\Ax X.K H D3.ct D.ct
structure aF (X:Cx) (e:Expr) (t:aD):Prop where
 ok:PE X e (LE X t)
structure j5 (X:Cx) (e:Expr) (t:fq):Prop where
 ok:PT X e (LT X t)
structure rO (X:Cx) (e:Expr) (t:fq):Prop where
 ok:PW X e (LT X t)
structure iB (X:Cx) (st:Stmt) (t:bj):Prop where
 ok:PS X st (LS X t)
structure cK (X:Cx) (st:List Stmt) (t:bj):Prop where
 ok:zb X st (LS X t)
def ax{X:Cx}{e:Expr}{t t':TE}(h:PE X e t)(k:∀σ H Q,t' σ H Q->t σ H Q):PE X e t':=fun pins s σ H Q I q=>h pins s σ H Q I (k σ H Q q)
def jq{X:Cx}{e:Expr}{t t':TT}(h:PT X e t)(k:∀σ H Q,t' σ H Q->t σ H Q):PT X e t':=fun pins s σ H Q I q=>h pins s σ H Q I (k σ H Q q)
def mB{X:Cx}{e:Expr}{t t':TT}(h:PW X e t)(k:∀σ H Q,t' σ H Q->t σ H Q):PW X e t':=fun wh pins s σ H Q I q=>h wh pins s σ H Q I (k σ H Q q)
def bF{X:Cx}{e:Stmt}{t t':TS}(h:PS X e t)(k:∀D σ H,t' D σ H->t D σ H):PS X e t':=fun pins s σ H D I q=>h pins s σ H D I (k D σ H q)
def j6{X:Cx}{e:List Stmt}{t t':TS}(h:zb X e t)(k:∀D σ H,t' D σ H->t D σ H):zb X e t':=fun pins s σ H D I q=>h pins s σ H D I (k D σ H q)
section
variable {X:Cx} {a b c e o:Expr} {es:List Expr} {ta tb tc te:aD} {pos:Pos}
def v3(i:Nat):aD:=fun σ S Q _=>match lk σ i with|some p=>Q p S|none=>False
def ah(i:Nat){x:Str}(hN:X.N[i]?=some x:=by rfl)(hv:tS X.env.scope x:=by first|exact Or.inl rfl|exact Or.inr (Or.inl rfl)|exact Or.inr (Or.inr rfl))(hd:(x == ("__debug__":Str))=false:=by decide)
  (hcd:(x == ("__classdict__":Str))=false:=by decide):aF X (.Name x pos) (v3 i):=
 ⟨ax (lM hN hv hd hcd) fun σ H Q ⟨σ3,S,Q3,E3,rσ,rS,h,xo,k⟩=>by
  unfold v3 at h
  split at h
  ·rename_i p e
   obtain⟨v,ev,rv⟩:=rσ.at' i p (mz e)
   exact⟨v,ev,k p S v H h rv rS .refl⟩
  ·exact h.elim⟩
def c3(p:PV):aD:=fun _ S Q _=>Q p S
def ac{i:Int}{j:Nat}:aF X (.Constant (.int i) j pos) (c3 (.int i)):=⟨ax qB fun σ H Q ⟨σ3,S,Q3,E3,rσ,rS,h,xo,k⟩=>k _ S _ H h (.int i) rS .refl⟩
def rP{i:Bool}{j:Nat}:aF X (.Constant (.bool i) j pos) (c3 (.bl i)):=⟨ax tT fun σ H Q ⟨σ3,S,Q3,E3,rσ,rS,h,xo,k⟩=>k _ S _ H h (.bl i) rS .refl⟩
def al{i:Str}{j:Nat}:aF X (.Constant (.str i) j pos) (c3 (.str i)):=⟨ax qD fun σ H Q ⟨σ3,S,Q3,E3,rσ,rS,h,xo,k⟩=>k _ S _ H h (.str i) rS .refl⟩
def iC{j:Nat}:aF X (.Constant .none j pos) (c3 .non):=⟨ax qC fun σ H Q ⟨σ3,S,Q3,E3,rσ,rS,h,xo,k⟩=>k _ S _ H h .non rS .refl⟩
def wb{x:Str}{n:String}(hg:Gl X x)(hm:X.mg x=none)(hv:bootBuiltins x=some (.type n))(hn:x ≠ "__name__":=by decide)(hd:(x == ("__debug__":Str))=false:=by decide):aF X (.Name x pos) (c3 (.ty n)):=
 ⟨ax (oj (v:=.ty n) hg hm hv rfl hn hd) fun σ H Q ⟨σ3,S,Q3,E3,rσ,rS,h,xo,k⟩=>k _ S _ H h (.ty n) rS .refl⟩
def rQ{x z:Str}{t:Tok}(hg:Gl X x)(hm:X.mg x=some (.str z t))(hd:(x == ("__debug__":Str))=false:=by decide):aF X (.Name x pos) (c3 (.str z)):=
 ⟨ax (jS (v:=.str z) hg hm ⟨t,rfl⟩ hd) fun σ H Q ⟨σ3,S,Q3,E3,rσ,rS,h,xo,k⟩=>k _ S _ H h (.str z) rS .refl⟩
noncomputable def bG:List aD->wQ
 |[],_,S,Q,_=>Q [] S
 |t::ts,σ,S,Q,E=>t σ S (fun x S1=>bG ts σ S1 (fun xs S2=>Q (x::xs) S2) E) E
noncomputable def vv:List TE->TA
 |[]=>q0
 |t::ts=>pU t (vv ts)
structure eW (X:Cx) (es:List Expr) (ts:List aD):Prop where
 ok:PA X es (vv (ts.map (LE X)))
def j7:eW X [] []:=⟨q5⟩
def mC{ts:List aD}(hs:starEach (e::es) X.env=(false,eval e X.env)::starEach es X.env)(ha:aF X e te)(hr:eW X es ts):eW X (e::es) (te::ts):=⟨oC ha.ok hr.ok hs⟩
theorem aY:∀{ts:List aD} {σ:L2.St} {H:Hp} {Q:List V->Hp->Prop} {σ3:bq} {S:au} {Q3:List PV->au->Prop} {E3:de},xu X.K H σ σ3->xm X.K H S->bG ts σ3 S Q3 E3->Ab X H E3->
  (∀ps S' vs H',ps.length=ts.length->Q3 ps S'->Reps X.K H' vs ps->xm X.K H' S'->Grow X.K H H'->Q vs H')->vv (ts.map (LE X)) σ H Q
 |[],σ,H,Q,σ3,S,Q3,E3,rσ,rS,h,xo,k=>k [] S [] H rfl h .nil rS .refl
 |t::ts,σ,H,Q,σ3,S,Q3,E3,rσ,rS,h,xo,k=>
  ⟨σ3,S,_,E3,rσ,rS,h,xo,fun p S1 v H1 h1 rv xx g1=>aY (rσ.mono g1) xx h1 (xo.mono g1) fun ps S2 vs H2 hl h2 Ci yE g2=>k (p::ps) S2 (v::vs) H2 (by rw[List.length_cons,List.length_cons,hl]) h2 (.cons (rv.mono g2) Ci) yE (g1.trans g2)⟩
def di(ts:List aD):aD:=fun σ S Q E=>bG ts σ S (fun xs S1=>Q (.tup xs) S1) E
def cL{ts:List aD}{x1:Nat}(h:eW X es ts)(hn:ts.length<=1000:=by exact Nat.le_of_ble_eq_true rfl):aF X (.Tuple es x1 pos) (di ts):=
 ⟨ax (q8 h.ok) fun σ H Q ⟨σ3,S,Q3,E3,rσ,rS,hq,xo,k⟩=>aY rσ rS hq xo fun ps S' vs H' hl q rv yy g=>
  ⟨Nat.le_of_lt (b5 (by rw[rv.length,hl];exact hn)),fun p hp=>k _ S' _ _ q (.tup (yi.of ag) (rv.mono (.new hp))) (yy.other hp) (g.trans (.new hp))⟩⟩
def bh(ts:List aD):aD:=fun σ S Q E=>bG ts σ S (fun xs S1=>∀p,S1 p=none->Q (.ref p) (xi S1 p (.lst xs))) E
def aU{ts:List aD}(h:eW X es ts)(hn:ts.length<=1000:=by exact Nat.le_of_ble_eq_true rfl):aF X (.List es pos) (bh ts):=
 ⟨ax (q9 h.ok) fun σ H Q ⟨σ3,S,Q3,E3,rσ,rS,hq,xo,k⟩=>aY rσ rS hq xo fun ps S' vs H' hl q rv yy g=>
  ⟨Nat.le_of_lt (b5 (by rw[rv.length,hl];exact hn)),fun p hp=>k _ _ _ _ (q p (yy.free hp)) (.ref p) (yy.new hp ⟨vs,ag,rv.mono (.new hp)⟩) (g.trans (.new hp))⟩⟩
abbrev R3:=PV->PV->au->cE->Prop
def LR(X:Cx)(r:R3):R2:=fun x y H Q=>∃px py S Q3,Rep X.K H x px/\Rep X.K H y py/\xm X.K H S/\r px py S Q3/\zY X.K H Q3 Q
structure d8 (X:Cx) (f:Value->Value->Sem Value) (r:R3):Prop where
 ok:dF X f (LR X r)
def ap(r:R3)(ta tb:aD):aD:=fun σ S Q E=>ta σ S (fun x S1=>tb σ S1 (fun y S2=>r x y S2 Q) E) E
def eX{r:R3}{σ:L2.St}{H:Hp}{Q:VK}:LE X (ap r ta tb) σ H Q->t9 (LR X r) (LE X ta) (LE X tb) σ H Q:=fun⟨σ3,S,Q3,E3,rσ,rS,h,xo,k⟩=>
 ⟨σ3,S,_,E3,rσ,rS,h,xo,fun x S1 v H1 h1 rx xx g1=>⟨σ3,S1,_,E3,rσ.mono g1,xx,h1,xo.mono g1,fun y S2 u H2 h2 ry yE g2=>⟨x,y,S2,Q3,rx.mono g2,ry,yE,h2,k.mono (g1.trans g2)⟩⟩⟩
def ao{op:Operator}{r:R3}(ho:d8 X (binaryOp op) r)(ha:aF X a ta)(hb:aF X b tb):aF X (.BinOp a op b pos) (ap r ta tb):=⟨ax (t_ ho.ok ha.ok hb.ok) fun _ _ _=>eX⟩
def gk{op:CmpOp}{r:R3}(ho:d8 X (compareOp op) r)(ha:aF X a ta)(hb:aF X b tb)(hm:behindInMarks op b=false):aF X (.Compare a [op] [b] pos) (ap r ta tb):=⟨ax (oz ho.ok ha.ok hb.ok hm) fun _ _ _=>eX⟩
def b7(t:aD):fq:=fun σ S Q E=>t σ S (fun v S'=>match v with | .bl k=>Q k S'|_=>False) E
def mD{σ:L2.St}{H:Hp}{Q:Bool->Hp->Prop}:LT X (b7 te) σ H Q->LE X te σ H (fun x H'=>∃k,x = .bl k/\Q k H'):=fun⟨σ3,S,Q3,E3,rσ,rS,h,xo,k⟩=>
 ⟨σ3,S,_,E3,rσ,rS,h,xo,fun p S' v H' h1 rv yy g=>by
  cases p with
  |bl z=>cases rv;exact⟨z,rfl,k z S' H' h1 yy g⟩
  |_=>exact h1.elim⟩
def b8{op:CmpOp}{r:R3}(ho:d8 X (compareOp op) r)(ha:aF X a ta)(hb:aF X b tb)(hm:behindInMarks op b=false):j5 X (.Compare a [op] [b] pos) (b7 (ap r ta tb)):=
 ⟨jq (oA ho.ok ha.ok hb.ok hm) fun σ H Q ⟨σ3,S,Q3,E3,rσ,rS,h,xo,k⟩=>eX ⟨σ3,S,_,E3,rσ,rS,h,xo,fun p S' v H' h1 rv yy g=>by
  cases p with
  |bl z=>cases rv;exact⟨z,rfl,k z S' H' h1 yy g⟩
  |_=>exact h1.elim⟩⟩
def iD(h:aF X e te)(he:∀whole,isTrue e X.env whole=(do let v <-whole;standAt e.pos;holding [v] (truthy v)):=by intro _;rfl):j5 X e (b7 te):=
 ⟨jq (qE h.ok he) fun σ H Q q=>mD q⟩
end
section
variable {X:Cx} {a b c:Expr} {rest:List Expr} {ta tb te:aD} {tA tB:fq} {pos:Pos}
def k_(t u:fq):fq:=fun σ S Q E=>t σ S (fun c S1=>if c=true then u σ S1 Q E else Q false S1) E
def mE(t u:fq):fq:=fun σ S Q E=>t σ S (fun c S1=>if c=true then Q true S1 else u σ S1 Q E) E
def iE(t:fq):fq:=fun σ S Q E=>t σ S (fun c S1=>Q (!c) S1) E
def mF(ha:j5 X a tA):rO X (.BoolOp .And [a] pos) tA:=⟨ol ha.ok⟩
def gm(ha:j5 X a tA):rO X (.BoolOp .Or [a] pos) tA:=⟨qF ha.ok⟩
def qb(ha:j5 X a tA)(hb:rO X (.BoolOp .And (b::rest) pos) tB):rO X (.BoolOp .And (a::b::rest) pos) (k_ tA tB):=
 ⟨mB (qG ha.ok hb.ok) fun σ H Q ⟨σ3,S,Q3,E3,rσ,rS,h,xo,k⟩=>⟨σ3,S,_,E3,rσ,rS,h,xo,fun c S1 H1 h1 xx g1=>by
  cases c with
  |true=>rw[if_pos rfl]at h1 ⊢;exact⟨σ3,S1,Q3,E3,rσ.mono g1,xx,h1,xo.mono g1,fun b S2 H2 h2 yE g2=>k b S2 H2 h2 yE (g1.trans g2)⟩
  |false=>rw[if_neg (by decide)]at h1 ⊢;exact k false S1 H1 h1 xx g1⟩⟩
def jr(ha:j5 X a tA)(hb:rO X (.BoolOp .Or (b::rest) pos) tB):rO X (.BoolOp .Or (a::b::rest) pos) (mE tA tB):=
 ⟨mB (tU ha.ok hb.ok) fun σ H Q ⟨σ3,S,Q3,E3,rσ,rS,h,xo,k⟩=>⟨σ3,S,_,E3,rσ,rS,h,xo,fun c S1 H1 h1 xx g1=>by
  cases c with
  |true=>rw[if_pos rfl]at h1 ⊢;exact k true S1 H1 h1 xx g1
  |false=>rw[if_neg (by decide)]at h1 ⊢;exact⟨σ3,S1,Q3,E3,rσ.mono g1,xx,h1,xo.mono g1,fun b S2 H2 h2 yE g2=>k b S2 H2 h2 yE (g1.trans g2)⟩⟩⟩
def qc(h:rO X a tA):j5 X a tA:=⟨h.ok.pt⟩
def j8(ha:j5 X a tA):j5 X (.UnaryOp .Not a pos) (iE tA):=
 ⟨jq (qH ha.ok) fun σ H Q ⟨σ3,S,Q3,E3,rσ,rS,h,xo,k⟩=>⟨σ3,S,_,E3,rσ,rS,h,xo,fun c S1 H1 h1 xx g1=>k (!c) S1 H1 h1 xx g1⟩⟩
def iF(t u:aD):aD:=fun σ S Q E=>t σ S (fun v S1=>match v with | .bl c=>if c=true then u σ S1 Q E else Q (.bl false) S1|_=>False) E
def mG(t u:aD):aD:=fun σ S Q E=>t σ S (fun v S1=>match v with | .bl c=>if c=true then Q (.bl true) S1 else u σ S1 Q E|_=>False) E
def qd{op:BoolOp}(h:aF X a ta):aF X (.BoolOp op [a] pos) ta:=⟨qI h.ok⟩
def uz(ha:aF X a ta)(hb:aF X (.BoolOp .And (b::rest) pos) tb):aF X (.BoolOp .And (a::b::rest) pos) (iF ta tb):=
 ⟨ax (qJ ha.ok hb.ok) fun σ H Q ⟨σ3,S,Q3,E3,rσ,rS,h,xo,k⟩=>⟨σ3,S,_,E3,rσ,rS,h,xo,fun p S1 v H1 h1 rv xx g1=>by
  cases p with
  |bl z=>
   cases rv
   refine⟨z,rfl,?_⟩
   cases z with
   |true=>rw[if_pos rfl];exact⟨σ3,S1,Q3,E3,rσ.mono g1,xx,h1,xo.mono g1,k.mono g1⟩
   |false=>rw[if_neg (by decide)];exact k _ S1 _ H1 h1 (.bl false) xx g1
  |_=>exact h1.elim⟩⟩
def wc(ha:aF X a ta)(hb:aF X (.BoolOp .Or (b::rest) pos) tb):aF X (.BoolOp .Or (a::b::rest) pos) (mG ta tb):=
 ⟨ax (tW ha.ok hb.ok) fun σ H Q ⟨σ3,S,Q3,E3,rσ,rS,h,xo,k⟩=>⟨σ3,S,_,E3,rσ,rS,h,xo,fun p S1 v H1 h1 rv xx g1=>by
  cases p with
  |bl z=>
   cases rv
   refine⟨z,rfl,?_⟩
   cases z with
   |true=>rw[if_pos rfl];exact k _ S1 _ H1 h1 (.bl true) xx g1
   |false=>rw[if_neg (by decide)];exact⟨σ3,S1,Q3,E3,rσ.mono g1,xx,h1,xo.mono g1,k.mono g1⟩
  |_=>exact h1.elim⟩⟩
abbrev uA:=PV->au->cE->Prop
noncomputable def wR(X:Cx)(r:uA):V->Hp->VK->Prop:=fun x H Q=>∃px S Q3,Rep X.K H x px/\xm X.K H S/\r px S Q3/\zY X.K H Q3 Q
structure wD (X:Cx) (f:Value->Sem Value) (r:uA):Prop where
 ok:vm X f (wR X r)
def qe(r:uA)(ta:aD):aD:=fun σ S Q E=>ta σ S (fun x S1=>r x S1 Q) E
def rR{op:UnaryOp}{r:uA}(ho:wD X (unaryOp op) r)(ha:aF X a ta):aF X (.UnaryOp op a pos) (qe r ta):=
 ⟨ax (ua ho.ok ha.ok) fun σ H Q ⟨σ3,S,Q3,E3,rσ,rS,h,xo,k⟩=>⟨σ3,S,_,E3,rσ,rS,h,xo,fun p S1 v H1 h1 rv xx g1=>⟨p,S1,Q3,rv,xx,h1,k.mono g1⟩⟩⟩
noncomputable def iG:uA:=fun x S Q=>match x with | .int i=>Q (.int (-i)) S|_=>False
def js:wD X (unaryOp .USub) iG:=⟨fun pins s σ H x v Q I rx ⟨px,S,Q3,r1,rS,h,k⟩=>by
 cases px with
 |int i=>cases r1;exact qY pins s σ H _ v Q I rx ⟨i,rfl,k _ S _ H h (.int _) rS .refl⟩
 |_=>exact h.elim⟩
end
section
variable {X:Cx}
def d9(g:Int->Int->PV):R3:=fun x y S Q=>match x,y with | .int i,.int j=>Q (g i j) S|_,_=>False
def dl(C:Int->Int->Prop)(g:Int->Int->PV):R3:=fun x y S Q=>match x,y with | .int i,.int j=>C i j/\Q (g i j) S|_,_=>False
def rT{f:Value->Value->Sem Value}{g:Int->Int->Int}(h:dF X f (ow fun i j=>.int (g i j))):d8 X f (d9 fun i j=>.int (g i j)):=⟨fun pins s σ H x y v u Q I rx ry ⟨px,py,S,Q3,r1,r2,rS,q,k⟩=>by
 cases px with
 |int i=>
  cases py with
  |int j=>cases r1;cases r2;exact h pins s σ H _ _ v u Q I rx ry ⟨i,j,rfl,rfl,k _ S _ H q (.int _) rS .refl⟩
  |_=>exact q.elim
 |_=>exact q.elim⟩
def gY{f:Value->Value->Sem Value}{g:Int->Int->Bool}(h:dF X f (ow fun i j=>.bl (g i j))):d8 X f (d9 fun i j=>.bl (g i j)):=⟨fun pins s σ H x y v u Q I rx ry ⟨px,py,S,Q3,r1,r2,rS,q,k⟩=>by
 cases px with
 |int i=>
  cases py with
  |int j=>cases r1;cases r2;exact h pins s σ H _ _ v u Q I rx ry ⟨i,j,rfl,rfl,k _ S _ H q (.bl _) rS .refl⟩
  |_=>exact q.elim
 |_=>exact q.elim⟩
def gZ{f:Value->Value->Sem Value}{C:Int->Int->Prop}{g:Int->Int->Int}(h:dF X f (rI C fun i j=>.int (g i j))):d8 X f (dl C fun i j=>.int (g i j)):=⟨fun pins s σ H x y v u Q I rx ry ⟨px,py,S,Q3,r1,r2,rS,q,k⟩=>by
 cases px with
 |int i=>
  cases py with
  |int j=>cases r1;cases r2;exact h pins s σ H _ _ v u Q I rx ry ⟨i,j,rfl,rfl,q.1,k _ S _ H q.2 (.int _) rS .refl⟩
  |_=>exact q.elim
 |_=>exact q.elim⟩
def j9(i j:Int):Prop:=j≠0/\j.natAbs < 2 ^ 8000
def jt{n:Nat}(h:n < 2 ^ 8000):n.log2 < 9000:=by
 by_cases z:n=0
 ·rw[z];decide +kernel
 ·exact Nat.lt_trans ((Nat.log2_lt z).mpr h) (by decide)
def rV:d8 X (binaryOp .Sub) (d9 fun i j=>.int (i - j)):=rT qW
def rW:d8 X (binaryOp .Mod) (dl (fun _ j=>j≠0) fun i j=>.int (i.fmod j)):=gZ oy
def oZ:d8 X (binaryOp .FloorDiv) (dl j9 fun i j=>.int (i.fdiv j)):=gZ (vo fun _ _ _ _ _ _ _ hc q=>PyProof.Rows.floordiv_int hc.1 q (.inl (PyProof.noPylong_of_log2 (jt hc.2))))
def rX:d8 X (binaryOp .Pow) (dl kI fun i j=>.int (i ^ j.toNat)):=gZ qX
def uB:d8 X (compareOp .Lt) (d9 fun i j=>.bl (decide (i < j))):=gY ud
def uC:d8 X (compareOp .Gt) (d9 fun i j=>.bl (decide (j < i))):=gY ue
def uD:d8 X (compareOp .GtE) (d9 fun i j=>.bl (decide (j<=i))):=gY uf
end
end L3
namespace L2
open PySem PySem.Spec PyProof.Rows
section
variable {X:Cx}
def uE(K:Vo):R2:=fun x y H Q=>∃a b xs ys,x = .ref a/\y = .ref b/\yi K H a xs/\yi K H b ys/\xs.length+ys.length<=sizeLine/\∀r H',(∀c o,H c=some o->H' c=some o)->yi K H' r (xs++ys)->Q (.ref r) H'
def o0:dF X (binaryOp .Add) (uE X.K):=by
 intro pins s σ H x y v u Q I rx ry h
 obtain⟨a,b,xs,ys,rfl,rfl,ha,hb,hz,q⟩:=h
 by_cases hx:xs=[]
 ·subst hx
  cases rx
  cases ry
  obtain⟨its,r1,p1,_⟩:=I.tuple ha
  obtain⟨its2,r2,p2,_⟩:=I.tuple hb
  cases r1
  obtain⟨⟨cls,dd,data,sl⟩,ho,hc,n,hd⟩:=id p1
  obtain⟨⟨B7,dd2,data2,sl2⟩,ho2,hc2,n2,hd2⟩:=id p2
  simp only at hc hd hc2 hd2
  subst hc hd hc2 hd2
  exact concat_meets ⟨_,ho,rfl⟩ ⟨_,ho2,rfl⟩ noFill_tuple_add seq_tuple_add PySem.F.slot_tuple_add PySem.F.entry_tuple_add (PySem.F.args_tuple_add_2 _ _)
   (tuple_addW0 a b _ its2.toArray n n2 dd dd2 sl sl2 rfl) ⟨ho,ho2,⟨.ref b,H,I,rfl,q b H (fun _ _ e=>e) hb⟩⟩
 ·exact oJ pins s σ H _ _ v u Q I rx ry ⟨a,b,xs,ys,rfl,rfl,ha,hb,hx,hz,fun e=>q a H (fun _ _ e=>e) (by rw[e,List.append_nil];exact ha),
   fun _ p hp=>q p _ (fun c o e=>by rw[ae (aA e hp)];exact e) (yi.of ag)⟩
end
end L2
namespace L3
open PySem L2
section
variable {X:Cx}
def aB:R3:=fun x y S Q=>match x,y with
 | .int i,.int j=>Q (.int (i+j)) S
 | .str i,.str j=>i.length+j.length<=sizeLine/\Q (.str (i++j)) S
 | .tup i,.tup j=>i.length+j.length<=sizeLine/\Q (.tup (i++j)) S
 | .ref i,.ref j=>match S i,S j with
  |some (.lst xs),some (.lst ys)=>xs.length+ys.length<=sizeLine/\∀p,S p=none->Q (.ref p) (xi S p (.lst (xs++ys)))
  |_,_=>False
 |_,_=>False
def ai:d8 X (binaryOp .Add) aB:=⟨fun pins s σ H x y v u Q I rx ry ⟨px,py,S,Q3,r1,r2,rS,q,k⟩=>by
 unfold aB at q
 split at q
 ·cases r1;cases r2
  exact qV pins s σ H _ _ v u Q I rx ry ⟨_,_,rfl,rfl,k _ S _ H q (.int _) rS .refl⟩
 ·cases r1;cases r2
  exact je pins s σ H _ _ v u Q I rx ry ⟨_,_,rfl,rfl,q.1,k _ S _ H q.2 (.str _) rS .refl⟩
 ·cases r1 with
  |tup h1 s1=>
   cases r2 with
   |tup h2 s2=>
    refine o0 pins s σ H _ _ v u Q I rx ry ⟨_,_,_,_,rfl,rfl,h1,h2,by rw[s1.length,s2.length];exact q.1,fun r H' hs hr=>?_⟩
    exact k _ S _ H' q.2 (.tup hr ((s1.mono (.same hs)).append (s2.mono (.same hs)))) (rS.grow hs) (.same hs)
 ·cases r1;cases r2
  split at q
  ·rename_i i j xs ys e1 e2
   obtain⟨vs,h1,s1⟩:=rS _ _ e1
   obtain⟨us,h2,s2⟩:=rS _ _ e2
   exact rm pins s σ H _ _ v u Q I rx ry ⟨_,_,_,_,rfl,rfl,h1,h2,by rw[s1.length,s2.length];exact q.1,fun p hp=>k _ _ _ _ (q.2 p (rS.free hp)) (.ref p) (rS.new hp ⟨_,ag,(s1.append s2).mono (.new hp)⟩) (.new hp)⟩
  ·exact q.elim
 ·exact q.elim⟩
end
mutual
inductive Dat (S:au):PV->PyData->Prop
 |non:Dat S .non .none
 |bl (b:Bool):Dat S (.bl b) (.bool b)
 |int (i:Int):Dat S (.int i) (.int i)
 |str (x:Str):Dat S (.str x) (.str x)
 |tup {ps:List PV} {ds:List PyData}:yA S ps ds->Dat S (.tup ps) (.tuple ds)
 |cl {ps:List PV} {ds:List PyData}:yA S ps ds->Dat S (.cl ps) (.list ds)
 |ref {a:Addr} {ps:List PV} {ds:List PyData}:S a=some (.lst ps)->yA S ps ds->Dat S (.ref a) (.list ds)
inductive yA (S:au):List PV->List PyData->Prop
 |nil:yA S [] []
 |cons {p:PV} {d:PyData} {ps:List PV} {ds:List PyData}:Dat S p d->yA S ps ds->yA S (p::ps) (d::ds)
end
section
variable {X:Cx} {pins:Va} {σ:L2.St} {H:Hp} {s:Shared} {S:au}
def ju(I:Inv X pins σ H s)(rS:xm X.K H S):(∀{p:PV} {d:PyData},Dat S p d->∀{v:V} {u:Value},Rep X.K H v p->RelV v u->∃as,Reads s.heap u d as)/\∀{ps:List PV} {ds:List PyData},yA S ps ds->∀{vs:List V} {us:Vv},Reps X.K H vs ps->Vals vs us->∃as,ReadsAll s.heap us ds as:=by
 have one:=@Dat.rec S (motive_1:=fun p d _=>∀{v:V} {u:Value},Rep X.K H v p->RelV v u->∃as,Reads s.heap u d as) (motive_2:=fun ps ds _=>∀{vs:List V} {us:Vv},Reps X.K H vs ps->Vals vs us->∃as,ReadsAll s.heap us ds as)
 have two:=@yA.rec S (motive_1:=fun p d _=>∀{v:V} {u:Value},Rep X.K H v p->RelV v u->∃as,Reads s.heap u d as) (motive_2:=fun ps ds _=>∀{vs:List V} {us:Vv},Reps X.K H vs ps->Vals vs us->∃as,ReadsAll s.heap us ds as)
 have c1:∀{v:V} {u:Value},Rep X.K H v .non->RelV v u->∃as,Reads s.heap u .none as:=fun h r=>by cases h;cases r;exact⟨_,.none⟩
 have c2:∀(b:Bool) {v:V} {u:Value},Rep X.K H v (.bl b)->RelV v u->∃as,Reads s.heap u (.bool b) as:=fun b _ _ h r=>by cases h;cases r;exact⟨_,.bool b⟩
 have c3:∀(i:Int) {v:V} {u:Value},Rep X.K H v (.int i)->RelV v u->∃as,Reads s.heap u (.int i) as:=fun i _ _ h r=>by cases h;obtain⟨t,rfl⟩:=r;exact⟨_,.int i t⟩
 have c4:∀(x:Str) {v:V} {u:Value},Rep X.K H v (.str x)->RelV v u->∃as,Reads s.heap u (.str x) as:=fun x _ _ h r=>by cases h;obtain⟨t,rfl⟩:=r;exact⟨_,.str x t⟩
 have c5:∀{ps:List PV} {ds:List PyData},yA S ps ds->(∀{vs:List V} {us:Vv},Reps X.K H vs ps->Vals vs us->∃as,ReadsAll s.heap us ds as)->∀{v:V} {u:Value},Rep X.K H v (.tup ps)->RelV v u->∃as,Reads s.heap u (.tuple ds) as:=fun _ ih _ _ h r=>by
  cases h with
  |tup h rs=>
   cases r
   obtain⟨its,rv,⟨o,ho,hc,n,hd⟩,hz⟩:=I.tuple h
   obtain⟨as,q⟩:=ih rs rv
   exact⟨as,.tuple ho hc hd (by simpa using q)⟩
 have c6:∀{ps:List PV} {ds:List PyData},yA S ps ds->(∀{vs:List V} {us:Vv},Reps X.K H vs ps->Vals vs us->∃as,ReadsAll s.heap us ds as)->∀{v:V} {u:Value},Rep X.K H v (.cl ps)->RelV v u->∃as,Reads s.heap u (.list ds) as:=fun _ ih _ _ h r=>by
  cases h with
  |cl h rs=>
   cases r
   obtain⟨its,rv,⟨o,n,ho,hc,_,hd⟩,hz⟩:=I.list h.sq
   obtain⟨as,q⟩:=ih rs rv
   exact⟨_,.list ho hc hd (by simpa using q)⟩
 have c7:∀{a:Addr} {ps:List PV} {ds:List PyData},S a=some (.lst ps)->yA S ps ds->(∀{vs:List V} {us:Vv},Reps X.K H vs ps->Vals vs us->∃as,ReadsAll s.heap us ds as)->∀{v:V} {u:Value},Rep X.K H v (.ref a)->RelV v u->∃as,Reads s.heap u (.list ds) as:=fun e _ ih _ _ h r=>by
  cases h
  cases r
  obtain⟨vs,hv,rs⟩:=rS _ _ e
  obtain⟨its,rv,⟨o,n,ho,hc,_,hd⟩,hz⟩:=I.list (SqL.of hv)
  obtain⟨as,q⟩:=ih rs rv
  exact⟨_,.list ho hc hd (by simpa using q)⟩
 have c8:∀{vs:List V} {us:Vv},Reps X.K H vs []->Vals vs us->∃as,ReadsAll s.heap us [] as:=fun h r=>by cases h;cases r;exact⟨_,.nil⟩
 have c9:∀{p:PV} {d:PyData} {ps:List PV} {ds:List PyData},Dat S p d->yA S ps ds->(∀{v:V} {u:Value},Rep X.K H v p->RelV v u->∃as,Reads s.heap u d as)->(∀{vs:List V} {us:Vv},Reps X.K H vs ps->Vals vs us->∃as,ReadsAll s.heap us ds as)->∀{vs:List V} {us:Vv},Reps X.K H vs (p::ps)->Vals vs us->∃as,ReadsAll s.heap us (d::ds) as:=fun _ _ i1 i2 _ _ h r=>by
  cases h with
  |cons a rs=>
   cases r with
   |cons r1 r2=>
    obtain⟨as,q⟩:=i1 a r1
    obtain⟨bs,q2⟩:=i2 rs r2
    exact⟨_,.cons q q2⟩
 exact⟨fun h=>one c1 c2 c3 c4 c5 c6 c7 c8 c9 h,fun h=>two c1 c2 c3 c4 c5 c6 c7 c8 c9 h⟩
def Dat.reads(I:Inv X pins σ H s)(rS:xm X.K H S){p:PV}{d:PyData}{v:V}{u:Value}(h:Dat S p d)(r:Rep X.K H v p)(r2:RelV v u):∃as,Reads s.heap u d as:=(ju I rS).1 h r r2
end
section
variable {X:Cx}
def dI(neg:Bool):R3:=fun x y S Q=>match x,y with
 | .int i,.int j=>Q (.bl (neg != decide (i=j))) S
 | .str i,.str j=>Q (.bl (neg != decide (i=j))) S
 | .bl i,.bl j=>Q (.bl (neg != decide (i=j))) S
 |x,y=>∃d d',Dat S x d/\Dat S y d'/\d.canLay0=true/\d'.canLay0=true/\min d.depth d'.depth<=150/\Q (.bl (neg != PyData.eqv d d')) S
def mH(hu:X.A.units+150 < cLine):d8 X (compareOp .Eq) (dI false):=⟨fun pins s σ H x y v u Q I rx ry ⟨px,py,S,Q3,r1,r2,rS,q,k⟩=>by
 unfold dI at q
 split at q
 ·cases r1;cases r2
  exact lS pins s σ H _ _ v u Q I rx ry ⟨rfl,k _ S _ H (by simpa using q) (.bl _) rS .refl⟩
 ·cases r1;cases r2
  exact lS pins s σ H _ _ v u Q I rx ry ⟨rfl,k _ S _ H (by simpa using q) (.bl _) rS .refl⟩
 ·cases r1;cases r2
  exact lS pins s σ H _ _ v u Q I rx ry ⟨rfl,k _ S _ H (by simpa using q) (.bl _) rS .refl⟩
 ·obtain⟨d,d',h1,h2,c1,c2,hd,q⟩:=q
  obtain⟨as,a1⟩:=h1.reads I rS r1 rx
  obtain⟨bs,a2⟩:=h2.reads I rS r2 ry
  exact SeqAt.compareEq_reads a1 a2 c1 c2 (by omega) ⟨.bl _,H,I,rfl,k _ S _ H (by simpa using q) (.bl _) rS .refl⟩⟩
def qf(hu:X.A.units+150 < cLine):d8 X (compareOp .NotEq) (dI true):=⟨fun pins s σ H x y v u Q I rx ry ⟨px,py,S,Q3,r1,r2,rS,q,k⟩=>by
 unfold dI at q
 split at q
 ·cases r1;cases r2
  exact lT pins s σ H _ _ v u Q I rx ry ⟨rfl,k _ S _ H (by simpa using q) (.bl _) rS .refl⟩
 ·cases r1;cases r2
  exact lT pins s σ H _ _ v u Q I rx ry ⟨rfl,k _ S _ H (by simpa using q) (.bl _) rS .refl⟩
 ·cases r1;cases r2
  exact lT pins s σ H _ _ v u Q I rx ry ⟨rfl,k _ S _ H (by simpa using q) (.bl _) rS .refl⟩
 ·obtain⟨d,d',h1,h2,c1,c2,hd,q⟩:=q
  obtain⟨as,a1⟩:=h1.reads I rS r1 rx
  obtain⟨bs,a2⟩:=h2.reads I rS r2 ry
  exact SeqAt.compareNe_reads a1 a2 c1 c2 (by omega) ⟨.bl _,H,I,rfl,k _ S _ H (by simpa using q) (.bl _) rS .refl⟩⟩
def tE(neg:Bool):R3:=fun x y S Q=>match y with
 | .non=>Q (.bl (neg != match x with | .non=>true|_=>false)) S
 | .bl true=>match x with | .bl true=>Q (.bl (neg != true)) S|_=>False
 |_=>False
def uF:d8 X (compareOp .Is) (tE false):=⟨fun pins s σ H x y v u Q I rx ry ⟨px,py,S,Q3,r1,r2,rS,q,k⟩=>by
 unfold tE at q
 split at q
 ·cases r2
  refine qZ pins s σ H _ _ v u Q I rx ry ⟨rfl,?_⟩
  cases r1<;>exact k _ S _ H (by simpa using q) (.bl _) rS .refl
 ·cases r2
  split at q
  ·cases r1
   exact rE pins s σ H _ _ v u Q I rx ry ⟨rfl,rfl,k _ S _ H (by simpa using q) (.bl _) rS .refl⟩
  ·exact q.elim
 ·exact q.elim⟩
noncomputable def gp(x:PyData)(xs:List PyData):Bool:=xs.any fun y=>PyData.eqv y x
def tF(neg:Bool):R3:=fun x y S Q=>match x,y with
 | .str i,.str j=>Q (.bl (neg != !(Builtin.Str.occurrences j i 0 j.length 1).isEmpty)) S
 |x,y=>match y with
  | .ref a=>match S a with
   |some (.lst xs)=>∃d ds,Dat S x d/\yA S xs ds/\d.canLay0=true/\PyData.canLayAll0 ds=true/\d.depth<=150/\Q (.bl (neg != gp d ds)) S
   |some (.dct kvs)=>match x with
    | .str z=>Q (.bl (neg != (kvs.any fun kv=>decide (kv.1=Sum.inr z)))) S
    | .int z=>Q (.bl (neg != (kvs.any fun kv=>decide (kv.1=Sum.inl z)))) S
    |_=>False
   |_=>False
  | .tup xs=>∃d ds,Dat S x d/\yA S xs ds/\d.canLay0=true/\PyData.canLayAll0 ds=true/\d.depth<=150/\Q (.bl (neg != gp d ds)) S
  |_=>False
theorem xy.any{K:Vo}{H:Hp}{κ:Type} [DecidableEq κ](k:κ):∀{vs:List (κ×V)} {ps:List (κ×PV)},xy K H vs ps->(d4 vs k).isSome=ps.any fun kv=>decide (kv.1=k)
 |_,_,.nil=>rfl
 |_,_,.cons (k:=k') a r=>by
  rw[List.any_cons,<-xy.any k r]
  by_cases e:k'=k
  ·rw[yk e];simp[e]
  ·rw[ym e];simp[e]
def uG(hu:X.A.units+160 < cLine):d8 X (compareOp .In) (tF false):=⟨fun pins s σ H x y v u Q I rx ry ⟨px,py,S,Q3,r1,r2,rS,q,k⟩=>by
 unfold tF at q
 split at q
 ·cases r1;cases r2
  exact kJ pins s σ H _ _ v u Q I rx ry ⟨_,_,rfl,rfl,k _ S _ H (by simpa using q) (.bl _) rS .refl⟩
 ·split at q
  ·cases r2
   cases ry
   split at q
   ·rename_i xs e
    obtain⟨d,ds,h1,h2,c1,c2,hd,q⟩:=q
    obtain⟨as,a1⟩:=h1.reads I rS r1 rx
    obtain⟨bs,a2⟩:=(Dat.ref e h2).reads I rS (.ref _) (rfl:RelV (.ref _) (.ref _))
    exact SeqAt.in_list_reads a2 a1 c2 c1 (by omega) ⟨.bl _,H,I,rfl,k _ S _ H (by simpa [gp]using q) (.bl _) rS .refl⟩
   ·rename_i kvs e
    obtain⟨kv,hv,rk⟩:=rS _ _ e
    split at q
    ·cases r1
     exact ut (by omega) I (DGet.k (k:=Sum.inr _) hv) rx fun s3 I3=>⟨.bl _,H,I3,rfl,k _ S _ H (by rw[rk.any];simpa using q) (.bl _) rS .refl⟩
    ·cases r1
     exact ut (by omega) I (DGet.k (k:=Sum.inl _) hv) rx fun s3 I3=>⟨.bl _,H,I3,rfl,k _ S _ H (by rw[rk.any];simpa using q) (.bl _) rS .refl⟩
    ·exact q.elim
   ·exact q.elim
  ·rename_i xs
   obtain⟨d,ds,h1,h2,c1,c2,hd,q⟩:=q
   obtain⟨as,a1⟩:=h1.reads I rS r1 rx
   obtain⟨bs,a2⟩:=(Dat.tup h2).reads I rS r2 ry
   exact SeqAt.in_tuple_reads a2 a1 c2 c1 (by omega) ⟨.bl _,H,I,rfl,k _ S _ H (by simpa [gp]using q) (.bl _) rS .refl⟩
  ·exact q.elim⟩
def mI(hu:X.A.units+160 < cLine):d8 X (compareOp .NotIn) (tF true):=⟨fun pins s σ H x y v u Q I rx ry ⟨px,py,S,Q3,r1,r2,rS,q,k⟩=>by
 unfold tF at q
 split at q
 ·cases r1;cases r2
  exact gR pins s σ H _ _ v u Q I rx ry ⟨_,_,rfl,rfl,k _ S _ H (by simpa using q) (.bl _) rS .refl⟩
 ·split at q
  ·cases r2
   cases ry
   split at q
   ·rename_i xs e
    obtain⟨d,ds,h1,h2,c1,c2,hd,q⟩:=q
    obtain⟨as,a1⟩:=h1.reads I rS r1 rx
    obtain⟨bs,a2⟩:=(Dat.ref e h2).reads I rS (.ref _) (rfl:RelV (.ref _) (.ref _))
    exact SeqAt.notIn_list_reads a2 a1 c2 c1 (by omega) ⟨.bl _,H,I,rfl,k _ S _ H (by simpa [gp]using q) (.bl _) rS .refl⟩
   ·rename_i kvs e
    obtain⟨kv,hv,rk⟩:=rS _ _ e
    split at q
    ·cases r1
     exact j1 (by omega) I (DGet.k (k:=Sum.inr _) hv) rx fun s3 I3=>⟨.bl _,H,I3,rfl,k _ S _ H (by rw[rk.any];simpa using q) (.bl _) rS .refl⟩
    ·cases r1
     exact j1 (by omega) I (DGet.k (k:=Sum.inl _) hv) rx fun s3 I3=>⟨.bl _,H,I3,rfl,k _ S _ H (by rw[rk.any];simpa using q) (.bl _) rS .refl⟩
    ·exact q.elim
   ·exact q.elim
  ·rename_i xs
   obtain⟨d,ds,h1,h2,c1,c2,hd,q⟩:=q
   obtain⟨as,a1⟩:=h1.reads I rS r1 rx
   obtain⟨bs,a2⟩:=(Dat.tup h2).reads I rS r2 ry
   exact SeqAt.notIn_tuple_reads a2 a1 c2 c1 (by omega) ⟨.bl _,H,I,rfl,k _ S _ H (by simpa [gp]using q) (.bl _) rS .refl⟩
  ·exact q.elim⟩
end
end L3
namespace HT
open PySem PySem.Spec PyProof.Rows
section
variable {prog:Program} {w:World} {A:Around} {E:Vq} {s:Shared}
def dJ{t sl:Addr}{items:Vw}{vl vu:Value}{lo hi:Option Int}{Q:Vq}(ht:IsTup s.heap t items)(hs:s.heap.IsSliceOf sl vl vu .none)(pl:IsPart vl lo)(pu:IsPart vu hi)
  (hw:xA items.size 0 lo=0/\xA items.size items.size hi=items.size)
  (h:Q (.ref t) s):wpAny (model prog w) A (getItem (.ref t) (.ref sl)) Q E s:=by
 obtain⟨os,hos,hcs,hds⟩:=id hs
 have B8:s.TypeIs (.ref sl) "slice":=⟨os,hos,hcs⟩
 unfold getItem
 try with_reducible refine wpAny_holding ?_
 first|refine wpAny_bind (wpAny_pure ?_)|skip
 refine wpAny_bind (wpAny_sequenceKey ht.typeIs (by decide) ?_)
 refine wpAny_bind (wpAny_callSpecial?_slot (name:=Str.ofString "__getitem__") ht.typeIs PyProof.Rows.slot_tuple_getitem
  (wpAny_call_entry PyProof.Rows.slot_tuple_getitem ht.typeIs entry_tuple_getitem ?_ (args_tuple_getitem _ _)))
 show wpAny _ _ (Builtin.Tuple.tupleItemsOf (.ref t) >>= _) _ _ s
 refine wpAny_bind (tupleItemsOf_ ht ?_)
 refine wpAny_bind (wpAny_typeOf B8 ?_)
 rw[if_pos (by decide)]
 refine wpAny_bind (b4 hs pl pu ?_)
 have hyes:(((xA items.size 0 lo:Nat):Int) == 0&&(1:Int) == 1&&(xA items.size items.size hi - xA items.size 0 lo) == items.size)=true:=by
  rw[hw.1,hw.2];simp
 show wpAny _ _ (if (((xA items.size 0 lo:Nat):Int) == 0&&(1:Int) == 1&&(xA items.size items.size hi - xA items.size 0 lo) == items.size)=true then _ else _) _ _ s
 rw[if_pos hyes]
 unfold Builtin.Tuple.tupleIsExact
 refine wpAny_bind (wpAny_bind (wpAny_typeOf ht.typeIs (wpAny_pure ?_)))
 rw[if_pos (by decide)]
 first
  |exact wpAny_bind (wpAny_rule (wpAny_pure ⟨_,rfl,wpAny_pure h⟩))
  |exact wpAny_bind (wpAny_rule (wpAny_bind (wpAny_pure (wpAny_pure ⟨_,rfl,wpAny_pure h⟩))))
  |exact wpAny_bind (wpAny_rule (wpAny_bind (wpAny_pure ⟨_,rfl,wpAny_pure h⟩)))
end
end HT
namespace L2
open PySem PySem.Spec PyProof.Rows
section
variable {X:Cx}
noncomputable def uH(K:Vo):V->Option Int->Option Int->Hp->VK->Prop:=fun x lo hi H Q=>∃a xs,x = .ref a/\yi K H a xs/\∀r H',(∀c o,H c=some o->H' c=some o)->yi K H' r (fg xs lo hi)->Q (.ref r) H'
def o4:tu X (uH X.K):=by
 intro pins s σ H x v vl vu lo hi sl Q I rx hs pl pu h
 obtain⟨a,xs,rfl,hx,q⟩:=h
 by_cases hw:HT.xA xs.length 0 lo=0/\HT.xA xs.length xs.length hi=xs.length
 ·cases rx
  obtain⟨its,r,ht,hz⟩:=I.tuple hx
  have hlen:its.toArray.size=xs.length:=by rw[List.size_toArray];exact r.length.symm
  refine⟨"tuple",_,PyProof.Rows.slot_tuple_getitem.lookup,ht.typeIs,HT.dJ ht hs pl pu (by rw[hlen];exact hw) ⟨.ref a,H,I,rfl,q a H (fun _ _ e=>e) ?_⟩⟩
  have e:fg xs lo hi=xs:=by unfold fg;rw[hw.1,hw.2];simp
  rw[e];exact hx
 ·exact rb pins s σ H _ v vl vu lo hi sl Q I rx hs pl pu ⟨a,xs,rfl,hx,hw,fun p hp=>q p _ (fun c o e=>by rw[ae (aA e hp)];exact e) (yi.of ag)⟩
def o5(hu:X.A.units+1 < cLine):tw X (fun x y H Q=>∃a v,x = .ref a/\DGet H a y (some v)/\Q v H):=by
 intro value slice pins s σ H x y v u Q I rx ry h hs
 obtain⟨a,z,rfl,g,q⟩:=h
 cases rx
 exact tail_any (iw I g) PySem.F.slot_dict_getitem.lookup (kQ hu I g ry fun w' s3 I3 rw'=>⟨z,H,I3,rw',q⟩) hs
def mJ(hu:X.A.units+1 < cLine):oo X (fun o i v H Q=>∃a H',o = .ref a/\Ad H a i v H'/\Q H'):=by
 intro pins s σ H o i v ov iv u Q I ro ri rv h
 obtain⟨a,H',rfl,g,q⟩:=h
 cases ro
 exact kR hu I g ri rv fun s' I'=>⟨H',I',q⟩
end
end L2
namespace L3
open PySem L2
theorem Reps.xT{K:Vo}{H:Hp}{vs:List V}{ps:List PV}{i:Int}{p:PV}(r:Reps K H vs ps)(h:L2.xT ps i=some p):∃v,L2.xT vs i=some v/\Rep K H v p:=by
 unfold L2.xT at h ⊢
 rw[r.length]
 cases e:nY ps.length i with
 |none=>rw[e]at h;cases h
 |some j=>
  rw[e]at h
  obtain⟨v,h1,h2⟩:=r.get h
  exact⟨v,h1,h2⟩
noncomputable def jv:PV->Option aS
 | .int i=>some (.inl i)
 | .str x=>some (.inr x)
 |_=>none
def cj{K:Vo}{H:Hp}{v:V}{p:PV}{k:aS}(r:Rep K H v p)(h:jv p=some k):v=kV k:=by
 cases p with
 |int i=>cases h;cases r;rfl
 |str i=>cases h;cases r;rfl
 |_=>cases h
noncomputable def fR{κ:Type} [DecidableEq κ]:List (κ×PV)->κ->Option PV
 |[],_=>none
 |(k',v)::r,k=>if k'=k then some v else fR r k
theorem xy.val{K:Vo}{H:Hp}{κ:Type} [DecidableEq κ]{k:κ}{p:PV}:∀{vs:List (κ×V)} {ps:List (κ×PV)},xy K H vs ps->fR ps k=some p->∃v,d4 vs k=some v/\Rep K H v p
 |_,_,.nil,h=>by cases h
 |_,_,.cons (k:=k') a r,h=>by
  unfold fR at h
  split at h
  ·rename_i e;cases h;exact⟨_,yk e,a⟩
  ·rename_i e;rw[ym e];exact xy.val r h
section
variable {X:Cx} {a b e lo hi:Expr} {ta tb te:aD} {pos p2:Pos}
structure wE (X:Cx) (r:R3):Prop where
 ok:tw X (LR X r)
def uI{r:R3}(hr:wE X r)(ha:aF X a ta)(hb:aF X b tb)(hs:eV b):aF X (.Subscript a b pos) (ap r ta tb):=⟨ax (um hr.ok ha.ok hb.ok hs) fun _ _ _=>eX⟩
def aI:R3:=fun x y S Q=>match x with
 | .tup xs=>match y with | .int i=>(match xT xs i with|some v=>Q v S|none=>False)|_=>False
 | .cl xs=>match y with | .int i=>(match xT xs i with|some v=>Q v S|none=>False)|_=>False
 | .str z=>match y with | .int i=>z.length<=sizeLine/\(match xT z.cps.toList i with|some c=>Q (.str ⟨#[c]⟩) S|none=>False)|_=>False
 | .ref a=>match S a with
  |some (.lst xs)=>(match y with | .int i=>(match xT xs i with|some v=>Q v S|none=>False)|_=>False)
  |some (.dct kvs)=>(match jv y with|some k=>(match fR kvs k with|some v=>Q v S|none=>False)|none=>False)
  |_=>False
 |_=>False
def wF(hu:X.A.units+1 < cLine):wE X aI:=⟨fun value slice pins s σ H x y v u Q I rx ry ⟨px,py,S,Q3,r1,r2,rS,q,k⟩ hs=>by
 unfold aI at q
 split at q
 ·split at q
  ·split at q
   ·rename_i e
    cases r2
    cases r1 with
    |tup h1 rs=>
     obtain⟨w,hw,rw'⟩:=rs.xT e
     exact rc value slice pins s σ H _ _ v u Q I rx ry ⟨_,_,_,w,rfl,rfl,h1,hw,k _ S _ H q rw' rS .refl⟩ hs
   ·exact q.elim
  ·exact q.elim
 ·split at q
  ·split at q
   ·rename_i e
    cases r2
    cases r1 with
    |cl h1 rs=>
     obtain⟨w,hw,rw'⟩:=rs.xT e
     exact jZ value slice pins s σ H _ _ v u Q I rx ry ⟨_,_,_,w,rfl,rfl,h1.sq,hw,k _ S _ H q rw' rS .refl⟩ hs
   ·exact q.elim
  ·exact q.elim
 ·split at q
  ·obtain⟨hz,q⟩:=q
   split at q
   ·rename_i e
    cases r1;cases r2
    exact re value slice pins s σ H _ _ v u Q I rx ry ⟨_,_,_,rfl,rfl,hz,e,k _ S _ H q (.str _) rS .refl⟩ hs
   ·exact q.elim
  ·exact q.elim
 ·split at q
  ·rename_i e0
   split at q
   ·split at q
    ·rename_i e
     cases r1;cases r2
     obtain⟨vs,hv,rs⟩:=rS _ _ e0
     obtain⟨w,hw,rw'⟩:=rs.xT e
     exact jZ value slice pins s σ H _ _ v u Q I rx ry ⟨_,_,_,w,rfl,rfl,SqL.of hv,hw,k _ S _ H q rw' rS .refl⟩ hs
    ·exact q.elim
   ·exact q.elim
  ·rename_i e0
   split at q
   ·rename_i ek
    split at q
    ·rename_i ev
     cases r1
     have e1:=cj r2 ek
     subst e1
     obtain⟨kv,hv,rk⟩:=rS _ _ e0
     obtain⟨w,hw,rw'⟩:=rk.val ev
     refine o5 hu value slice pins s σ H _ _ v u Q I rx ry ⟨_,w,rfl,?_,k _ S _ H q rw' rS .refl⟩ hs
     rw[<-hw]
     exact DGet.k hv
    ·exact q.elim
   ·exact q.elim
  ·exact q.elim
 ·exact q.elim⟩
abbrev tG:=bq->au->(Option Int->au->Prop)->de->Prop
noncomputable def LO(X:Cx)(t:tG):TO:=fun σ H Q=>∃σ3 S Q3 E3,xu X.K H σ σ3/\xm X.K H S/\t σ3 S Q3 E3/\Ab X H E3/\∀o S' H',Q3 o S'->xm X.K H' S'->Grow X.K H H'->Q o H'
structure vx (X:Cx) (e:Option Expr) (t:tG):Prop where
 ok:PO X e (LO X t)
noncomputable def n6:tG:=fun _ S Q _=>Q none S
noncomputable def j_(t:aD):tG:=fun σ S Q E=>t σ S (fun v S'=>match v with | .int i=>Q (some i) S'|_=>False) E
def mK{e:Option Expr}{t t':TO}(h:PO X e t)(k:∀σ H Q,t' σ H Q->t σ H Q):PO X e t':=fun pins s σ H Q I q=>h pins s σ H Q I (k σ H Q q)
def d_:vx X none n6:=⟨mK oH fun σ H Q ⟨σ3,S,Q3,E3,rσ,rS,h,xo,k⟩=>k none S H h rS .refl⟩
def bU(h:aF X e te):vx X (some e) (j_ te):=⟨mK (oI h.ok) fun σ H Q ⟨σ3,S,Q3,E3,rσ,rS,h,xo,k⟩=>⟨σ3,S,_,E3,rσ,rS,h,xo,fun p S' v H' h1 rv yy g=>by
 cases p with
 |int i=>cases rv;exact⟨i,rfl,k _ S' H' h1 yy g⟩
 |_=>exact h1.elim⟩⟩
noncomputable def bV{α:Type}(xs:List α)(lo hi:Option Int):List α:=(xs.drop (HT.xA xs.length 0 lo)).take (HT.xA xs.length xs.length hi - HT.xA xs.length 0 lo)
def Reps.cut{K:Vo}{H:Hp}{vs:List V}{ps:List PV}(r:Reps K H vs ps)(lo hi:Option Int):Reps K H (fg vs lo hi) (bV ps lo hi):=by
 unfold fg bV
 rw[r.length]
 exact(r.drop _).take _
def lb(x:PV)(lo hi:Option Int)(S:au)(Q:cE):Prop:=match x with
 | .tup xs=>Q (.tup (bV xs lo hi)) S
 | .cl xs=>∀p,S p=none->Q (.ref p) (xi S p (.lst (bV xs lo hi)))
 | .str z=>z.length<=sizeLine/\Q (.str (Txt.slice z lo hi)) S
 | .ref a=>match S a with|some (.lst xs)=>∀p,S p=none->Q (.ref p) (xi S p (.lst (bV xs lo hi)))|_=>False
 |_=>False
noncomputable def wS(X:Cx):V->Option Int->Option Int->Hp->VK->Prop:=fun x lo hi H Q=>∃px S Q3,Rep X.K H x px/\xm X.K H S/\lb px lo hi S Q3/\zY X.K H Q3 Q
def wT:tu X (wS X):=by
 intro pins s σ H x v vl vu lo hi sl Q I rx hs pl pu ⟨px,S,Q3,r1,rS,q,k⟩
 unfold lb at q
 split at q
 ·cases r1 with
  |tup h1 rs=>exact o4 pins s σ H _ v vl vu lo hi sl Q I rx hs pl pu ⟨_,_,rfl,h1,fun r H' hh hr=>k _ S _ H' q (.tup hr ((rs.cut lo hi).mono (.same hh))) (rS.grow hh) (.same hh)⟩
 ·cases r1 with
  |cl h1 rs=>exact j0 pins s σ H _ v vl vu lo hi sl Q I rx hs pl pu ⟨_,_,rfl,h1.sq,fun p hp=>k _ _ _ _ (q p (rS.free hp)) (.ref p) (rS.new hp ⟨_,ag,(rs.cut lo hi).mono (.new hp)⟩) (.new hp)⟩
 ·cases r1
  exact rD pins s σ H _ v vl vu lo hi sl Q I rx hs pl pu ⟨_,rfl,q.1,k _ S _ H q.2 (.str _) rS .refl⟩
 ·split at q
  ·rename_i e
   cases r1
   obtain⟨vs,hv,rs⟩:=rS _ _ e
   exact j0 pins s σ H _ v vl vu lo hi sl Q I rx hs pl pu ⟨_,_,rfl,SqL.of hv,fun p hp=>k _ _ _ _ (q p (rS.free hp)) (.ref p) (rS.new hp ⟨_,ag,(rs.cut lo hi).mono (.new hp)⟩) (.new hp)⟩
  ·exact q.elim
 ·exact q.elim
def br(te:aD)(tl th:tG):aD:=fun σ S Q E=>te σ S (fun x S1=>tl σ S1 (fun l S2=>th σ S2 (fun u S3=>lb x l u S3 Q) E) E) E
def bP{lo hi:Option Expr}{tl th:tG}(he:aF X e te)(hl:vx X lo tl)(hu:vx X hi th):aF X (.Subscript e (.Slice lo hi none p2) pos) (br te tl th):=
 ⟨ax (l0 wT he.ok hl.ok hu.ok) fun σ H Q ⟨σ3,S,Q3,E3,rσ,rS,h,xo,k⟩=>⟨σ3,S,_,E3,rσ,rS,h,xo,fun x S1 v H1 h1 rx xx g1=>⟨σ3,S1,_,E3,rσ.mono g1,xx,h1,xo.mono g1,fun l S2 H2 h2 yE g2=>
  ⟨σ3,S2,_,E3,rσ.mono (g1.trans g2),yE,h2,xo.mono (g1.trans g2),fun u S3 H3 h3 A2 g3=>⟨x,S3,Q3,rx.mono (g2.trans g3),A2,h3,k.mono (g1.trans (g2.trans g3))⟩⟩⟩⟩⟩
def o6:dF X (binaryOp .Mult) (rI IntMulOk fun i j=>.int (i * j)):=vo fun _ _ _ _ _ _ _ hc q=>PyProof.Rows.mul_int q hc
def ef:R3:=fun x y S Q=>match x,y with
 | .int i,.int j=>IntMulOk i j/\Q (.int (i * j)) S
 | .ref a,.int j=>(match S a with|some (.lst xs)=>-(2 ^ 63)<=j/\j < 2 ^ 63/\xs.length * j.toNat<=sizeLine/\∀p,S p=none->Q (.ref p) (xi S p (.lst (List.replicate j.toNat xs).flatten))|_=>False)
 |_,_=>False
theorem Reps.rep{K:Vo}{H:Hp}{vs:List V}{ps:List PV}(r:Reps K H vs ps):∀n:Nat,Reps K H (List.replicate n vs).flatten (List.replicate n ps).flatten
 |0=>.nil
 |n+1=>by
  rw[List.replicate_succ,List.replicate_succ,List.flatten_cons,List.flatten_cons]
  exact r.append (Reps.rep r n)
def cM:d8 X (binaryOp .Mult) ef:=⟨fun pins s σ H x y v u Q I rx ry ⟨px,py,S,Q3,r1,r2,rS,q,k⟩=>by
 unfold ef at q
 split at q
 ·cases r1;cases r2
  exact o6 pins s σ H _ _ v u Q I rx ry ⟨_,_,rfl,rfl,q.1,k _ S _ H q.2 (.int _) rS .refl⟩
 ·split at q
  ·rename_i e
   cases r1;cases r2
   obtain⟨vs,hv,rs⟩:=rS _ _ e
   exact rq pins s σ H _ _ v u Q I rx ry ⟨_,_,_,rfl,rfl,hv,q.1,q.2.1,by rw[rs.length];exact q.2.2.1,fun p hp=>k _ _ _ _ (q.2.2.2 p (rS.free hp)) (.ref p) (rS.new hp ⟨_,ag,(rs.rep _).mono (.new hp)⟩) (.new hp)⟩
  ·exact q.elim
 ·exact q.elim⟩
end
end L3
namespace L2
open PySem PySem.Spec PyProof.Rows
section
variable {X:Cx}
def jw{pins:Va}{σ:St}{H:Hp}{s:Shared}{x:Value}{t:Value}{p:Heap->Prop}{vs:List V}{tp:Addr}{b:Bool}{Q:Vq}{E:Vq}(I:Inv X pins σ H s)(Z:PySem.W.KitX X.K x t p)(hp:p s.heap)(hx:x ≠ .builtin "__main__.__loader__#opaque")
  (ht:yi X.K H tp vs) (e:∀its,Vals vs its->PySem.W.kitAny X.K t its=some b) (h:∀tk,Q (.bool b) { s with toks:=tk }):wpAny (model X.prog X.w) X.A (call (.builtin "isinstance") [x,.ref tp]) Q E s:=by
 obtain⟨its,rv,⟨⟨cls,dd,data,sl⟩,ho,hc,n,hd⟩,hz⟩:=I.tuple ht
 simp only at hc hd
 subst hc hd
 exact PySem.W.kia_tup Z I.y9 hp ho (e its rv) hx h
end
end L2
namespace L3
open PySem L2
abbrev g6:=List PV->au->cE->Prop
section
variable {X:Cx} {e o:Expr} {es:List Expr} {te to:aD} {ts:List aD} {x:Str} {p pos apos cpos:Pos}
noncomputable def LC(X:Cx)(r:g6):List V->Hp->VK->Prop:=fun xs H Q=>∃ps S Q3,Reps X.K H xs ps/\xm X.K H S/\r ps S Q3/\zY X.K H Q3 Q
structure bH (X:Cx) (f:Value) (r:g6):Prop where
 ok:cx X f (LC X r)
def aj(r:g6)(ts:List aD):aD:=fun σ S Q E=>bG ts σ S (fun ps S1=>r ps S1 Q) E
def kd{r:g6}{σ:L2.St}{H:Hp}{Q:VK}:LE X (aj r ts) σ H Q->vv (ts.map (LE X)) σ H fun vs H1=>LC X r vs H1 Q:=fun⟨σ3,S,Q3,E3,rσ,rS,h,xo,k⟩=>
 aY rσ rS h xo fun ps S' vs H' hl q rv yy g=>⟨ps,S',Q3,rv,yy,q,k.mono g⟩
def o7{id:String}{r:g6}(hc:bH X (.builtin id) r)(hg:Gl X x)(hm:X.mg x=none)(hv:bootBuiltins x=some (.builtin id))(he:starEach (e::es) X.env=(false,eval e X.env)::starEach es X.env)(ha:eW X (e::es) ts)
  (hn:x ≠ "__name__":=by decide) (hdb:(x == ("__debug__":Str))=false:=by decide) (hpl:(backTo pos (starEach es X.env)).any (·.1)=false:=by rfl):aF X (.Call (.Name x p) (e::es) [] pos) (aj r ts):=
 ⟨ax (lY hc.ok hg hm hv ha.ok hn hdb he hpl) fun _ _ _=>kd⟩
def o8{id:String}{r:g6}(hc:bH X (.type id) r)(hg:Gl X x)(hm:X.mg x=none)(hv:bootBuiltins x=some (.type id))(he:starEach (e::es) X.env=(false,eval e X.env)::starEach es X.env)(ha:eW X (e::es) ts)
  (hn:x ≠ "__name__":=by decide) (hdb:(x == ("__debug__":Str))=false:=by decide) (hpl:(backTo pos (starEach es X.env)).any (·.1)=false:=by rfl):aF X (.Call (.Name x p) (e::es) [] pos) (aj r ts):=
 ⟨ax (kO hc.ok hg hm hv ha.ok hn hdb he hpl) fun _ _ _=>kd⟩
def dw:g6:=fun ps S Q=>match ps with
 |[.tup xs]=>Q (.int xs.length) S
 |[.cl xs]=>Q (.int xs.length) S
 |[.str z]=>z.length<=sizeLine/\Q (.int z.length) S
 |[.ref a]=>(match S a with|some (.lst xs)=>Q (.int xs.length) S|some (.dct kvs)=>Q (.int kvs.length) S|_=>False)
 |_=>False
def dL:bH X (.builtin "len") dw:=⟨fun pins s σ H xs us Q I r ⟨ps,S,Q3,rp,rS,q,k⟩=>by
 unfold dw at q
 split at q
 ·cases rp with|cons a rr=>cases rr;cases a with|tup h rs=>exact ci pins s σ H _ us Q I r ⟨_,_,rfl,.inr h,by rw[rs.length];exact k _ S _ H q (.int _) rS .refl⟩
 ·cases rp with|cons a rr=>cases rr;cases a with|cl h rs=>exact ci pins s σ H _ us Q I r ⟨_,_,rfl,.inl h.sq,by rw[rs.length];exact k _ S _ H q (.int _) rS .refl⟩
 ·cases rp with|cons a rr=>cases rr;cases a;exact gS pins s σ H _ us Q I r ⟨_,rfl,q.1,k _ S _ H q.2 (.int _) rS .refl⟩
 ·cases rp with
  |cons a rr=>
   cases rr;cases a
   split at q
   ·rename_i e
    obtain⟨vs,hv,rs⟩:=rS _ _ e
    exact ci pins s σ H _ us Q I r ⟨_,_,rfl,.inl (SqL.of hv),by rw[rs.length];exact k _ S _ H q (.int _) rS .refl⟩
   ·rename_i e
    obtain⟨vs,hv,rs⟩:=rS _ _ e
    exact kU pins s σ H _ us Q I r ⟨_,_,rfl,hv,by rw[rs.length];exact k _ S _ H q (.int _) rS .refl⟩
   ·exact q.elim
 ·exact q.elim⟩
def jx:g6:=fun ps S Q=>match ps with|[.int i]=>Q (.int (if i < 0 then -i else i)) S|_=>False
def qg:bH X (.builtin "abs") jx:=⟨fun pins s σ H xs us Q I r ⟨ps,S,Q3,rp,rS,q,k⟩=>by
 unfold jx at q
 split at q
 ·cases rp with|cons a rr=>cases rr;cases a;exact lU pins s σ H _ us Q I r ⟨_,rfl,k _ S _ H q (.int _) rS .refl⟩
 ·exact q.elim⟩
def ft:g6:=fun ps S Q=>match ps with|[.int i,.int j]=>Q (.int (if j > i then j else i)) S|_=>False
def mL(hc:X.calm=true):bH X (.builtin "max") ft:=⟨fun pins s σ H xs us Q I r ⟨ps,S,Q3,rp,rS,q,k⟩=>by
 unfold ft at q
 split at q
 ·cases rp with|cons a rr=>cases rr with|cons b r3=>cases r3;cases a;cases b;exact kK hc pins s σ H _ us Q I r ⟨_,_,rfl,k _ S _ H q (.int _) rS .refl⟩
 ·exact q.elim⟩
def b9:g6:=fun ps S Q=>match ps with|[.int i]=>Q (.int i) S|[.bl b]=>Q (.int (if b then 1 else 0)) S|_=>False
def Bw:bH X (.type "int") b9:=⟨fun pins s σ H xs us Q I r ⟨ps,S,Q3,rp,rS,q,k⟩=>by
 unfold b9 at q
 split at q
 ·cases rp with|cons a rr=>cases rr;cases a;exact fY pins s σ H _ us Q I r (.inl ⟨_,rfl,k _ S _ H q (.int _) rS .refl⟩)
 ·cases rp with|cons a rr=>cases rr;cases a;exact fY pins s σ H _ us Q I r (.inr ⟨_,rfl,k _ S _ H q (.int _) rS .refl⟩)
 ·exact q.elim⟩
def bQ:g6:=fun ps S Q=>match ps with|[.int i]=>i.natAbs.log2 < 1920/\Q (.str (toString i)) S|_=>False
def fu:bH X (.type "str") bQ:=⟨fun pins s σ H xs us Q I r ⟨ps,S,Q3,rp,rS,q,k⟩=>by
 unfold bQ at q
 split at q
 ·cases rp with|cons a rr=>cases rr;cases a;exact gN pins s σ H _ us Q I r ⟨_,rfl,q.1,k _ S _ H q.2 (.str _) rS .refl⟩
 ·exact q.elim⟩
noncomputable def fv:List PV->Option (List Bool)
 |[]=>some []
 | .bl b::r=>(fv r).map (b::·)
 |_::_=>none
theorem fw{K:Vo}{H:Hp}:∀{vs:List V} {ps:List PV} {bs:List Bool},Reps K H vs ps->fv ps=some bs->vs=bs.map V.bl
 |_,_,_,.nil,h=>by cases h;rfl
 |_,_,bs,.cons (p:=p) a r,h=>by
  cases p with
  |bl b=>
   cases a
   unfold fv at h
   cases e:fv _ with
   |none=>rw[e]at h;cases h
   |some l=>rw[e]at h;cases h;rw[fw r e];rfl
  |_=>cases h
def o9:g6:=fun ps S Q=>match ps with
 |[.ref a]=>(match S a with|some (.lst xs)=>(match fv xs with|some bs=>Q (.bl (bs.all id)) S|none=>False)|_=>False)
 |_=>False
def uJ(hc:X.calm=true):bH X (.builtin "all") o9:=⟨fun pins s σ H xs us Q I r ⟨ps,S,Q3,rp,rS,q,k⟩=>by
 unfold o9 at q
 split at q
 ·cases rp with
  |cons a rr=>
   cases rr;cases a
   split at q
   ·rename_i e
    split at q
    ·rename_i eb
     obtain⟨vs,hv,rs⟩:=rS _ _ e
     have e2:=fw rs eb
     subst e2
     exact kX hc pins s σ H _ us Q I r ⟨_,_,rfl,SqL.of hv,k _ S _ H q (.bl _) rS .refl⟩
    ·exact q.elim
   ·exact q.elim
 ·exact q.elim⟩
def gq:g6:=fun ps S Q=>match ps with
 |[.int _]=>False
 |[.str _]=>False
 |[.bl _]=>False
 |[.non]=>False
 |[.ty _]=>False
 |[v]=>∃d,Dat S v d/\d.showable=true/\d.hasDict=false/\d.depth<=100/\d.shown.length<=sizeLine/\Q (.str d.shown) S
 |_=>False
def rY(hu:X.A.units+150 < cLine)(hg:X.A.guards=some []):bH X (.builtin "repr") gq:=⟨fun pins s σ H xs us Q I r ⟨ps,S,Q3,rp,rS,q,k⟩=>by
 unfold gq at q
 have main:∀{v:PV} {x:V} {u:Value} {a:Addr},u = .ref a->Rep X.K H x v->RelV x u->(∃d,Dat S v d/\d.showable=true/\d.hasDict=false/\d.depth<=100/\d.shown.length<=sizeLine/\Q3 (.str d.shown) S)->wpAny (model X.prog X.w) X.A (call (.builtin "repr") [u]) (EP X pins σ Q) X.xe s:=by
  rintro v x u a rfl rv rx ⟨d,hd,h1,h2,h3,h4,q⟩
  obtain⟨as,R⟩:=hd.reads I rS rv rx
  exact repr_of_reads' R h1 (PyData.noDict_hsm h2) hg (by omega) (fun _ _ e=>e) (fun h' u tk hk=>⟨.str _,H,I.kept hk,⟨u,rfl⟩,k _ S _ H q (.str _) rS .refl⟩) h4
 split at q
 ·exact q.elim
 ·exact q.elim
 ·exact q.elim
 ·exact q.elim
 ·exact q.elim
 ·rename_i n1 n2 n3 n4 n5
  cases rp with
  |cons a rr=>
   cases rr
   cases r with
   |cons r1 r2=>
    cases r2
    cases a with
    |non=>exact absurd rfl n4
    |bl b=>exact absurd rfl (n3 b)
    |int i=>exact absurd rfl (n1 i)
    |str i=>exact absurd rfl (n2 i)
    |ty i=>exact absurd rfl (n5 i)
    |ref b=>cases r1;exact main rfl (.ref b) rfl q
    |tup h rs=>cases r1;exact main rfl (.tup h rs) rfl q
    |cl h rs=>cases r1;exact main rfl (.cl h rs) rfl q
    |exc h1 h2 rs=>cases r1;exact main rfl (.exc h1 h2 rs) rfl q
    |cls h=>cases r1;exact main rfl (.cls h) rfl q
 ·exact q.elim⟩
end
noncomputable def lg(t c:String):Bool:=t == c || (t == "bool" && c == "int")
noncomputable def tH(S:au):PV->Option String
 | .non=>some "NoneType"
 | .bl _=>some "bool"
 | .int _=>some "int"
 | .str _=>some "str"
 | .tup _=>some "tuple"
 | .cl _=>some "list"
 | .ref a=>(match S a with|some (.lst _)=>some "list" | some (.dct _)=>some "dict" | _=>none)
 | .ty _=>none
 | .exc _ _ _=>none
 | .cls _=>none
noncomputable def cN(c:String):Bool:=["int","str","bool","tuple","list","dict"].contains c
def mM(K:Vo)(t c:String):PySem.W.kitCls K (.type t) (.type c)=(if PySem.W.kitMeta c=true then (PySem.fastBuiltinMro t).map (·.contains (Value.type c)) else none):=rfl
def ke{K:Vo}{t c:String}(ht:t∈["NoneType","bool","int","str","tuple","list","dict"])(hc:cN c=true):PySem.W.kitOne K (.type t) (.type c)=some (lg t c):=by
 have hc':c∈["int","str","bool","tuple","list","dict"]:=by
  have:=hc
  unfold cN at this
  simpa using this
 simp only[List.mem_cons,List.not_mem_nil,or_false]at ht hc'
 rcases ht with rfl|rfl|rfl|rfl|rfl|rfl|rfl<;>rcases hc' with rfl|rfl|rfl|rfl|rfl|rfl <;>
  first
   |(unfold PySem.W.kitOne;rw[if_pos (by decide)];rfl)
   |(unfold PySem.W.kitOne;rw[if_neg (by decide),mM];decide +kernel)
def mN{S:au}{p:PV}{t:String}(h:tH S p=some t):t∈["NoneType","bool","int","str","tuple","list","dict"]:=by
 unfold tH at h
 split at h<;>first|(cases h;decide)|(split at h<;>first|(cases h;decide)|cases h)|cases h
section
variable {X:Cx}
noncomputable def uK:List PV->Option (List String)
 |[]=>some []
 | .ty c::r=>if cN c then (uK r).map (c::·) else none
 |_::_=>none
def rZ:g6:=fun ps S Q=>match ps with
 |[x,.ty c]=>(match tH S x with|some t=>cN c=true/\Q (.bl (lg t c)) S|none=>False)
 |[x,.tup cs]=>(match tH S x,uK cs with|some t,some l=>Q (.bl (l.any (lg t))) S|_,_=>False)
 |_=>False
def o_{K:Vo}{H:Hp}{t:String}(ht:t∈["NoneType","bool","int","str","tuple","list","dict"]):∀(cs:List PV) {l:List String} {vs:List V} {its:Vv},uK cs=some l->Reps K H vs cs->Vals vs its->PySem.W.kitAny K (.type t) its=some (l.any (lg t)):=by
 intro cs
 induction cs with
 |nil=>intro l vs its h rs r;cases h;cases rs;cases r;rfl
 |cons p cs ih=>
  intro l vs its h rs r
  cases p with
  |ty c=>
   unfold uK at h
   split at h
   ·rename_i hc
    cases e:uK cs with
    |none=>rw[e]at h;cases h
    |some l'=>
     rw[e]at h
     cases h
     cases rs with
     |cons a rs=>
      cases a
      cases r with
      |@cons _ u _ us r1 r2=>
       cases (show u=Value.type c from r1)
       show(match PySem.W.kitOne K (.type t) (.type c)with|some true=>some true|some false=>PySem.W.kitAny K (.type t) us|none=>none)=_
       rw[ke ht hc,List.any_cons]
       cases lg t c with
       |true=>rfl
       |false=>exact ih e rs r2
   ·cases h
  |_=>cases h
def uL:bH X (.builtin "isinstance") rZ:=⟨fun pins s σ H xs us Q I r ⟨ps,S,Q3,rp,rS,q,k⟩=>by
 have main:∀{v:PV} {x:V} {u:Value} {t:String},Rep X.K H x v->RelV x u->tH S v=some t->∃(h:Heap->Prop),PySem.W.KitX X.K u (.type t) h/\h s.heap/\u ≠ .builtin "__main__.__loader__#opaque":=by
  intro v x u t rv rx ht
  cases rv with
  |non=>cases ht;cases rx;exact⟨_,PySem.W.kitx_none,True.intro,fun z=>nomatch z⟩
  |bl b=>cases ht;cases rx;exact⟨_,PySem.W.kitx_bool,True.intro,fun z=>nomatch z⟩
  |int b=>cases ht;obtain⟨t,rfl⟩:=rx;exact⟨_,PySem.W.kitx_int,True.intro,fun z=>nomatch z⟩
  |str b=>cases ht;obtain⟨t,rfl⟩:=rx;exact⟨_,PySem.W.kitx_str,True.intro,fun z=>nomatch z⟩
  |ty b=>cases ht
  |exc _ _ _=>cases ht
  |cls _=>cases ht
  |tup h rs=>
   cases ht;cases rx
   obtain⟨its,_,⟨o,ho,hc,_⟩,_⟩:=I.tuple h
   exact⟨_,PySem.W.kitx_tuple,⟨o,ho,hc⟩,fun z=>nomatch z⟩
  |cl h rs=>
   cases ht;cases rx
   obtain⟨its,_,⟨o,n,ho,hc,_⟩,_⟩:=I.list h.sq
   exact⟨_,PySem.W.kitx_list,⟨o,ho,hc⟩,fun z=>nomatch z⟩
  |ref a=>
   cases rx
   unfold tH at ht
   simp only at ht
   split at ht
   ·rename_i e
    cases ht
    obtain⟨vs,hv,_⟩:=rS _ _ e
    obtain⟨its,_,⟨o,n,ho,hc,_⟩,_⟩:=I.list (SqL.of hv)
    exact⟨_,PySem.W.kitx_list,⟨o,ho,hc⟩,fun z=>nomatch z⟩
   ·rename_i e
    cases ht
    obtain⟨vs,hv,_⟩:=rS _ _ e
    obtain⟨_,_,vs',_,p⟩:=(show xv X.prog X.w H s.heap _ (.dK vs)from I.hok _ _ hv)
    obtain⟨o,es,ep,h1,h2,_⟩:=p
    exact⟨_,PySem.W.kitx_dict,⟨o,h1,h2.1⟩,fun z=>nomatch z⟩
   ·cases ht
 unfold rZ at q
 split at q
 ·split at q
  ·rename_i ht
   cases rp with
   |cons a rr=>
    cases rr with
    |cons b r3=>
     cases r3;cases b
     cases r with
     |cons r1 r2=>
      cases r2 with
      |cons r4 r5=>
       cases r5
       cases (show _=Value.type _ from r4)
       obtain⟨h,Z,hp,hx⟩:=main a r1 ht
       exact PySem.W.kia_one Z I.y9 hp (ke (mN ht) q.1) hx fun tk=>⟨.bl _,H,I.tok _,rfl,k _ S _ H q.2 (.bl _) rS .refl⟩
  ·exact q.elim
 ·split at q
  ·rename_i ht hl
   cases rp with
   |cons a rr=>
    cases rr with
    |cons b r3=>
     cases r3
     cases b with
     |tup h1 rs=>
      cases r with
      |cons r1 r2=>
       cases r2 with
       |cons r4 r5=>
        cases r5
        cases r4
        obtain⟨h,Z,hp,hx⟩:=main a r1 ht
        exact jw I Z hp hx h1 (fun its rv=>o_ (mN ht) _ hl rs rv) fun tk=>⟨.bl _,H,I.tok _,rfl,k _ S _ H q (.bl _) rS .refl⟩
  ·exact q.elim
 ·exact q.elim⟩
end
abbrev mO:=PV->List PV->au->cE->Prop
section
variable {X:Cx} {e o:Expr} {es:List Expr} {te to:aD} {ts:List aD} {name:Str} {p pos apos cpos:Pos} {T id:String}
noncomputable def LM(X:Cx)(r:mO):V->List V->Hp->VK->Prop:=fun x xs H Q=>∃px ps S Q3,Rep X.K H x px/\Reps X.K H xs ps/\xm X.K H S/\r px ps S Q3/\zY X.K H Q3 Q
structure pb (X:Cx) (id:String) (r:mO):Prop where
 ok:tx X id (LM X r)
def tI(T:String)(x:PV)(S:au):Prop:=match x with
 | .str _=>T = "str"
 | .ref a=>(match S a with|some (.lst _)=>T = "list" | some (.dct _)=>T = "dict" | _=>False)
 | .cl _=>T = "list"
 |_=>False
def mP{H:Hp}{S:au}{v:V}{p:PV}(rS:xm X.K H S)(r:Rep X.K H v p)(h:tI T p S):vp X.K T v H:=by
 cases r with
 |str x=>exact h
 |ref a=>
  unfold tI at h
  simp only at h
  split at h
  ·rename_i e
   obtain⟨vs,hv,_⟩:=rS _ _ e
   exact .inl ⟨h,_,SqL.of hv⟩
  ·rename_i e
   obtain⟨vs,hv,_⟩:=rS _ _ e
   exact .inr (.inr (.inl ⟨h,.inl ⟨_,hv⟩⟩))
  ·exact h.elim
 |cl h1 _=>exact .inl ⟨h,_,h1.sq⟩
 |_=>exact h.elim
def i8(T:String)(r:mO)(to:aD)(ts:List aD):aD:=fun σ S Q E=>to σ S (fun x S1=>tI T x S1/\bG ts σ S1 (fun ps S2=>r x ps S2 Q) E) E
def wd{r:mO}(pa:PlainAttrs T)(slot:Slot T name id)(hty:typeOf (.builtin id)=pure (.type "method_descriptor"))(hm:pb X id r)(hs:starEach (e::es) X.env=(false,eval e X.env)::starEach es X.env)(ho:aF X o to)(ha:eW X (e::es) ts)
  (hbase:attributeBase o name X.env (eval o X.env)=eval o X.env:=by rfl)
  (hfew:((backTo cpos (starEach (e::es) X.env)).all (fun x=>!x.1)&&(backToKw cpos (keywordEach [] X.env)).all (fun x=>x.1.isSome)
   && decide ((e::es).length+([]:List Keyword).length+(if ([]:List Keyword).isEmpty then 0 else 1) < 30))=true:=by rfl)
  (hline:(apos.endLine == cpos.line)=true:=by rfl) (hplain:(backTo cpos (starEach es X.env)).any (·.1)=false:=by rfl):aF X (.Call (.Attribute o name apos) (e::es) [] cpos) (i8 T r to ts):=
 ⟨ax (uq pa slot hty hm.ok ho.ok ha.ok hbase hfew hline hs hplain) fun σ H Q ⟨σ3,S,Q3,E3,rσ,rS,h,xo,k⟩=>⟨σ3,S,_,E3,rσ,rS,h,xo,fun x S1 v H1 h1 rx xx g1=>
  ⟨mP xx rx h1.1,aY (rσ.mono g1) xx h1.2 (xo.mono g1) fun ps S2 vs H2 hl q rv yE g2=>⟨x,ps,S2,Q3,rx.mono g2,rv,yE,q,k.mono (g1.trans g2)⟩⟩⟩⟩
def uM{r:mO}(pa:PlainAttrs T)(slot:Slot T name id)(hty:typeOf (.builtin id)=pure (.type "method_descriptor"))(hm:pb X id r)(ho:aF X o to)
  (hbase:attributeBase o name X.env (eval o X.env)=eval o X.env:=by rfl) (hline:(apos.endLine == cpos.line)=true:=by rfl):aF X (.Call (.Attribute o name apos) [] [] cpos) (i8 T r to []):=
 ⟨ax (rg pa slot hty hm.ok ho.ok hbase hline) fun σ H Q ⟨σ3,S,Q3,E3,rσ,rS,h,xo,k⟩=>⟨σ3,S,_,E3,rσ,rS,h,xo,fun x S1 v H1 h1 rx xx g1=>
  ⟨mP xx rx h1.1,⟨x,[],S1,Q3,rx,.nil,xx,h1.2,k.mono g1⟩⟩⟩⟩
def bR:mO:=fun x ps S Q=>match x,ps with
 | .ref a,[y]=>(match S a with|some (.lst xs)=>xs.length < sizeLine/\Q .non (xi S a (.lst (xs++[y])))|_=>False)
 |_,_=>False
def fx:pb X "list.append" bR:=⟨fun pins s σ H x xs v us Q I rx rs ⟨px,ps,S,Q3,r1,rp,rS,q,k⟩=>by
 unfold bR at q
 split at q
 ·split at q
  ·rename_i e
   cases r1
   cases rp with
   |cons b rr=>
    cases rr
    obtain⟨vs,hv,rl⟩:=rS _ _ e
    exact kP pins s σ H _ _ v us Q I rx rs ⟨_,_,_,rfl,rfl,hv,by rw[rl.length];exact q.1,k _ _ _ _ q.2 .non (rS.put hv trivial ⟨_,ag,(rl.append (.cons b .nil)).mono (.mut hv trivial)⟩) (.mut hv trivial)⟩
  ·exact q.elim
 ·exact q.elim⟩
def lh:mO:=fun x ps S Q=>match x,ps with
 | .ref a,[]=>(match S a with|some (.lst xs)=>(match xs[xs.length - 1]? with|some y=>Q y (xi S a (.lst xs.dropLast))|none=>False)|_=>False)
 | .ref a,[.int i]=>(match S a with|some (.lst xs)=>-(2 ^ 63)<=i/\i < 2 ^ 63/\(match seqIndex? i xs.length with|some j=>(match xs[j]? with|some y=>Q y (xi S a (.lst (xs.eraseIdx j)))|none=>False)|none=>False)|_=>False)
 |_,_=>False
def uN:pb X "list.pop" lh:=⟨fun pins s σ H x xs v us Q I rx rs ⟨px,ps,S,Q3,r1,rp,rS,q,k⟩=>by
 unfold lh at q
 split at q
 ·split at q
  ·rename_i e
   split at q
   ·rename_i ey
    cases r1
    cases rp
    obtain⟨vs,hv,rl⟩:=rS _ _ e
    rw[<-rl.length]at ey
    obtain⟨y',Cj,ry⟩:=rl.get ey
    exact rh pins s σ H _ _ v us Q I rx rs ⟨_,_,_,rfl,rfl,hv,Cj,k _ _ _ _ q (ry.mono (.mut hv trivial)) (rS.put hv trivial ⟨_,ag,rl.dropLast.mono (.mut hv trivial)⟩) (.mut hv trivial)⟩
   ·exact q.elim
  ·exact q.elim
 ·split at q
  ·rename_i e
   obtain⟨h1,h2,q⟩:=q
   split at q
   ·rename_i ej
    split at q
    ·rename_i ey
     cases r1
     cases rp with
     |cons b rr=>
      cases rr;cases b
      obtain⟨vs,hv,rl⟩:=rS _ _ e
      obtain⟨y',Cj,ry⟩:=rl.get ey
      rw[<-rl.length]at ej
      exact l6 pins s σ H _ _ v us Q I rx rs ⟨_,_,_,_,_,rfl,rfl,hv,h1,h2,ej,Cj,k _ _ _ _ q (ry.mono (.mut hv trivial)) (rS.put hv trivial ⟨_,ag,(rl.eraseIdx _).mono (.mut hv trivial)⟩) (.mut hv trivial)⟩
    ·exact q.elim
   ·exact q.elim
  ·exact q.elim
 ·exact q.elim⟩
noncomputable def texts:List PV->Option (List Str)
 |[]=>some []
 | .str b::r=>(texts r).map (b::·)
 |_::_=>none
theorem fy{K:Vo}{H:Hp}:∀{vs:List V} {ps:List PV} {bs:Vs},Reps K H vs ps->texts ps=some bs->vs=bs.map V.str
 |_,_,_,.nil,h=>by cases h;rfl
 |_,_,bs,.cons (p:=p) a r,h=>by
  cases p with
  |str b=>
   cases a
   unfold texts at h
   cases e:texts _ with
   |none=>rw[e]at h;cases h
   |some l=>rw[e]at h;cases h;rw[fy r e];rfl
  |_=>cases h
end
section
variable {X:Cx} {e c:Expr} {te:aD} {st:Stmt} {rest a b:List Stmt} {t u:bj} {tc:fq} {pos:Pos}
def bO:bj:=fun D σ S=>D.nx σ S
def af(t u:bj):bj:=fun D σ S=>t { D with nx:=u D } σ S
def bc:cK X [] bO:=⟨j6 om fun D σ H ⟨σ3,S,D3,rσ,rS,h,xo,n,r,bk,ct⟩=>n σ3 S σ H h rσ rS .refl⟩
def ad(h1:iB X st t)(h2:cK X rest u):cK X (st::rest) (af t u):=
 ⟨j6 (lN h1.ok h2.ok) fun D σ H ⟨σ3,S,D3,rσ,rS,h,xo,n,r,bk,ct⟩=>⟨σ3,S,{ D3 with nx:=u D3 },rσ,rS,h,xo,fun σ4 S' σ' H' h' Aq yy g=>⟨σ4,S',D3,Aq,yy,h',xo.mono g,n.mono g,r.mono g,bk.mono g,ct.mono g⟩,r,bk,ct⟩⟩
def ar(h1:iB X st t):cK X [st] t:=⟨jT h1.ok⟩
def fz(te:aD):bj:=fun D σ S=>te σ S (fun _ S1=>D.nx σ S1) D.ex
def jy(he:aF X e te)(hs:swapsWith e none pos.line X.env=pure false:=by rfl):iB X (.Expr e pos) (fz te):=
 ⟨bF (on he.ok hs) fun D σ H ⟨σ3,S,D3,rσ,rS,h,xo,n,r,bk,ct⟩=>⟨σ3,S,_,D3.ex,rσ,rS,h,xo,fun p S1 v H1 h1 rv xx g1=>n σ3 S1 σ H1 h1 (rσ.mono g1) xx g1⟩⟩
def aR(te:aD):bj:=fun D σ S=>te σ S D.rt D.ex
def aJ(he:aF X e te):iB X (.Return (some e) pos) (aR te):=
 ⟨bF (qK he.ok) fun D σ H ⟨σ3,S,D3,rσ,rS,h,xo,n,r,bk,ct⟩=>⟨σ3,S,D3.rt,D3.ex,rσ,rS,h,xo,r⟩⟩
def fM(c:fq)(t u:bj):bj:=fun D σ S=>c σ S (fun b S1=>if b=true then t D σ S1 else u D σ S1) D.ex
def cF(hc:j5 X c tc)(ha:cK X a t)(hb:cK X b u):iB X (.If c a b pos) (fM tc t u):=
 ⟨bF (tZ hc.ok ha.ok hb.ok) fun D σ H ⟨σ3,S,D3,rσ,rS,h,xo,n,r,bk,ct⟩=>⟨σ3,S,_,D3.ex,rσ,rS,h,xo,fun z S1 H1 h1 xx g1=>by
  cases z with
  |true=>rw[if_pos rfl]at h1 ⊢;exact⟨σ3,S1,D3,rσ.mono g1,xx,h1,xo.mono g1,n.mono g1,r.mono g1,bk.mono g1,ct.mono g1⟩
  |false=>rw[if_neg (by decide)]at h1 ⊢;exact⟨σ3,S1,D3,rσ.mono g1,xx,h1,xo.mono g1,n.mono g1,r.mono g1,bk.mono g1,ct.mono g1⟩⟩⟩
def az(i:Nat)(te:aD):bj:=fun D σ S=>te σ S (fun v S1=>D.nx (σ.set i (some v)) S1) D.ex
def mQ{i:Nat}{D:eQ}{σ:L2.St}{H:Hp}:LS X (az i te) D σ H->ou (LE X te) (io i) D σ H:=fun⟨σ3,S,D3,rσ,rS,h,xo,n,r,bk,ct⟩=>
 ⟨σ3,S,_,D3.ex,rσ,rS,h,xo,fun p S1 v H1 h1 rv xx g1=>n _ S1 _ H1 h1 ((rσ.mono g1).set rv i) xx g1⟩
def uO{i:Nat}{x:Str}{pos':Pos}(hN:X.N.Nodup)(hi:X.N[i]?=some x)(hx:pR X.env.scope x)(he:aF X e te)(hs:swapsWith e (some (.Name x pos')) pos.line X.env=pure false:=by rfl)
  (hf:X.fn x=true\/X.env.scope.names.lookup x=some .local:=by first|exact .inl rfl|exact .inr rfl|assumption):iB X (.Assign [.Name x pos'] e pos) (az i te):=⟨bF (qP hN hi hx he.ok hs hf) fun _ _ _=>mQ⟩
def jz(i j:Nat)(ta tb:aD):bj:=fun D σ S=>ta σ S (fun v S1=>tb σ S1 (fun w S2=>D.nx ((σ.set i (some v)).set j (some w)) S2) D.ex) D.ex
def mR{i j:Nat}{x y:Str}{a b:Expr}{ta tb:aD}{px py pt:Pos}{kt k2 AO}(hc:X.calm=true)(hN:X.N.Nodup)(hi:X.N[i]?=some x)(hj:X.N[j]?=some y)(hij:i≠j)
  (hx:X.env.scope.names.lookup x=some .local) (hy:X.env.scope.names.lookup y=some .local) (ha:eW X [a,b] [ta,tb])
  (hw:swappedStores [.Tuple [.Name x px,.Name y py] kt pt] (.Tuple [a,b] k2 AO) X.env=pure (some [x,y]):=by rfl)
  (hs:swapsWithSole [.Tuple [.Name x px,.Name y py] kt pt] (.Tuple [a,b] k2 AO) pos.line X.env=pure false:=by rfl) :
  iB X (.Assign [.Tuple [.Name x px,.Name y py] kt pt] (.Tuple [a,b] k2 AO) pos) (jz i j ta tb):=
 ⟨bF (qQ hc hN hi hj hij hx hy ha.ok hw hs) fun D σ H ⟨σ3,S,D3,rσ,rS,h,xo,n,r,bk,ct⟩=>
  ⟨σ3,S,_,D3.ex,rσ,rS,h,xo,fun v S1 v' H1 h1 rv xx g1=>⟨σ3,S1,_,D3.ex,rσ.mono g1,xx,h1,xo.mono g1,fun w S2 w' H2 h2 rw' yE g2=>
   ⟨v',w',rfl,n _ S2 _ H2 h2 (((rσ.mono (g1.trans g2)).set (rv.mono g2) i).set rw' j) yE (g1.trans g2)⟩⟩⟩⟩
inductive Tg where
 |n (i:Nat)|tp (l:Tg)|nil|cons (a r:Tg)
mutual
noncomputable def Tg.put:Tg->PV->bq->Option bq
 | .n i,p,σ=>some (σ.set i (some p))
 | .tp l,.tup xs,σ=>l.xZ xs σ
 |_,_,_=>none
noncomputable def Tg.xZ:Tg->List PV->bq->Option bq
 | .nil,[],σ=>some σ
 | .cons a r,x::xs,σ=>(match a.put x σ with|some σ'=>r.xZ xs σ'|none=>none)
 |_,_,_=>none
end
noncomputable def Tg.len:Tg->Nat
 | .cons _ r=>r.len+1
 |_=>0
mutual
noncomputable def Tg.g2(K:Vo):Tg->TG
 | .n i=>io i
 | .tp l=>t7 K l.len (l.AG K)
 |_=>fun _ _ _ _=>False
noncomputable def Tg.AG(K:Vo):Tg->pS
 | .nil=>t6
 | .cons a r=>pT (a.g2 K) (r.AG K)
 |_=>fun _ _ _ _=>False
end
noncomputable def Tg.under(own:Nat):Tg->Bool
 | .n i=>decide (i < own)
 | .tp l=>l.under own
 | .nil=>true
 | .cons a r=>a.under own&&r.under own
theorem Tg.zv:∀(g:Tg) {ps:List PV} {σ3 σ4:bq},g.xZ ps σ3=some σ4->ps.length=g.len
 | .nil,ps,σ3,σ4,h=>by
  cases ps with
  |nil=>rfl
  |cons _ _=>unfold Tg.xZ at h;cases h
 | .cons a r,ps,σ3,σ4,h=>by
  cases ps with
  |nil=>unfold Tg.xZ at h;cases h
  |cons x xs=>
   unfold Tg.xZ at h
   split at h
   ·rw[List.length_cons,Tg.zv r h];rfl
   ·cases h
 | .n _,ps,σ3,σ4,h=>by unfold Tg.xZ at h;cases h
 | .tp _,ps,σ3,σ4,h=>by unfold Tg.xZ at h;cases h
mutual
theorem Tg.zG{K:Vo}{H:Hp}{own:Nat}:∀(g:Tg) {v:V} {p:PV} {σ:L2.St} {σ3 σ4:bq} {Q:L2.St->Hp->Prop},Rep K H v p->xu K H σ σ3->g.put p σ3=some σ4->(∀σ',xu K H σ' σ4->(g.under own=true->σ'.drop own=σ.drop own)->Q σ' H)->g.g2 K v σ H Q
 | .n i,v,p,σ,σ3,σ4,Q,r,rσ,h,k=>by
  unfold Tg.put at h
  cases h
  unfold Tg.g2
  refine k _ (rσ.set r i) fun hb=>?_
  have hi:i < own:=of_decide_eq_true hb
  rw[List.drop_set]
  rw[if_pos hi]
 | .tp l,v,p,σ,σ3,σ4,Q,r,rσ,h,k=>by
  cases p with
  |tup xs=>
   unfold Tg.put at h
   cases r with
   |tup hq rs=>
    have hg:=Tg.zR (own:=own) l rs rσ h k
    unfold Tg.g2
    exact⟨_,_,rfl,hq,rs.length.trans (Tg.zv l h),hg⟩
  |_=>unfold Tg.put at h;cases h
 | .nil,v,p,σ,σ3,σ4,Q,r,rσ,h,k=>by unfold Tg.put at h;cases h
 | .cons _ _,v,p,σ,σ3,σ4,Q,r,rσ,h,k=>by unfold Tg.put at h;cases h
theorem Tg.zR{K:Vo}{H:Hp}{own:Nat}:∀(g:Tg) {vs:List V} {ps:List PV} {σ:L2.St} {σ3 σ4:bq} {Q:L2.St->Hp->Prop},Reps K H vs ps->xu K H σ σ3->g.xZ ps σ3=some σ4->(∀σ',xu K H σ' σ4->(g.under own=true->σ'.drop own=σ.drop own)->Q σ' H)->g.AG K vs σ H Q
 | .nil,vs,ps,σ,σ3,σ4,Q,r,rσ,h,k=>by
  cases ps with
  |nil=>
   unfold Tg.xZ at h
   cases h
   cases r
   unfold Tg.AG
   exact⟨rfl,k _ rσ fun _=>rfl⟩
  |cons _ _=>unfold Tg.xZ at h;cases h
 | .cons a r',vs,ps,σ,σ3,σ4,Q,r,rσ,h,k=>by
  cases ps with
  |nil=>unfold Tg.xZ at h;cases h
  |cons x xs=>
   unfold Tg.xZ at h
   split at h
   ·rename_i σ5 e5
    cases r with
    |cons r1 r2=>
     unfold Tg.AG
     refine⟨_,_,rfl,Tg.zG (own:=own) a r1 rσ e5 fun σ' Aq d1=>Tg.zR (own:=own) r' r2 Aq h fun Dy Ck d2=>k Dy Ck fun hb=>?_⟩
     have hb':a.under own=true/\r'.under own=true:=by simpa [Tg.under]using hb
     rw[d2 hb'.2,d1 hb'.1]
   ·cases h
 | .n _,vs,ps,σ,σ3,σ4,Q,r,rσ,h,k=>by unfold Tg.xZ at h;cases h
 | .tp _,vs,ps,σ,σ3,σ4,Q,r,rσ,h,k=>by unfold Tg.xZ at h;cases h
end
structure pc (X:Cx) (e:Expr) (g:Tg):Prop where
 ok:PG X e (g.g2 X.K)
structure pd (X:Cx) (es:List Expr) (g:Tg):Prop where
 ok:t0 X es (g.AG X.K)
 len:(assignEach es X.env).length=g.len
def wU(i:Nat){x:Str}(hN:X.N.Nodup)(hi:X.N[i]?=some x)(hx:pR X.env.scope x)(hf:X.fn x=true\/X.env.scope.names.lookup x=some .local:=by first|exact .inl rfl|exact .inr rfl|assumption):pc X (.Name x pos) (.n i):=⟨by
 have h:=oq (pos:=pos) hN hi hx hf
 unfold Tg.g2
 exact h⟩
def uP:pd X [] .nil:=⟨by unfold Tg.AG;exact ot,rfl⟩
def mS{es:List Expr}{a r:Tg}(h1:pc X e a)(h2:pd X es r)(hs:(assignEach (e::es) X.env).map (·.2)=assign e X.env::(assignEach es X.env).map (·.2):=by rfl)(hl:(assignEach (e::es) X.env).length=(assignEach es X.env).length+1:=by rfl):pd X (e::es) (.cons a r):=
 ⟨by unfold Tg.AG;exact lO h1.ok h2.ok hs,by rw[hl,h2.len];rfl⟩
def wV{es:List Expr}{k:Nat}{l:Tg}(hc:X.calm=true)(h:pd X es l)(hst:(assignEach es X.env).findIdx? (·.1)=none:=by rfl):pc X (.Tuple es k pos) (.tp l):=⟨by
 have h:=qM (pos:=pos) (k:=k) hc h.ok h.len hst
 unfold Tg.g2
 exact h⟩
end
noncomputable def g7{κ:Type} [DecidableEq κ](kvs:List (κ×PV))(k:κ)(v:PV):List (κ×PV):=
 if (kvs.any fun kv=>decide (kv.1=k))=true then kvs.map (fun kv=>if kv.1=k then (kv.1,v) else kv) else kvs++[(k,v)]
theorem xy.append{K:Vo}{H:Hp}{κ:Type}:∀{vs us:List (κ×V)} {ps qs:List (κ×PV)},xy K H vs ps->xy K H us qs->xy K H (vs++us) (ps++qs)
 |_,_,_,_,.nil,s=>s
 |_,_,_,_,.cons a r,s=>.cons a (xy.append r s)
def xy.put{K:Vo}{H:Hp}{κ:Type} [DecidableEq κ]{k:κ}{v:V}{p:PV}(q:Rep K H v p){vs:List (κ×V)}{ps:List (κ×PV)}(r:xy K H vs ps):xy K H (cI vs k v) (g7 ps k p):=by
 have e:(vs.any fun kv=>decide (kv.1=k))=(ps.any fun kv=>decide (kv.1=k)):=by rw[fi,r.any]
 unfold cI g7
 rw[e]
 split
 ·clear e
  rename_i h
  clear h
  induction r with
  |nil=>exact .nil
  |@cons k' v' p' vs' ps' a r ih=>
   rw[List.map_cons,List.map_cons]
   by_cases z:k'=k
   ·rw[if_pos z,if_pos z];exact .cons q ih
   ·rw[if_neg z,if_neg z];exact .cons a ih
 ·exact r.append (.cons q .nil)
def eg(o i v:PV)(S:au)(Q:au->Prop):Prop:=match o with
 | .ref a=>(match S a with
  |some (.lst xs)=>(match i with | .int k=>(match nY xs.length k with|some j=>Q (xi S a (.lst (xs.set j v)))|none=>False)|_=>False)
  |some (.dct kvs)=>(match jv i with|some k=>kvs.length < sizeLine/\Q (xi S a (.dct (g7 kvs k v)))|none=>False)
  |_=>False)
 |_=>False
section
variable {X:Cx} {e o i:Expr} {te to ti:aD} {pos pos':Pos}
noncomputable def we(X:Cx):V->V->V->Hp->(Hp->Prop)->Prop:=fun o i v H Q=>∃po pi pv S Q3,Rep X.K H o po/\Rep X.K H i pi/\Rep X.K H v pv/\xm X.K H S/\eg po pi pv S Q3/\∀S' H',Q3 S'->xm X.K H' S'->Grow X.K H H'->Q H'
def r9(hu:X.A.units+1 < cLine):oo X (we X):=by
 intro pins s σ H o i v ov iv u Q I ro ri rv ⟨po,pi,pv,S,Q3,r1,r2,r3,rS,q,k⟩
 unfold eg at q
 split at q
 ·split at q
  ·rename_i e
   split at q
   ·split at q
    ·rename_i ej
     cases r1;cases r2
     obtain⟨vs,hv,rl⟩:=rS _ _ e
     rw[<-rl.length]at ej
     exact l4 pins s σ H _ _ _ ov iv u Q I ro ri rv ⟨_,_,_,_,rfl,rfl,hv,ej,k _ _ q (rS.put hv trivial ⟨_,ag,((rl.set r3 _).mono (.mut hv trivial))⟩) (.mut hv trivial)⟩
    ·exact q.elim
   ·exact q.elim
  ·rename_i e
   split at q
   ·rename_i ek
    cases r1
    have e1:=cj r2 ek
    subst e1
    obtain⟨kv,hv,rk⟩:=rS _ _ e
    exact mJ hu pins s σ H _ _ _ ov iv u Q I ro ri rv ⟨_,_,rfl,Ad.k hv (by rw[rk.length];exact q.1),k _ _ q.2 (rS.put hv trivial ⟨_,ag,(rk.put r3).mono (.mut hv trivial)⟩) (.mut hv trivial)⟩
   ·exact q.elim
  ·exact q.elim
 ·exact q.elim
def jA(te to ti:aD):bj:=fun D σ S=>te σ S (fun v S1=>to σ S1 (fun o S2=>ti σ S2 (fun i S3=>eg o i v S3 (fun S4=>D.nx σ S4)) D.ex) D.ex) D.ex
def mT(hu:X.A.units+1 < cLine)(he:aF X e te)(ho:aF X o to)(hi:aF X i ti)
  (ha:∀v,assign (.Subscript o i pos') X.env v=(do
   let ov <-holding [v] (eval o X.env)
   let iv <-holding [v,ov] (eval i X.env)
   standAt pos'
   holding [v,ov,iv] (setItem ov iv v)
   release [v,ov,iv] []):=by intro _;rfl)
  (hs:swapsWithSole [.Subscript o i pos'] e pos.line X.env=pure false:=by rfl) (hw:swappedStores [.Subscript o i pos'] e X.env=pure none:=by rfl)
  (h1:(assignEach [.Subscript o i pos'] X.env).map (·.2)=[assign (.Subscript o i pos') X.env]:=by rfl):iB X (.Assign [.Subscript o i pos'] e pos) (jA te to ti):=
 ⟨bF (qO he.ok (qN ho.ok hi.ok (r9 hu) ha) hs hw h1) fun D σ H ⟨σ3,S,D3,rσ,rS,h,xo,n,r,bk,ct⟩=>⟨σ3,S,_,D3.ex,rσ,rS,h,xo,fun v S1 v' H1 h1 rv xx g1=>
  ⟨σ3,S1,_,D3.ex,rσ.mono g1,xx,h1,xo.mono g1,fun o S2 o' H2 h2 ro yE g2=>⟨σ3,S2,_,D3.ex,rσ.mono (g1.trans g2),yE,h2,xo.mono (g1.trans g2),fun i S3 i' H3 h3 ri A2 g3=>
   ⟨o,i,v,S3,_,ro.mono g3,ri,rv.mono (g2.trans g3),A2,h3,fun S4 H4 h4 Dz g4=>n _ S4 _ H4 h4 (rσ.mono (g1.trans (g2.trans (g3.trans g4)))) Dz (g1.trans (g2.trans (g3.trans g4)))⟩⟩⟩⟩⟩
end
end L3
namespace L2
open PySem PySem.Spec PyProof.Rows
section
variable {X:Cx} {tg:Expr}
def wf(K:Vo)(tl:TE):TI:=fun σ H R=>tl σ H fun x H1=>(∃a,x = .ref a/\(∃xs,SqL K H1 a xs)/\R (vj K a) H1)\/(∃a,x = .ref a/\(∃xs,yi K H1 a xs)/\R (vO K a) H1)\/∃z,x = .str z/\R (v8 z) H1
def r_{l:Expr}{tl:TE}(hl:PE X l tl):PI X tg l (wf X.K tl):=by
 intro pins s σ H R I h
 refine aL (hl pins s σ H _ I h) fun v s1 ⟨x,H1,I1,r1,q1⟩=>?_
 rcases q1 with⟨a,e,⟨xs,hq⟩,q⟩|⟨a,e,⟨xs,hq⟩,q⟩|⟨z,e,q⟩
 ·subst e
  cases r1
  obtain⟨its,rv,p,hz⟩:=I1.list hq
  refine wpAny_pyIter_list p.isList ?_
  refine⟨s1.heap.objs.size,[s1.heap.objs.size],_,_,H1,rfl,I1.kept (t':=s1.toks) fun b o e=>Heap.get?_push_of_some _ e,kF a _,⟨_,Heap.get?_push_size _ rfl,rfl,rfl⟩,fun b hb=>?_,q⟩
  have e:b=s1.heap.objs.size:=by simpa using hb
  subst e
  exact I1.yz (Nat.le_refl _) (I1.hok.fresh (Nat.le_refl _))
 ·subst e
  cases r1
  obtain⟨its,rv,p,hz⟩:=I1.tuple hq
  refine wpAny_pyIter_tuple (show s1.heap.IsTuple a its.toArray from p) ?_
  refine⟨s1.heap.objs.size,[s1.heap.objs.size],_,_,H1,rfl,I1.kept (t':=s1.toks) fun b o e=>Heap.get?_push_of_some _ e,jc a _,⟨_,Heap.get?_push_size _ rfl,rfl,rfl⟩,fun b hb=>?_,q⟩
  have e:b=s1.heap.objs.size:=by simpa using hb
  subst e
  exact I1.yz (Nat.le_refl _) (I1.hok.fresh (Nat.le_refl _))
 ·subst e
  obtain⟨t,rfl⟩:=r1
  have fin:∀ty,(ty = "str_ascii_iterator" \/ ty = "str_iterator")->vi X pins σ tg R (.ref s1.heap.objs.size) { s1 with heap:=s1.heap.push { cls:=.type ty,data:=.fields #[.str z t,.int 0 0] } }:=fun ty hty=>by
   refine⟨s1.heap.objs.size,[s1.heap.objs.size],_,_,H1,rfl,I1.kept (t':=s1.toks) fun b o e=>Heap.get?_push_of_some _ e,mh hty _ z t,⟨Nat.zero_le _,_,Heap.get?_push_size _ rfl,rfl,rfl⟩,fun b hb=>?_,q⟩
   have e:b=s1.heap.objs.size:=by simpa using hb
   subst e
   exact I1.yz (Nat.le_refl _) (I1.hok.fresh (Nat.le_refl _))
  cases ha:z.cps.all (· < 128)
  ·exact wpAny_pyIter_wide ha (fin _ (.inr rfl))
  ·exact wpAny_pyIter_ascii ha (fin _ (.inl rfl))
def sd(K:Vo)(ta:TA):TI:=fun σ H R=>ta σ H fun vs H1=>∃a,vs=[.ref a]/\(((∃xs,SqL K H1 a xs)/\R (v_ K a) H1)\/((∃xs,yi K H1 a xs)/\R (wa K a) H1))
def mU{elts:List Expr}{k0:Nat}{zF:Pos}{a:Expr}{ta:TA}{p pos:Pos}(hg:Gl X "enumerate")(hm:X.mg "enumerate" = none)(hv:bootBuiltins "enumerate" = some (.type "enumerate"))(ha:PA X [a] ta)
  (hs:starEach [a] X.env=[(false,eval a X.env)]:=by rfl):PI X (.Tuple elts k0 zF) (.Call (.Name "enumerate" p) [a] [] pos) (sd X.K ta):=by
 intro pins s σ H R I h
 refine Call_ (cf I hg hm hv (PyProof.Rows.callWith_type1 (aL (ha pos pins s σ H _ I h) fun us s1 ⟨vs,H1,I1,r1,q1⟩=>?_) hs rfl))
 obtain⟨a,e,q⟩:=q1
 subst e
 obtain⟨u,rfl,ru⟩:=b3 r1
 cases ru
 rcases q with⟨⟨xs,qa⟩,q⟩|⟨⟨xs,qa⟩,q⟩
 ·obtain⟨ia,ra,pa,za⟩:=I1.list qa
  refine call_enumerate_list pa.isList fun g ge g1 gz kk=>?_
  refine wpAny_pyIter_enum (s:={ s1 with heap:=g }) ge ?_
  refine⟨_,[s1.heap.objs.size+1,s1.heap.objs.size],_,_,H1,rfl,I1.kept (t':=s1.toks) kk,kZ (Nat.succ_ne_self _),⟨⟨_,ge⟩,g1⟩,fun c hc=>?_,q⟩
  have hle:s1.heap.objs.size<=c:=by
   simp only[List.mem_cons,List.not_mem_nil,or_false]at hc
   rcases hc with rfl|rfl
   ·exact Nat.le_add_right _ _
   ·exact Nat.le_refl _
  exact I1.yz hle (I1.hok.fresh hle)
 ·obtain⟨ia,ra,pa,za⟩:=I1.tuple qa
  have la:a < s1.heap.objs.size:=by obtain⟨o,e,_⟩:=pa;exact Heap.lt_size e
  refine Et.mi (show s1.heap.IsTuple a ia.toArray from pa) fun g ge g1 kk=>?_
  refine wpAny_pyIter_enum (s:={ s1 with heap:=g }) ge ?_
  refine⟨_,[s1.heap.objs.size+1,s1.heap.objs.size],_,_,H1,rfl,I1.kept (t':=s1.toks) kk,jo (Nat.succ_ne_self _) (Nat.ne_of_lt (Nat.lt_succ_of_lt la)) (Nat.ne_of_lt la),⟨⟨_,ge⟩,g1⟩,fun c hc=>?_,q⟩
  have hle:s1.heap.objs.size<=c:=by
   simp only[List.mem_cons,List.not_mem_nil,or_false]at hc
   rcases hc with rfl|rfl
   ·exact Nat.le_add_right _ _
   ·exact Nat.le_refl _
  exact I1.yz hle (I1.hok.fresh hle)
end
end L2
namespace L3
open PySem L2
structure wg where
 items:List PV
 keep:au->Prop
def dM(K:Vo)(H0:Hp)(J:It)(src:wg):Prop:=∀(i:Nat) (S:au) (H:Hp),Grow K H0 H->xm K H S->src.keep S->
 (∀p,src.items[i]?=some p->J.go i H/\∀x H',J.BM i H x H'->Rep K H' x p/\xm K H' S/\Grow K H H')/\(i=src.items.length->J.stop i H)
abbrev mV:=bq->au->(wg->au->Prop)->de->Prop
def LI(X:Cx)(t:mV):TI:=fun σ H R=>∃σ3 S R3 E3,xu X.K H σ σ3/\xm X.K H S/\t σ3 S R3 E3/\Ab X H E3/\∀src S' J H',R3 src S'->dM X.K H' J src->xm X.K H' S'->Grow X.K H H'->R J H'
structure pe (X:Cx) (tg iter:Expr) (t:mV):Prop where
 ok:PI X tg iter (LI X t)
def g_{X:Cx}{tg iter:Expr}{t t':TI}(h:PI X tg iter t)(k:∀σ H R,t' σ H R->t σ H R):PI X tg iter t':=fun pins s σ H R I q=>h pins s σ H R I (k σ H R q)
section
variable {X:Cx} {e tg:Expr} {es:List Expr} {te:aD} {ts:List aD} {p pos:Pos}
noncomputable def gu(S:au):PV->Option wg
 | .tup xs=>some ⟨xs,fun _=>True⟩
 | .cl xs=>some ⟨xs,fun _=>True⟩
 | .str z=>some ⟨z.cps.toList.map fun c=>.str (sgn c),fun _=>True⟩
 | .ref a=>(match S a with|some (.lst xs)=>some ⟨xs,fun S'=>S' a=some (.lst xs)⟩|_=>none)
 |_=>none
def cO(te:aD):mV:=fun σ S R E=>te σ S (fun v S1=>match gu S1 v with|some src=>R src S1|none=>False) E
end
section
variable {X:Cx} {e tg a b:Expr} {es:List Expr} {te ta tb:aD} {ts:List aD} {p pos:Pos}
def mW{K:Vo}{H0:Hp}{a:Addr}{xs:List PV}:dM K H0 (vj K a) ⟨xs,fun S'=>S' a=some (.lst xs)⟩:=by
 intro i S H g rS hk
 obtain⟨vs,hv,rs⟩:=rS a _ hk
 refine⟨fun p hp=>?_,fun hi=>⟨vs,SqL.of hv,by rw[rs.length,hi];exact Nat.le_refl _⟩⟩
 obtain⟨v,hx,rv⟩:=rs.get hp
 refine⟨⟨vs,v,SqL.of hv,hx⟩,fun x H' ⟨e,h⟩=>?_⟩
 subst e
 have:=h vs (SqL.of hv)
 rw[hx]at this
 cases this
 exact⟨rv,rS,.refl⟩
def pf{K:Vo}{H0:Hp}{a:Addr}{vs:List V}{xs:List PV}(h:yi K H0 a vs)(rs:Reps K H0 vs xs):dM K H0 (vO K a) ⟨xs,fun _=>True⟩:=by
 intro i S H g rS _
 have hv:=g.t _ _ h
 refine⟨fun p hp=>?_,fun hi=>⟨vs,hv,by rw[rs.length,hi];exact Nat.le_refl _⟩⟩
 obtain⟨v,hx,rv⟩:=rs.get hp
 refine⟨⟨vs,v,hv,hx⟩,fun x H' ⟨e,h⟩=>?_⟩
 subst e
 have:=h vs hv
 rw[hx]at this
 cases this
 exact⟨rv.mono g,rS,.refl⟩
def se{K:Vo}{H0:Hp}{a:Addr}{vs:List V}{xs:List PV}(h:Bb K H0 a vs)(rs:Reps K H0 vs xs):dM K H0 (vj K a) ⟨xs,fun _=>True⟩:=by
 intro i S H g rS _
 have hv:=(g.c _ _ h).sq
 refine⟨fun p hp=>?_,fun hi=>⟨vs,hv,by rw[rs.length,hi];exact Nat.le_refl _⟩⟩
 obtain⟨v,hx,rv⟩:=rs.get hp
 refine⟨⟨vs,v,hv,hx⟩,fun x H' ⟨e,h⟩=>?_⟩
 subst e
 have:=h vs hv
 rw[hx]at this
 cases this
 exact⟨rv.mono g,rS,.refl⟩
def pg{K:Vo}{H0:Hp}{z:Str}:dM K H0 (v8 z) ⟨z.cps.toList.map fun c=>.str (sgn c),fun _=>True⟩:=by
 intro i S H g rS _
 refine⟨fun p hp=>?_,fun hi=>by show z.cps.size<=i;rw[hi,List.length_map,Array.length_toList];exact Nat.le_refl _⟩
 rw[List.getElem?_map]at hp
 cases hc:z.cps.toList[i]? with
 |none=>rw[hc]at hp;cases hp
 |some c=>
  rw[hc]at hp
  cases hp
  have hc':z.cps[i]?=some c:=by simpa using hc
  refine⟨?_,fun x H' ⟨e,c',h1,h2⟩=>?_⟩
  ·show i < z.cps.size
   by_cases hi:i < z.cps.size
   ·exact hi
   ·rw[Array.getElem?_eq_none (by omega)]at hc';cases hc'
  ·subst e
   rw[hc']at h1
   cases h1
   subst h2
   exact⟨.str _,rS,.refl⟩
def gv(he:aF X e te):pe X tg e (cO te):=⟨g_ (r_ he.ok) fun σ H R ⟨σ3,S,R3,E3,rσ,rS,h,xo,k⟩=>⟨σ3,S,_,E3,rσ,rS,h,xo,fun v S1 v' H1 h1 rv xx g1=>by
 dsimp only at h1
 split at h1
 ·rename_i src hs
  unfold gu at hs
  split at hs
  ·cases hs
   cases rv with
   |tup hq rs=>exact .inr (.inl ⟨_,rfl,⟨_,hq⟩,k _ S1 _ H1 h1 (pf hq rs) xx g1⟩)
  ·cases hs
   cases rv with
   |cl hq rs=>exact .inl ⟨_,rfl,⟨_,hq.sq⟩,k _ S1 _ H1 h1 (se hq rs) xx g1⟩
  ·cases hs
   cases rv
   exact .inr (.inr ⟨_,rfl,k _ S1 _ H1 h1 pg xx g1⟩)
  ·cases rv
   split at hs
   ·rename_i ea
    cases hs
    obtain⟨vs,hv,rs⟩:=xx _ _ ea
    exact .inl ⟨_,rfl,⟨_,SqL.of hv⟩,k _ S1 _ H1 h1 mW xx g1⟩
   ·cases hs
  ·cases hs
 ·exact h1.elim⟩⟩
noncomputable def bI(lo:Int)(n:Nat):List PV:=(List.range n).map fun(i:Nat)=>PV.int (lo+i)
def li{K:Vo}{H0:Hp}{lo:Int}{n:Nat}:dM K H0 (vk lo n) ⟨bI lo n,fun _=>True⟩:=by
 intro i S H g rS _
 refine⟨fun p hp=>?_,fun hi=>by show n<=i;rw[hi];simp[bI]⟩
 unfold bI at hp
 rw[List.getElem?_map]at hp
 by_cases hi:i < n
 ·rw[List.getElem?_range hi]at hp
  cases hp
  refine⟨hi,fun x H' ⟨e,h⟩=>?_⟩
  subst e h
  exact⟨.int _,rS,.refl⟩
 ·rw[List.getElem?_eq_none (by simpa using hi)]at hp
  cases hp
def jB(ta:aD):mV:=fun σ S R E=>ta σ S (fun v S1=>match v with | .int j=>-(2 ^ 62)<=j/\j < 2 ^ 62/\R ⟨bI 0 j.toNat,fun _=>True⟩ S1|_=>False) E
def iH(hs:starEach [a] X.env=[(false,eval a X.env)])(hg:Gl X "range")(hm:X.mg "range" = none)(ha:eW X [a] [ta]):pe X tg (.Call (.Name "range" p) [a] [] pos) (jB ta):=
 ⟨g_ (kG hg hm ha.ok hs) fun σ H R ⟨σ3,S,R3,E3,rσ,rS,h,xo,k⟩=>⟨σ3,S,_,E3,rσ,rS,h,xo,fun v S1 v' H1 h1 rv xx g1=>by
  dsimp only at h1
  split at h1
  ·cases rv
   exact⟨_,rfl,h1.1,h1.2.1,k _ S1 _ H1 h1.2.2 li xx g1⟩
  ·exact h1.elim⟩⟩
noncomputable def aM(xs:List PV):List PV:=xs.mapIdx fun i x=>.tup [.int i,x]
def lj{K:Vo}{H0:Hp}{a:Addr}{xs:List PV}:dM K H0 (v_ K a) ⟨aM xs,fun S'=>S' a=some (.lst xs)⟩:=by
 intro i S H g rS hk
 obtain⟨vs,hv,rs⟩:=rS a _ hk
 refine⟨fun p hp=>?_,fun hi=>⟨vs,SqL.of hv,by rw[rs.length,hi];simp[aM]⟩⟩
 unfold aM at hp
 rw[List.getElem?_mapIdx]at hp
 cases hx:xs[i]? with
 |none=>rw[hx]at hp;cases hp
 |some y=>
  rw[hx]at hp
  cases hp
  obtain⟨v,hx',rv⟩:=rs.get hx
  refine⟨⟨vs,v,SqL.of hv,hx'⟩,fun x H' ⟨q,x2,e1,hq,e2,h⟩=>?_⟩
  subst e1 e2
  have:=h vs (SqL.of hv)
  rw[hx']at this
  cases this
  exact⟨.tup (yi.of ag) (.cons (.int _) (.cons (rv.mono (.new hq)) .nil)),rS.other hq,.new hq⟩
def lm{K:Vo}{H0:Hp}{a:Addr}{vs:List V}{xs:List PV}(h0:yi K H0 a vs)(rs:Reps K H0 vs xs):dM K H0 (wa K a) ⟨aM xs,fun _=>True⟩:=by
 intro i S H g rS _
 have hv:=g.t _ _ h0
 refine⟨fun p hp=>?_,fun hi=>⟨vs,hv,by rw[rs.length,hi];simp[aM]⟩⟩
 unfold aM at hp
 rw[List.getElem?_mapIdx]at hp
 cases hx:xs[i]? with
 |none=>rw[hx]at hp;cases hp
 |some y=>
  rw[hx]at hp
  cases hp
  obtain⟨v,hx',rv⟩:=rs.get hx
  refine⟨⟨vs,v,hv,hx'⟩,fun x H' ⟨q,x2,e1,hq,e2,h⟩=>?_⟩
  subst e1 e2
  have:=h vs hv
  rw[hx']at this
  cases this
  exact⟨.tup (yi.of ag) (.cons (.int _) (.cons ((rv.mono g).mono (.new hq)) .nil)),rS.other hq,.new hq⟩
def iI(ta:aD):mV:=fun σ S R E=>ta σ S (fun v S1=>match v with
 | .tup xs=>R ⟨aM xs,fun _=>True⟩ S1
 | .ref a=>(match S1 a with|some (.lst xs)=>R ⟨aM xs,fun S'=>S' a=some (.lst xs)⟩ S1|_=>False)
 |_=>False) E
def sf{elts:List Expr}{k0:Nat}{zF:Pos}(hs:starEach [a] X.env=[(false,eval a X.env)])(hg:Gl X "enumerate")(hm:X.mg "enumerate" = none)(hv:bootBuiltins "enumerate" = some (.type "enumerate"))(ha:eW X [a] [ta]):pe X (.Tuple elts k0 zF) (.Call (.Name "enumerate" p) [a] [] pos) (iI ta):=
 ⟨g_ (mU hg hm hv ha.ok hs) fun σ H R ⟨σ3,S,R3,E3,rσ,rS,h,xo,k⟩=>⟨σ3,S,_,E3,rσ,rS,h,xo,fun v S1 v' H1 h1 rv xx g1=>by
  dsimp only at h1
  split at h1
  ·cases rv with
   |tup hq rs=>exact⟨_,rfl,.inr ⟨⟨_,hq⟩,k _ S1 _ H1 h1 (lm hq rs) xx g1⟩⟩
  ·cases rv
   split at h1
   ·rename_i ea
    obtain⟨vs,hv,rs⟩:=xx _ _ ea
    exact⟨_,rfl,.inl ⟨⟨_,SqL.of hv⟩,k _ S1 _ H1 h1 lj xx g1⟩⟩
   ·exact h1.elim
  ·exact h1.elim⟩⟩
end
section
variable {X:Cx} {iter tg c:Expr} {body:List Stmt} {ti:mV} {g:Tg} {tb:bj} {tc:fq} {pos:Pos}
noncomputable def hG(g:Tg)(tb:bj)(D:eK)(keep:au->Prop):List PV->bq->au->Prop
 |[],σ,S=>keep S/\D.nx σ S
 |x::r,σ,S=>keep S/\match g.put x σ with|some σ'=>tb { D with nx:=hG g tb D keep r,ct:=hG g tb D keep r,bk:=D.nx } σ' S|none=>False
def eS(ti:mV)(g:Tg)(tb:bj):bj:=fun D σ S=>ti σ S (fun src S1=>hG g tb D src.keep src.items σ S1) D.ex
def gw(hp:PassesOwn (model X.prog X.w) X.A X.env X.xe)(hc:X.calm=true)(hi:pe X tg iter ti)(hg:pc X tg g)(hb:cK X body tb)(hs:∀x,foldedSetIterable iter X.env x=pure x:=by intro _;rfl):iB X (.For tg iter body [] pos) (eS ti g tb):=
 ⟨bF (qS hp hc hi.ok hg.ok hb.ok hs) fun D σ H ⟨σ3,S,D3,rσ,rS,h,xo,n,r,bk,ct⟩=>⟨σ3,S,_,D3.ex,rσ,rS,h,xo,fun src S1 J H1 h1 sim xx g1=>by
  refine⟨fun i m σ' H'=>i+m=src.items.length/\∃σ4 S',xu X.K H' σ' σ4/\xm X.K H' S'/\Grow X.K H1 H'/\hG g tb D3 src.keep (src.items.drop i) σ4 S',⟨src.items.length,Nat.zero_add _,σ3,S1,rσ.mono g1,xx,.refl,by simpa using h1⟩,?_⟩
  rintro i m σ' H' ⟨hm,σ4,S',Aq,yy,g',hw⟩
  cases hd:src.items.drop i with
  |nil=>
   rw[hd]at hw
   have hi:i=src.items.length:=by
    have:=congrArg List.length hd
    rw[List.length_drop,List.length_nil]at this
    omega
   exact .inl ⟨(sim i S' H' g' yy hw.1).2 hi,n _ S' _ H' hw.2 Aq yy (g1.trans g')⟩
  |cons x rest=>
   rw[hd]at hw
   have hx:src.items[i]?=some x:=by
    have:=congrArg (fun l=>l[0]?) hd
    simpa using this
   have hrest:src.items.drop (i+1)=rest:=by
    have:=congrArg List.tail hd
    simpa [List.tail_drop]using this
   have hlt:i < src.items.length:=by
    by_cases z:i < src.items.length
    ·exact z
    ·rw[List.getElem?_eq_none (by omega)]at hx;cases hx
   obtain⟨go,yl⟩:=(sim i S' H' g' yy hw.1).1 x hx
   refine .inr ⟨go,fun σ5 H5=>∃σ6 S6,xu X.K H5 σ5 σ6/\xm X.K H5 S6/\Grow X.K H1 H5/\hG g tb D3 src.keep rest σ6 S6,?_,fun v H5 hv=>?_⟩
   ·rintro σ5 H5 ⟨σ6,S6,q1,q2,q3,q4⟩
    exact⟨m - 1,by omega,by omega,σ6,S6,q1,q2,q3,by rw[hrest];exact q4⟩
   ·obtain⟨rv,Cl,g5⟩:=yl v H5 hv
    obtain⟨_,hw⟩:=hw
    split at hw
    ·rename_i σ6 e6
     refine Tg.zG (own:=0) g rv (Aq.mono g5) e6 fun σ7 BS _=>?_
     exact⟨σ6,S',_,BS,Cl,hw,xo.mono (g1.trans (g'.trans g5)),fun σ8 S8 σ9 H9 q1 q2 q3 q4=>⟨σ8,S8,q2,q3,g'.trans (g5.trans q4),q1⟩,r.mono (g1.trans (g'.trans g5)),n.mono (g1.trans (g'.trans g5)),
      fun σ8 S8 σ9 H9 q1 q2 q3 q4=>⟨σ8,S8,q2,q3,g'.trans (g5.trans q4),q1⟩⟩
    ·exact hw.elim⟩⟩
def fA(tc:fq)(tb:bj):bj:=fun D σ S=>∃W:Nat->bq->au->Prop,(∃m,W m σ S)/\∀m σ S,W m σ S->
 tc σ S (fun b S1=>if b=true then ∃N:bq->au->Prop,(∀σ' S',N σ' S'->∃m',m' < m/\W m' σ' S')/\tb { D with nx:=N,ct:=N,bk:=D.nx } σ S1 else D.nx σ S1) D.ex
def eY(hp:PassesOwn (model X.prog X.w) X.A X.env X.xe)(hc:j5 X c tc)(hb:cK X body tb):iB X (.While c body [] pos) (fA tc tb):=
 ⟨bF (lP hp hc.ok hb.ok) fun D σ H ⟨σ3,S,D3,rσ,rS,⟨W,⟨m0,w0⟩,turn⟩,xo,n,r,bk,ct⟩=>by
  refine⟨fun m σ' H'=>∃σ4 S',xu X.K H' σ' σ4/\xm X.K H' S'/\Grow X.K H H'/\W m σ4 S',⟨m0,σ3,S,rσ,rS,.refl,w0⟩,?_⟩
  rintro m σ' H' ⟨σ4,S',Aq,yy,g',w'⟩
  refine⟨σ4,S',_,D3.ex,Aq,yy,turn m σ4 S' w',xo.mono g',fun b S1 H1 h1 xx g1=>?_⟩
  cases b with
  |true=>
   rw[if_pos rfl]at h1 ⊢
   obtain⟨N,hN,h1⟩:=h1
   refine⟨fun σ5 H5=>∃σ6 S6,xu X.K H5 σ5 σ6/\xm X.K H5 S6/\Grow X.K H H5/\N σ6 S6,?_,?_⟩
   ·rintro σ5 H5 ⟨σ6,S6,q1,q2,q3,q4⟩
    obtain⟨m',hm,w6⟩:=hN σ6 S6 q4
    exact⟨m',hm,σ6,S6,q1,q2,q3,w6⟩
   ·exact⟨σ4,S1,_,Aq.mono g1,xx,h1,xo.mono (g'.trans g1),fun σ8 S8 σ9 H9 q1 q2 q3 q4=>⟨σ8,S8,q2,q3,g'.trans (g1.trans q4),q1⟩,r.mono (g'.trans g1),n.mono (g'.trans g1),
     fun σ8 S8 σ9 H9 q1 q2 q3 q4=>⟨σ8,S8,q2,q3,g'.trans (g1.trans q4),q1⟩⟩
  |false=>
   rw[if_neg (by decide)]at h1 ⊢
   exact n _ S1 _ H1 h1 (Aq.mono g1) xx (g'.trans g1)⟩
end
noncomputable def fN:de:=fun _ _ _=>False
def Ab.no{X:Cx}{H:Hp}:Ab X H fN:=fun _ _ _ _ _ _ _ _ _ _ _ _ _ _ h=>h.elim
section
variable {X:Cx} {elt iter tg c:Expr} {ifs:List Expr} {scope:Scope} {pos:Pos} {ti:mV} {g:Tg} {tc:fq} {te:aD} {fs N:Vs} {own:Nat} {fr:List Nat}
noncomputable def dm(g:Tg)(tc:fq)(te:aD)(σ':bq)(keep:au->Prop)(fin:List PV->au->Prop):List PV->List PV->au->Prop
 |[],ys,S=>keep S/\ys.length<=sizeLine/\fin ys S
 |x::r,ys,S=>keep S/\ys.length<=sizeLine/\match g.put x σ' with
  |some σ2=>tc σ2 S (fun b S3=>if b=true then te σ2 S3 (fun y S4=>dm g tc te σ' keep fin r (ys++[y]) S4) fN else dm g tc te σ' keep fin r ys S3) fN
  |none=>False
def lp:fq:=fun _ S Q _=>Q true S
structure tJ (X:Cx) (ifs:List Expr) (t:fq):Prop where
 ok:PF X ifs (LT X t)
def jC{t t':TT}(h:PF X ifs t)(k:∀σ H Q,t' σ H Q->t σ H Q):PF X ifs t':=fun pins s σ H Q I q=>h pins s σ H Q I (k σ H Q q)
def qh:tJ X [] lp:=⟨jC rB fun σ H Q ⟨σ3,S,Q3,E3,rσ,rS,h,xo,k⟩=>k true S H h rS .refl⟩
def qi(h:j5 X c tc):tJ X [c] tc:=⟨rC h.ok⟩
noncomputable def hJ(own:Nat)(fr:List Nat)(σ:bq):bq:=List.replicate own none++fr.map fun j=>lk σ j
def ph{K:Vo}{H:Hp}{σ:L2.St}{σ3:bq}(r:xu K H σ σ3)(own:Nat)(fr:List Nat):xu K H (b6 own fr σ) (hJ own fr σ3):=by
 refine⟨by unfold b6 hJ;simp,fun i p e=>?_⟩
 unfold hJ at e
 unfold b6
 by_cases hi:i < own
 ·rw[List.getElem?_append_left (by simpa using hi),List.getElem?_replicate,if_pos hi]at e
  cases e
 ·rw[List.getElem?_append_right (by simpa using hi),List.length_replicate,List.getElem?_map]at e ⊢
  cases hj:fr[i - own]? with
  |none=>rw[hj]at e;cases e
  |some j=>
   rw[hj]at e
   simp only[Option.map_some,Option.some.injEq]at e ⊢
   obtain⟨v,hv,rv⟩:=r.at' j p (mz e)
   exact⟨v,by rw[hv];rfl,rv⟩
def cy(ti:mV)(g:Tg)(tc:fq)(te:aD)(own:Nat)(fr:List Nat):aD:=fun σ S Q E=>ti σ S (fun src S1=>dm g tc te (hJ own fr σ) src.keep (fun ys S2=>∀p,S2 p=none->Q (.ref p) (xi S2 p (.lst ys))) src.items [] S1) E
def gx{σ:L2.St}{H:Hp}{Q:VK}(Ai:g.under own=true)(B0:Bk):LE X (cy ti g tc te own fr) σ H Q->me (LI X ti) (g.g2 X.K) (fun σ H Q=>∃σ3 S Q3,xu X.K H σ σ3/\xm X.K H S/\tc σ3 S Q3 fN/\∀b S' H',Q3 b S'->xm X.K H' S'->Grow X.K H H'->Q b H')
  (fun σ H Q=>∃σ3 S Q3,xu X.K H σ σ3/\xm X.K H S/\te σ3 S Q3 fN/\zY X.K H Q3 Q) own fr σ H Q:=fun⟨σ3,S,Q3,E3,rσ,rS,h,xo,k⟩=>by
 refine⟨σ3,S,_,E3,rσ,rS,h,xo,fun src S1 J H1 h1 sim xx g1=>?_⟩
 refine⟨fun i m ys H'=>i+m=src.items.length/\∃zs S',Reps X.K H' ys zs/\xm X.K H' S'/\Grow X.K H1 H'/\dm g tc te (hJ own fr σ3) src.keep (fun ys S2=>∀p,S2 p=none->Q3 (.ref p) (xi S2 p (.lst ys))) (src.items.drop i) zs S',⟨src.items.length,Nat.zero_add _,[],S1,.nil,xx,.refl,by simpa using h1⟩,?_⟩
 rintro i m ys H' ⟨hm,zs,S',rz,yy,g',hw⟩
 cases hd:src.items.drop i with
 |nil=>
  rw[hd]at hw
  have hi:i=src.items.length:=by
   have:=congrArg List.length hd
   rw[List.length_drop,List.length_nil]at this
   omega
  refine .inl ⟨(sim i S' H' g' yy hw.1).2 hi,by rw[rz.length];exact hw.2.1,fun D hD=>?_⟩
  exact k _ _ _ _ (hw.2.2 D (yy.free hD)) (.ref D) (yy.new hD ⟨_,ag,rz.mono (.new hD)⟩) (g1.trans (g'.trans (.new hD)))
 |cons x rest=>
  rw[hd]at hw
  have hx:src.items[i]?=some x:=by
   have:=congrArg (fun l=>l[0]?) hd
   simpa using this
  have hrest:src.items.drop (i+1)=rest:=by
   have:=congrArg List.tail hd
   simpa [List.tail_drop]using this
  have hlt:i < src.items.length:=by
   by_cases z:i < src.items.length
   ·exact z
   ·rw[List.getElem?_eq_none (by omega)]at hx;cases hx
  obtain⟨go,yl⟩:=(sim i S' H' g' yy hw.1).1 x hx
  refine .inr ⟨go,by rw[rz.length];exact hw.2.1,fun ys' H5=>∃zs' S6,Reps X.K H5 ys' zs'/\xm X.K H5 S6/\Grow X.K H1 H5/\dm g tc te (hJ own fr σ3) src.keep (fun ys S2=>∀p,S2 p=none->Q3 (.ref p) (xi S2 p (.lst ys))) rest zs' S6,?_,fun v H5 hv=>?_⟩
  ·rintro ys' H5 ⟨zs',S6,q1,q2,q3,q4⟩
   exact⟨m - 1,by omega,by omega,zs',S6,q1,q2,q3,by rw[hrest];exact q4⟩
  ·obtain⟨rv,Cl,g5⟩:=yl v H5 hv
   obtain⟨_,_,hw⟩:=hw
   split at hw
   ·rename_i σ6 e6
    refine Tg.zG (own:=own) g rv ((ph rσ own fr).mono (g1.trans (g'.trans g5))) e6 fun σ7 BS d7=>⟨d7 Ai,?_⟩
    refine⟨σ6,S',_,BS,Cl,hw,fun b S8 H8 h8 CT g8=>?_⟩
    cases b with
    |true=>
     rw[if_pos rfl]at h8 ⊢
     exact⟨σ6,S8,_,BS.mono g8,CT,h8,fun y S9 y' H9 h9 ry DA g9=>⟨zs++[y],S9,(rz.mono (g5.trans (g8.trans g9))).append (.cons ry .nil),DA,g'.trans (g5.trans (g8.trans g9)),h9⟩⟩
    |false=>
     rw[if_neg (by decide)]at h8 ⊢
     exact⟨zs,S8,rz.mono (g5.trans g8),CT,g'.trans (g5.trans g8),h8⟩
   ·exact hw.elim
def sh(fs:Vs)(own:Nat)(fr:List Nat)(N:Vs)(Ai:g.under own=true)(hc:X.calm=true)(hclos:closureFor scope X.env=pure (bg X.env fs))(hcell:∀y∈scope.names,y.2 ≠ .cell)(hkind:scope.kind = .function)
  (hnames:∀x∈scope.names,x.2 = .local->scope.names.lookup x.1=some .local) (hcl:aZ X.env fs) (hhas:hasB (relabel scope X.env).names (bg X.env fs)=true)
  (hlen:N.length=own+fr.length) (hN:(N.drop own).map some=fr.map fun j=>X.N[j]?) (hF:xK X.env scope (bg X.env fs) (N.drop own))
  (hi:pe X tg iter ti) (hg:∀B,pc (X.yx N scope fs B) tg g) (hf:∀B,tJ (X.yx N scope fs B) ifs tc) (he:∀B,aF (X.yx N scope fs B) elt te)
  (hs:∀x,foldedSetIterable iter X.env x=pure x:=by intro _;rfl):aF X (.ListComp elt [⟨tg,iter,ifs,0⟩] scope pos) (cy ti g tc te own fr):=
 ⟨ax (oS fs own fr N hc hclos hcell hkind hnames hcl hhas hlen hN hF hi.ok (fun B=>(hg B).ok)
  (fun B=>jC (hf B).ok fun σ H Q ⟨σ3,S,Q3,rσ,rS,h,k⟩=>⟨σ3,S,Q3,fN,rσ,rS,h,.no,k⟩) (fun B=>ax (he B).ok fun σ H Q ⟨σ3,S,Q3,rσ,rS,h,k⟩=>⟨σ3,S,Q3,fN,rσ,rS,h,.no,k⟩) hs) fun _ _ _=>gx Ai ⟨0,X.s₀,X.H₀,[],[]⟩⟩
def si(fs:Vs)(own:Nat)(fr:List Nat)(N:Vs){i:Nat}{y:Str}{py spos:Pos}(hX:X.N.Nodup)(hix:X.N[i]?=some y)(hy:X.env.scope.names.lookup y=some .local)
  (hsw:swapsWith (.ListComp elt [⟨tg,iter,ifs,0⟩] scope pos) (some (.Name y py)) spos.line X.env=pure true)
  (Ai:g.under own=true) (hc:X.calm=true) (hclos:closureFor scope X.env=pure (bg X.env fs)) (hcell:∀y∈scope.names,y.2 ≠ .cell) (hkind:scope.kind = .function)
  (hnames:∀x∈scope.names,x.2 = .local->scope.names.lookup x.1=some .local) (hcl:aZ X.env fs) (hhas:hasB (relabel scope X.env).names (bg X.env fs)=true)
  (hlen:N.length=own+fr.length) (hN:(N.drop own).map some=fr.map fun j=>X.N[j]?) (hF:xK X.env scope (bg X.env fs) (N.drop own))
  (hi:pe X tg iter ti) (hg:∀B,pc (X.yx N scope fs B) tg g) (hf:∀B,tJ (X.yx N scope fs B) ifs tc) (he:∀B,aF (X.yx N scope fs B) elt te)
  (hs:∀x,foldedSetIterable iter X.env x=pure x:=by intro _;rfl):iB X (.Assign [.Name y py] (.ListComp elt [⟨tg,iter,ifs,0⟩] scope pos) spos) (az i (cy ti g tc te own fr)):=
 ⟨bF (oU fs own fr N hX hix hy hsw hc hclos hcell hkind hnames hcl hhas hlen hN hF hi.ok (fun B=>(hg B).ok)
  (fun B=>jC (hf B).ok fun σ H Q ⟨σ3,S,Q3,rσ,rS,h,k⟩=>⟨σ3,S,Q3,fN,rσ,rS,h,.no,k⟩) (fun B=>ax (he B).ok fun σ H Q ⟨σ3,S,Q3,rσ,rS,h,k⟩=>⟨σ3,S,Q3,fN,rσ,rS,h,.no,k⟩) hs)
  fun D σ H ⟨σ3,S,D3,rσ,rS,h,xo,n,r,bk,ct⟩=>gx Ai ⟨0,X.s₀,X.H₀,[],[]⟩ ⟨σ3,S,_,D3.ex,rσ,rS,h,xo,fun p S1 v H1 h1 rv xx g1=>n _ S1 _ H1 h1 ((rσ.mono g1).set rv i) xx g1⟩⟩
end
abbrev aP:=List PV->au->cE->de->Prop
noncomputable def uQ(K:Vo)(n:Nat)(sp:aP):Sp:=fun vs H Q _=>vs.length=n/\∃ps S Q3 E3,Reps K H vs ps/\xm K H S/\sp ps S Q3 E3/\zY K H Q3 Q
structure tK (P:Program) (w:World) (K:Vo) (mg:Vr) (base:Heap) (k:Nat) (f:Addr) (fd:FuncData) (ps:Vs) (sp:aP):Prop where
 ok:cG P w K mg base j2 k f fd ps (uQ K ps.length sp)
section
variable {X:Cx} {e o:Expr} {es:List Expr} {te to:aD} {ts:List aD} {x:Str} {p pos apos cpos:Pos} {k:Nat} {f:Addr} {fd:FuncData} {ps:Vs} {sp:aP}
def av(sp:aP)(ts:List aD):aD:=fun σ S Q E=>bG ts σ S (fun ps S1=>sp ps S1 Q E) E
def sj(F:tK X.prog X.w X.K X.mg X.base k f fd ps sp)(hr:Room k X.A)(hg:Gl X x)(hm:X.mg x=some (.ref f))(hk:PySem.W.keepIn X.K (.ref f)=true)(hb:Binds X.K fd ps [])(he:starEach (e::es) X.env=(false,eval e X.env)::starEach es X.env)(ha:eW X (e::es) ts)
  (hl:ts.length=ps.length:=by rfl) (hdb:(x == ("__debug__":Str))=false:=by decide) (hpl:(backTo pos (starEach es X.env)).any (·.1)=false:=by rfl):aF X (.Call (.Name x p) (e::es) [] pos) (av sp ts):=
 ⟨ax (oE F.ok hr hg hm hk hb .nil pZ ha.ok hdb he hpl) fun σ H Q ⟨σ3,S,Q3,E3,rσ,rS,h,xo,k⟩=>aY rσ rS h xo fun ps' S' vs H' hl' q rv yy g=>by
  rw[List.append_nil]
  exact⟨by rw[rv.length,hl',hl],ps',S',Q3,E3,rv,yy,q,k.mono g⟩⟩
def pj(F:tK X.prog X.w X.K X.mg X.base k f fd [] sp)(hr:Room k X.A)(hg:Gl X x)(hm:X.mg x=some (.ref f))(hk:PySem.W.keepIn X.K (.ref f)=true)(hb:Binds X.K fd [] [])
  (hdb:(x == ("__debug__":Str))=false:=by decide):aF X (.Call (.Name x p) [] [] pos) (av sp []):=
 ⟨ax (lX F.ok hr hg hm hk hb .nil pZ hdb) fun σ H Q ⟨σ3,S,Q3,E3,rσ,rS,h,xo,k⟩=>⟨rfl,[],S,Q3,E3,.nil,rS,h,k⟩⟩
end
noncomputable def aC(n:Nat)(args:List PV):bq:=args.map some++List.replicate (n - args.length) none
def df(n:Nat)(t:bj):aP:=fun args S Q _=>t { nx:=fun _ S'=>Q .non S',rt:=Q,ex:=fN } (aC n args) S
def gy{K:Vo}{H:Hp}{N:Vs}{vs:List V}{ps:List PV}(r:Reps K H vs ps):xu K H (L2.cH N vs) (aC N.length ps):=by
 refine⟨by unfold L2.cH aC;simp[r.length],fun i p e=>?_⟩
 unfold aC at e
 unfold L2.cH
 by_cases hi:i < ps.length
 ·rw[List.getElem?_append_left (by simpa using hi),List.getElem?_map]at e
  cases hp:ps[i]? with
  |none=>rw[hp]at e;cases e
  |some q=>
   rw[hp]at e
   cases e
   obtain⟨v,hv,rv⟩:=r.get hp
   rw[List.getElem?_append_left (by rw[List.length_map,r.length];exact hi),List.getElem?_map,hv]
   exact⟨v,rfl,rv⟩
 ·rw[List.getElem?_append_right (by simpa using hi),List.getElem?_replicate]at e
  split at e
  ·cases e
  ·cases e
section
variable {P:Program} {w:World} {K:Vo} {mg:Vr} {base:Heap}
noncomputable abbrev wj(P:Program)(w:World)(K:Vo)(mg:Vr)(base:Heap)(N:Vs)(qual:Str)(st:Stmt)(f:Addr)(cdv:Value)(A:Around)(outer:List Env)(s:Shared)(H:Hp)(E:XK):Cx:=(du j2 P w K mg base N qual (am st) f cdv A outer s H E).AN
def wG{x qual:Str}{st:Stmt}{f:Addr}{fd:FuncData}{N ps:Vs}{k:Nat}{t:bj}(F:Ae K x qual st f fd)(S:bi N ps (am st))
  (hbody:∀(cdv:Value) (A:Around) (outer:List Env) (s:Shared) (H:Hp) (E:XK),Room k (A.deeper (PyProof.Rows.envOfC qual (am st) s.heap.objs.size f cdv))->cK (wj P w K mg base N qual st f cdv A outer s H E) (aH st) t) :
  tK P w K mg base (k+1) f fd ps (df N.length t):=
 ⟨F.ok S (fun vs H Q E h=>h.1) fun cdv A outer s H vs Q E hr ⟨hl,ps',S',Q3,E3,rv,rS,q,kk⟩=>⟨_,(hbody cdv A outer s H E hr).ok,aC N.length ps',S',_,gy rv,rS,q,.no,fun σ3 S2 σ2 H2 h2 _ yE g2=>kk _ S2 _ H2 h2 .non yE g2,kk,fun _ _ _ _ h2=>h2.elim,fun _ _ _ _ h2=>h2.elim⟩⟩
end
section
variable {X:Cx} {o e f:Expr} {to te tf:aD} {pos apos cpos:Pos}
noncomputable def eh:List (aD×aD)->bq->au->(List (PV×PV)->au->Prop)->de->Prop
 |[],_,S,Q,_=>Q [] S
 |(tk,tv)::r,σ,S,Q,E=>tk σ S (fun x S1=>tv σ S1 (fun y S2=>eh r σ S2 (fun ps S3=>Q ((x,y)::ps) S3) E) E) E
noncomputable def iJ:List (PV×PV)->Option (List (aS×PV))
 |[]=>some []
 |(x,y)::r=>match jv x,iJ r with|some k,some l=>some ((k,y)::l)|_,_=>none
noncomputable def hU(kvs more:List (aS×PV)):List (aS×PV):=more.foldl (fun acc kv=>g7 acc kv.1 kv.2) kvs
structure vA (X:Cx) (pos:Pos) (keys:List (Option Expr)) (values:List Expr) (yT:List (aD×aD)):Prop where
 ok:uv X pos keys values (yT.map fun t=>(LE X t.1,LE X t.2))
def sm:vA X pos [] [] []:=⟨oN⟩
def hV{k v:Expr}{ks:List (Option Expr)}{vs:List Expr}{tk tv:aD}{yT:List (aD×aD)}(hk:aF X k tk)(hv:aF X v tv)(hr:vA X pos ks vs yT):vA X pos (some k::ks) (v::vs) ((tk,tv)::yT):=⟨l_ hk.ok hv.ok hr.ok⟩
inductive gA (K:Vo) (H:Hp):List (V×V)->List (PV×PV)->Prop
 |nil:gA K H [] []
 |cons {a b:V} {p q:PV} {vs:List (V×V)} {ps:List (PV×PV)}:Rep K H a p->Rep K H b q->gA K H vs ps->gA K H ((a,b)::vs) ((p,q)::ps)
theorem fB:∀{yT:List (aD×aD)} {σ:L2.St} {H:Hp} {Q:List (V×V)->Hp->Prop} {σ3:bq} {S:au} {Q3:List (PV×PV)->au->Prop} {E3:de},xu X.K H σ σ3->xm X.K H S->eh yT σ3 S Q3 E3->Ab X H E3->
  (∀ps S' vs H',ps.length=yT.length->Q3 ps S'->gA X.K H' vs ps->xm X.K H' S'->Grow X.K H H'->Q vs H')->gU (yT.map fun t=>(LE X t.1,LE X t.2)) σ H Q
 |[],σ,H,Q,σ3,S,Q3,E3,rσ,rS,h,xo,k=>k [] S [] H rfl h .nil rS .refl
 |(tk,tv)::ts,σ,H,Q,σ3,S,Q3,E3,rσ,rS,h,xo,k=>
  ⟨σ3,S,_,E3,rσ,rS,h,xo,fun p S1 v H1 h1 rv xx g1=>⟨σ3,S1,_,E3,rσ.mono g1,xx,h1,xo.mono g1,fun p2 S2 v2 H2 h2 DB yE g2=>fB (rσ.mono (g1.trans g2)) yE h2 (xo.mono (g1.trans g2)) fun ps S3 vs H3 hl h3 Ci A2 g3=>
   k ((p,p2)::ps) S3 ((v,v2)::vs) H3 (by rw[List.length_cons,List.length_cons,hl]) h3 (.cons (rv.mono (g2.trans g3)) (DB.mono g3) Ci) A2 (g1.trans (g2.trans g3))⟩⟩
theorem gB{K:Vo}{H:Hp}:∀{vs:List (V×V)} {ps:List (PV×PV)} {l:List (aS×PV)},gA K H vs ps->iJ ps=some l->∃kvs:List (aS×V),vs=kvs.map (fun kv=>(kV kv.1,kv.2))/\xy K H kvs l
 |_,_,_,.nil,h=>by cases h;exact⟨[],rfl,.nil⟩
 |_,_,l,.cons a b r,h=>by
  unfold iJ at h
  split at h
  ·rename_i k l' ek el
   cases h
   obtain⟨kvs,e,q⟩:=gB r el
   refine⟨(k,_)::kvs,?_,.cons b q⟩
   rw[List.map_cons,<-e,cj a ek]
  ·cases h
def xy.merge{K:Vo}{H:Hp}{more:List (aS×V)}{m3:List (aS×PV)}(r:xy K H more m3):∀{kvs:List (aS×V)} {k3:List (aS×PV)},xy K H kvs k3->xy K H (d5 kvs more) (hU k3 m3):=by
 induction r with
 |nil=>intro kvs k3 q;exact q
 |cons a r ih=>intro kvs k3 q;exact ih (q.put a)
def iK(yT:List (aD×aD)):aD:=fun σ S Q E=>∀p,S p=none->eh yT σ (xi S p (.dct [])) (fun ps S2=>S2 p=some (.dct [])/\match iJ ps with|some kvs=>Q (.ref p) (xi S2 p (.dct (hU [] kvs)))|none=>False) E
def sr{keys:List (Option Expr)}{values:List Expr}{yT:List (aD×aD)}(h:vA X pos keys values yT)(hall:keys.all (·.isSome)=true:=by rfl)(hl:keys.length=values.length:=by rfl)(h0:keys≠[]:=by exact List.cons_ne_nil _ _)(B9:keys.length<=15:=by decide)
  (ht:yT.length<=15:=by exact Nat.le_of_ble_eq_true rfl):aF X (.Dict keys values pos) (iK yT):=
 ⟨ax (oO h.ok hall hl h0 B9) fun σ H Q ⟨σ3,S,Q3,E3,rσ,rS,hq,xo,k⟩=>fun p hp=>by
  have g0:Grow X.K H (upd H p (.dK [])):=.new hp
  refine fB (rσ.mono g0) (rS.new hp (o:=.dct []) ⟨[],ag,.nil⟩) (hq p (rS.free hp)) (xo.mono g0) fun ps S' vs H' hl' q rv yy g=>?_
  obtain⟨e,q⟩:=q
  obtain⟨kv,hv,rk⟩:=yy _ _ e
  cases rk
  refine⟨hv,?_⟩
  split at q
  ·rename_i kvs ek
   obtain⟨l,el,rl⟩:=gB rv ek
   refine⟨l,el,?_,k _ _ _ _ q (.ref p) (yy.put hv trivial ⟨_,ag,(xy.merge rl .nil).mono (.mut hv trivial)⟩) (g0.trans (g.trans (.mut hv trivial)))⟩
   have z1:∀{vs:List (V×V)} {ps:List (PV×PV)},gA X.K H' vs ps->vs.length=ps.length:=by
    intro vs ps r
    induction r with
    |nil=>rfl
    |cons _ _ _ ih=>rw[List.length_cons,List.length_cons,ih]
   have z2:=congrArg List.length el
   rw[List.length_map,z1 rv,hl']at z2
   omega
  ·exact q.elim⟩
def iL(te:aD):aD:=fun σ S Q E=>te σ S (fun x S1=>match x with
 | .ref a=>(match S1 a with|some (.lst xs)=>∀p,S1 p=none->Q (.ref p) (xi S1 p (.lst xs.reverse))|_=>False)
 |_=>False) E
def ss{p1 p2 q1 q2:Pos}(hs:starEach [e] X.env=[(false,eval e X.env)])(hc:X.calm=true)(he:aF X e te)(Cg:Gl X "list")(hm1:X.mg "list" = none)(Bp:Gl X "reversed")(hm2:X.mg "reversed" = none):aF X (.Call (.Name "list" p1) [.Call (.Name "reversed" p2) [e] [] q2] [] q1) (iL te):=
 ⟨ax (jn hc he.ok Cg hm1 Bp hm2 hs rfl) fun σ H Q ⟨σ3,S,Q3,E3,rσ,rS,h,xo,k⟩=>⟨σ3,S,_,E3,rσ,rS,h,xo,fun x S1 v H1 h1 rx xx g1=>by
  dsimp only at h1
  split at h1
  ·cases rx
   split at h1
   ·rename_i ea
    obtain⟨vs,hv,rs⟩:=xx _ _ ea
    exact⟨_,_,rfl,SqL.of hv,fun q hq=>k _ _ _ _ (h1 q (xx.free hq)) (.ref q) (xx.new hq ⟨_,ag,rs.reverse.mono (.new hq)⟩) (g1.trans (.new hq))⟩
   ·exact h1.elim
  ·exact h1.elim⟩⟩
end
def dN:R3:=d9 fun i j=>.int (i - j)
def dj:R3:=dl (fun _ j=>j≠0) fun i j=>.int (i.fmod j)
def eL:R3:=dl j9 fun i j=>.int (i.fdiv j)
def eU:R3:=dl kI fun i j=>.int (i ^ j.toNat)
def su:R3:=d9 fun i j=>.bl (decide (i < j))
def n9:R3:=d9 fun i j=>.bl (decide (j < i))
def tL:R3:=d9 fun i j=>.bl (decide (j<=i))
section
variable {X:Cx}
def iM:d8 X (binaryOp .Sub) dN:=rV
def cz:d8 X (binaryOp .Mod) dj:=rW
def hW:d8 X (binaryOp .FloorDiv) eL:=oZ
def eM:d8 X (binaryOp .Pow) eU:=rX
def sv:d8 X (compareOp .Lt) su:=uB
def lq:d8 X (compareOp .Gt) n9:=uC
def uR:d8 X (compareOp .GtE) tL:=uD
end
def uS{A:Around}{k:Nat}(hr:Room k A):A.units+1 < cLine:=by have:=hr.un;omega
def cP{A:Around}{k:Nat}(hr:Room k A):A.units+150 < cLine:=by have:=hr.un;omega
def qj{A:Around}{k:Nat}(hr:Room k A):A.units+160 < cLine:=by have:=hr.un;omega
structure vB (K:Vo) (mg:Vr) (x:Str) (st:Stmt) (ps:Vs) (f:Addr) (fd:FuncData):Prop where
 F:Ae K x x st f fd
 b:Binds K fd ps []
 k:PySem.W.keepIn K (.ref f)=true
 m:mg x=some (.ref f)
def wk{K:Vo}{H:Hp}{a:Addr}{ns:Vu}{sp:aP}(hO:oP H)(hS:SqL K H a (ns.map V.int))(h:sp [.cl (ns.map PV.int)] (fun _=>none) (fun v _=>v = .bl true) fN):uQ K 1 sp [.ref a] H (fun v _=>v = .bl true) fun _ _ _=>False:=by
 have hr:∀l:List Int,Reps K H (l.map V.int) (l.map PV.int):=by
  intro l
  induction l with
  |nil=>exact .nil
  |cons x r ih=>exact .cons (.int x) ih
 refine⟨rfl,[.cl (ns.map PV.int)],fun _=>none,_,fN,.cons (.cl (vs:=ns.map V.int) ?_ (hr ns)) .nil,(fun b o e=>by simp at e),h,fun p S' v H' q rv rS g=>?_⟩
 ·rcases hS with(q|q)|q
  ·rcases hO a with z|⟨o,xs,z⟩
   ·rw[z]at q;cases q
   ·rw[z]at q;cases q
  ·exact .inl q
  ·exact .inr q
 ·subst q
  cases rv
  rfl
end L3
namespace L2
open PySem PySem.Spec PyProof.Rows
end L2
namespace HT
open PySem PySem.Spec PyProof.Rows
section
variable {prog:Program} {w:World} {A:Around} {E:Vq} {s:Shared}
theorem iN{α β:Type}{f g:α->Option β}:∀(l:List α),(∀x∈l,f x=g x)->l.filterMap f=l.filterMap g
 |[],_=>rfl
 |x::l,h=>by rw[List.filterMap_cons,List.filterMap_cons,h x (by simp),iN l fun y hy=>h y (by simp[hy])]
def mX(xs:Vw):((List.range xs.size).filterMap fun(m:Nat)=>xs[((xs.size:Int) - 1+(m:Int) * (-1)).toNat]?)=xs.toList.reverse:=by
 have e:∀m∈List.range xs.size,xs[((xs.size:Int) - 1+(m:Int) * (-1)).toNat]?=some (xs.toList.reverse.getD m default):=by
  intro m hm
  have hm':=List.mem_range.mp hm
  have:((xs.size:Int) - 1+(m:Int) * (-1)).toNat=xs.size - 1 - m:=by omega
  rw[this,List.getD_eq_getElem?_getD,List.getElem?_reverse (by simpa using hm'),Array.length_toList,Array.getElem?_toList,Array.getElem?_eq_getElem (by omega)]
  rfl
 rw[iN _ e,List.filterMap_eq_map']
 apply List.ext_getElem?
 intro i
 rw[List.getElem?_map]
 by_cases hi:i < xs.size
 ·rw[List.getElem?_range hi,Option.map_some,List.getD_eq_getElem?_getD,List.getElem?_eq_getElem (by simpa using hi)]
  rfl
 ·rw[List.getElem?_eq_none (by simpa using hi),List.getElem?_eq_none (by simpa using hi)]
  rfl
end
end HT
namespace L2
open PySem PySem.Spec PyProof.Rows
end L2
namespace L3
open PySem L2
end L3
namespace L2
open PySem PySem.Spec PyProof.Rows
end L2
namespace L3
open PySem L2
end L3
namespace L2
open PySem PySem.Spec PyProof.Rows PySem.AutoSeq1
end L2
namespace L3
open PySem L2
end L3
namespace C
open PySem L2 L3
def cQ:bj:=(af (az 3 (cy (cO (br (v3 0) (j_ (v3 1)) (j_ (c3 (.int 63))))) (.n 0) lp (aj ft [(v3 0),(ap dN (c3 (.int 0)) (v3 0))]) 1 []))
  (af (az 4 (ap aB (c3 (.int 7919)) (v3 1)))
  (af (eS (cO (v3 3)) (.n 2) (az 4 (ap dj (ap aB (ap ef (v3 4) (c3 (.int 48271))) (ap dj (v3 2) (c3 (.int 2147483629)))) (c3 (.int 2147483647)))))
  (aR (iK [((c3 (.str "seed")),(v3 4)),((c3 (.str "number")),(c3 (.int 0))),((c3 (.str "left")),(iL (cy (cO (v3 3)) (.n 0) (b7 (ap tL (v3 0) (ap eU (c3 (.int 10)) (c3 (.int 18))))) (v3 0) 1 [])))])))))
def cR:bj:=(af (fA (k_ (b7 (ap (dI false) (ap aI (v3 0) (c3 (.str "number"))) (c3 (.int 0)))) (b7 (ap n9 (aj dw [(ap aI (v3 0) (c3 (.str "left")))]) (c3 (.int 0))))) (jA (i8 "list" lh (ap aI (v3 0) (c3 (.str "left"))) []) (v3 0) (c3 (.str "number"))))
  (af (az 2 (ap aI (v3 0) (c3 (.str "number"))))
  (af (fM (b7 (ap n9 (v3 2) (c3 (.int 0)))) (af (jA (ap eL (v3 2) (v3 1)) (v3 0) (c3 (.str "number")))
  (aR (ap dj (v3 2) (v3 1)))) bO)
  (af (az 3 (ap dj (ap aB (ap ef (ap aI (v3 0) (c3 (.str "seed"))) (c3 (.int 48271))) (c3 (.int 7919))) (c3 (.int 2147483647))))
  (af (jA (ap dj (ap aB (ap ef (v3 3) (c3 (.int 40692))) (c3 (.int 104729))) (c3 (.int 2147483399))) (v3 0) (c3 (.str "seed")))
  (af (az 4 (ap dj (ap ef (ap aI (v3 0) (c3 (.str "seed"))) (ap aI (v3 0) (c3 (.str "seed")))) (c3 (.int 2147483563))))
  (aR (ap dj (ap aB (ap ef (ap dj (ap ef (v3 3) (v3 3)) (c3 (.int 2147483629))) (c3 (.int 2147483563))) (v3 4)) (v3 1)))))))))
def fD:bj:=(af (fA (b7 (ap (dI true) (v3 1) (c3 (.int 0)))) (af (az 2 (ap dj (v3 0) (v3 1)))
  (af (az 0 (v3 1))
  (az 1 (v3 2)))))
  (aR (aj jx [(v3 0)])))
end C
namespace Zu
open PySem Zt
open Sem (wp)
end Zu
namespace L2
open PySem PySem.Spec PyProof.Rows
end L2
namespace L3
open PySem L2
end L3
namespace L2
open PySem PySem.Spec PyProof.Rows
end L2
namespace L3
open PySem L2
end L3
namespace C
open PySem L2 L3
end C
namespace Zv
open PySem
open Sem (wp)
end Zv
namespace L2
open PySem PySem.Spec PyProof.Rows
end L2
namespace L3
open PySem L2
end L3
namespace L2
open PySem PySem.Spec PyProof.Rows
end L2
namespace L3
open PySem L2
end L3
namespace C
open PySem L2 L3
end C
namespace L3
open PySem L2 Xc
def wl(K:Vo)(H:Hp)(E3:de)(E:XK):Prop:=∀(c:Str) (ks:Vs) (ps:List PV) (S':au) (H':Hp) (C dx:Addr) (od:Obj) (vs:List V),E3 (.exc c ks ps) [] S'->xL K c C->vs.length=ks.length->
 H' dx=some (.frz od (.ext (XD dx (ks.zip vs))))->Reps K H' vs ps->xm K H' S'->Grow K H H'->E (.ref C) (some dx) H'
noncomputable def wm(K:Vo)(n:Nat)(sp:aP):Sp:=fun vs H Q E=>vs.length=n/\∃ps S Q3 E3,Reps K H vs ps/\xm K H S/\sp ps S Q3 E3/\zY K H Q3 Q/\wl K H E3 E
structure sw (P:Program) (w:World) (K:Vo) (mg:Vr) (base:Heap) (k:Nat) (f:Addr) (fd:FuncData) (ps:Vs) (sp:aP):Prop where
 ok:cG P w K mg base (nZ P w) k f fd ps (wm K ps.length sp)
def bu(sp:aP)(ts:List aD):aD:=fun σ S Q E=>bG ts σ S (fun ps S1=>sp ps S1 Q (fun p _ S'=>E p σ S')) E
def hZ(n:Nat)(t:bj):aP:=fun args S Q E=>t { nx:=fun _ S'=>Q .non S',rt:=Q,ex:=fun p _ S'=>E p [] S' } (aC n args) S
section
variable {X:Cx} {e o:Expr} {es:List Expr} {te to:aD} {ts:List aD} {x:Str} {p pos apos cpos:Pos} {k:Nat} {f:Addr} {fd:FuncData} {ps:Vs} {sp:aP}
def pk(F:sw X.prog X.w X.K X.mg X.base k f fd ps sp)(hr:Room k X.A)(hg:Gl X x)(hm:X.mg x=some (.ref f))(hk:PySem.W.keepIn X.K (.ref f)=true)(hb:Binds X.K fd ps [])(he:starEach (e::es) X.env=(false,eval e X.env)::starEach es X.env)(ha:eW X (e::es) ts)
    (hl:ts.length=ps.length:=by rfl) (hdb:(x == ("__debug__":Str))=false:=by decide) (hpl:(backTo pos (starEach es X.env)).any (·.1)=false:=by rfl):aF X (.Call (.Name x p) (e::es) [] pos) (bu sp ts):=
  ⟨ax (mw F.ok hr hg hm hk hb ha.ok hdb he hpl) fun σ H Q ⟨σ3,S,Q3,E3,rσ,rS,h,xo,k⟩=>aY rσ rS h xo fun ps' S' vs H' hl' q rv yy g=>
    ⟨fun c d H2=>∃(cn:Str) (ks:Vs) (ps2:List PV) (S2:au) (C dx:Addr) (od:Obj) (Aa:List V),c = .ref C/\d=some dx/\E3 (.exc cn ks ps2) σ3 S2/\xL X.K cn C/\Aa.length=ks.length/\H2 dx=some (.frz od (.ext (XD dx (ks.zip Aa))))/\Reps X.K H2 Aa ps2/\xm X.K H2 S2/\Grow X.K H' H2,
     ⟨by rw[rv.length,hl',hl],ps',S',Q3,_,rv,yy,q,k.mono g,fun cn ks ps2 S2 H2 C dx od Aa h1 h2 h3 h4 h5 h6 h7=>⟨cn,ks,ps2,S2,C,dx,od,Aa,rfl,rfl,h1,h2,h3,h4,h5,h6,h7⟩⟩,
     fun pins c d H2 ⟨cn,ks,ps2,S2,C,dx,od,Aa,e1,e2,h1,h2,h3,h4,h5,h6,h7⟩ s' a C' DC e3 e4 I xa=>by
      subst e1 e2;cases e3;cases e4
      exact xo cn ks ps2 σ3 S2 H2 pins σ s' a _ _ od Aa h1 h2 h3 h4 h5 h6 (rσ.mono (g.trans h7)) (g.trans h7) I xa⟩⟩
end
section
variable {P:Program} {w:World} {K:Vo} {mg:Vr} {base:Heap}
noncomputable abbrev jD(P:Program)(w:World)(K:Vo)(mg:Vr)(base:Heap)(N:Vs)(qual:Str)(st:Stmt)(f:Addr)(cdv:Value)(A:Around)(outer:List Env)(s:Shared)(H:Hp)(E:XK):Cx:=du (nZ P w) P w K mg base N qual (am st) f cdv A outer s H E
def wn{x qual:Str}{st:Stmt}{f:Addr}{fd:FuncData}{N ps:Vs}{k:Nat}{t:bj}(F:Ae K x qual st f fd)(S:bi N ps (am st))
  (hbody:∀(cdv:Value) (A:Around) (outer:List Env) (s:Shared) (H:Hp) (E:XK),Room k (A.deeper (PyProof.Rows.envOfC qual (am st) s.heap.objs.size f cdv))->cK (jD P w K mg base N qual st f cdv A outer s H E) (aH st) t) :
  sw P w K mg base (k+1) f fd ps (hZ N.length t):=by
 obtain⟨oc,od,kV,doc,pm,an,cdv,ct,osl,rfl,lk,hcd⟩:=F.ex
 refine⟨pW lk hcd S (fun vs H Q E h=>h.1) fun A outer s H vs Q E hr ⟨hl,ps',S',Q3,E3,rv,rS,q,kk,kx⟩=>⟨_,(hbody cdv A outer s H E hr).ok,aC N.length ps',S',_,gy rv,rS,q,?_,fun σ3 S2 σ2 H2 h2 _ yE g2=>kk _ S2 _ H2 h2 .non yE g2,kk,fun _ _ _ _ h2=>h2.elim,fun _ _ _ _ h2=>h2.elim⟩⟩
 exact fun c ks ps2 σ3 S2 H2 pins σ s' a C dx od Aa h1 h2 h3 h4 h5 h6 h7 h8 I xa=>k8 I xa (kx c ks ps2 S2 H2 C dx od Aa h1 h2 h3 h4 h5 h6 h8)
end
structure sx (K:Vo) (mg:Vr) (x qual:Str) (st:Stmt) (ps ks:Vs) (C f:Addr) (fd:FuncData):Prop where
 F:Ae K "__init__" qual st f fd
 b:Binds K fd ps []
 cn:xL K x C
 m:mg x=some (.ref C)
 ek:ExcK K C
 en:∀k∈ks,NoAttr K C k
 hi:PySem.W.findIn K (.ref C) "__init__" = some (some (.ref f))
 hf:PySem.W.isFn K (.ref f)=true
 kp:PySem.W.keepIn K (.ref C)=true
def bW(c:Str)(ks:Vs)(ts:List aD):bj:=fun D σ S=>bG ts σ S (fun ps S1=>D.ex (.exc c ks ps) σ S1) D.ex
section
variable {X:Cx} {e:Expr} {es:List Expr} {ts:List aD} {x qual:Str} {st:Stmt} {p pos cpos:Pos} {f C:Addr} {fd:FuncData} {ps ks:Vs}
def pp(T:sx X.K X.mg x qual st ps ks C f fd)(F:cG X.prog X.w X.K X.mg X.base j2 1 f fd ps (gX X.K C ks))(hps:ps.length=ks.length+1)(hr:Room 2 X.A)(zt:X.calm=true)(hg:Gl X x)(he:starEach (e::es) X.env=(false,eval e X.env)::starEach es X.env)(ha:eW X (e::es) ts)
  (hl:ts.length=ks.length:=by rfl) (hks:ks.length<=1000:=by exact Nat.le_of_ble_eq_true rfl) (hdb:(x == ("__debug__":Str))=false:=by decide) (hpl:(backTo cpos (starEach es X.env)).any (·.1)=false:=by rfl) :
  iB X (.Raise (some (.Call (.Name x p) (e::es) [] cpos)) none pos) (bW x ks ts):=
 ⟨bF (mx F hps hks T.ek T.en T.hi T.hf T.kp hr zt hg T.m T.b ha.ok hdb he hpl) fun D σ H ⟨σ3,S,D3,rσ,rS,h,xo,n,r,bk,ct⟩=>aY rσ rS h xo fun ps' S' vs H' hl' q rv yy g=>
  ⟨by rw[rv.length,hl',hl],fun pins dx od hdx s' a C' DC e3 e4 I xa=>by
   cases e3;cases e4
   exact xo x ks ps' σ3 S' _ pins σ s' a C dx od vs q T.cn (by rw[rv.length,hl',hl]) ag (rv.mono (.new hdx)) (yy.other hdx) (rσ.mono (g.trans (.new hdx))) (g.trans (.new hdx)) I xa⟩⟩
end
noncomputable abbrev qk(D:eK)(i:Nat):eK:={ nx:=fun σ S=>D.nx (σ.set i none) S,rt:=D.rt,ex:=fN,bk:=fun σ S=>D.bk (σ.set i none) S,ct:=fun σ S=>D.ct (σ.set i none) S }
def pq(cs:Vs)(i:Nat)(tb th:bj):bj:=fun D σ S=>tb { D with ex:=fun p σ' S'=>match p with | .exc c _ _=>cs.contains c=true/\th (qk D i) (σ'.set i (some p)) S'|_=>False } σ S
def xu.unset{K:Vo}{H:Hp}{σ:L2.St}{σ3:bq}(r:xu K H σ σ3)(i:Nat):xu K H (σ.set i none) (σ3.set i none):=by
 refine⟨by rw[List.length_set,List.length_set,r.len],fun j x e=>?_⟩
 rw[List.getElem?_set]at e ⊢
 split at e
 ·split at e
  ·cases e
  ·cases e
 ·rename_i hij
  rw[if_neg hij]
  exact r.at' j x e
theorem Ax.unset{K:Vo}{H:Hp}{N3:bq->au->Prop}{N:L2.St->Hp->Prop}(n:Ax K H N3 N)(i:Nat):Ax K H (fun σ S=>N3 (σ.set i none) S) (fun σ H=>N (σ.set i none) H):=fun σ3 S' σ H' h1 h2 h3 h4=>n _ S' _ H' h1 (h2.unset i) h3 h4
noncomputable def zH(K:Vo)(Dc:Addr):List Str->Prop
 |[]=>True
 |c::r=>(∃C,xL K c C/\PySem.W.mroIn K C (.ref Dc)=some true)/\zH K Dc r
def xL.inj{K:Vo}{c:Str}{C D:Addr}(h1:xL K c C)(h2:xL K c D):C=D:=by
 have e:=(show PySem.W.nsIn K mainGlobals c=some (some (.ref C))from h1).symm.trans h2
 injection e with e;injection e with e;injection e
theorem zH.at_{K:Vo}{Dc:Addr}:∀{cs:Vs} {c:Str} {C:Addr},zH K Dc cs->cs.contains c=true->xL K c C->PySem.W.mroIn K C (.ref Dc)=some true
 |[],_,_,_,h,_=>by simp at h
 |d::r,c,C,⟨⟨D,h1,h2⟩,h3⟩,h,hc=>by
  rw[List.contains_cons,Bool.or_eq_true]at h
  rcases h with h|h
  ·cases beq_iff_eq.mp h;rw[hc.inj h1];exact h2
  ·exact zH.at_ h3 h hc
section
variable {X:Cx} {body suite:List Stmt} {b₀:Stmt} {n x:Str} {i:Nat} {np hpos pos:Pos} {tb th:bj} {Dc:Addr} {cs:Vs}
def uT(hst:X.stack=X.env::X.outer)(Aj:X.env.frame=some X.env.locals)(hN:X.N.Nodup)(hi:X.N[i]?=some n)(hk:X.env.scope.names.lookup n=some .local)(hg:Gl X x)(hm:X.mg x=some (.ref Dc))(hD:rL X.K Dc)(hcs:zH X.K Dc cs)
  (hb:∀E pins,PassesOwn (model X.prog X.w) X.A X.env E->cK (X.tr E pins) body tb) (hs:∀a,cK (X.zq a) (b₀::suite) th) (hdb:(x == ("__debug__":Str))=false:=by decide) :
  iB X (.Try body [.ExceptHandler (some (.Name x np)) (some n) (b₀::suite) hpos] [] [] pos) (pq cs i tb th):=
 ⟨bF (rN (tb:=fun E pins=>LS (X.tr E pins) tb) fun E pins hp=>(hb E pins hp).ok) fun D σ H ⟨σ3,S,D3,rσ,rS,h,xo,nx,rt,bk,ct⟩ pins=>
  ⟨σ3,S,_,rσ,rS,h,fun c ks ps DE S' H' pins' σ' s' a C dx od vs h1 h2 h3 h4 h5 h6 h7 h8 I xa=>by
   have fa:H' a=none:=by obtain⟨_,_,_,_,_,f,_⟩:=xa;exact f.1
   have DF:dx≠a:=aA h4 fa
   refine rM hst Aj hN hi hk hg hm hD (fun a=>(hs a).ok) I xa (hcs.at_ h1.1 h2) (fun oe o1 o2 o3=>?_) hdb
   have gr:Grow X.K H' (upd H' a (.frz oe (.ext fun _=>True))):=.new fa
   exact⟨DE.set i (some (.exc c ks ps)),S',qk D3 i,(h7.mono gr).set (.exc h2 ⟨oe,dx,od,ag,o1,o2,o3,by rw[ae DF];exact h4⟩ (h5.mono gr)) i,h6.other fa,h1.2,.no,
    (nx.mono (h8.trans gr)).unset i,rt.mono (h8.trans gr),(bk.mono (h8.trans gr)).unset i,(ct.mono (h8.trans gr)).unset i⟩,nx,rt,bk,ct⟩⟩
end
theorem iO{K:Vo}{H:Hp}{f:Str}{p:PV}:∀{ks:Vs} {vs:List V} {ps:List PV},Reps K H vs ps->(ks.zip ps).lookup f=some p->∃v,(ks.zip vs).lookup f=some v/\Rep K H v p
 |[],_,_,_,e=>by simp at e
 |_::_,_,_,.nil,e=>by simp at e
 |k::ks,_,_,.cons a r,e=>by
  rw[List.zip_cons_cons,List.lookup_cons]at e ⊢
  split at e
  ·cases e;exact⟨_,rfl,a⟩
  ·exact iO r e
noncomputable def yX(K:Vo):List (Str×Str)->Prop
 |[]=>True
 |(c,f)::r=>(∃C,xL K c C/\ExcK K C/\NoAttr K C f)/\yX K r
theorem yX.at_{K:Vo}:∀{l:List (Str×Str)} {c f:Str} {C:Addr},yX K l->l.contains (c,f)=true->xL K c C->ExcK K C/\NoAttr K C f
 |[],_,_,_,_,h,_=>by simp at h
 |(d,g)::r,c,f,C,⟨⟨D,h1,h2,h3⟩,h4⟩,h,hc=>by
  rw[List.contains_cons,Bool.or_eq_true]at h
  rcases h with h|h
  ·cases beq_iff_eq.mp h;rw[hc.inj h1];exact⟨h2,h3⟩
  ·exact yX.at_ h4 h hc
def gC(l:List (Str×Str))(f:Str)(te:aD):aD:=fun σ S Q E=>te σ S (fun p S1=>match p with | .exc c ks ps=>l.contains (c,f)=true/\(match (ks.zip ps).lookup f with|some v=>Q v S1|none=>False)|_=>False) E
def dO{X:Cx}{pins:Va}{σ:L2.St}{H:Hp}{s:Shared}{a C:Addr}{ks:Vs}{vs:List V}(I:Inv X pins σ H s)(h:Bv H a C ks vs):∃(oe od:Obj) (mA:Vr),PySem.W.InstAt s.heap a oe C (some od)/\(∀name,PySem.W.lookIn name od=some (mA name))/\∀f,yF ((ks.zip vs).lookup f) (mA f):=by
 obtain⟨oe,dx,od,h1,h2,h3,h4,h5⟩:=h
 have g1:=(show xv X.prog X.w H s.heap a (.frz oe (.ext fun _=>True))from I.hok a _ h1).1
 have g2:=(show xv X.prog X.w H s.heap dx (.frz od (.ext (XD dx (ks.zip vs))))from I.hok dx _ h5)
 obtain⟨g3,⟨mA,m1,m2,m3⟩,_⟩:=g2
 obtain⟨od',e1,hl⟩:=kL m1
 rw[g3]at e1;cases e1
 exact⟨oe,od,mA,⟨g1,h2,by obtain⟨p1,p2,p3,p4⟩:=oe;cases p3<;>first|rfl|exact absurd rfl (h4 _),by rw[h3];exact g3⟩,hl,m2⟩
section
variable {X:Cx} {e:Expr} {te:aD} {f:Str} {pos:Pos} {l:List (Str×Str)}
def mY(hl:yX X.K l)(he:aF X e te)(hb:attributeBase e f X.env (eval e X.env)=eval e X.env):aF X (.Attribute e f pos) (gC l f te):=
 ⟨fun pins s σ H Q I ⟨σ3,S,Q3,E3,rσ,rS,h,xo,k⟩=>by
  refine oB hb (aL (he.ok pins s σ H (fun v H1=>∃p S1,Rep X.K H1 v p/\xm X.K H1 S1/\Grow X.K H H1/\(match p with | .exc c ks ps=>l.contains (c,f)=true/\(match (ks.zip ps).lookup f with|some v=>Q3 v S1|none=>False)|_=>False)) I ⟨σ3,S,_,E3,rσ,rS,h,xo,fun p S1 v H1 h1 rv xx g1=>⟨p,S1,rv,xx,g1,h1⟩⟩) fun u s1 ⟨v,H1,I1,rv,p,S1,rp,xx,g1,q⟩=>?_)
  split at q
  ·rename_i c ks ps
   obtain⟨q1,q2⟩:=q
   split at q2
   ·rename_i p' hp'
    cases rp with
    |exc hn hx rs=>
     cases rv
     obtain⟨ek,na⟩:=hl.at_ q1 hn
     obtain⟨oe,od,mA,J,hlk,rel⟩:=dO I1 hx
     obtain⟨v',hv',DG⟩:=iO rs hp'
     obtain⟨u,hu,ru⟩:=yF.some_of (v:=v') (o:=mA f) (by rw[<-hv'];exact rel f)
     exact oW I1.y9 J ek (PySem.W.findObj_own ek.dict na rfl (by rw[hlk,hu])) (kM ru) ⟨v',H1,I1.tok _,ru,k _ S1 _ H1 q2 DG xx g1⟩
   ·exact q2.elim
  ·exact q.elim⟩
def uU{x:Str}{C:Addr}(hg:Gl X x)(hm:X.mg x=some (.ref C))(hc:xL X.K x C)(hd:(x == ("__debug__":Str))=false:=by decide):aF X (.Name x pos) (c3 (.cls x)):=
 ⟨ax (jS (v:=.ref C) hg hm rfl hd) fun σ H Q ⟨σ3,S,Q3,E3,rσ,rS,h,xo,k⟩=>k _ S _ H h (.cls hc) rS .refl⟩
end
noncomputable def XTab(K:Vo):List (Str×Str×Bool)->Prop
 |[]=>True
 |(c,d,b)::r=>(∃C D,xL K c C/\xL K d D/\ExcK K C/\PySem.W.kitOne K (.ref C) (.ref D)=some b/\PySem.W.kitOne K (.ref C) (.type "ValueError")=some true)/\XTab K r
noncomputable def fE(c d:Str):List (Str×Str×Bool)->Option Bool
 |[]=>none
 |(c',d',b)::r=>if c=c'/\d=d' then some b else fE c d r
theorem XTab.at_{K:Vo}:∀{l:List (Str×Str×Bool)} {c d:Str} {b:Bool} {C D:Addr},XTab K l->fE c d l=some b->xL K c C->xL K d D->ExcK K C/\PySem.W.kitOne K (.ref C) (.ref D)=some b
 |[],_,_,_,_,_,_,h,_,_=>by cases h
 |(c',d',b')::r,c,d,b,C,D,⟨⟨C',D',h1,h2,h3,h4,h5⟩,h6⟩,h,hc,hd=>by
  unfold fE at h
  split at h
  ·rename_i e
   obtain⟨rfl,rfl⟩:=e
   cases h
   rw[hc.inj h1,hd.inj h2]
   exact⟨h3,h4⟩
  ·exact XTab.at_ h6 h hc hd
theorem XTab.ve{K:Vo}:∀{l:List (Str×Str×Bool)} {c:Str} {C:Addr},XTab K l->l.any (fun t=>t.1 == c)=true->xL K c C->ExcK K C/\PySem.W.kitOne K (.ref C) (.type "ValueError")=some true
 |[],_,_,_,h,_=>by simp at h
 |(c',d',b')::r,c,C,⟨⟨C',D',h1,h2,h3,h4,h5⟩,h6⟩,h,hc=>by
  rw[List.any_cons,Bool.or_eq_true]at h
  rcases h with h|h
  ·have e:c'=c:=beq_iff_eq.mp h
   subst e
   rw[hc.inj h1]
   exact⟨h3,h5⟩
  ·exact XTab.ve h6 h hc
noncomputable def lr(l:List (Str×Str×Bool))(c:Str):List PV->Option Bool
 |[]=>some false
 | .cls d::r=>(match fE c d l with|some true=>some true|some false=>lr l c r|none=>none)
 |_::_=>none
def fF(l:List (Str×Str×Bool)):g6:=fun ps S Q=>match ps with
 |[.exc c _ _,.cls d]=>(match fE c d l with|some b=>Q (.bl b) S|none=>False)
 |[.exc c _ _,.ty n]=>n = "ValueError"/\l.any (fun t=>t.1 == c)=true/\Q (.bl true) S
 |[.exc c _ _,.tup ds]=>l.any (fun t=>t.1 == c)=true/\(match lr l c ds with|some b=>Q (.bl b) S|none=>False)
 |_=>False
theorem zw{K:Vo}{H:Hp}{l:List (Str×Str×Bool)}{c:Str}{C:Addr}(T:XTab K l)(hc:xL K c C):∀{ds:List PV} {b:Bool} {vs:List V} {its:Vv},lr l c ds=some b->Reps K H vs ds->Vals vs its->PySem.W.kitAny K (.ref C) its=some b
 |[],b,_,_,h,.nil,.nil=>h
 |p::ds,b,_,_,h,.cons a rs,r=>by
  cases p with
  |cls d=>
   cases a with
   |@cls D _ hd=>
    cases r with
    |@cons _ u _ us r1 r2=>
     cases (show u=Value.ref D from r1)
     show(match PySem.W.kitOne K (.ref C) (.ref D)with|some true=>some true|some false=>PySem.W.kitAny K (.ref C) us|none=>none)=_
     unfold lr at h
     split at h
     ·rename_i e;rw[(T.at_ e hc hd).2];exact h
     ·rename_i e;rw[(T.at_ e hc hd).2];exact zw T hc h rs r2
     ·cases h
  |_=>cases h
def jE{X:Cx}{l:List (Str×Str×Bool)}(T:XTab X.K l):bH X (.builtin "isinstance") (fF l):=⟨fun pins s σ H xs us Q I r ⟨ps,S,Q3,rp,rS,q,k⟩=>by
 unfold fF at q
 split at q
 ·rename_i c ks as d
  split at q
  ·rename_i b hb
   cases rp with
   |cons a rr=>
    cases rr with
    |cons b' r3=>
     cases r3
     cases r with
     |cons r1 r2=>
      cases r2 with
      |cons r4 r5=>
       cases r5
       cases a with
       |exc hn hx rs=>
        cases b' with
        |cls hd=>
         cases r1;cases r4
         obtain⟨ek,e⟩:=T.at_ hb hn hd
         obtain⟨oe,od,mA,J,_,_⟩:=dO I hx
         exact PySem.W.kia_one (fo ek) I.y9 J e (fun z=>nomatch z) fun tk=>⟨.bl _,H,I.tok _,rfl,k _ S _ H q (.bl _) rS .refl⟩
  ·exact q.elim
 ·rename_i c ks as n
  obtain⟨rfl,q1,q2⟩:=q
  cases rp with
  |cons a rr=>
   cases rr with
   |cons b' r3=>
    cases r3
    cases r with
    |cons r1 r2=>
     cases r2 with
     |cons r4 r5=>
      cases r5
      cases a with
      |exc hn hx rs=>
       cases b'
       cases r1;cases r4
       obtain⟨ek,e⟩:=T.ve q1 hn
       obtain⟨oe,od,mA,J,_,_⟩:=dO I hx
       exact PySem.W.kia_one (fo ek) I.y9 J e (fun z=>nomatch z) fun tk=>⟨.bl _,H,I.tok _,rfl,k _ S _ H q2 (.bl _) rS .refl⟩
 ·rename_i c ks as ds
  obtain⟨q1,q⟩:=q
  split at q
  ·rename_i b hb
   cases rp with
   |cons a rr=>
    cases rr with
    |cons b' r3=>
     cases r3
     cases r with
     |cons r1 r2=>
      cases r2 with
      |cons r4 r5=>
       cases r5
       cases a with
       |exc hn hx rs=>
        cases b' with
        |tup h1 DH=>
         cases r1;cases r4
         obtain⟨ek,_⟩:=T.ve q1 hn
         obtain⟨oe,od,mA,J,_,_⟩:=dO I hx
         obtain⟨its,rv,⟨⟨oc,odd,Ch,osl⟩,ho,hc,n,hd⟩,_⟩:=I.tuple h1
         simp only at hc hd
         subst hc hd
         exact PySem.W.kia_tup (fo ek) I.y9 J ho (zw T hn hb DH rv) (fun z=>nomatch z) fun tk=>⟨.bl _,H,I.tok _,rfl,k _ S _ H q (.bl _) rS .refl⟩
  ·exact q.elim
 ·exact q.elim⟩
noncomputable def pr(s:Stmt):List Stmt:=match s with
 | .ClassDef _ _ _ body _ _ _ _ _ _ _=>body
 |_=>[]
section
variable {P:Program} {w:World} {K:Vo} {mg:Vr} {base:Heap} {N:Vs} {qual:Str} {st:Stmt} {f:Addr} {cdv:Value} {A:Around} {outer:List Env} {s:Shared} {H:Hp} {E:XK}
def wW:PassesOwn (model (jD P w K mg base N qual st f cdv A outer s H E).prog (jD P w K mg base N qual st f cdv A outer s H E).w) (jD P w K mg base N qual st f cdv A outer s H E).A (jD P w K mg base N qual st f cdv A outer s H E).env (jD P w K mg base N qual st f cdv A outer s H E).xe:=PassesOwn.leaving
end
end L3
namespace L3
open PySem L2
end L3
namespace CX
open PySem L2 L3
end CX
namespace L2
open PySem PySem.Spec PyProof.Rows Xc
end L2
namespace L3
open PySem L2 Xc
section
variable {P:Program} {w:World} {K:Vo} {mg:Vr} {base:Heap}
structure cp (K:Vo) (mg:Vr) (x:Str) (st:Stmt) (ps:Vs):Prop where
 ex:∃f fd,vB K mg x st ps f fd
structure i9 (P:Program) (w:World) (K:Vo) (mg:Vr) (base:Heap) (k:Nat) (x:Str) (n:Nat) (sp:aP):Prop where
 ex:∃f fd ps,ps.length=n/\tK P w K mg base k f fd ps sp/\mg x=some (.ref f)/\PySem.W.keepIn K (.ref f)=true/\Binds K fd ps []
structure uV (P:Program) (w:World) (K:Vo) (mg:Vr) (base:Heap) (k:Nat) (x:Str) (n:Nat) (sp:aP):Prop where
 ex:∃f fd ps,ps.length=n/\sw P w K mg base k f fd ps sp/\mg x=some (.ref f)/\PySem.W.keepIn K (.ref f)=true/\Binds K fd ps []
def ls{x:Str}{st:Stmt}{ps:Vs}{k n:Nat}{t:bj}{sp:aP}(N:Vs)(O:cp K mg x st ps)
  (hbody:∀(f:Addr) (cdv:Value) (A:Around) (outer:List Env) (s:Shared) (H:Hp) (E:XK),Room k (A.deeper (PyProof.Rows.envOfC x (am st) s.heap.objs.size f cdv))->N.Nodup->cK (wj P w K mg base N x st f cdv A outer s H E) (aH st) t) (e:sp=df N.length t)
  (hn:ps.length=n:=by rfl) (S:bi N ps (am st):=by exact⟨rfl,rfl,rfl,by decide +kernel,rfl,by decide +kernel,by decide +kernel⟩):i9 P w K mg base (k+1) x n sp:=by
 subst e
 obtain⟨f,fd,o⟩:=O.ex
 exact⟨f,fd,ps,hn,wG o.F S fun cdv A outer s H E hr=>hbody f cdv A outer s H E hr S.nd,o.m,o.k,o.b⟩
def wo{x:Str}{st:Stmt}{ps:Vs}{k n:Nat}{t:bj}{sp:aP}(N:Vs)(O:cp K mg x st ps)
  (hbody:∀(f:Addr) (cdv:Value) (A:Around) (outer:List Env) (s:Shared) (H:Hp) (E:XK),Room k (A.deeper (PyProof.Rows.envOfC x (am st) s.heap.objs.size f cdv))->N.Nodup->cK (jD P w K mg base N x st f cdv A outer s H E) (aH st) t) (e:sp=hZ N.length t)
  (hn:ps.length=n:=by rfl) (S:bi N ps (am st):=by exact⟨rfl,rfl,rfl,by decide +kernel,rfl,by decide +kernel,by decide +kernel⟩):uV P w K mg base (k+1) x n sp:=by
 subst e
 obtain⟨f,fd,o⟩:=O.ex
 exact⟨f,fd,ps,hn,wn o.F S fun cdv A outer s H E hr=>hbody f cdv A outer s H E hr S.nd,o.m,o.k,o.b⟩
def wX{x:Str}{st:Stmt}{ps:Vs}{k:Nat}{t:bj}{sp:aP}{f:Addr}{fd:FuncData}(N:Vs)(o:vB K mg x st ps f fd)
  (hbody:∀(f:Addr) (cdv:Value) (A:Around) (outer:List Env) (s:Shared) (H:Hp) (E:XK),Room k (A.deeper (PyProof.Rows.envOfC x (am st) s.heap.objs.size f cdv))->N.Nodup->cK (wj P w K mg base N x st f cdv A outer s H E) (aH st) t) (e:sp=df N.length t)
  (S:bi N ps (am st):=by exact⟨rfl,rfl,rfl,by decide +kernel,rfl,by decide +kernel,by decide +kernel⟩):tK P w K mg base (k+1) f fd ps sp:=by
 subst e
 exact wG o.F S fun cdv A outer s H E hr=>hbody f cdv A outer s H E hr S.nd
end
section
variable {X:Cx} {a b e o:Expr} {es:List Expr} {ta tb te to:aD} {ts:List aD} {x c m f:Str} {p pos apos cpos:Pos} {j k n:Nat} {sp:aP}
def c4(O:i9 X.prog X.w X.K X.mg X.base k x n sp)(hr:Room j X.A)(ha:eW X (e::es) ts)(hj:k<=j:=by omega)(hl:ts.length=n:=by rfl)(hg:Gl X x:=by rfl)(he:starEach (e::es) X.env=(false,eval e X.env)::starEach es X.env:=by rfl)(hdb:(x == ("__debug__":Str))=false:=by decide)(hpl:(backTo pos (starEach es X.env)).any (·.1)=false:=by rfl) :
  aF X (.Call (.Name x p) (e::es) [] pos) (av sp ts):=by
 obtain⟨f,fd,ps,hn,F,h1,h2,h3⟩:=O.ex
 exact sj F (hr.mono hj) hg h1 h2 h3 he ha (hl.trans hn.symm) hdb hpl
def wY(O:i9 X.prog X.w X.K X.mg X.base k x 0 sp)(hr:Room j X.A)(hj:k<=j:=by omega)(hg:Gl X x:=by rfl)(hdb:(x == ("__debug__":Str))=false:=by decide):aF X (.Call (.Name x p) [] [] pos) (av sp []):=by
 obtain⟨f,fd,ps,hn,F,h1,h2,h3⟩:=O.ex
 obtain rfl:=List.length_eq_zero_iff.mp hn
 exact pj F (hr.mono hj) hg h1 h2 h3 hdb
def cX(O:uV X.prog X.w X.K X.mg X.base k x n sp)(hr:Room j X.A)(ha:eW X (e::es) ts)(hj:k<=j:=by omega)(hl:ts.length=n:=by rfl)(hg:Gl X x:=by rfl)(he:starEach (e::es) X.env=(false,eval e X.env)::starEach es X.env:=by rfl)(hdb:(x == ("__debug__":Str))=false:=by decide)(hpl:(backTo pos (starEach es X.env)).any (·.1)=false:=by rfl) :
  aF X (.Call (.Name x p) (e::es) [] pos) (bu sp ts):=by
 obtain⟨f,fd,ps,hn,F,h1,h2,h3⟩:=O.ex
 exact pk F (hr.mono hj) hg h1 h2 h3 he ha (hl.trans hn.symm) hdb hpl
def cB{id:String}{r:g6}(hc:bH X (.builtin id) r)(hm:X.mg x=none)(ha:eW X (e::es) ts)(hg:Gl X x:=by rfl)(hv:bootBuiltins x=some (.builtin id):=by decide +kernel)(he:starEach (e::es) X.env=(false,eval e X.env)::starEach es X.env:=by rfl)
  (hnn:x ≠ "__name__":=by decide) (hdb:(x == ("__debug__":Str))=false:=by decide) (hpl:(backTo pos (starEach es X.env)).any (·.1)=false:=by rfl):aF X (.Call (.Name x p) (e::es) [] pos) (aj r ts):=o7 hc hg hm hv he ha hnn hdb hpl
def cT{id:String}{r:g6}(hc:bH X (.type id) r)(hm:X.mg x=none)(ha:eW X (e::es) ts)(hg:Gl X x:=by rfl)(hv:bootBuiltins x=some (.type id):=by decide +kernel)(he:starEach (e::es) X.env=(false,eval e X.env)::starEach es X.env:=by rfl)
  (hnn:x ≠ "__name__":=by decide) (hdb:(x == ("__debug__":Str))=false:=by decide) (hpl:(backTo pos (starEach es X.env)).any (·.1)=false:=by rfl):aF X (.Call (.Name x p) (e::es) [] pos) (aj r ts):=o8 hc hg hm hv he ha hnn hdb hpl
def lc{r:List Expr}(ha:aF X a ta)(hr:eW X r ts)(hs:starEach (a::r) X.env=(false,eval a X.env)::starEach r X.env:=by rfl):eW X (a::r) (ta::ts):=mC hs ha hr
def l1(ha:aF X a ta)(hs:starEach [a] X.env=(false,eval a X.env)::starEach [] X.env:=by rfl):eW X [a] [ta]:=mC hs ha j7
def i_{i:Int}{q:Nat}{p2:Pos}(hr:Room j X.A)(ha:aF X a ta)(hs:eV (.Constant (.int i) q p2):=by exact fun _ _=>rfl):aF X (.Subscript a (.Constant (.int i) q p2) pos) (ap aI ta (c3 (.int i))):=uI (wF (uS hr)) ha ac hs
def h_(hr:Room j X.A)(ha:aF X a ta)(hb:aF X b tb)(hs:eV b:=by exact fun _ _=>rfl):aF X (.Subscript a b pos) (ap aI ta tb):=uI (wF (uS hr)) ha hb hs
def pw(hr:Room j X.A)(ha:aF X a ta)(hb:aF X b tb):j5 X (.Compare a [.Eq] [b] pos) (b7 (ap (dI false) ta tb)):=b8 (mH (cP hr)) ha hb (aO _)
def ql(hr:Room j X.A)(ha:aF X a ta)(hb:aF X b tb):j5 X (.Compare a [.NotEq] [b] pos) (b7 (ap (dI true) ta tb)):=b8 (qf (cP hr)) ha hb (aO _)
def s4(i:Nat){pos':Pos}(nd:X.N.Nodup)(he:aF X e te)(hi:X.N[i]?=some x:=by rfl)(hx:pR X.env.scope x:=by first|exact Or.inl rfl|exact Or.inr rfl)(hs:swapsWith e (some (.Name x pos')) pos.line X.env=pure false:=by rfl)
  (hf:X.fn x=true\/X.env.scope.names.lookup x=some .local:=by first|exact .inl rfl|exact .inr rfl|assumption):iB X (.Assign [.Name x pos'] e pos) (az i te):=uO nd hi hx he hs hf
def gn(i:Nat)(nd:X.N.Nodup)(hi:X.N[i]?=some x:=by rfl)(hx:pR X.env.scope x:=by first|exact Or.inl rfl|exact Or.inr rfl)(hf:X.fn x=true\/X.env.scope.names.lookup x=some .local:=by first|exact .inl rfl|exact .inr rfl|assumption):pc X (.Name x pos) (.n i):=wU i nd hi hx hf
def wZ{z:Str}(h:∃t,X.mg x=some (.str z t))(hg:Gl X x:=by rfl)(hd:(x == ("__debug__":Str))=false:=by decide):aF X (.Name x pos) (c3 (.str z)):=let ⟨_,h1⟩:=h;rQ hg h1 hd
end
structure sy (T:String) (name:Str) (id:String):Prop where
 pa:PlainAttrs T
 slot:Slot T name id
 ty:typeOf (.builtin id)=pure (.type "method_descriptor")
section
variable {X:Cx} {e o:Expr} {es:List Expr} {to:aD} {ts:List aD} {name:Str} {T id:String} {p pos apos cpos:Pos} {r:mO}
def eu:sy "list" "append" "list.append":=⟨PySem.F.plainAttrs_list,PySem.F.slot_list_append,PySem.F.type_list_append⟩
def sA:sy "list" "pop" "list.pop":=⟨PySem.F.plainAttrs_list,PySem.F.slot_list_pop,PySem.F.type_list_pop⟩
def qm(k:sy T name id)(hm:pb X id r)(ho:aF X o to)(ha:eW X (e::es) ts)(hs:starEach (e::es) X.env=(false,eval e X.env)::starEach es X.env:=by rfl)
  (hbase:attributeBase o name X.env (eval o X.env)=eval o X.env:=by rfl)
  (hfew:((backTo cpos (starEach (e::es) X.env)).all (fun x=>!x.1)&&(backToKw cpos (keywordEach [] X.env)).all (fun x=>x.1.isSome)
   && decide ((e::es).length+([]:List Keyword).length+(if ([]:List Keyword).isEmpty then 0 else 1) < 30))=true:=by rfl)
  (hline:(apos.endLine == cpos.line)=true:=by rfl) (hplain:(backTo cpos (starEach es X.env)).any (·.1)=false:=by rfl):aF X (.Call (.Attribute o name apos) (e::es) [] cpos) (i8 T r to ts):=wd k.pa k.slot k.ty hm hs ho ha hbase hfew hline hplain
def wq(k:sy T name id)(hm:pb X id r)(ho:aF X o to)
  (hbase:attributeBase o name X.env (eval o X.env)=eval o X.env:=by rfl) (hline:(apos.endLine == cpos.line)=true:=by rfl):aF X (.Call (.Attribute o name apos) [] [] cpos) (i8 T r to []):=uM k.pa k.slot k.ty hm ho hbase hline
end
section
variable {X:Cx} {tg iter elt:Expr} {ifs:List Expr} {scope:Scope} {pos:Pos} {ti:mV} {g:Tg} {tc:fq} {te:aD}
def wt(fs:Vs)(own:Nat)(fr:List Nat)(N:Vs)(hi:pe X tg iter ti)(hg:∀B,pc (X.yx N scope fs B) tg g)(hf:∀B,tJ (X.yx N scope fs B) ifs tc)(he:∀B,aF (X.yx N scope fs B) elt te)
  (Ai:g.under own=true:=by rfl) (hc:X.calm=true:=by rfl) (hclos:closureFor scope X.env=pure (bg X.env fs):=by rfl) (hcell:∀y∈scope.names,y.2 ≠ .cell:=by decide +kernel) (hkind:scope.kind = .function:=by rfl)
  (hnames:∀x∈scope.names,x.2 = .local->scope.names.lookup x.1=some .local:=by decide +kernel) (hcl:aZ X.env fs:=by repeat' first|exact trivial|exact⟨_,rfl⟩|constructor) (hhas:hasB (relabel scope X.env).names (bg X.env fs)=true:=by rfl)
  (hlen:N.length=own+fr.length:=by rfl) (hN:(N.drop own).map some=fr.map (fun j=>X.N[j]?):=by rfl) (hF:xK X.env scope (bg X.env fs) (N.drop own):=by repeat' first|exact trivial|exact .inl rfl|exact .inr rfl|exact rfl|apply And.intro)
  (hs:∀x,foldedSetIterable iter X.env x=pure x:=by intro _;rfl):aF X (.ListComp elt [⟨tg,iter,ifs,0⟩] scope pos) (cy ti g tc te own fr):=sh fs own fr N Ai hc hclos hcell hkind hnames hcl hhas hlen hN hF hi hg hf he hs
def w4(fs:Vs)(own:Nat)(fr:List Nat)(N:Vs)(i:Nat){y:Str}{py spos:Pos}(hX:X.N.Nodup)(hi:pe X tg iter ti)(hg:∀B,pc (X.yx N scope fs B) tg g)(hf:∀B,tJ (X.yx N scope fs B) ifs tc)(he:∀B,aF (X.yx N scope fs B) elt te)
  (hix:X.N[i]?=some y:=by rfl) (hy:X.env.scope.names.lookup y=some .local:=by rfl) (hsw:swapsWith (.ListComp elt [⟨tg,iter,ifs,0⟩] scope pos) (some (.Name y py)) spos.line X.env=pure true:=by rfl)
  (Ai:g.under own=true:=by rfl) (hc:X.calm=true:=by rfl) (hclos:closureFor scope X.env=pure (bg X.env fs):=by rfl) (hcell:∀y∈scope.names,y.2 ≠ .cell:=by decide +kernel) (hkind:scope.kind = .function:=by rfl)
  (hnames:∀x∈scope.names,x.2 = .local->scope.names.lookup x.1=some .local:=by decide +kernel) (hcl:aZ X.env fs:=by repeat' first|exact trivial|exact⟨_,rfl⟩|constructor) (hhas:hasB (relabel scope X.env).names (bg X.env fs)=true:=by rfl)
  (hlen:N.length=own+fr.length:=by rfl) (hN:(N.drop own).map some=fr.map (fun j=>X.N[j]?):=by rfl) (hF:xK X.env scope (bg X.env fs) (N.drop own):=by repeat' first|exact trivial|exact .inl rfl|exact .inr rfl|exact rfl|apply And.intro)
  (hs:∀x,foldedSetIterable iter X.env x=pure x:=by intro _;rfl):iB X (.Assign [.Name y py] (.ListComp elt [⟨tg,iter,ifs,0⟩] scope pos) spos) (az i (cy ti g tc te own fr)):=si fs own fr N hX hix hy hsw Ai hc hclos hcell hkind hnames hcl hhas hlen hN hF hi hg hf he hs
end
structure wu (P:Program) (w:World) (K:Vo) (mg:Vr) (base:Heap) (x:Str) (ks:Vs):Prop where
 ex:∃qual st ps C f fd,sx K mg x qual st ps ks C f fd/\cG P w K mg base j2 1 f fd ps (gX K C ks)/\ps.length=ks.length+1
structure wv (K:Vo) (mg:Vr) (x q:Str) (st:Stmt) (ps ks:Vs):Prop where
 ex:∃C f fd,sx K mg x q st ps ks C f fd
structure ww (K:Vo) (mg:Vr) (x:Str) (cs:Vs):Prop where
 ex:∃D,mg x=some (.ref D)/\rL K D/\zH K D cs
structure n_ (K:Vo) (mg:Vr) (x:Str):Prop where
 ex:∃C,mg x=some (.ref C)/\xL K x C
section
variable {P:Program} {w:World} {K:Vo} {mg:Vr} {base:Heap}
def w5{x q k1:Str}{st:Stmt}{ps:Vs}(N:Vs)(h:wv K mg x q st ps [k1])(hp:ps.length=2)
  (hb:∀(f:Addr) (cdv:Value) (A:Around) (outer:List Env) (s:Shared) (H:Hp) (E:XK),zb (du j2 P w K mg base N q (am st) f cdv A outer s H E).AN (aH st) (rH K (kE 0) (kE 1) k1))
  (S:bi N ps (am st):=by exact⟨rfl,rfl,rfl,by decide +kernel,rfl,by decide +kernel,by decide +kernel⟩):wu P w K mg base x [k1]:=by
 obtain⟨C,f,fd,T⟩:=h.ex
 exact⟨q,st,ps,C,f,fd,T,uy T.F S hp (hb f),hp⟩
end
section
variable {X:Cx} {e:Expr} {es:List Expr} {ts:List aD} {x:Str} {p pos cpos:Pos} {ks:Vs} {j:Nat}
def uW(T:wu X.prog X.w X.K X.mg X.base x ks)(hr:Room j X.A)(ha:eW X (e::es) ts)(hj:2<=j:=by omega)(zt:X.calm=true:=by rfl)(hg:Gl X x:=by rfl)(he:starEach (e::es) X.env=(false,eval e X.env)::starEach es X.env:=by rfl)
  (hl:ts.length=ks.length:=by rfl) (hks:ks.length<=1000:=by exact Nat.le_of_ble_eq_true rfl) (hdb:(x == ("__debug__":Str))=false:=by decide) (hpl:(backTo cpos (starEach es X.env)).any (·.1)=false:=by rfl) :
  iB X (.Raise (some (.Call (.Name x p) (e::es) [] cpos)) none pos) (bW x ks ts):=by
 obtain⟨qual,st,ps,C,f,fd,T,F,hp⟩:=T.ex
 exact pp T F hp (hr.mono hj) zt hg he ha hl hks hdb hpl
def sB(h:n_ X.K X.mg x)(hg:Gl X x:=by rfl)(hd:(x == ("__debug__":Str))=false:=by decide):aF X (.Name x pos) (c3 (.cls x)):=let ⟨_,h1,h2⟩:=h.ex;uU hg h1 h2 hd
def wH{n:String}(hm:X.mg x=none)(hg:Gl X x:=by rfl)(hv:bootBuiltins x=some (.type n):=by decide +kernel)(hn:x ≠ "__name__":=by decide)(hd:(x == ("__debug__":Str))=false:=by decide):aF X (.Name x pos) (c3 (.ty n)):=wb hg hm hv hn hd
end
section
variable {X:Cx} {body suite:List Stmt} {b₀:Stmt} {n x:Str} {np hpos pos:Pos} {tb th:bj} {cs:Vs}
def w9(i:Nat)(T:ww X.K X.mg x cs)(hN:X.N.Nodup)(hb:∀E pins,PassesOwn (model X.prog X.w) X.A X.env E->cK (X.tr E pins) body tb)(hs:∀a,cK (X.zq a) (b₀::suite) th)
  (hst:X.stack=X.env::X.outer:=by rfl) (Aj:X.env.frame=some X.env.locals:=by rfl) (hi:X.N[i]?=some n:=by rfl) (hk:X.env.scope.names.lookup n=some .local:=by rfl) (hg:Gl X x:=by rfl) (hdb:(x == ("__debug__":Str))=false:=by decide) :
  iB X (.Try body [.ExceptHandler (some (.Name x np)) (some n) (b₀::suite) hpos] [] [] pos) (pq cs i tb th):=by
 obtain⟨D,h1,h2,h3⟩:=T.ex
 exact uT hst Aj hN hi hk hg h1 h2 h3 hb hs hdb
end
end L3
namespace L2
open PySem PySem.Spec PyProof.Rows
section
variable {X:Cx}
noncomputable def sC:V->List V->Hp->VK->Prop:=fun x vs H Q=>∃z i,x = .str z/\vs=[.int i]/\PadOk i=true/\Q (.str (Txt.zfill z i)) H
def mZ:tx X "str.zfill" sC:=by
 intro pins s σ H x vs v us Q I rx rv h
 obtain⟨z,i,rfl,rfl,hp,q⟩:=h
 obtain⟨t,rfl⟩:=rx
 obtain⟨w,rfl,u,rfl⟩:=b3 rv
 exact call_gives F.slot_str_zfill (typeIs_str _ _ _) F.entry_str_zfill (F.args_str_zfill_2 _ _) (gives_str_zfill z i t u (PadOk.parts hp).1 (PadOk.parts hp).2) (post_val_or_made (fits_zfilled (PadOk.parts hp).2) fun t' k=>⟨.str _,H,I.tok _,⟨_,rfl⟩,q⟩)
noncomputable def pz:V->List V->Hp->VK->Prop:=fun x vs H Q=>∃z y,x = .str z/\vs=[.str y]/\Q (.bl (Txt.startswith z y)) H
def lu:tx X "str.startswith" pz:=by
 intro pins s σ H x vs v us Q I rx rv h
 obtain⟨z,y,rfl,rfl,q⟩:=h
 obtain⟨t,rfl⟩:=rx
 obtain⟨w,rfl,u,rfl⟩:=b3 rv
 exact call_gives F.slot_str_startswith (typeIs_str _ _ _) F.entry_str_startswith (F.args_str_startswith_2 _ _) (gives_str_startswith z y t u) ⟨.bl _,H,I,rfl,q⟩
theorem uX:∀(l:List (Str×Tok)),Vals ((l.map (·.1)).map V.str) (strValues l)
 |[]=>.nil
 |(x,t)::r=>.cons ⟨t,rfl⟩ (uX r)
def m4{prog:Program}{w:World}{A:Around}{E:Vq}{s:Shared}{x y:Str}{t u:Tok}{Q:Vq}(hy:(y.length == 0)=false)(hsz:x.length<=sizeLine)(hsz2:(Txt.split x y).length<=sizeLine)
  (hq:∀(l:List (Str×Tok)) tk,l.map (·.1)=Txt.split x y->Q (.ref s.heap.objs.size) { s with heap:=s.heap.push { cls:=.type "list",data:=.seq (strValues l).toArray },toks:=tk }) :
  wpAny (model prog w) A (call (.builtin "str.split") [.str x t,.str y u]) Q E s:=by
 cases h1:(decide (x.length < y.length) || decide (Builtin.Str.strKind x < Builtin.Str.strKind y))
 ·cases hf:(Builtin.Str.occurrences x y 0 x.length (x.length+1)).isEmpty
  ·have es:Txt.split x y=Builtin.Str.partsBetween x (Builtin.Str.occurrences x y 0 x.length (x.length+1)) y.length:=(if_neg (ne_true_of_eq_false h1)).trans (if_neg (ne_true_of_eq_false hf))
   refine call_meets F.slot_str_split (typeIs_str _ _ _) F.entry_str_split (F.args_str_split_2 _ _) (meets_str_split_sep x y t u h1 hy hf hsz (by rw[<-es];exact hsz2)) ?_
   show wants Q E _ { s with toks:=_,heap:=s.heap.push { cls:=.type "list",data:=.seq (strsFrom s.toks (Builtin.Str.partsBetween x (Builtin.Str.occurrences x y 0 x.length (x.length+1)) y.length)).toArray } }
   rw[strsFrom_eq]
   exact hq _ _ ((numbered_texts _ _).trans es.symm)
  ·exact call_meets F.slot_str_split (typeIs_str _ _ _) F.entry_str_split (F.args_str_split_2 _ _) (meets_str_split_not_found x y t u h1 hy hf)
    (hq [(x,t)] s.toks ((if_neg (ne_true_of_eq_false h1)).trans (if_pos hf)).symm)
 ·exact call_meets F.slot_str_split (typeIs_str _ _ _) F.entry_str_split (F.args_str_split_2 _ _) (meets_str_split_cannot_occur x y t u h1)
   (hq [(x,t)] s.toks (if_pos h1).symm)
noncomputable def sD:V->List V->Hp->VK->Prop:=fun x vs H Q=>∃z y,x = .str z/\vs=[.str y]/\(y.length == 0)=false/\z.length<=sizeLine/\(Txt.split z y).length<=sizeLine/\∀q,H q=none->Q (.ref q) (upd H q (.lst ((Txt.split z y).map V.str)))
def m5:tx X "str.split" sD:=by
 intro pins s σ H x vs v us Q I rx rv h
 obtain⟨z,y,rfl,rfl,hy,h1,h2,q⟩:=h
 obtain⟨t,rfl⟩:=rx
 obtain⟨w,rfl,u,rfl⟩:=b3 rv
 refine m4 hy h1 h2 fun l tk e=>?_
 rw[<-e]at q h2
 refine⟨.ref _,_,I.laid (a:=s.heap.objs.size) (o:=.lst ((l.map (·.1)).map V.str)) (t':=tk) (fun b o e=>Heap.get?_push_of_some _ e) (Nat.le_refl _) ?_,rfl,q _ (I.hok.fresh (Nat.le_refl _))⟩
 exact⟨by rw[List.length_map];exact h2,strValues l,0,uX l,Heap.get?_push_size _ rfl⟩
def lv:cx X (.type "int") (fun xs H Q=>∃z n,xs=[.str z]/\z.length<=640/\PySem.intText? z=some n/\Q (.int n) H):=by
 intro pins s σ H xs us Q I r h
 obtain⟨z,n,rfl,hl,hn,q⟩:=h
 obtain⟨u,rfl,t,rfl⟩:=b3 r
 exact PySem.W.KIN.call_text hn hl ⟨.int n,H,I.tok _,⟨_,rfl⟩,q⟩
end
end L2
namespace L3
open PySem PySem.Spec PyProof.Rows L2
section
variable {X:Cx}
def fG:mO:=fun x ps S Q=>match x,ps with
 | .str z,[.int i]=>PadOk i=true/\Q (.str (Txt.zfill z i)) S
 |_,_=>False
def kf:pb X "str.zfill" fG:=⟨fun pins s σ H x xs v us Q I rx rs ⟨px,ps,S,Q3,r1,rp,rS,q,k⟩=>by
 unfold fG at q
 split at q
 ·cases r1
  cases rp with
  |cons b rr=>cases rr;cases b;exact mZ pins s σ H _ _ v us Q I rx rs ⟨_,_,rfl,rfl,q.1,k _ S _ H q.2 (.str _) rS .refl⟩
 ·exact q.elim⟩
def eZ:mO:=fun x ps S Q=>match x,ps with
 | .str z,[.str y]=>Q (.bl (Txt.startswith z y)) S
 |_,_=>False
def m6:pb X "str.startswith" eZ:=⟨fun pins s σ H x xs v us Q I rx rs ⟨px,ps,S,Q3,r1,rp,rS,q,k⟩=>by
 unfold eZ at q
 split at q
 ·cases r1
  cases rp with
  |cons b rr=>cases rr;cases b;exact lu pins s σ H _ _ v us Q I rx rs ⟨_,_,rfl,rfl,k _ S _ H q (.bl _) rS .refl⟩
 ·exact q.elim⟩
theorem gD{K:Vo}{H:Hp}:∀l:List Str,Reps K H (l.map V.str) (l.map PV.str)
 |[]=>.nil
 |_::r=>.cons (.str _) (gD r)
def ez:mO:=fun x ps S Q=>match x,ps with
 | .str z,[.str y]=>(y.length == 0)=false/\z.length<=sizeLine/\(Txt.split z y).length<=sizeLine/\∀p,S p=none->Q (.ref p) (xi S p (.lst ((Txt.split z y).map PV.str)))
 |_,_=>False
def kg:pb X "str.split" ez:=⟨fun pins s σ H x xs v us Q I rx rs ⟨px,ps,S,Q3,r1,rp,rS,q,k⟩=>by
 unfold ez at q
 split at q
 ·cases r1
  cases rp with
  |cons b rr=>cases rr;cases b;exact m5 pins s σ H _ _ v us Q I rx rs ⟨_,_,rfl,rfl,q.1,q.2.1,q.2.2.1,fun p hp=>k _ _ _ _ (q.2.2.2 p (rS.free hp)) (.ref p) (rS.new hp ⟨_,ag,gD _⟩) (.new hp)⟩
 ·exact q.elim⟩
def bp:g6:=fun ps S Q=>match ps with
 |[.str z]=>z.length<=640/\(match PySem.intText? z with|some n=>Q (.int n) S|none=>False)
 |ps=>b9 ps S Q
def gE:bH X (.type "int") bp:=⟨fun pins s σ H xs us Q I r ⟨ps,S,Q3,rp,rS,q,k⟩=>by
 unfold bp at q
 split at q
 ·cases rp with
  |cons a rr=>
   cases rr;cases a
   obtain⟨q1,q2⟩:=q
   split at q2
   ·rename_i n e
    exact lv pins s σ H _ us Q I r ⟨_,_,rfl,q1,e,k _ S _ H q2 (.int _) rS .refl⟩
   ·exact q2.elim
 ·exact Bw.ok pins s σ H xs us Q I r ⟨_,S,Q3,rp,rS,q,k⟩⟩
def iP:sy "str" "zfill" "str.zfill":=⟨PySem.F.plainAttrs_str,PySem.F.slot_str_zfill,PySem.F.type_str_zfill⟩
def lA:sy "str" "startswith" "str.startswith":=⟨PySem.F.plainAttrs_str,PySem.F.slot_str_startswith,PySem.F.type_str_startswith⟩
def iQ:sy "str" "split" "str.split":=⟨PySem.F.plainAttrs_str,PySem.F.slot_str_split,PySem.F.type_str_split⟩
end
end L3
namespace L2
open PySem PySem.Spec PyProof.Rows
end L2
namespace L3
open PySem PySem.Spec PyProof.Rows L2
end L3
namespace PySem
open PyProof.Rows Builtin Builtin.Str
section
variable {prog:Program} {w:World} {A:Around} {E:Vq} {s:Shared}
def iR{I l:Addr}{items:Vw}{Q:List Value->Shared->Prop}(hh:A.handled=none)(hl:s.heap.IsList l items)(hit:s.heap.IsRevIter I l ((items.size:Int) - 1))(hne:l≠I)(hn:items.size<=sizeLine)
  (hQ:∀h' tk,(∀b o,b≠I->s.heap.get? b=some o->h'.get? b=some o)->Q items.toList.reverse { s with heap:=h',toks:=tk }):wpAny (model prog w) A (collect (.ref I)) Q E s:=by
 have W:=(Walks.listRev (prog:=prog) (w:=w) (A:=A.in1) hh I l hne items).toS
 have AY:I < s.heap.objs.size:=by obtain⟨o,ho,_⟩:=hit;exact Heap.lt_size ho
 have AZ:l < s.heap.objs.size:=by obtain⟨o,ho,_⟩:=hl;exact Heap.lt_size ho
 have hfp:∀b∈[I,l],b < s.heap.objs.size:=fun b hb=>by
  rcases List.mem_cons.mp hb with rfl|hb
  ·exact AY
  ·rw[List.mem_singleton.mp hb];exact AZ
 have hst:(fun i (s:Shared)=>i<=items.size/\s.heap.IsRevIter I l ((items.size:Int) - 1 - (i:Int))/\s.heap.IsList l items) 0 s:=⟨Nat.zero_le _,by simpa using hit,hl⟩
 have hSf:s.heap.objs.size ∉ [I,l]:=fun hm=>Nat.lt_irrefl _ (hfp _ hm)
 have hSI:s.heap.objs.size≠I:=fun e=>hSf (by rw[e];simp)
 unfold collect
 refine wpAny_bind (wpAny_runValue (codeAny_builtin F.entry_proto_collect ?_))
 rw[Around.under_plainId F.plain_proto_collect _]
 show wpAny _ A.in1 (newList [] >>= fun l=>again (.builtin "list.__iadd__" ⟨[l,.ref I],[]⟩)) _ _ s
 refine wpAny_bind (wpAny_newObj_type ?_)
 refine wpAny_pure ⟨plainId_quiet F.plain_list_iadd _,codeAny_builtin F.entry_list_iadd ?_⟩
 rw[Around.under_plainId F.plain_list_iadd _]
 have zZ:=W.frame 0 s (s.heap.push { cls:=.type "list",data:=.seq ([]:Vv).toArray }) s.toks hst (Nat.le_refl _) fun b _ o e=>Heap.get?_push_of_some _ e
 have DI:(s.heap.push { cls:=.type "list",data:=.seq ([]:Vv).toArray }).get? s.heap.objs.size=some { cls:=.type "list",data:=.seq ([]:Vv).toArray }:=Heap.get?_push_size _ rfl
 have h1:Builtin.List.listSameRef (.ref s.heap.objs.size) (.ref I)=false:=by simp[Builtin.List.listSameRef,hSI]
 show wpAny _ A.in1 (Builtin.List.listExtendWith (.ref s.heap.objs.size) (.ref I) (.ref s.heap.objs.size)) _ _ _
 unfold Builtin.List.listExtendWith
 refine wpAny_bind (wpAny_typeOf zZ.2.1.typeIs ?_)
 rw[if_neg (by rw[h1];decide)]
 refine wpAny_bind (W.self 0 _ _ _ zZ ?_)
 refine wpAny_bind (wpAny_holding ?_)
 unfold Builtin.List.listLengthHint
 refine wpAny_bind (wpAny_specialOf zZ.2.1.typeIs F.gi ?_)
 show wpAny _ A.in1 (specialOf (Value.ref I) (Str.ofString "__length_hint__") >>= _) _ _ _
 refine wpAny_bind (wpAny_specialOf zZ.2.1.typeIs F.iy ?_)
 (generalize hid:("list_reverseiterator.__length_hint__":String)=Cf;wp_delta;rw[show splitId Cf=some ("list_reverseiterator","__length_hint__")from by subst hid;decide +kernel];subst hid)
 refine wpAny_bind (wpAny_isInstance (b:=true) zZ.2.1.typeIs (by rw[isSubtype_type];kernel_rfl) ?_)
 refine wpAny_pure ?_
 rw[if_neg (by decide)]
 refine wpAny_pure ⟨plainId_quiet F.plain_extend_loop _,codeAny_extend_loopS W hn _ hSf _ items.size 0 _ _ _ rfl (Nat.zero_le _) zZ DI (ItemsOf.nil _) fun s' acc' c' hm hS' hacc=>?_⟩
 show wpAny _ A (load s.heap.objs.size >>= _) _ _ s'
 refine wpAny_bind (wpAny_load hS' ?_)
 have ea:acc'.toList=items.toList.reverse:=by
  obtain⟨hsz,hP⟩:=hacc
  apply List.ext_getElem?
  intro j
  by_cases hj:j < items.size
  ·have hj':j < acc'.size:=by rw[hsz];exact hj
   have q:=hP j acc'[j] (by simp[hj'])
   have e1:acc'.toList[j]?=some acc'[j]:=by simp[hj']
   rw[e1,List.getElem?_reverse (by simpa using hj)]
   simpa using q.symm
  ·rw[List.getElem?_eq_none (by simpa [hsz]using hj),List.getElem?_eq_none (by simpa using hj)]
 show wpAny _ A (pure acc'.toList) _ _ s'
 rw[ea]
 have:=hQ s'.heap s'.toks fun b o hb e=>hm.heap b o (fun z=>by
  rcases List.mem_cons.mp z with z|z
  ·exact absurd (Heap.lt_size e) (by rw[z];exact Nat.lt_irrefl _)
  ·exact hb (List.mem_singleton.mp z)) (Heap.get?_push_of_some _ e)
 rw[hm.eq_with]
 exact wpAny_pure this
theorem uY(sep:Str):∀(l:List (Str×Tok)),tooLong ((l.map (·.1)).toArray.foldl (·+·.length+sep.length) 0)=false->Gives (joinTail sep (strValues l)) (joinMade sep l)
 |[],h=>gives_joinTail sep [] h
 |[p],h=>gives_joinTail sep [p] h
 |p::q::r,h=>gives_joinTail sep (p::q::r) h
def m7{sep:Str}{t:Tok}{I l:Addr}{ps:List (Str×Tok)}{Q:Vq}(hh:A.handled=none)(hl:s.heap.IsList l (strValues ps).toArray)(hit:s.heap.IsRevIter I l ((ps.length:Int) - 1))(hne:l≠I)(hn:ps.length<=sizeLine)
  (hz:JoinOk sep (ps.reverse.map (·.1))=true)
  (hQ:∀h' u tk,(∀b o,b≠I->s.heap.get? b=some o->h'.get? b=some o)->Q (.str (Txt.join sep (ps.reverse.map (·.1))) u) { s with heap:=h',toks:=tk }):wpAny (model prog w) A (call (.builtin "str.join") [.str sep t,.ref I]) Q E s:=by
 have hlen:(strValues ps).toArray.size=ps.length:=by simp[strValues]
 have Cm:(strValues ps).toArray.toList.reverse=strValues ps.reverse:=by simp[strValues]
 refine wpAny_call (codeAny_call_builtin F.slot_str_join.plain F.entry_str_join (F.slot_str_join.check _ _ _ _ _ _ _ _ (typeIs_str _ _ _) (F.args_str_join_2 _ _) ?_))
 rw[join_tree_other]
 refine wpAny_bind (wpAny_typeOf hit.typeIs ?_)
 show wpAny _ A.in1 ((pyIter (.ref I)).tryCatch _ >>= fun it=>collect it >>= fun items=>joinTail sep items) _ _ s
 refine wpAny_bind (wpAny_tryCatch (wpAny_pyIter_revIter hit ?_))
 refine wpAny_bind (iR (A:=A.in1) hh hl (by rw[hlen];exact hit) hne (by rw[hlen];exact hn) fun h' tk hk=>?_)
 rw[Cm]
 unfold JoinOk at hz
 rw[Bool.not_eq_true']at hz
 have g:=uY sep ps.reverse hz
 exact g prog w A (wants Q E) _ (post_join _ ⟨joinFit_length hz,fun t' k=>hQ h' t' k hk⟩)
end
end PySem
namespace L2
open PySem PySem.Spec PyProof.Rows
section
variable {X:Cx} {o e:Expr} {to te:TE} {p pos apos cpos:Pos}
def m8{ys:Vs}:∀{us:Vv},Vals (ys.map V.str) us->∃l:List (Str×Tok),us=strValues l/\l.map (·.1)=ys:=by
 induction ys with
 |nil=>intro us h;cases h;exact⟨[],rfl,rfl⟩
 |cons y r ih=>
  intro us h
  cases h with
  |cons a b=>
   obtain⟨t,rfl⟩:=a
   obtain⟨l,rfl,rfl⟩:=ih b
   exact⟨(y,t)::l,rfl,rfl⟩
def sE(K:Vo)(to te:TE):TE:=fun σ H Q=>to σ H fun x H1=>∃z:Str,x = .str z/\te σ H1 fun y H2=>∃(a:Addr) (ys:Vs),y = .ref a/\SqL K H2 a (ys.map V.str)/\(ys.map (·.length)).sum+ys.length * z.length<=1000000/\Q (.str (Txt.join z ys.reverse)) H2
def m9(hg:Gl X "reversed")(hm:X.mg "reversed" = none)(hc:X.calm=true)(ho:PE X o to)(he:PE X e te)(hs:starEach [e] X.env=[(false,eval e X.env)]:=by rfl)
  (hs2:starEach [.Call (.Name "reversed" p) [e] [] pos] X.env=[(false,eval (.Call (.Name "reversed" p) [e] [] pos) X.env)]:=by rfl)
  (hbase:attributeBase o "join" X.env (eval o X.env)=eval o X.env:=by rfl) (hline:(apos.endLine == cpos.line)=true:=by rfl) :
  PE X (.Call (.Attribute o "join" apos) [.Call (.Name "reversed" p) [e] [] pos] [] cpos) (sE X.K to te):=by
 intro pins s σ H Q I h
 refine wpAny_Call_method_late hbase (by rw[hs2];rfl) hline rfl (aL (ho pins s σ H _ I h) fun v s1 ⟨x,H1,I1,r1,z,ex,q1⟩=>?_)
 subst ex
 obtain⟨h1,h2⟩:=jk (T:="str") I1 r1 rfl
 obtain⟨tz,rfl⟩:=r1
 refine⟨"str","str.join",F.plainAttrs_str,F.slot_str_join,F.type_str_join,h1,h2,?_⟩
 rw[hs2]
 refine Calls.callWith_builtin rfl (Calls.evalArgs_plain ?_)
 show wpAny _ _ (spliced ((false,eval (.Call (.Name "reversed" p) [e] [] pos) X.env)::backTo cpos [])) _ _ s1
 refine Calls.spliced_cons ?_
 refine wpAny_Call_Name_kw (cf I1 hg hm (u:=.type "reversed") boot_reversed ?_)
 refine PyProof.Rows.callWith_type1 ?_ hs rfl
 rw[hs]
 show wpAny _ _ (spliced ((false,eval e X.env)::backTo pos [])) _ _ s1
 refine Calls.spliced_cons (aL (he pins s1 σ H1 _ I1 q1) fun u s2 ⟨y,H2,I2,r2,a,ys,ey,hx,hz,q⟩=>?_)
 subst ey
 cases r2
 obtain⟨its,rv,pl,hsz⟩:=I2.list hx
 obtain⟨l,rfl,rfl⟩:=m8 rv
 refine Calls.spliced_nil (call_reversed_list pl.isList ?_)
 have hlen:(strValues l).toArray.size=l.length:=by simp[strValues]
 have hne:a≠s2.heap.objs.size:=fun e=>by
  obtain⟨ob,hob,_⟩:=pl.isList
  have:=Heap.lt_size hob
  rw[e]at this
  exact Nat.lt_irrefl _ this
 refine Calls.spliced_nil ?_
 have hit:(s2.heap.push (revObj a (((strValues l).toArray.size:Int) - 1))).IsRevIter s2.heap.objs.size a ((l.length:Int) - 1):=⟨_,Heap.get?_push_size _ rfl,rfl,by
  show Data.fields #[.ref a,rawInt (((strValues l).toArray.size:Int) - 1)]=_
  rw[hlen]⟩
 refine m7 (I2.ok.hd hc) (l:=a) (ps:=l) (s:={ s2 with heap:=s2.heap.push (revObj a (((strValues l).toArray.size:Int) - 1)) }) (pl.isList.at fun ob hob=>Heap.get?_push_of_some _ hob) hit hne (by simpa [strValues]using hsz) ?_ ?_
 ·refine joinOk_of ?_
  rw[List.map_reverse,List.map_reverse,List.sum_reverse,List.length_reverse]
  omega
 ·intro h' u tk hk
  refine⟨.str _,H2,I2.kept (t':=tk) fun b ob e=>hk b ob (fun eb=>?_) (Heap.get?_push_of_some _ e),⟨u,rfl⟩,?_⟩
  ·have:=Heap.lt_size e
   rw[eb]at this
   exact Nat.lt_irrefl _ this
  ·rw[List.map_reverse];exact q
end
end L2
namespace L3
open PySem PySem.Spec PyProof.Rows L2
section
variable {X:Cx} {o e:Expr} {to te:aD} {p pos apos cpos:Pos}
def jF(to te:aD):aD:=fun σ S Q E=>to σ S (fun x S1=>match x with
 | .str z=>te σ S1 (fun y S2=>match y with
  | .ref a=>(match S2 a with|some (.lst xs)=>(match texts xs with|some ys=>(ys.map (·.length)).sum+ys.length * z.length<=1000000/\Q (.str (Txt.join z ys.reverse)) S2|none=>False)|_=>False)
  |_=>False) E
 |_=>False) E
def pA(hs:starEach [e] X.env=[(false,eval e X.env)])(hc:X.calm=true)(hg:Gl X "reversed")(hm:X.mg "reversed" = none)(ho:aF X o to)(he:aF X e te)
  (hs2:starEach [.Call (.Name "reversed" p) [e] [] pos] X.env=[(false,eval (.Call (.Name "reversed" p) [e] [] pos) X.env)]:=by rfl)
  (hbase:attributeBase o "join" X.env (eval o X.env)=eval o X.env:=by rfl) (hline:(apos.endLine == cpos.line)=true:=by rfl) :
  aF X (.Call (.Attribute o "join" apos) [.Call (.Name "reversed" p) [e] [] pos] [] cpos) (jF to te):=
 ⟨ax (m9 hg hm hc ho.ok he.ok hs hs2 hbase hline) fun σ H Q ⟨σ3,S,Q3,E3,rσ,rS,h,xo,k⟩=>⟨σ3,S,_,E3,rσ,rS,h,xo,fun x S1 v H1 h1 rx xx g1=>by
  dsimp only at h1
  split at h1
  ·cases rx
   refine⟨_,rfl,σ3,S1,_,E3,rσ.mono g1,xx,h1,xo.mono g1,fun y S2 v2 H2 h2 ry yE g2=>?_⟩
   dsimp only at h2
   split at h2
   ·cases ry
    split at h2
    ·rename_i ea
     split at h2
     ·rename_i et
      obtain⟨vs,hv,rs⟩:=yE _ _ ea
      have e2:=fy rs et
      subst e2
      exact⟨_,_,rfl,SqL.of hv,h2.1,k _ S2 _ H2 h2.2 (.str _) yE (g1.trans g2)⟩
     ·exact h2.elim
    ·exact h2.elim
   ·exact h2.elim
  ·exact h1.elim⟩⟩
end
end L3
namespace L2
open PySem PySem.Spec PyProof.Rows
noncomputable def vC(lo c:Int)(n:Nat):It:=⟨fun i _=>i < n,fun i H x H'=>H'=H/\x = .int (lo+i * c),fun i _=>n<=i⟩
def lB{P:Program}{w:World}{K:Vo}{tg:Expr}(it:Addr)(lo c:Int)(n:Nat):gM P w K tg (vC lo c n) [it] it (fun i h=>IsRangeIter h it (lo+(i:Nat) * c) ((n:Int) - (i:Nat)) c) where
 mem:=by simp
 obj:=fun i h st b hb=>by
  have e:b=it:=by simpa using hb
  subst e
  exact⟨_,st,fun v z=>by
   have z':Data.fields _=Data.cell v:=z
   cases z'⟩
 keep:=fun i h h' st k=>k it (by simp) _ st
 item:=by
  intro X hP hw hK hc i pins s σ H E I hf st hg
  subst hP hw hK
  obtain⟨f0,f1,f2,f3,f4,f5⟩:=hf it (by simp)
  have W:=Walks.range (prog:=X.prog) (w:=X.w) (I.ok.hd hc) it lo c n
  refine W.item i s _ _ hg st fun v h' tk hv st' kk=>?_
  obtain⟨t,rfl⟩:=hv
  have I1:Inv X pins σ H { s with heap:=h',toks:=tk }:=I.turned (fun b o hb e=>kk b o (by simpa using hb) e) f0 f1 f3 f4 f5
  exact⟨_,rfl,ip (s:={ s with heap:=h',toks:=tk }) (n:="range_iterator") st' rfl rfl (by decide) ⟨.int (lo+i * c),H,I1,⟨t,rfl⟩,⟨rfl,rfl⟩,st',fun b hb=>(hf b hb).1⟩⟩
 done:=by
  intro X hP hw hK hc i pins s σ H E I hf st hg
  subst hP hw hK
  obtain⟨f0,f1,f2,f3,f4,f5⟩:=hf it (by simp)
  exact wpAny_pyNext_range_end (I.ok.hd hc) st (by have:n<=i:=hg;omega) fun h' eb=>⟨rfl,I.turned (t':=s.toks) (fun b o hb e=>eb b o hb e) f0 f1 f3 f4 f5⟩
 self:=fun _ _ _ _ _ st h=>wpAny_pyIter_rangeiter st h
section
variable {X:Cx} {tg:Expr}
def jG(a b c:Int)(n:Nat):Prop:=c≠0/\Builtin.Range.small a b c=true/\Builtin.Range.rangeSize a b c=n/\Builtin.divisionGoesByPylong (b - a) c=false
def pB{pins:Va}{σ:St}{H:Hp}{s:Shared}{R:It->Hp->Prop}{E:Vq}{lo hi c:Int}{n:Nat}{t u v:Tok}{tk:Nat}(I:Inv X pins σ H s)(ok:jG lo hi c n)
  (q:R (vC lo c n) H):wpAny (model X.prog X.w) X.A (pyIter (.ref s.heap.objs.size)) (vi X pins σ tg R) E { s with heap:=s.heap.push { cls:=.type "range",data:=.fields #[.int lo t,.int hi u,.int c v] },toks:=tk }:=by
 refine wpAny_pyIter_range (IsRange.new ..) ok.2.1 ?_
 have I1:Inv X pins σ H { s with heap:=s.heap.push { cls:=.type "range",data:=.fields #[.int lo t,.int hi u,.int c v] },toks:=tk }:=I.kept fun b o e=>Heap.get?_push_of_some _ e
 refine⟨(s.heap.push { cls:=.type "range",data:=.fields #[.int lo t,.int hi u,.int c v] }).objs.size,[(s.heap.push { cls:=.type "range",data:=.fields #[.int lo t,.int hi u,.int c v] }).objs.size],_,_,H,rfl,
  I1.kept (t':=tk) fun b o e=>Heap.get?_push_of_some _ e,lB _ lo c n,?_,fun b hb=>?_,q⟩
 ·have e1:lo+((0:Nat):Int) * c=lo:=by simp
  have e2:(n:Int) - ((0:Nat):Int)=Builtin.Range.rangeSize lo hi c:=by rw[ok.2.2.1];simp
  show IsRangeIter _ _ (lo+((0:Nat):Int) * c) ((n:Int) - ((0:Nat):Int)) c
  rw[e1,e2]
  exact Heap.get?_push_size _ rfl
 ·have e:b=(s.heap.push { cls:=.type "range",data:=.fields #[.int lo t,.int hi u,.int c v] }).objs.size:=by simpa using hb
  subst e
  exact I1.yz (Nat.le_refl _) (I1.hok.fresh (Nat.le_refl _))
def uZ(ta:TA):TI:=fun σ H R=>ta σ H fun vs H1=>∃(i j c:Int) (n:Nat),vs=[.int i,.int j,.int c]/\jG i j c n/\R (vC i c n) H1
def lC{a b c:Expr}{ta:TA}{p pos:Pos}(hg:Gl X "range")(hm:X.mg "range" = none)(ha:PA X [a,b,c] ta)(hs:starEach [a,b,c] X.env=[(false,eval a X.env),(false,eval b X.env),(false,eval c X.env)])(hs2:starEach [b,c] X.env=[(false,eval b X.env),(false,eval c X.env)]) :
  PI X tg (.Call (.Name "range" p) [a,b,c] [] pos) (uZ ta):=by
 intro pins s σ H R I h
 refine Call_ (cf I hg hm boot_range (PyProof.Rows.callWith_type1 (aL (ha pos pins s σ H _ I h) fun us s1 ⟨vs,H1,I1,r1,q1⟩=>?_) (by rw[hs,hs2]) (by rw[hs2];rfl)))
 obtain⟨i,j,k,n,e,ok,q⟩:=q1
 subst e
 cases r1 with
 |cons r rr=>
  cases rr with
  |cons r' rr=>
   cases rr with
   |cons r2 rr=>
    cases rr
    obtain⟨t,rfl⟩:=r
    obtain⟨t',rfl⟩:=r'
    obtain⟨t2,rfl⟩:=r2
    exact call_range_3 ok.1 (pB I1 ok q) (.inl ok.2.2.2)
end
end L2
namespace L3
open PySem PySem.Spec PyProof.Rows L2
section
variable {X:Cx} {a b c tg:Expr} {ta tb tc:aD} {p pos:Pos}
noncomputable def fH(lo c:Int)(n:Nat):List PV:=(List.range n).map fun(i:Nat)=>PV.int (lo+i * c)
def m_{K:Vo}{H0:Hp}{lo c:Int}{n:Nat}:dM K H0 (vC lo c n) ⟨fH lo c n,fun _=>True⟩:=by
 intro i S H g rS _
 refine⟨fun p hp=>?_,fun hi=>by show n<=i;rw[hi];simp[fH]⟩
 unfold fH at hp
 rw[List.getElem?_map]at hp
 by_cases hi:i < n
 ·rw[List.getElem?_range hi]at hp
  cases hp
  refine⟨hi,fun x H' ⟨e,h⟩=>?_⟩
  subst e h
  exact⟨.int _,rS,.refl⟩
 ·rw[List.getElem?_eq_none (by simpa using hi)]at hp
  cases hp
def sF(ta tb tc:aD):mV:=fun σ S R E=>ta σ S (fun v S1=>tb σ S1 (fun w S2=>tc σ S2 (fun u S3=>match v,w,u with | .int i,.int j,.int c=>∃n,jG i j c n/\R ⟨fH i c n,fun _=>True⟩ S3|_,_,_=>False) E) E) E
def nb(hs:starEach [a,b,c] X.env=[(false,eval a X.env),(false,eval b X.env),(false,eval c X.env)])(hs2:starEach [b,c] X.env=[(false,eval b X.env),(false,eval c X.env)])(hg:Gl X "range")(hm:X.mg "range" = none)(ha:eW X [a,b,c] [ta,tb,tc]):pe X tg (.Call (.Name "range" p) [a,b,c] [] pos) (sF ta tb tc):=
 ⟨g_ (lC hg hm ha.ok hs hs2) fun σ H R ⟨σ3,S,R3,E3,rσ,rS,h,xo,k⟩=>⟨σ3,S,_,E3,rσ,rS,h,xo,fun v S1 v' H1 h1 rv xx g1=>⟨σ3,S1,_,E3,rσ.mono g1,xx,h1,xo.mono g1,fun w S2 w' H2 h2 rw' yE g2=>⟨σ3,S2,_,E3,rσ.mono (g1.trans g2),yE,h2,xo.mono (g1.trans g2),fun u S3 u' H3 h3 ru A2 g3=>by
  dsimp only at h3
  split at h3
  ·cases rv;cases rw';cases ru
   obtain⟨n,ok,q⟩:=h3
   exact⟨_,_,_,n,rfl,ok,k _ S3 _ H3 q m_ A2 ((g1.trans g2).trans g3)⟩
  ·exact h3.elim⟩⟩⟩⟩
end
end L3
namespace T5
open PySem PySem.NumText
noncomputable def xk(l:List Nat):Str:=⟨l.toArray⟩
def jH(z:Str):xk z.cps.toList=z:=by obtain⟨⟨l⟩⟩:=z;rfl
def lD(l:List Nat):(xk l).cps.toList=l:=rfl
def aE(l:List Nat):(xk l).length=l.length:=rfl
noncomputable def sp:List Nat->List (List Nat)
 |[]=>[[]]
 |c::r=>if c=47 then []::sp r else match sp r with
  |[]=>[[c]]
  |p::q=>(c::p)::q
theorem zd:∀l,sp l≠[]
 |[]=>by simp[sp]
 |c::r=>by
  unfold sp
  split
  ·simp
  ·split<;>simp
noncomputable def jI:List (List Nat)->List Nat
 |[]=>[]
 |[p]=>p
 |p::q=>p++47::jI q
def dg{p:List Nat}{q:List (List Nat)}(h:q≠[]):jI (p::q)=p++47::jI q:=by
 cases q with
 |nil=>exact absurd rfl h
 |cons a b=>rfl
theorem bS:∀(p:List Nat),47 ∉ p->sp p=[p]
 |[],_=>rfl
 |c::r,h=>by
  unfold sp
  rw[if_neg (fun e=>h (by rw[e];exact List.mem_cons_self)),bS r fun z=>h (List.mem_cons_of_mem _ z)]
theorem eA:∀(p r:List Nat),47 ∉ p->sp (p++47::r)=p::sp r
 |[],r,_=>by
  show sp (47::r)=_
  rw[sp,if_pos rfl]
 |c::p,r,h=>by
  show sp (c::(p++47::r))=_
  rw[sp,if_neg (fun e=>h (by rw[e];exact List.mem_cons_self)),eA p r fun z=>h (List.mem_cons_of_mem _ z)]
theorem kh:∀(P:List (List Nat)),P≠[]->(∀p∈P,47 ∉ p)->sp (jI P)=P
 |[],h,_=>absurd rfl h
 |[p],_,h=>bS p (h p List.mem_cons_self)
 |p::a::q,_,h=>by
  rw[dg (by simp),eA _ _ (h p List.mem_cons_self),kh (a::q) (by simp) fun x hx=>h x (List.mem_cons_of_mem _ hx)]
theorem ib:∀l,jI (sp l)=l
 |[]=>rfl
 |c::r=>by
  have ih:=ib r
  unfold sp
  split
  ·rename_i e
   rw[dg (zd r),ih,e];rfl
  ·split
   ·rename_i e
    exact absurd e (zd r)
   ·rename_i p q e
    rw[e]at ih
    cases q with
    |nil=>show c::p=_;rw[<-ih];rfl
    |cons a b=>rw[dg (by simp)]at ih ⊢;rw[<-ih];rfl
theorem ng:∀(l:List Nat),∀p∈sp l,47 ∉ p
 |[],p,h=>by rw[List.mem_singleton.mp h];simp
 |c::r,p,h=>by
  have ih:=ng r
  unfold sp at h
  split at h
  ·rcases List.mem_cons.mp h with rfl|h
   ·simp
   ·exact ih p h
  ·rename_i hc
   split at h
   ·rename_i e;exact absurd e (zd r)
   ·rename_i a b e
    rw[e]at ih
    rcases List.mem_cons.mp h with rfl|h
    ·intro z
     rcases List.mem_cons.mp z with z|z
     ·exact hc z.symm
     ·exact ih a List.mem_cons_self z
    ·exact ih p (List.mem_cons_of_mem _ h)
def nh(l:List Nat):(sp l).length<=l.length+1:=by
 induction l with
 |nil=>simp[sp]
 |cons c r ih=>
  unfold sp
  split
  ·simpa using ih
  ·split
   ·simp
   ·rename_i e;rw[e]at ih;simp at ih ⊢;omega
theorem qo:∀(l:List Nat),∀p∈sp l,p.length<=l.length
 |[],p,h=>by rw[List.mem_singleton.mp h];simp
 |c::r,p,h=>by
  have ih:=qo r
  unfold sp at h
  split at h
  ·rcases List.mem_cons.mp h with rfl|h
   ·simp
   ·have:=ih p h;simp;omega
  ·split at h
   ·rw[List.mem_singleton.mp h];simp
   ·rename_i a b e
    rw[e]at ih
    rcases List.mem_cons.mp h with rfl|h
    ·have:=ih a List.mem_cons_self;simpa using this
    ·have:=ih p (List.mem_cons_of_mem _ h);simp;omega
theorem gF:∀(P:Vs),(Str.join (xk [47]) P).cps.toList=jI (P.map fun z=>z.cps.toList)
 |[]=>rfl
 |[p]=>rfl
 |p::a::q=>by
  have ih:=gF (a::q)
  show(p++xk [47]++Str.join (xk [47]) (a::q)).cps.toList=p.cps.toList++47::jI ((a::q).map fun z=>z.cps.toList)
  rw[<-ih]
  show((p.cps++#[47])++(Str.join (xk [47]) (a::q)).cps).toList=_
  simp
def iS(z:Str):Txt.split z "/" = (sp z.cps.toList).map xk:=by
 have e0:("/":Str)=xk [47]:=rfl
 have h1:=PySem.StrLaws.join_split z (xk [47])
 have h2:=PySem.StrLaws.split_free z 47
 have h3:=PyProof.Rows.split_pos z (xk [47])
 rw[e0]
 have e:(xk [47]:Str)=⟨#[47]⟩:=rfl
 rw[<-e]at h2
 generalize Txt.split z (xk [47])=P at *
 have h4:=gF P
 rw[h1]at h4
 rw[h4,kh _ (by intro z;have:=congrArg List.length z;simp at this;rw[this]at h3;simp at h3) (by intro p hp;obtain⟨y,hy,rfl⟩:=List.mem_map.mp hp;exact h2 y hy),List.map_map]
 conv=>lhs;rw[<-List.map_id P]
 exact List.map_congr_left fun y _=>(jH y).symm
noncomputable def dn(m:Nat):List Nat:=(Nat.toDigits 10 m).map Char.toNat
noncomputable def num(n:Int):List Nat:=(PySem.Str.ofString (toString n)).cps.toList
def aW(m:Nat):num (m:Int)=dn m:=PySem.W.KIN.signs_num m
def dP(m:Nat)(h:0 < m):num (-(m:Int))=45::dn m:=by
 obtain⟨k,rfl⟩:∃k,m=k+1:=⟨m - 1,by omega⟩
 unfold num
 rw[show -((k+1:Nat):Int)=Int.negSucc k from rfl,PyProof.Rows.signs_ofString]
 show("-" ++ Nat.repr (k+1)).toList.map Char.toNat=_
 rw[String.toList_append,List.map_append,Nat.toList_repr]
 rfl
def yn{m:Nat}(h:m < 10):dn m=[48+m]:=by
 unfold dn
 rw[Nat.toDigits_of_lt_base h]
 show[(Nat.digitChar m).toNat]=_
 have:∀d:Nat,d < 10->(Nat.digitChar d).toNat=48+d:=by decide
 rw[this m h]
def iT{m:Nat}(h:10<=m):dn m=dn (m / 10)++[48+m % 10]:=by
 have hm:m % 10 < 10:=Nat.mod_lt m (by decide)
 have t:Nat.toDigits 10 (m / 10)++Nat.toDigits 10 (m % 10)=Nat.toDigits 10 (10 * (m / 10)+m % 10):=Nat.toDigits_append_toDigits (by decide) (by omega) hm
 rw[Nat.div_add_mod]at t
 rw[<-yn hm]
 unfold dn
 rw[<-t,List.map_append]
def bJ(m:Nat):AllDigits (dn m):=by
 induction m using Nat.strongRecOn with
 |_ m ih=>
  by_cases h:m < 10
  ·rw[yn h];intro c hc;rw[List.mem_singleton.mp hc];omega
  ·rw[iT (by omega)]
   intro c hc
   rcases List.mem_append.mp hc with hc|hc
   ·exact ih (m / 10) (by omega) c hc
   ·rw[List.mem_singleton.mp hc];omega
def ni(m:Nat):dn m≠[]:=by
 by_cases h:m < 10
 ·rw[yn h];simp
 ·rw[iT (by omega)];simp
def nj(m:Nat):digitsVal (dn m)=m:=PySem.W.KIN.val_back m
def jJ{k:Nat}:∀{m:Nat},m < 10 ^ (k+1)->(dn m).length<=k+1:=by
 induction k with
 |zero=>intro m h;rw[yn (by simpa using h)];simp
 |succ k ih=>
  intro m h
  by_cases h9:m < 10
  ·rw[yn h9];simp
  ·rw[iT (by omega),List.length_append]
   have:=ih (m:=m / 10) (by rw[Nat.pow_succ]at h;omega)
   simp;omega
def pC(m:Nat)(h:0 < m):∀r,dn m≠48::r:=by
 induction m using Nat.strongRecOn with
 |_ m ih=>
  intro r e
  by_cases h9:m < 10
  ·rw[yn h9]at e
   have:=(List.cons.inj e).1
   omega
  ·rw[iT (by omega)]at e
   cases ed:dn (m / 10)with
   |nil=>exact ni _ ed
   |cons a b=>
    rw[ed]at e
    have:=(List.cons.inj e).1
    exact ih (m / 10) (by omega) (by omega) b (by rw[ed,this])
def eN(l:List Nat):Prop:=∀r,l=48::r->r=[]
def dQ(m:Nat):eN (dn m):=by
 intro r e
 by_cases h:0 < m
 ·exact absurd e (pC m h r)
 ·have:m=0:=by omega
  subst this
  rw[yn (by decide)]at e
  exact((List.cons.inj e).2).symm
def ki:∀(k:Nat) (h:List Nat),h.length=k->AllDigits h->h≠[]->eN h->dn (digitsVal h)=h:=by
 intro k
 induction k with
 |zero=>intro h hl _ hn;exact absurd (List.length_eq_zero_iff.mp hl) hn
 |succ k ih=>
  intro h hl hd hn hc
  obtain⟨p,c,rfl⟩:∃p c,h=p++[c]:=⟨h.dropLast,h.getLast hn,(List.dropLast_concat_getLast hn).symm⟩
  have hcd:=hd c (by simp)
  have hp:AllDigits p:=fun x hx=>hd x (List.mem_append_left _ hx)
  rw[digitsVal_snoc]
  by_cases CU:p=[]
  ·subst CU
   show dn (0 * 10+(c - 48))=[c]
   rw[yn (by omega)]
   congr 1
   omega
  ·have DJ:eN p:=by
    intro r e
    have:=hc (r++[c]) (by rw[e];rfl)
    simp at this
   have e:=ih p (by simpa using hl) hp CU DJ
   have h0:0 < digitsVal p:=by
    apply Nat.pos_of_ne_zero
    intro z
    rw[z,yn (by decide)]at e
    have:=hc [c] (by rw[<-e];rfl)
    simp at this
   rw[iT (by omega),show(digitsVal p * 10+(c - 48)) / 10=digitsVal p by omega,e]
   congr 2
   omega
def b_{l:List Nat}(h:AllDigits l):47 ∉ l:=fun z=>by have:=h 47 z;omega
noncomputable def pre(sg:Bool)(h:List Nat):List Nat:=if sg then 45::h else h
noncomputable def cA(sg:Bool)(v:Nat):Int:=if sg then -(v:Int) else v
def yB{sg:Bool}{v:Nat}{h:List Nat}:num (cA sg v)=pre sg h↔dn v=h/\¬(sg=true/\v=0):=by
 cases sg with
 |false=>simp[cA,pre,aW]
 |true=>
  by_cases hv:v=0
  ·subst hv
   simp only[cA,pre,if_true,and_true,not_true,and_false,iff_false]
   rw[show(-((0:Nat):Int))=((0:Nat):Int)from rfl,aW,yn (by decide)]
   simp
  ·simp only[cA,pre,if_true]
   rw[dP v (by omega)]
   simp[hv]
def cb(n:Int):47 ∉ num n:=by
 intro z
 rcases Int.eq_nat_or_neg n with⟨m,rfl|rfl⟩
 ·rw[aW]at z;exact b_ (bJ m) z
 ·by_cases h:0 < m
  ·rw[dP m h]at z
   rcases List.mem_cons.mp z with z|z
   ·cases z
   ·exact b_ (bJ m) z
  ·have:m=0:=by omega
   subst this
   rw[show(-((0:Nat):Int))=((0:Nat):Int)from rfl,aW]at z
   exact b_ (bJ 0) z
def ik(l:List Nat):Prop:=l≠[]/\AllDigits l
open Classical in
noncomputable def rf(l:List Nat):Option Nat:=if ik l/\eN l then some (digitsVal l) else none
noncomputable def rn(l:List Nat):Option (Nat×Nat):=match sp l with
 |[a]=>(match rf a with|some t=>some (t,1)|none=>none)
 |[a,b]=>(match rf a,rf b with|some t,some u=>if u < 2\/Nat.gcd t u≠1 then none else some (t,u)|_,_=>none)
 |_=>none
noncomputable def rs(sg:Bool)(m:List Nat):Option (Int×Int):=match rn m with
 |some (t,u)=>if sg=true/\t=0 then none else some (cA sg t,(u:Int))
 |none=>none
noncomputable def txt(f:Int×Int):List Nat:=if f.2=1 then num f.1 else num f.1++47::num f.2
noncomputable def gG(sg:Bool)(v b:Nat):Int×Int:=(cA sg (v / Nat.gcd v b),((b / Nat.gcd v b:Nat):Int))
open Classical in
noncomputable def fin(sg:Bool)(l:List Nat)(v b:Nat):Option (Int×Int):=if txt (gG sg v b)=l then some (gG sg v b) else none
open Classical in
noncomputable def dv(sg:Bool)(l:List Nat)(P:List (List Nat)):Option (Int×Int):=if ∀p∈P,ik p then (match P with
 |[h]=>fin sg l (digitsVal h) 1
 |[h,u]=>if digitsVal u=0 then none else fin sg l (digitsVal h) (digitsVal u)
 |_=>none) else none
def dR{l:List Nat}(h:ik l)(c:eN l):rf l=some (digitsVal l):=if_pos ⟨h,c⟩
def dS{l:List Nat}(h:¬(ik l/\eN l)):rf l=none:=if_neg h
def kj(v:Nat):ik (dn v):=⟨ni v,bJ v⟩
def nk(v:Nat):rf (dn v)=some v:=by rw[dR (kj v) (dQ v),nj]
def gH{l:List Nat}{v:Nat}(h:rf l=some v):l=dn v/\digitsVal l=v:=by
 unfold rf at h
 split at h
 ·rename_i q
  cases h
  exact⟨(ki _ l rfl q.1.2 q.1.1 q.2).symm,rfl⟩
 ·cases h
def u3(sg:Bool)(m:List Nat):dv sg (pre sg m) (sp m)=rs sg m:=by
 have hg:=ib m
 have hm:=ng m
 unfold dv rs rn
 generalize sp m=P at hg hm
 match P with
 |[]=>simp
 |[h]=>
  have hg:h=m:=hg
  subst hg
  dsimp only
  by_cases ho:ik h
  ·rw[if_pos (by intro p hp;rw[List.mem_singleton.mp hp];exact ho)]
   have hlow:gG sg (digitsVal h) 1=(cA sg (digitsVal h),1):=by unfold gG;simp
   unfold fin
   rw[hlow]
   show(if num (cA sg (digitsVal h))=pre sg h then _ else _)=_
   by_cases hc:eN h
   ·rw[dR ho hc]
    dsimp only
    have e:=ki _ h rfl ho.2 ho.1 hc
    by_cases hs:sg=true/\digitsVal h=0
    ·rw[if_pos hs,if_neg (fun z=>(yB.mp z).2 hs)]
    ·rw[if_neg hs,if_pos (yB.mpr ⟨e,hs⟩)];rfl
   ·rw[dS fun z=>hc z.2,if_neg fun z=>hc (by have q:=dQ (digitsVal h);rw[(yB.mp z).1]at q;exact q)]
  ·rw[if_neg fun z=>ho (z h List.mem_cons_self),dS fun z=>ho z.1]
 |[h,u]=>
  have hg:h++47::u=m:=hg
  have fh:=hm h (by simp)
  dsimp only
  by_cases ho:ik h/\ik u
  ·obtain⟨ho,hu⟩:=ho
   rw[if_pos (by intro p hp;rcases List.mem_cons.mp hp with rfl|hp;exact ho;rw[List.mem_singleton.mp hp];exact hu)]
   by_cases hb:digitsVal u=0
   ·rw[if_pos hb]
    cases h1:rf h with
    |none=>rfl
    |some t=>
     cases h2:rf u with
     |none=>rfl
     |some b=>
      have:=(gH h2).2
      dsimp only
      rw[if_pos (.inl (by omega))]
   ·rw[if_neg hb]
    have g0:0 < Nat.gcd (digitsVal h) (digitsVal u):=Nat.gcd_pos_of_pos_right _ (by omega)
    have gd:=Nat.gcd_dvd_right (digitsVal h) (digitsVal u)
    have key:txt (gG sg (digitsVal h) (digitsVal u))=pre sg m↔Nat.gcd (digitsVal h) (digitsVal u)=1/\2<=digitsVal u/\dn (digitsVal h)=h/\dn (digitsVal u)=u/\¬(sg=true/\digitsVal h=0):=by
     have fp:47 ∉ pre sg h:=by cases sg<;>simp[pre,fh]
     have ep:pre sg m=pre sg h++47::u:=by rw[<-hg];cases sg<;>rfl
     have nd:∀k:Nat,num ((k:Nat):Int)=dn k:=aW
     constructor
     ·intro e
      unfold txt at e
      split at e
      ·rename_i h1
       exfalso
       have:47∈pre sg m:=by rw[ep];simp
       rw[<-e]at this
       exact cb _ this
      ·rename_i h1
       rw[ep]at e
       have e2:=congrArg sp e
       rw[eA _ _ (cb _),eA _ _ fp,bS _ (cb _),bS _ (hm u (by simp))]at e2
       simp only[List.cons.injEq,and_true]at e2
       obtain⟨ea,eb⟩:=e2
       have eb':dn (digitsVal u / Nat.gcd (digitsVal h) (digitsVal u))=u:=by rw[<-nd];exact eb
       have ev:digitsVal u / Nat.gcd (digitsVal h) (digitsVal u)=digitsVal u:=by
        have:=nj (digitsVal u / Nat.gcd (digitsVal h) (digitsVal u))
        rw[eb']at this
        exact this.symm
       have g1:Nat.gcd (digitsVal h) (digitsVal u)=1:=by
        by_cases Bp:2<=Nat.gcd (digitsVal h) (digitsVal u)
        ·have:=Nat.div_lt_self (show 0 < digitsVal u by omega) Bp
         omega
        ·omega
       have h1:¬((digitsVal u / Nat.gcd (digitsVal h) (digitsVal u):Nat):Int)=1:=h1
       have ea:=yB.mp ea
       rw[g1,Nat.div_one]at ea h1
       rw[g1,Nat.div_one]at eb'
       exact⟨g1,by omega,ea.1,eb',ea.2⟩
     ·rintro⟨g1,h2,e1,e2,e3⟩
      have hl:gG sg (digitsVal h) (digitsVal u)=(cA sg (digitsVal h),((digitsVal u:Nat):Int)):=by unfold gG;rw[g1,Nat.div_one,Nat.div_one]
      rw[hl]
      unfold txt
      rw[if_neg (by dsimp only;omega)]
      dsimp only
      rw[yB.mpr ⟨e1,e3⟩,nd,e2,ep]
    unfold fin
    by_cases hk:txt (gG sg (digitsVal h) (digitsVal u))=pre sg m
    ·rw[if_pos hk]
     obtain⟨g1,h2,e1,e2,e3⟩:=key.mp hk
     rw[dR ho (e1▸dQ _),dR hu (e2▸dQ _)]
     dsimp only
     rw[if_neg (by omega)]
     dsimp only
     rw[if_neg e3]
     unfold gG
     rw[g1,Nat.div_one,Nat.div_one]
    ·rw[if_neg hk]
     cases h1:rf h with
     |none=>rfl
     |some t=>
      cases h2:rf u with
      |none=>rfl
      |some b=>
       obtain⟨a1,a2⟩:=gH h1
       obtain⟨b1,b2⟩:=gH h2
       dsimp only
       by_cases hq:b < 2\/Nat.gcd t b≠1
       ·rw[if_pos hq]
       ·rw[if_neg hq]
        dsimp only
        by_cases hs:sg=true/\t=0
        ·rw[if_pos hs]
        ·exact absurd (key.mpr ⟨by rw[a2,b2];omega,by rw[b2];omega,by rw[a2];exact a1.symm,by rw[b2];exact b1.symm,by rw[a2];exact hs⟩) hk
  ·rw[if_neg fun z=>ho ⟨z h (by simp),z u (by simp)⟩]
   cases h1:rf h with
   |none=>rfl
   |some t=>
    cases h2:rf u with
    |none=>rfl
    |some b=>
     have q1:ik h:=by rw[(gH h1).1];exact kj _
     have q2:ik u:=by rw[(gH h2).1];exact kj _
     exact absurd ⟨q1,q2⟩ ho
 |h::u::a::q=>
  dsimp only
  split<;>rfl
def sG{sg:Bool}{v b:Nat}(hb:1<=b)(hg:Nat.gcd v b=1)(hs:¬(sg=true/\v=0)):∃m,txt (cA sg v,(b:Int))=pre sg m/\rs sg m=some (cA sg v,(b:Int))/\(∃c r,m=c::r/\48<=c):=by
 have hne:∃c r,dn v=c::r/\48<=c:=by
  cases e:dn v with
  |nil=>exact absurd e (ni v)
  |cons c r=>exact⟨c,r,rfl,(bJ v c (by rw[e];simp)).1⟩
 by_cases h1:b=1
 ·subst h1
  refine⟨dn v,?_,?_,hne⟩
  ·unfold txt;rw[if_pos (by rfl)];exact yB.mpr ⟨rfl,hs⟩
  ·unfold rs rn
   rw[bS _ (b_ (bJ v))]
   dsimp only
   rw[nk]
   dsimp only
   rw[if_neg hs]
 ·refine⟨dn v++47::dn b,?_,?_,?_⟩
  ·unfold txt
   rw[if_neg (by dsimp only;omega)]
   dsimp only
   rw[aW,yB.mpr ⟨rfl,hs⟩]
   cases sg<;>rfl
  ·unfold rs rn
   rw[eA _ _ (b_ (bJ v)),bS _ (b_ (bJ b))]
   dsimp only
   rw[nk,nk]
   dsimp only
   rw[if_neg (by omega)]
   dsimp only
   rw[if_neg hs]
  ·obtain⟨c,r,e,h⟩:=hne
   exact⟨c,r++47::dn b,by rw[e];rfl,h⟩
end T5
namespace T5
open PySem PySem.NumText PySem.Builtin PySem.Builtin.Str
def dU(l:List Nat)(i:Nat):Txt.slice (xk l) (some (i:Int)) none=xk (l.drop i):=by
 rw[show Txt.slice (xk l) (some (i:Int)) none=StrLaws.sliceText (xk l) (some (i:Int)) none from rfl]
 have key:∀k:Nat,k<=l.length->StrLaws.sliceText (xk l) (some (k:Int)) none=xk (l.drop k):=by
  intro k hk
  rw[StrLaws.sliceText_from ⟨by omega,by rw[lD];omega⟩,lD]
  show xk ((l.drop ((k:Int).toNat)).take ((l.length:Int) - (k:Int)).toNat)=_
  rw[Int.toNat_natCast,List.take_of_length_le (by simp)]
 by_cases h:i<=l.length
 ·exact key i h
 ·have e:StrLaws.sliceText (xk l) (some (i:Int)) none=StrLaws.sliceText (xk l) (some (l.length:Int)) none:=by
   have e2:strSliceIndices (some (i:Int)) none 1 (xk l).length=strSliceIndices (some (l.length:Int)) none 1 (xk l).length:=by
    rw[aE]
    unfold strSliceIndices
    have e3:max (0:Int) (min (i:Int) (l.length:Int))=max (0:Int) (min (l.length:Int) (l.length:Int)):=by omega
    have h1:¬((i:Int) < 0):=by omega
    have h2:¬((l.length:Int) < 0):=by omega
    simp[e3,h1,h2]
   unfold StrLaws.sliceText
   rw[e2]
  rw[e,key _ (Nat.le_refl _),List.drop_of_length_le (by omega),List.drop_of_length_le (by omega)]
def qp(l:List Nat)(i:Nat):Txt.slice (xk l) none (some (i:Int))=xk (l.take i):=by
 rw[show Txt.slice (xk l) none (some (i:Int))=StrLaws.sliceText (xk l) none (some (i:Int))from rfl]
 have key:∀k:Nat,k<=l.length->StrLaws.sliceText (xk l) none (some (k:Int))=xk (l.take k):=by
  intro k hk
  rw[StrLaws.sliceText_to ⟨by omega,by rw[lD];omega⟩,lD]
  show xk ((l.drop 0).take ((k:Int) - 0).toNat)=_
  rw[List.drop_zero,Int.sub_zero,Int.toNat_natCast]
 by_cases h:i<=l.length
 ·exact key i h
 ·have e:StrLaws.sliceText (xk l) none (some (i:Int))=StrLaws.sliceText (xk l) none (some (l.length:Int)):=by
   have e2:strSliceIndices none (some (i:Int)) 1 (xk l).length=strSliceIndices none (some (l.length:Int)) 1 (xk l).length:=by
    rw[aE]
    unfold strSliceIndices
    have e3:max (0:Int) (min (i:Int) (l.length:Int))=max (0:Int) (min (l.length:Int) (l.length:Int)):=by omega
    have h1:¬((i:Int) < 0):=by omega
    have h2:¬((l.length:Int) < 0):=by omega
    simp[e3,h1,h2]
   unfold StrLaws.sliceText
   rw[e2]
  rw[e,key _ (Nat.le_refl _),List.take_of_length_le (by omega),List.take_of_length_le (by omega)]
def nl(l:List Nat)(h:l.length=60):Txt.slice (xk l) (some 0) (some 60)=xk l:=by
 rw[show Txt.slice (xk l) (some 0) (some 60)=StrLaws.sliceText (xk l) (some ((0:Nat):Int)) (some ((60:Nat):Int))from rfl,StrLaws.sliceText_nat _ (by decide) (by rw[aE,h];exact Nat.le_refl _),lD]
 show xk ((l.drop 0).take 60)=_
 rw[List.drop_zero,List.take_of_length_le (by omega)]
noncomputable def lE(l:List Nat):List Nat:=List.replicate (60 - l.length) 48++l
def dh{l:List Nat}(h:l.length<=60):(lE l).length=60:=by unfold lE;simp;omega
def zf{l:List Nat}(h:ik l)(hl:l.length<=60):Txt.zfill (xk l) 60=xk (lE l):=by
 unfold Txt.zfill
 rw[aE]
 by_cases h6:(60:Int)<=(l.length:Int)
 ·rw[if_pos h6]
  unfold lE
  rw[show 60 - l.length=0 by omega]
  rfl
 ·rw[if_neg h6]
  obtain⟨hne,hd⟩:=h
  cases l with
  |nil=>exact absurd rfl hne
  |cons c r=>
   have hc:=hd c (by simp)
   unfold zfilled
   have e:(xk (c::r)).cps[0]?=some c:=by simp[xk]
   rw[e]
   have:padded (xk (c::r)) ((60:Int).toNat - (c::r).length) 0 48=xk (lE (c::r)):=by
    unfold padded lE xk
    apply Str.ext'
    apply Array.toList_inj.mp
    simp
   rw[<-this]
   split
   ·rename_i e2;cases e2;omega
   ·rename_i e2;cases e2;omega
   ·rfl
def pD(l:List Nat):digitsVal (lE l)=digitsVal l:=by
 unfold lE digitsVal
 rw[List.foldl_append]
 have:∀k:Nat,(List.replicate k 48).foldl (fun acc c=>acc * 10+(c - 48)) 0=0:=by
  intro k
  induction k with
  |zero=>rfl
  |succ k ih=>rw[List.replicate_succ,List.foldl_cons];exact ih
 rw[this]
def pE{l:List Nat}(h:ik l)(hl:l.length<=60):intText? (xk (lE l))=some (digitsVal l:Int):=by
 have hd:AllDigits (lE l):=by
  intro c hc
  unfold lE at hc
  rcases List.mem_append.mp hc with hc|hc
  ·rw[List.eq_of_mem_replicate hc];omega
  ·exact h.2 c hc
 rw[intText_digits (x:=xk (lE l)) hd (by rw[lD];intro e;have:=dh hl;rw[e]at this;cases this) (by rw[aE,dh hl];decide),lD,pD]
end T5
namespace L3
open PySem L2 Xc
end L3
namespace L2
open PySem PySem.Spec PyProof.Rows
end L2
namespace L3
open PySem L2
end L3
namespace CY
open PySem L2 L3
end CY
namespace L3
open PySem L2
section
variable {X:Cx}
def dq:g6:=fun ps S Q=>match ps with
 |[.int i]=>i.natAbs.log2 < 1920/\Q (.str (toString i)) S
 |[.str z]=>(reprText z).length<=sizeLine/\Q (.str (reprText z)) S
 |ps=>gq ps S Q
def eB(hu:X.A.units+150 < cLine)(hg:X.A.guards=some []):bH X (.builtin "repr") dq:=⟨fun pins s σ H xs us Q I r ⟨ps,S,Q3,rp,rS,q,k⟩=>by
 unfold dq at q
 split at q
 ·rename_i i
  cases rp with
  |cons a rr=>
   cases rr
   cases r with
   |cons r1 r2=>
    cases r2;cases a
    obtain⟨t,rfl⟩:=r1
    exact P.repr_of_int q.1 ⟨.str _,H,I.kept (t':=s.toks+1) (h':=s.heap) (fun _ _ e=>e),⟨_,rfl⟩,k _ S _ H q.2 (.str _) rS .refl⟩
 ·rename_i z
  cases rp with
  |cons a rr=>
   cases rr
   cases r with
   |cons r1 r2=>
    cases r2;cases a
    obtain⟨t,rfl⟩:=r1
    exact P.repr_of_str ⟨.str _,H,I.kept (t':=s.toks+1) (h':=s.heap) (fun _ _ e=>e),⟨_,rfl⟩,k _ S _ H q.2 (.str _) rS .refl⟩ q.1
 ·exact(rY hu hg).ok pins s σ H xs us Q I r ⟨ps,S,Q3,rp,rS,q,k⟩⟩
end
end L3
namespace L2
open PySem PySem.Spec PyProof.Rows
def fS(items:Vw):slicePick items none none (some (-1))=items.toList.reverse.toArray:=by
 unfold slicePick
 have e:sliceBounds none none (some (-1)) items.size=((items.size:Int) - 1,-1,-1):=by simp[sliceBounds]
 rw[e]
 dsimp only
 unfold sliceRange
 have ec:(if (-1:Int) > 0 then (if (items.size:Int) - 1 < -1 then (-1 - ((items.size:Int) - 1) + -1 - 1) / -1 else 0) else (if (items.size:Int) - 1 > -1 then ((items.size:Int) - 1 - -1 - -1 - 1) / (- -1) else 0)).toNat=items.size:=by
  rw[if_neg (by decide)]
  split<;>simp<;>omega
 dsimp only
 rw[ec,List.filterMap_map,<-HT.mX]
 congr 1
 congr 1
 funext m
 show items[((items.size:Int) - 1 + -1 * (m:Int)).toNat]?=_
 rw[Int.mul_comm]
section
variable {X:Cx} {e st:Expr} {te ts:TE} {p2 pos:Pos}
def u4(K:Vo)(te ts:TE):TE:=fun σ H Q=>te σ H fun x H1=>ts σ H1 fun y H2=>y = .int (-1)/\∃a xs,x = .ref a/\SqL K H2 a xs/\∀p,H2 p=none->Q (.ref p) (upd H2 p (.lst xs.reverse))
def pF(he:PE X e te)(hst:PE X st ts):PE X (.Subscript e (.Slice none none (some st) p2) pos) (u4 X.K te ts):=by
 intro pins s σ H Q I h
 refine Subscript_ (aL (he pins s σ H _ I h) fun v s1 ⟨x,H1,I1,r1,q1⟩=>?_)
 refine wpAny_Slice ?_
 rw[evalPart_none]
 refine wpAny_pure (wpAny_pure ?_)
 show wpAny _ _ (eval st X.env) _ _ s1
 refine aL (hst pins s1 σ H1 _ I1 q1) fun u s3 ⟨y,H3,I3,r3,ey,a,xs,ex,hx,q3⟩=>?_
 subst ey
 subst ex
 obtain⟨tk,rfl⟩:=r3
 cases r1
 have I4:Inv X pins σ H3 { s3 with heap:=s3.heap.push { cls:=.type "slice",data:=.fields #[.none,.none,.int (-1) tk] } }:=I3.kept (t':=s3.toks) fun b ob q=>Heap.get?_push_of_some _ q
 obtain⟨its,r,ht,hz⟩:=I4.list hx
 have hlen:its.toArray.size=xs.length:=by rw[List.size_toArray];exact r.length.symm
 have hg:=wpAny_getItem_list_slice (prog:=X.prog) (w:=X.w) (A:=X.A) (E:=X.xe) (Q:=EP X pins σ Q) ht.isList (Heap.IsSliceOf.new ..) .none .none (.int (-1) tk) (by decide) (by
  rw[fS]
  refine⟨.ref _,_,I4.laid (t':=s3.toks) (o:=.lst xs.reverse) (fun b ob q=>Heap.get?_push_of_some _ q) (Nat.le_refl _) ?_,rfl,q3 _ (I4.hok.fresh (Nat.le_refl _))⟩
  exact⟨by rw[List.length_reverse];exact hz,_,0,r.reverse,Heap.get?_push_size _ rfl⟩) (by rw[hlen];exact hz)
 show wpAny (model X.prog X.w) X.A (subscriptTail e (.Slice none none (some st) p2) (.ref a) (.ref s3.heap.objs.size)) (EP X pins σ Q) X.xe { s3 with heap:=s3.heap.push { cls:=.type "slice",data:=.fields #[.none,.none,.int (-1) tk] } }
 exact tail_any (ops:=[.ref a,.ref s3.heap.objs.size]) ht.isList.typeIs slot_list_getitem.lookup hg (by with_unfolding_all rfl)
end
end L2
namespace L3
open PySem PySem.Spec PyProof.Rows L2
section
variable {X:Cx} {e st:Expr} {te ts:aD} {p2 pos:Pos}
def nn(te ts:aD):aD:=fun σ S Q E=>te σ S (fun x S1=>ts σ S1 (fun y S2=>match x,y with
 | .ref a,.int i=>i = -1/\(match S2 a with|some (.lst xs)=>∀p,S2 p=none->Q (.ref p) (xi S2 p (.lst xs.reverse))|_=>False)
 |_,_=>False) E) E
def sH(he:aF X e te)(hs:aF X st ts):aF X (.Subscript e (.Slice none none (some st) p2) pos) (nn te ts):=
 ⟨ax (pF he.ok hs.ok) fun σ H Q ⟨σ3,S,Q3,E3,rσ,rS,h,xo,k⟩=>⟨σ3,S,_,E3,rσ,rS,h,xo,fun x S1 v H1 h1 rx xx g1=>⟨σ3,S1,_,E3,rσ.mono g1,xx,h1,xo.mono g1,fun y S2 u H2 h2 ry yE g2=>by
  dsimp only at h2
  split at h2
  ·cases ry
   cases rx
   obtain⟨e1,h2⟩:=h2
   split at h2
   ·rename_i ea
    obtain⟨vs,hv,rs⟩:=yE _ _ ea
    exact⟨by rw[e1],_,_,rfl,SqL.of hv,fun p hp=>k _ _ _ _ (h2 p (yE.free hp)) (.ref p) (yE.new hp ⟨_,ag,rs.reverse.mono (.new hp)⟩) (g1.trans (g2.trans (.new hp)))⟩
   ·exact h2.elim
  ·exact h2.elim⟩⟩⟩
end
end L3
namespace L3
open PySem L2
theorem iU:∀{a b:List Char},a.map Char.toNat=b.map Char.toNat->a=b
 |[],[],_=>rfl
 |[],_::_,h=>by simp at h
 |_::_,[],h=>by simp at h
 |x::a,y::b,h=>by
  simp only[List.map_cons,List.cons.injEq]at h
  rw[iU h.2,Char.toNat_inj.mp h.1]
def bC{a b:String}:(Str.ofString a=Str.ofString b)↔a=b:=by
 refine⟨fun h=>?_,fun h=>by rw[h]⟩
 rw[Str.ofString_eq_toList,Str.ofString_eq_toList]at h
 have h':a.toList.map Char.toNat=b.toList.map Char.toNat:=by
  have:=congrArg (fun s:Str=>s.cps.toList) h
  simpa using this
 exact String.toList_inj.mp (iU h')
def sI{i j:Int}(h1:-(2 ^ 64) < i)(h2:i < 2 ^ 64):IntMulOk i j:=(show At i j from .inl ⟨h1,h2⟩).ok
def nq{i j:Int}(h1:-(2 ^ 64) < j)(h2:j < 2 ^ 64):IntMulOk i j:=(show At i j from .inr ⟨h1,h2⟩).ok
def eO{i j:Int}(h:0<=j):i.fmod j=i % j:=Int.fmod_eq_emod_of_nonneg i h
def nr{i j:Int}(h:0<=j):i.fdiv j=i / j:=Int.fdiv_eq_ediv_of_nonneg i h
def x_(d l:Addr)(S S':au):Prop:=∀a o,S a=some o->a≠d->a≠l->S' a=some o
def x_.refl{d l:Addr}{S:au}:x_ d l S S:=fun _ _ h _ _=>h
def x_.trans{d l:Addr}{S S1 S2:au}(a:x_ d l S S1)(b:x_ d l S1 S2):x_ d l S S2:=fun x o h h1 h2=>b x o (a x o h h1 h2) h1 h2
def x_.upd{d l:Addr}{S:au}{o:SO}:x_ d l S (xi S d o):=fun x u h h1 h2=>by rw[aq h1];exact h
def x_.DK{d l:Addr}{S:au}{o:SO}:x_ d l S (xi S l o):=fun x u h h1 h2=>by rw[aq h2];exact h
def x_.new{d l p:Addr}{S:au}{o:SO}(h:S p=none):x_ d l S (xi S p o):=fun x u hx h1 h2=>by rw[aq (fun e=>by rw[e,h]at hx;cases hx)];exact hx
end L3
local macro_rules | `(tactic| walk_at "x")=>`(tactic| ((try dsimp only [L3.af,L3.az,L3.aR,L3.fz,L3.fM,L3.bO,L3.ap,L3.v3,L3.c3,L3.lk,L3.bG,L3.aj,L3.av,L3.i8,L3.b7,L3.k_,L3.mE,L3.iE,L3.iF,L3.mG,L3.jA,L3.jz,L3.di,L3.bh,L3.qe,L3.iG,L3.aI,L3.jv,L3.br,L3.n6,L3.j_,L3.lb,L3.d9,L3.dl,L3.dN,L3.dj,L3.eL,L3.eU,L3.su,L3.n9,L3.tL,L3.dI,L3.tE,L3.aB,L3.ef,L3.dw,L3.jx,L3.ft,L3.b9,List.set_cons_zero,List.set_cons_succ,List.set_nil,L3.tI,L3.eg,L3.lh,L3.cy,L3.cO,L3.gu,L3.eS,L3.hJ,L3.Tg.put,L3.Tg.xZ,L3.iK,L3.eh,L3.iL,L3.jB,L3.iI,L3.bR,List.reduceReplicate,List.map_cons,List.map_nil,List.cons_append,List.nil_append,L3.bu,L3.bW,L3.gC]); (try simp only [L3.af,L3.az,L3.aR,L3.fz,L3.fM,L3.bO,L3.ap,L3.v3,L3.c3,L3.lk,L3.bG,L3.aj,L3.av,L3.i8,L3.b7,L3.k_,L3.mE,L3.iE,L3.iF,L3.mG,L3.jA,L3.jz,L3.di,L3.bh,L3.qe,L3.iG,L3.aI,L3.jv,L3.br,L3.n6,L3.j_,L3.lb,L3.d9,L3.dl,L3.dN,L3.dj,L3.eL,L3.eU,L3.su,L3.n9,L3.tL,L3.dI,L3.tE,L3.aB,L3.ef,L3.dw,L3.jx,L3.ft,L3.b9,List.set_cons_zero,List.set_cons_succ,List.set_nil,L3.tI,L3.eg,L3.lh,L3.cy,L3.cO,L3.gu,L3.eS,L3.hJ,L3.Tg.put,L3.Tg.xZ,L3.iK,L3.eh,L3.iL,L3.jB,L3.iI,L3.bR,List.reduceReplicate,List.map_cons,List.map_nil,List.cons_append,List.nil_append,L3.bu,L3.bW,L3.gC])))
namespace C
open PySem L2 L3
noncomputable def aT(seed number:Int)(l:Addr):List (aS×PV):=[(Sum.inr "seed",.int seed),(Sum.inr "number",.int number),(Sum.inr "left",.ref l)]
structure yJ (S:au) (d l:Addr) (seed number:Int) (left:Vu):Prop where
 d:S d=some (.dct (aT seed number l))
 l:S l=some (.lst (left.map PV.int))
 s0:0<=seed
 s1:seed < 2147483647
 nm:0<=number
 lf:∀x∈left,0<=x
 ln:left.length<=100
def xB(S:au)(d l:Addr):Prop:=∃seed number left,yJ S d l seed number left
def yJ.ne{S:au}{d l:Addr}{seed number:Int}{left:Vu}(D:yJ S d l seed number left):d≠l:=fun e=>by
 have h:=D.d
 rw[e,D.l]at h
 cases h
def xB.new{S:au}{d l p:Addr}{o:SO}(D:xB S d l)(h:S p=none):xB (xi S p o) d l:=by
 obtain⟨s,n,f,D⟩:=D
 refine⟨s,n,f,?_,?_,D.s0,D.s1,D.nm,D.lf,D.ln⟩
 ·rw[aq (fun e=>by have:=D.d;rw[e,h]at this;cases this)];exact D.d
 ·rw[aq (fun e=>by have:=D.l;rw[e,h]at this;cases this)];exact D.l
def xB.free{S:au}{d l p:Addr}(D:xB S d l)(h:S p=none):p≠d/\p≠l:=by
 obtain⟨s,n,f,D⟩:=D
 exact⟨(fun e=>by have:=D.d;rw[<-e,h]at this;cases this),(fun e=>by have:=D.l;rw[<-e,h]at this;cases this)⟩
def fI(s n m:Int)(l:Addr):g7 (aT s n l) (Sum.inr "number") (.int m)=aT s m l:=by
 simp[g7,aT,bC]
def nu(s n m:Int)(l:Addr):g7 (aT s n l) (Sum.inr "seed") (.int m)=aT m n l:=by
 simp[g7,aT,bC]
def sJ(s n:Int)(l:Addr):fR (aT s n l) (Sum.inr "seed")=some (.int s):=by simp[fR,aT,bC]
def nv(s n:Int)(l:Addr):fR (aT s n l) (Sum.inr "number")=some (.int n):=by simp[fR,aT,bC]
def sK(s n:Int)(l:Addr):fR (aT s n l) (Sum.inr "left")=some (.ref l):=by simp[fR,aT,bC]
abbrev cS(w:aP):Prop:=∀{S:au} {d l:Addr} {m:Int} {Q:cE} {E:de},xB S d l->0 < m->m < 2 ^ 62->(∀r S',0<=r->r < m->xB S' d l->x_ d l S S'->Q (.int r) S')->w [.ref d,.int m] S Q E
end C
namespace L3
open PySem L2
def Ext(S S':au):Prop:=∀a o,S a=some o->S' a=some o
def Ext.refl{S:au}:Ext S S:=fun _ _ h=>h
def Ext.trans{S S1 S2:au}(a:Ext S S1)(b:Ext S1 S2):Ext S S2:=fun x o h=>b x o (a x o h)
def Ext.new{S:au}{p:Addr}{o:SO}(h:S p=none):Ext S (xi S p o):=fun x u hx=>by rw[aq (fun e=>by rw[e,h]at hx;cases hx)];exact hx
def Ext.free{S S':au}(e:Ext S S'){p:Addr}(h:S' p=none):S p=none:=by
 cases q:S p with
 |none=>rfl
 |some o=>rw[e p o q]at h;cases h
theorem cq{g:Tg}{tc:fq}{te:aD}{σ':bq}{keep:au->Prop}{fin:List PV->au->Prop}{S:au}(f:PV->PV)(c:PV->Bool)(hk:keep S):∀(items ys:List PV),
  (∀x∈items,∃σ2,g.put x σ'=some σ2/\(∀Q:Bool->au->Prop,Q (c x) S->tc σ2 S Q fN)/\(c x=true->∀Q:cE,Q (f x) S->te σ2 S Q fN))->ys.length+items.length<=sizeLine->fin (ys++(items.filter c).map f) S->dm g tc te σ' keep fin items ys S
 |[],ys,_,hl,hf=>⟨hk,by simpa using hl,by simpa using hf⟩
 |x::r,ys,h,hl,hf=>by
  obtain⟨σ2,e,h1,h2⟩:=h x (by simp)
  refine⟨hk,by simp at hl;omega,?_⟩
  rw[e]
  refine h1 _ ?_
  cases hc:c x with
  |true=>
   rw[if_pos rfl]
   refine h2 hc _ (cq f c hk r (ys++[f x]) (fun y hy=>h y (by simp[hy])) (by simp at hl ⊢;omega) ?_)
   rw[List.filter_cons,hc,if_pos rfl]at hf
   simpa using hf
  |false=>
   rw[if_neg (by decide)]
   refine cq f c hk r ys (fun y hy=>h y (by simp[hy])) (by simp at hl ⊢;omega) ?_
   rw[List.filter_cons,hc,if_neg (by decide)]at hf
   exact hf
def lF{g:Tg}{te:aD}{σ':bq}{keep:au->Prop}{fin:List PV->au->Prop}{S:au}(f:PV->PV){items:List PV}(hk:keep S)
  (h:∀x∈items,∃σ2,g.put x σ'=some σ2/\∀Q:cE,Q (f x) S->te σ2 S Q fN) (hl:items.length<=sizeLine) (hf:fin (items.map f) S):dm g lp te σ' keep fin items [] S:=by
 refine cq f (fun _=>true) hk items [] (fun x hx=>?_) (by simpa using hl) (by rw[List.filter_eq_self.mpr (fun _ _=>rfl)];exact hf)
 obtain⟨σ2,e,k⟩:=h x hx
 exact⟨σ2,e,fun Q q=>q,fun _=>k⟩
theorem iV{g:Tg}{tb:bj}{D:eK}{keep:au->Prop}{items:List PV}(Iv:List PV->bq->au->Prop)(hk:∀done σ S,Iv done σ S->keep S)
  (step:∀done x rest σ S (K:bq->au->Prop),items=done++x::rest->Iv done σ S->(∀σ' S',Iv (done++[x]) σ' S'->K σ' S')->match g.put x σ with
   |some σ'=>tb { D with nx:=K,ct:=K,bk:=D.nx } σ' S
   |none=>False)
  (hd:∀σ S,Iv items σ S->D.nx σ S):∀(rest done:List PV) (σ:bq) (S:au),items=done++rest->Iv done σ S->hG g tb D keep rest σ S
 |[],done,σ,S,e,h=>by
  rw[List.append_nil]at e
  exact⟨hk _ _ _ h,hd σ S (e▸h)⟩
 |x::rest,done,σ,S,e,h=>
  ⟨hk _ _ _ h,step done x rest σ S (hG g tb D keep rest) e h fun σ' S' h'=>iV Iv hk step hd rest (done++[x]) σ' S' (by rw[e];simp) h'⟩
def dW{g:Tg}{tb:bj}{D:eK}{keep:au->Prop}{items:List PV}{σ:bq}{S:au}(Iv:List PV->bq->au->Prop)(h0:Iv [] σ S)(hk:∀done σ S,Iv done σ S->keep S)
  (step:∀done x rest σ S (K:bq->au->Prop),items=done++x::rest->Iv done σ S->(∀σ' S',Iv (done++[x]) σ' S'->K σ' S')->match g.put x σ with
   |some σ'=>tb { D with nx:=K,ct:=K,bk:=D.nx } σ' S
   |none=>False)
  (hd:∀σ S,Iv items σ S->D.nx σ S):hG g tb D keep items σ S:=iV Iv hk step hd items [] σ S rfl h0
def ay{t u:bj}{D:eK}{σ:bq}{S:au}(h:∀N:bq->au->Prop,(∀σ S,u D σ S->N σ S)->t { D with nx:=N } σ S):af t u D σ S:=h (u D) fun _ _ q=>q
def lK{n:Nat}{b:bj}{args:List PV}{S:au}{Q:cE}{E:de}(h:b { nx:=fun _ S'=>Q .non S',rt:=Q,ex:=fN } (aC n args) S):df n b args S Q E:=h
def nw{α β:Type}(f:α->β)(xs:List α)(lo hi:Option Int):bV (xs.map f) lo hi=(bV xs lo hi).map f:=by
 unfold bV
 rw[List.length_map,List.map_take,List.map_drop]
def ny{α:Type}(xs:List α)(lo hi:Option Int):(bV xs lo hi).length<=xs.length:=by
 unfold bV
 rw[List.length_take,List.length_drop]
 omega
def kl{n:Nat}(h:n<=1000):n<=sizeLine:=Nat.le_of_lt (b5 h)
section
variable {α:Type} {a b c d e:α} {l:List α}
def w_:xT (a::l) 0=some a:=by simp[xT,nY]
def Bx:xT (a::b::l) 1=some b:=c_ (j:=1) rfl
def sL:xT [a] (-1)=some a:=rfl
def sM:xT [a,b] (-1)=some b:=rfl
def sN:xT [a,b,c] (-1)=some c:=rfl
def sO:xT [a,b,c,d] (-1)=some d:=rfl
def sP:xT [a,b,c,d,e] (-1)=some e:=rfl
def sQ:xT [a,b] (-2)=some a:=rfl
def sR:xT [a,b,c] (-2)=some b:=rfl
def sS:xT [a,b,c,d] (-2)=some c:=rfl
def sT:xT [a,b,c,d,e] (-2)=some d:=rfl
end
end L3
namespace C
open PySem L2 L3
abbrev iW(w:aP):Prop:=∀{S:au} {ns:Vu} {b:Int} {Q:cE} {E:de},ns.length<=63->0<=b->b < 1000->(∀d l S',S d=none->S l=none->xB S' d l->Ext S S'->Q (.ref d) S')->w [.cl (ns.map PV.int),.int b] S Q E
def zk:iW (df 5 cQ):=by
 intro S ns b Q E hn h0 h1 k
 unfold df cQ
 rw[show aC 5 [PV.cl (ns.map PV.int),PV.int b]=[some (.cl (ns.map PV.int)),some (.int b),none,none,none] from rfl]
 walk_at "x"
 intro p hp
 rw[aa]
 dsimp only
 rw[nw]
 have hx:(bV ns (some b) (some 63)).length<=63:=Nat.le_trans (ny _ _ _) hn
 generalize bV ns (some b) (some 63)=xs at hx
 refine lF (fun v=>match v with | .int i=>.int (if 0 - i > i then 0 - i else i)|v=>v) aa (fun x hx=>?_) (kl (by rw[List.length_map];omega)) ?_
 ·obtain⟨i,hi,rfl⟩:=List.mem_map.mp hx
  refine⟨[some (.int i)],rfl,fun Q q=>?_⟩
  walk_at "x"
  exact q
 intro p2 hp2
 rw[aa]
 dsimp only
 rw[List.map_map]
 have e0:(xs.map ((fun v=>match v with | .int i=>.int (if 0 - i > i then 0 - i else i)|v=>v) ∘ PV.int))=(xs.map fun i=>if 0 - i > i then 0 - i else i).map PV.int:=by
  rw[List.map_map];rfl
 rw[e0]
 have hy:((xs.map fun i=>if 0 - i > i then 0 - i else i)).length<=63:=by rw[List.length_map];exact hx
 have BU:∀y∈xs.map (fun i:Int=>if 0 - i > i then 0 - i else i),0<=y:=by
  intro y hy
  obtain⟨i,_,rfl⟩:=List.mem_map.mp hy
  split<;>omega
 generalize (xs.map fun i=>if 0 - i > i then 0 - i else i)=ys at hy BU
 have h2:p2≠p:=fun e=>by rw[e,aa]at hp2;cases hp2
 have hp2':S p2=none:=by rw[<-hp2,aq h2]
 refine dW (fun done σ S'=>S'=xi (xi S p (.lst (xs.map PV.int))) p2 (.lst (ys.map PV.int))/\∃v2 n,0<=n/\n < 2147483647/\σ=[some (.cl (ns.map PV.int)),some (.int b),v2,some (.ref p2),some (.int n)]) ⟨rfl,none,7919+b,by omega,by omega,rfl⟩ (fun done σ S' h=>by rw[h.1];exact aa) ?_ ?_
 ·rintro done x rest σ S' K e ⟨rfl,v2,n,n0,n1,rfl⟩ hK
  obtain⟨i,hi,rfl⟩:∃i,i∈ys/\x = .int i:=by
   have:x∈ys.map PV.int:=by rw[e];simp
   obtain⟨i,hi,rfl⟩:=List.mem_map.mp this
   exact⟨i,hi,rfl⟩
  walk_at "x"
  refine⟨nq (by decide) (by decide),by decide,by decide,hK _ _ ⟨rfl,_,_,?_,?_,rfl⟩⟩
  ·rw[eO (by decide)];omega
  ·rw[eO (i:=(n * 48271+_)) (by decide)];omega
 ·rintro σ S' ⟨rfl,v2,n,n0,n1,rfl⟩
  walk_at "x"
  intro d hd
  have hd2:d≠p2:=fun e=>by rw[e,aa]at hd;cases hd
  rw[aq hd2]at hd
  have hd1:d≠p:=fun e=>by rw[e,aa]at hd;cases hd
  rw[aq hd1]at hd
  rw[aq hd2.symm,aa]
  dsimp only
  refine cq (fun v=>v) (fun v=>match v with | .int i=>decide (10 ^ 18<=i)|_=>false) (by rw[aq hd2.symm,aa]) _ [] (fun x hx=>?_) (by rw[List.length_map];exact kl (by simp;omega)) ?_
  ·obtain⟨i,hi,rfl⟩:=List.mem_map.mp hx
   refine⟨[some (.int i)],rfl,fun Q q=>?_,fun _ Q q=>?_⟩
   ·walk_at "x"
    exact⟨⟨by decide,by decide,by decide⟩,q⟩
   ·walk_at "x"
    exact q
  intro p3 hp3
  rw[aa]
  intro l hl
  have e3:([]++List.map (fun v:PV=>v) (List.filter (fun v=>match v with | .int i=>decide (10 ^ 18<=i)|_=>false) (List.map PV.int ys)))=(ys.filter fun i=>decide (10 ^ 18<=i)).map PV.int:=by
   rw[List.nil_append,List.map_id',List.filter_map]
   rfl
  rw[e3]at hl ⊢
  rw[<-List.map_reverse]
  generalize CV:xi (xi (xi (xi S p (SO.lst (List.map PV.int xs))) p2 (SO.lst (List.map PV.int ys))) d (SO.dct [])) p3 (SO.lst (List.map PV.int (List.filter (fun i=>decide (10 ^ 18<=i)) ys)))=S3 at hl ⊢
  have BV:S3 d=some (.dct []):=by rw[<-CV,aq (fun e=>by rw[<-e,aa]at hp3;cases hp3),aa]
  have CW:l≠d:=fun e=>by rw[e,BV]at hl;cases hl
  have Cn:Ext S S3:=by
   rw[<-CV]
   refine(Ext.new hp).trans ((Ext.new hp2).trans ((Ext.new ?_).trans (.new hp3)))
   rw[aq hd2,aq hd1];exact hd
  refine⟨by rw[aq CW.symm];exact BV,?_⟩
  have e4:iJ [(PV.str "seed",PV.int n),(PV.str "number",PV.int 0),(PV.str "left",PV.ref l)]=some (aT n 0 l):=rfl
  rw[e4]
  have e5:hU [] (aT n 0 l)=aT n 0 l:=by simp[hU,aT,g7,bC]
  dsimp only
  rw[e5]
  refine k d l _ hd (Cn.free hl) ⟨n,0,_,aa,by rw[aq CW,aa],n0,n1,Int.le_refl _,fun y hy=>?_,?_⟩ ?_
  ·exact BU y (List.mem_filter.mp (List.mem_reverse.mp hy)).1
  ·rw[List.length_reverse]
   exact Nat.le_trans (List.length_filter_le _ _) (by omega)
  ·intro a o ha
   have had:a≠d:=fun e=>by rw[e,hd]at ha;cases ha
   rw[aq had,aq (fun e=>by rw[e,Cn.free hl]at ha;cases ha)]
   exact Cn a o ha
end C
namespace L3
open PySem L2
theorem iX(S:au):∀zs:List Str,yA S (zs.map PV.str) (zs.map PyData.str)
 |[]=>.nil
 |z::r=>.cons (.str z) (iX S r)
end L3
namespace C
open PySem L2 L3 Wd
def km{α:Type}{xs:List α}{r:Int}(h0:0<=r)(h1:r < xs.length):∃v,xT xs r=some v/\v∈xs:=by
 obtain⟨n,rfl⟩:=Int.eq_ofNat_of_zero_le h0
 have hn:n < xs.length:=by omega
 exact⟨xs[n],c_ (by simp[hn]),List.getElem_mem hn⟩
end C
local macro_rules | `(tactic| walk_at "w")=>`(tactic| simp only [L3.af,L3.az,L3.aR,L3.fz,L3.fM,L3.bO,L3.ap,L3.v3,L3.c3,L3.lk,L3.bG,L3.aj,L3.av,L3.i8,L3.b7,L3.k_,L3.mE,L3.iE,L3.iF,L3.mG,L3.jA,L3.jz,L3.di,L3.bh,L3.qe,L3.iG,L3.aI,L3.jv,L3.br,L3.n6,L3.j_,L3.lb,L3.d9,L3.dl,L3.dN,L3.dj,L3.eL,L3.eU,L3.su,L3.n9,L3.tL,L3.dI,L3.tE,L3.aB,L3.ef,L3.dw,L3.jx,L3.ft,L3.b9,List.set_cons_zero,List.set_cons_succ,List.set_nil,L3.tI,L3.eg,L3.lh,L3.cy,L3.cO,L3.gu,L3.eS,L3.hJ,L3.Tg.put,L3.Tg.xZ,L3.iK,L3.eh,L3.iL,L3.jB,L3.iI,L3.bR,List.reduceReplicate,List.map_cons,List.map_nil,List.cons_append,List.nil_append,L3.w_,L3.Bx,L3.sL,L3.sM,L3.sN,L3.sO,L3.sP,L3.sQ,L3.sR,L3.sS,L3.sT,L3.bC,String.reduceEq,decide_true,decide_false,Bool.false_bne,Bool.true_bne,Bool.not_true,Bool.not_false,if_true,if_false,Bool.false_eq_true,reduceIte,ite_true,ite_false,L3.bu,L3.bW,L3.gC])
local macro_rules | `(tactic| walk_at "y")=>`(tactic| ((try walk_at "x"); (try walk_at "w")))
namespace C
open PySem L2 L3 Wd
structure Sh (S:au) (v:PV) (d:PyData) (n k:Nat):Prop where
 dat:Dat S v d
 lay:d.canLay0=true
 A3:d.showable=true
 dep:d.depth<=k
 len:d.shown.length<=n
structure Ar (S:au) (vs:List PV) (ds:List PyData) (n k:Nat):Prop where
 dat:yA S vs ds
 lay:PyData.canLayAll0 ds=true
 A3:PyData.showableAll ds=true
 dep:PyData.depthAll ds<=k
 len:piled (PyData.shownAll ds)<=n
def Sh.le{S:au}{v:PV}{d:PyData}{n k m j:Nat}(h:Sh S v d n k)(a:n<=m)(b:k<=j):Sh S v d m j:=⟨h.dat,h.lay,h.A3,Nat.le_trans h.dep b,Nat.le_trans h.len a⟩
def Ar.le{S:au}{v:List PV}{d:List PyData}{n k m j:Nat}(h:Ar S v d n k)(a:n<=m)(b:k<=j):Ar S v d m j:=⟨h.dat,h.lay,h.A3,Nat.le_trans h.dep b,Nat.le_trans h.len a⟩
theorem Sh.int{S:au}{i:Int}(h:i.natAbs.log2 < 1920):Sh S (.int i) (.int i) 1921 0:=
 ⟨.int i,by simp[PyData.canLay0],by simpa [PyData.showable]using h,by simp[PyData.depth],by rw[PyData.shown_int];exact PyProof.Rows.int_text_len_1921 h⟩
theorem Sh.str{S:au}{z:Str}(h:PyData.strOk z=true):Sh S (.str z) (.str z) (10 * z.length+2) 0:=
 ⟨.str z,by simpa [PyData.canLay0]using h,by simp[PyData.showable],by simp[PyData.depth],by
  rw[PyData.shown_str]
  refine StrLaws.reprText_len z fun c hc=>?_
  have h3:=Array.all_eq_true_iff_forall_mem.mp h c (Array.mem_toList_iff.mp hc)
  have h4:c < 0x110000:=by simpa using h3
  have e:(16:Nat) ^ 8=4294967296:=by decide
  omega⟩
theorem Ar.nil{S:au}:Ar S [] [] 0 0:=⟨.nil,by simp[PyData.canLayAll0],by simp[PyData.showableAll],by simp[PyData.depthAll],by simp[PyData.shownAll,piled]⟩
theorem Sh.cons{S:au}{v:PV}{d:PyData}{n k:Nat}{vs:List PV}{ds:List PyData}{m:Nat}(a:Sh S v d n k)(b:Ar S vs ds m k):Ar S (v::vs) (d::ds) (n+2+m) k:=
 ⟨.cons a.dat b.dat,by simp[PyData.canLayAll0,a.lay,b.lay],by simp[PyData.showableAll,a.A3,b.A3],by simp only[PyData.depthAll];exact Nat.max_le.mpr ⟨a.dep,b.dep⟩,by
  rw[PyData.shownAll_cons,piled_cons]
  have:=a.len
  have:=b.len
  omega⟩
theorem Sh.tup{S:au}{n k:Nat}{vs:List PV}{ds:List PyData}(a:Ar S vs ds n k):Sh S (.tup vs) (.tuple ds) (n+3) (k+1):=
 ⟨.tup a.dat,by simp[PyData.canLay0,a.lay],by simp[PyData.showable,a.A3],by simp only[PyData.depth];exact Nat.succ_le_succ a.dep,by
  rw[PyData.shown_tuple,strLen_append,strLen_append]
  have e1:((("(":String):Str)).length=1:=rfl
  have e3:(((if ds.length == 1 then ",)" else ")":String):Str)).length<=2:=by split<;>decide
  have q:=a.len
  rcases ds with _|⟨d,ds⟩
  ·have:(Str.join ", " (PyData.shownAll [])).length=0:=by simp[PyData.shownAll];rfl
   omega
  ·have:=join_length_add (PyData.shownAll (d::ds)) (by simp[PyData.shownAll])
   omega⟩
def Sh.dict{S:au}{v:PV}{d:PyData}{n k:Nat}(h:Sh S v d n k):d.hasDict=false:=PyData.hasDict_of_canLay d h.lay
def sU:(2:Nat) ^ 24<=sizeLine:=by decide
def fJ{S:au}{vs:List PV}{d:PyData}{n k:Nat}{Q:cE}(h:Sh S (.tup vs) d n k)(hn:n<=2 ^ 24)(hk:k<=100)(q:Q (.str d.shown) S):gq [.tup vs] S Q:=by
 unfold gq
 exact⟨d,h.dat,h.A3,h.dict,Nat.le_trans h.dep hk,Nat.le_trans h.len (Nat.le_trans hn sU),q⟩
def Ar.Ay{S:au}(k:Nat):Ar S [] [] 0 k:=.le .nil (Nat.le_refl _) (Nat.zero_le _)
def xB.ext{S S':au}{d l:Addr}(D:xB S d l)(e:Ext S S'):xB S' d l:=by
 obtain⟨s,n,f,D⟩:=D
 exact⟨s,n,f,e _ _ D.d,e _ _ D.l,D.s0,D.s1,D.nm,D.lf,D.ln⟩
end C
namespace CX
open PySem L2 L3 Wd
open C
def sV{n:Nat}{b:bj}{args:List PV}{S:au}{Q:cE}{E:de}(h:b { nx:=fun _ S'=>Q .non S',rt:=Q,ex:=fun p _ S'=>E p [] S' } (aC n args) S):hZ n b args S Q E:=h
end CX
namespace C
open PySem L2 L3 Wd
theorem gI{α:Type}{g:Tg}{te:aD}{σ':bq}{keep:au->Prop}{fin:List PV->au->Prop}{S:au}(enc f:α->PV)(hk:keep S):∀(xs:List α) (ys:List PV),
  (∀x∈xs,∃σ2,g.put (enc x) σ'=some σ2/\∀Q:cE,Q (f x) S->te σ2 S Q fN)->ys.length+xs.length<=sizeLine->fin (ys++xs.map f) S->dm g lp te σ' keep fin (xs.map enc) ys S
 |[],ys,_,hl,hf=>⟨hk,by simpa using hl,by simpa using hf⟩
 |x::r,ys,h,hl,hf=>by
  obtain⟨σ2,e,h1⟩:=h x (by simp)
  refine⟨hk,by simp at hl;omega,?_⟩
  rw[e]
  show te σ2 S (fun y S4=>dm g lp te σ' keep fin (r.map enc) (ys++[y]) S4) fN
  exact h1 _ (gI enc f hk r (ys++[f x]) (fun y hy=>h y (by simp[hy])) (by simp at hl ⊢;omega) (by simpa using hf))
abbrev fK(w:aP):Prop:=∀{S:au} {a b:Int} {Q:cE} {E:de},0<=a->0<=b->Q (.int (Int.gcd a b)) S->w [.int a,.int b] S Q E
def lG:fK (df 3 fD):=by
 intro S a b Q E ha hb k
 unfold fD
 refine lK ?_
 rw[show aC 3 [PV.int a,PV.int b]=[some (.int a),some (.int b),none] from rfl]
 refine ay fun N hN=>?_
 refine⟨fun n σ S'=>S'=S/\∃(x y:Int) (z:Option PV),σ=[some (.int x),some (.int y),z]/\0<=x/\0<=y/\Int.gcd x y=Int.gcd a b/\y.toNat=n,⟨_,rfl,a,b,none,rfl,ha,hb,rfl,rfl⟩,?_⟩
 rintro n σ S' ⟨rfl,x,y,z,rfl,hx,hy,hg,rfl⟩
 walk_at "x"
 simp only[Bool.true_bne,Bool.not_eq_true',decide_eq_false_iff_not]
 split
 ·rename_i hp
  refine⟨fun σ' By=>By=S'/\∃(x' y':Int) (z':Option PV),σ'=[some (.int x'),some (.int y'),z']/\0<=x'/\0<=y'/\Int.gcd x' y'=Int.gcd a b/\y'.toNat < y.toNat,?_,?_⟩
  ·rintro σ' By ⟨rfl,x',y',z',rfl,h1,h2,h3,h4⟩
   exact⟨_,h4,rfl,x',y',z',rfl,h1,h2,h3,rfl⟩
  ·have e:x.fmod y=x % y:=eO hy
   have l1:=Int.emod_nonneg x (b:=y) hp
   have l2:=Int.emod_lt_of_pos x (show 0 < y by omega)
   refine⟨hp,rfl,y,x.fmod y,_,rfl,hy,by omega,?_,by omega⟩
   rw[M3.mj];exact hg
 ·rename_i hp
  have BU:y=0:=by omega
  subst BU
  refine hN _ _ ?_
  walk_at "x"
  rw[if_neg (by omega)]
  have DL:x=(Int.gcd a b:Int):=by
   rw[<-hg]
   rw[Int.gcd_zero_right]
   omega
  rw[DL]
  exact k
end C
namespace G05
open PySem L2 L3
noncomputable def cU(i:Nat):Stmt:=PySem.Challenge.pw_dueworth_k05_texts_of_fractions.main.body.getD i (.Pass ⟨0,0,0,0⟩)
noncomputable def mt(i j:Nat):Stmt:=(pr (cU i)).getD j (.Pass ⟨0,0,0,0⟩)
noncomputable abbrev BW:List (Str×Str):=[("BadText","row")]
noncomputable abbrev zx:List (Str×Str×Bool):=[("BadText","BadText",true),("BadText","NoHouse",false),("BadText","Stuck",false),("BadText","TooLong",false),("BadText","NoStory",false),("BadText","TooMany",false),("BadText","NoRow",false)]
structure Txt (P:Program) (w:World) (K:Vo) (mg:Vr):Prop where
 o_common:cp K mg "common" (cU 11) ["one","other"]
 o_show_figures:cp K mg "show_figures" (cU 12) ["number"]
 o_read_figures:cp K mg "read_figures" (cU 13) ["text"]
 o_show_fraction:cp K mg "show_fraction" (cU 14) ["one"]
 o_read_from_nought_on:cp K mg "read_from_nought_on" (cU 15) ["text"]
 o_read_fraction:cp K mg "read_fraction" (cU 16) ["text"]
 o__law_deal:cp K mg "_law_deal" (cU 18) ["_law_script","_law_base"]
 o__law_draw:cp K mg "_law_draw" (cU 19) ["_law_deal_here","_law_many"]
 o__law_lowest:cp K mg "_law_lowest" (cU 20) ["_law_top","_law_bottom"]
 o__law_signs:cp K mg "_law_signs" (cU 21) []
 o__law_fraction:cp K mg "_law_fraction" (cU 22) ["_law_deal_here"]
 o__law_text:cp K mg "_law_text" (cU 23) ["_law_one"]
 o__law_spoilt:cp K mg "_law_spoilt" (cU 24) ["_law_deal_here","_law_text_here"]
 o__law_odd:cp K mg "_law_odd" (cU 25) ["_law_deal_here"]
 o__law_due:cp K mg "_law_due" (cU 26) ["_law_text_here"]
 o__law_heard:cp K mg "_law_heard" (cU 27) ["_law_text_here"]
 zl:mg "ValueError" = none
 AH:mg "abs" = none
 Bz:mg "all" = none
 A4:mg "bool" = none
 zy:mg "enumerate" = none
 ze:mg "int" = none
 xQ:mg "isinstance" = none
 yH:mg "len" = none
 A5:mg "list" = none
 AI:mg "max" = none
 zm:mg "range" = none
 yK:mg "repr" = none
 yY:mg "reversed" = none
 yZ:mg "str" = none
 z0:∃t,mg "FIGURES" = some (.str "0123456789" t)
 A6:n_ K mg "DueError"
 z3:n_ K mg "BadText"
 z4:n_ K mg "NoHouse"
 Az:n_ K mg "Stuck"
 z5:n_ K mg "TooLong"
 z6:n_ K mg "NoStory"
 z7:n_ K mg "TooMany"
 AA:n_ K mg "NoRow"
 z8:wv K mg "BadText" "BadText.__init__" (mt 2 0) ["self","row"] ["row"]
 zI:ww K mg "DueError" ["BadText"]
 x_at:yX K BW
 Ak:XTab K zx
section
variable {P:Program} {w:World} {K:Vo} {mg:Vr} {base:Heap}
def wx:(["sign"]:Vs).Nodup:=by decide +kernel
def u5:(["_law_one"]:Vs).Nodup:=by decide +kernel
def wy:(["_law_sign"]:Vs).Nodup:=by decide +kernel
def bK(T:Txt P w K mg):wu P w K mg base "BadText" ["row"]:=w5 ["self","row"] T.z8 rfl fun _ _ _ _ _ _ _=>jT (rJ (pv 0) (pv 1) rfl)
def iY:aP:=df 3 C.fD
def lH(T:Txt P w K mg):i9 P w K mg base 1 "common" 2 iY:=ls ["one","other","left"] T.o_common (fun _ _ _ _ _ _ _ hr nd=>(ad (eY PassesOwn.never (ql hr (ah 1) ac) (ad (s4 2 nd (ao cz (ah 0) (ah 1)))
  (ad (s4 0 nd (ah 1))
  (ar (s4 1 nd (ah 2))))))
  (ar (aJ (cB qg T.AH (l1 (ah 0))))))) rfl
def bL:bj:=(af (az 1 (bh []))
  (af (fA (b7 (ap tL (v3 0) (ap eU (c3 (.int 10)) (c3 (.int 60))))) (af (fz (i8 "list" bR (v3 1) [(i8 "str" fG (aj bQ [(ap dj (v3 0) (ap eU (c3 (.int 10)) (c3 (.int 60))))]) [(c3 (.int 60))])]))
  (az 0 (ap eL (v3 0) (ap eU (c3 (.int 10)) (c3 (.int 60)))))))
  (af (fz (i8 "list" bR (v3 1) [(aj bQ [(v3 0)])]))
  (aR (jF (c3 (.str "")) (v3 1))))))
def cV:aP:=df 2 bL
def cC(T:Txt P w K mg):i9 P w K mg base 1 "show_figures" 1 cV:=ls ["number","pieces"] T.o_show_figures (fun _ _ _ _ _ _ _ hr nd=>(ad (s4 1 nd (aU j7))
  (ad (eY PassesOwn.never (b8 uR (ah 0) (ao eM ac ac) (aO _)) (ad (jy (qm eu fx (ah 1) (l1 (qm iP kf (cT fu T.yZ (l1 (ao cz (ah 0) (ao eM ac ac)))) (l1 ac)))))
  (ar (s4 0 nd (ao hW (ah 0) (ao eM ac ac))))))
  (ad (jy (qm eu fx (ah 1) (l1 (cT fu T.yZ (l1 (ah 0))))))
  (ar (aJ (pA oV rfl rfl T.yY al (ah 1)))))))) rfl
def bM:bj:=(af (fM (mE (b7 (ap (dI false) (v3 0) (c3 (.str "")))) (iE (b7 (aj o9 [(cy (cO (v3 0)) (.n 0) lp (ap (tF false) (v3 0) (c3 (.str "0123456789"))) 1 [])])))) (bW "BadText" ["row"] [(c3 (.int 0))]) bO)
  (af (fM (k_ (b7 (ap (dI false) (ap aI (v3 0) (c3 (.int 0))) (c3 (.str "0")))) (b7 (ap (dI true) (v3 0) (c3 (.str "0"))))) (bW "BadText" ["row"] [(c3 (.int 0))]) bO)
  (af (az 1 (c3 (.int 0)))
  (af (az 2 (i8 "str" fG (v3 0) [(ap aB (aj dw [(v3 0)]) (ap dj (qe iG (aj dw [(v3 0)])) (c3 (.int 60))))]))
  (af (eS (sF (c3 (.int 0)) (aj dw [(v3 2)]) (c3 (.int 60))) (.n 3) (az 1 (ap aB (ap ef (v3 1) (ap eU (c3 (.int 10)) (c3 (.int 60)))) (aj bp [(br (v3 2) (j_ (v3 3)) (j_ (ap aB (v3 3) (c3 (.int 60)))))]))))
  (aR (v3 1)))))))
def cW:aP:=hZ 4 bM
def cD(T:Txt P w K mg):uV P w K mg base 3 "read_figures" 1 cW:=wo ["text","number","padded","place"] T.o_read_figures (fun _ _ _ _ _ _ _ hr nd=>(ad (cF (qc (jr (pw hr (ah 0) al) (gm (j8 (iD (cB (uJ rfl) T.Bz (l1 (wt [] 1 [] ["sign"] (gv (ah 0)) (fun _=>(gn 0 wx)) (fun _=>qh) (fun _=>(gk (uG (qj hr)) (ah 0) (wZ T.z0) rfl)))))))))) (ar (uW (bK T) hr (l1 ac))) bc)
  (ad (cF (qc (qb (pw hr (i_ hr (ah 0)) al) (mF (ql hr (ah 0) al)))) (ar (uW (bK T) hr (l1 ac))) bc)
  (ad (s4 1 nd ac)
  (ad (s4 2 nd (qm iP kf (ah 0) (l1 (ao ai (cB dL T.yH (l1 (ah 0))) (ao cz (rR js (cB dL T.yH (l1 (ah 0)))) ac)))))
  (ad (gw wW rfl (nb rfl rfl rfl T.zm (lc ac (lc (cB dL T.yH (l1 (ah 2))) (l1 ac)))) (gn 3 nd) (ar (s4 1 nd (ao ai (ao cM (ah 1) (ao eM ac ac)) (cT gE T.ze (l1 (bP (ah 2) (bU (ah 3)) (bU (ao ai (ah 3) ac)))))))))
  (ar (aJ (ah 1))))))))) rfl
def bv(yo:aP):bj:=(af (az 1 (av yo [(aj jx [(ap aI (v3 0) (c3 (.int 0)))])]))
  (af (fM (b7 (ap su (ap aI (v3 0) (c3 (.int 0))) (c3 (.int 0)))) (az 1 (ap aB (c3 (.str "-")) (v3 1))) bO)
  (af (fM (b7 (ap (dI false) (ap aI (v3 0) (c3 (.int 1))) (c3 (.int 1)))) (aR (v3 1)) bO)
  (aR (ap aB (ap aB (v3 1) (c3 (.str "/"))) (av yo [(ap aI (v3 0) (c3 (.int 1)))]))))))
def bw:aP:=df 2 (bv cV)
def eC(T:Txt P w K mg):i9 P w K mg base 2 "show_fraction" 1 bw:=ls ["one","text"] T.o_show_fraction (fun _ _ _ _ _ _ _ hr nd=>(ad (s4 1 nd (c4 (cC T) hr (l1 (cB qg T.AH (l1 (i_ hr (ah 0)))))))
  (ad (cF (b8 sv (i_ hr (ah 0)) ac (aO _)) (ar (s4 1 nd (ao ai al (ah 1)))) bc)
  (ad (cF (pw hr (i_ hr (ah 0)) ac) (ar (aJ (ah 1))) bc)
  (ar (aJ (ao ai (ao ai (ah 1) al) (c4 (cC T) hr (l1 (i_ hr (ah 0))))))))))) rfl
def aN(yp Al:aP):bj:=(af (az 1 (i8 "str" ez (v3 0) [(c3 (.str "/"))]))
  (af (az 2 (bu yp [(ap aI (v3 1) (c3 (.int 0)))]))
  (af (fM (b7 (ap (dI false) (aj dw [(v3 1)]) (c3 (.int 1)))) (aR (di [(v3 2),(c3 (.int 1))])) bO)
  (af (fM (b7 (ap n9 (aj dw [(v3 1)]) (c3 (.int 2)))) (bW "BadText" ["row"] [(c3 (.int 0))]) bO)
  (af (az 3 (bu yp [(ap aI (v3 1) (c3 (.int 1)))]))
  (af (fM (mE (b7 (ap su (v3 3) (c3 (.int 2)))) (b7 (ap (dI true) (av Al [(v3 2),(v3 3)]) (c3 (.int 1))))) (bW "BadText" ["row"] [(c3 (.int 0))]) bO)
  (aR (di [(v3 2),(v3 3)]))))))))
def bf:aP:=hZ 4 (aN cW iY)
def a_(T:Txt P w K mg):uV P w K mg base 4 "read_from_nought_on" 1 bf:=wo ["text","pieces","top","bottom"] T.o_read_from_nought_on (fun _ _ _ _ _ _ _ hr nd=>(ad (s4 1 nd (qm iQ kg (ah 0) (l1 al)))
  (ad (s4 2 nd (cX (cD T) hr (l1 (i_ hr (ah 1)))))
  (ad (cF (pw hr (cB dL T.yH (l1 (ah 1))) ac) (ar (aJ (cL (lc (ah 2) (l1 ac))))) bc)
  (ad (cF (b8 lq (cB dL T.yH (l1 (ah 1))) ac (aO _)) (ar (uW (bK T) hr (l1 ac))) bc)
  (ad (s4 3 nd (cX (cD T) hr (l1 (i_ hr (ah 1)))))
  (ad (cF (qc (jr (b8 sv (ah 3) ac (aO _)) (gm (ql hr (c4 (lH T) hr (lc (ah 2) (l1 (ah 3)))) ac)))) (ar (uW (bK T) hr (l1 ac))) bc)
  (ar (aJ (cL (lc (ah 2) (l1 (ah 3))))))))))))) rfl
def bx(xF:aP):bj:=(af (fM (iE (b7 (i8 "str" eZ (v3 0) [(c3 (.str "-"))]))) (aR (bu xF [(v3 0)])) bO)
  (af (az 1 (bu xF [(br (v3 0) (j_ (c3 (.int 1))) n6)]))
  (af (fM (b7 (ap (dI false) (ap aI (v3 1) (c3 (.int 0))) (c3 (.int 0)))) (bW "BadText" ["row"] [(c3 (.int 0))]) bO)
  (aR (di [(qe iG (ap aI (v3 1) (c3 (.int 0)))),(ap aI (v3 1) (c3 (.int 1)))])))))
def aX:aP:=hZ 2 (bx bf)
def ce(T:Txt P w K mg):uV P w K mg base 5 "read_fraction" 1 aX:=wo ["text","one"] T.o_read_fraction (fun _ _ _ _ _ _ _ hr nd=>(ad (cF (j8 (iD (qm lA m6 (ah 0) (l1 al)))) (ar (aJ (cX (a_ T) hr (l1 (ah 0))))) bc)
  (ad (s4 1 nd (cX (a_ T) hr (l1 (bP (ah 0) (bU ac) d_))))
  (ad (cF (pw hr (i_ hr (ah 1)) ac) (ar (uW (bK T) hr (l1 ac))) bc)
  (ar (aJ (cL (lc (rR js (i_ hr (ah 1))) (l1 (i_ hr (ah 1))))))))))) rfl
def eP:aP:=df 5 C.cQ
def ic(T:Txt P w K mg):i9 P w K mg base 1 "_law_deal" 2 eP:=ls ["_law_script","_law_base","_law_one","_law_some","_law_number"] T.o__law_deal (fun _ _ _ _ _ _ _ hr nd=>(ad (w4 [] 1 [] ["_law_one"] 3 nd (gv (bP (ah 0) (bU (ah 1)) (bU ac))) (fun _=>(gn 0 u5)) (fun _=>qh) (fun _=>(cB (mL rfl) T.AI (lc (ah 0) (l1 (ao iM ac (ah 0)))))))
  (ad (s4 4 nd (ao ai ac (ah 1)))
  (ad (gw PassesOwn.never rfl (gv (ah 3)) (gn 2 nd) (ar (s4 4 nd (ao cz (ao ai (ao cM (ah 4) ac) (ao cz (ah 2) ac)) ac))))
  (ar (aJ (sr (hV al (ah 4) (hV al ac (hV al (ss kY rfl (wt [] 1 [] ["_law_one"] (gv (ah 3)) (fun _=>(gn 0 u5)) (fun _=>(qi (b8 uR (ah 0) (ao eM ac ac) (aO _)))) (fun _=>(ah 0))) rfl T.A5 rfl T.yY) sm)))))))))) rfl
def aQ:aP:=df 5 C.cR
def ak(T:Txt P w K mg):i9 P w K mg base 1 "_law_draw" 2 aQ:=ls ["_law_deal_here","_law_many","_law_number","_law_one","_law_other"] T.o__law_draw (fun _ _ _ _ _ _ _ hr nd=>(ad (eY PassesOwn.never (qc (qb (pw hr (h_ hr (ah 0) al) ac) (mF (b8 lq (cB dL T.yH (l1 (h_ hr (ah 0) al))) ac (aO _))))) (ar (mT (uS hr) (wq sA uN (h_ hr (ah 0) al)) (ah 0) al)))
  (ad (s4 2 nd (h_ hr (ah 0) al))
  (ad (cF (b8 lq (ah 2) ac (aO _)) (ad (mT (uS hr) (ao hW (ah 2) (ah 1)) (ah 0) al)
  (ar (aJ (ao cz (ah 2) (ah 1))))) bc)
  (ad (s4 3 nd (ao cz (ao ai (ao cM (h_ hr (ah 0) al) ac) ac) ac))
  (ad (mT (uS hr) (ao cz (ao ai (ao cM (ah 3) ac) ac) ac) (ah 0) al)
  (ad (s4 4 nd (ao cz (ao cM (h_ hr (ah 0) al) (h_ hr (ah 0) al)) ac))
  (ar (aJ (ao cz (ao ai (ao cM (ao cz (ao cM (ah 3) (ah 3)) ac) ac) (ah 4)) (ah 1))))))))))) rfl
def bX:bj:=(af (fM (b7 (ap su (v3 1) (c3 (.int 0)))) (jz 0 1 (ap dN (c3 (.int 0)) (v3 0)) (ap dN (c3 (.int 0)) (v3 1))) bO)
  (af (jz 2 3 (aj ft [(v3 0),(ap dN (c3 (.int 0)) (v3 0))]) (v3 1))
  (af (fA (b7 (ap n9 (v3 3) (c3 (.int 0)))) (jz 2 3 (v3 3) (ap dj (v3 2) (v3 3))))
  (aR (di [(ap eL (v3 0) (v3 2)),(ap eL (v3 1) (v3 2))])))))
def aV:aP:=df 4 bX
def bN(T:Txt P w K mg):i9 P w K mg base 1 "_law_lowest" 2 aV:=ls ["_law_top","_law_bottom","_law_one","_law_other"] T.o__law_lowest (fun _ _ _ _ _ _ _ hr nd=>(ad (cF (b8 sv (ah 1) ac (aO _)) (ar (mR (i:=0) (j:=1) rfl nd rfl rfl (by decide) rfl rfl (lc (ao iM ac (ah 0)) (l1 (ao iM ac (ah 1)))))) bc)
  (ad (mR (i:=2) (j:=3) rfl nd rfl rfl (by decide) rfl rfl (lc (cB (mL rfl) T.AI (lc (ah 0) (l1 (ao iM ac (ah 0))))) (l1 (ah 1))))
  (ad (eY PassesOwn.never (b8 lq (ah 3) ac (aO _)) (ar (mR (i:=2) (j:=3) rfl nd rfl rfl (by decide) rfl rfl (lc (ah 3) (l1 (ao cz (ah 2) (ah 3)))))))
  (ar (aJ (cL (lc (ao hW (ah 0) (ah 2)) (l1 (ao hW (ah 1) (ah 2))))))))))) rfl
def cr:bj:=(af (az 0 (c3 (.str " !\"#$&'()*+,-./0123456789:;<=>?@ABCDEFGHIJKLMNOPQRSTUVWXYZ")))
  (aR (ap aB (v3 0) (c3 (.str "[\\]^_`abcdefghijklmnopqrstuvwxyz{|}~\n")))))
def dX:aP:=df 1 cr
def fU(T:Txt P w K mg):i9 P w K mg base 1 "_law_signs" 0 dX:=ls ["_law_signs_here"] T.o__law_signs (fun _ _ _ _ _ _ _ hr nd=>(ad (s4 0 nd al)
  (ar (aJ (ao ai (ah 0) al))))) rfl
def bz(xj xz:aP):bj:=(af (az 1 (ap aB (c3 (.int 1)) (av xj [(v3 0),(ap aI (bh [(c3 (.int 1)),(c3 (.int 4)),(c3 (.int 1000))]) (av xj [(v3 0),(c3 (.int 3))]))])))
  (af (az 2 (av xj [(v3 0),(ap aI (bh [(c3 (.int 4)),(c3 (.int 30)),(c3 (.int 1000001))]) (av xj [(v3 0),(c3 (.int 3))]))]))
  (aR (av xz [(ap ef (v3 2) (ap aI (bh [(c3 (.int 1)),(ap dN (c3 (.int 0)) (c3 (.int 1)))]) (av xj [(v3 0),(c3 (.int 2))]))),(v3 1)]))))
def bA:aP:=df 3 (bz aQ aV)
def eE(T:Txt P w K mg):i9 P w K mg base 2 "_law_fraction" 1 bA:=ls ["_law_deal_here","_law_bottom","_law_top"] T.o__law_fraction (fun _ _ _ _ _ _ _ hr nd=>(ad (s4 1 nd (ao ai ac (c4 (ak T) hr (lc (ah 0) (l1 (h_ hr (aU (lc ac (lc ac (l1 ac)))) (c4 (ak T) hr (lc (ah 0) (l1 ac)))))))))
  (ad (s4 2 nd (c4 (ak T) hr (lc (ah 0) (l1 (h_ hr (aU (lc ac (lc ac (l1 ac)))) (c4 (ak T) hr (lc (ah 0) (l1 ac))))))))
  (ar (aJ (c4 (bN T) hr (lc (ao cM (ah 2) (h_ hr (aU (lc ac (l1 (ao iM ac ac)))) (c4 (ak T) hr (lc (ah 0) (l1 ac))))) (l1 (ah 1))))))))) rfl
def cY:bj:=(af (fM (b7 (ap (dI false) (ap aI (v3 0) (c3 (.int 1))) (c3 (.int 1)))) (aR (aj bQ [(ap aI (v3 0) (c3 (.int 0)))])) bO)
  (aR (ap aB (ap aB (aj bQ [(ap aI (v3 0) (c3 (.int 0)))]) (c3 (.str "/"))) (aj bQ [(ap aI (v3 0) (c3 (.int 1)))]))))
def bT:aP:=df 1 cY
def bD(T:Txt P w K mg):i9 P w K mg base 1 "_law_text" 1 bT:=ls ["_law_one"] T.o__law_text (fun _ _ _ _ _ _ _ hr nd=>(ad (cF (pw hr (i_ hr (ah 0)) ac) (ar (aJ (cT fu T.yZ (l1 (i_ hr (ah 0)))))) bc)
  (ar (aJ (ao ai (ao ai (cT fu T.yZ (l1 (i_ hr (ah 0)))) al) (cT fu T.yZ (l1 (i_ hr (ah 0))))))))) rfl
def bY(zn xj:aP):bj:=(af (az 2 (ap aI (bh [(av zn []),(c3 (.str "0123456789")),(c3 (.str "-/0+ "))]) (av xj [(v3 0),(c3 (.int 3))])))
  (af (eS (jB (ap aB (c3 (.int 1)) (av xj [(v3 0),(c3 (.int 3))]))) (.n 3) (af (az 4 (av xj [(v3 0),(ap aB (aj dw [(v3 1)]) (c3 (.int 1)))]))
  (af (az 5 (av xj [(v3 0),(c3 (.int 3))]))
  (af (az 6 (ap aI (v3 2) (av xj [(v3 0),(aj dw [(v3 2)])])))
  (az 1 (ap aB (ap aB (br (v3 1) n6 (j_ (v3 4))) (ap aI (bh [(v3 6),(c3 (.str "")),(v3 6)]) (v3 5))) (br (v3 1) (j_ (ap aB (v3 4) (aj bp [(ap n9 (v3 5) (c3 (.int 0)))]))) n6)))))))
  (aR (v3 1))))
def bZ:aP:=df 7 (bY dX aQ)
def fL(T:Txt P w K mg):i9 P w K mg base 2 "_law_spoilt" 2 bZ:=ls ["_law_deal_here","_law_text_here","_law_signs_here","_law_k","_law_at","_law_form","_law_sign"] T.o__law_spoilt (fun _ _ _ _ _ _ _ hr nd=>(ad (s4 2 nd (h_ hr (aU (lc (wY (fU T) hr) (lc al (l1 al)))) (c4 (ak T) hr (lc (ah 0) (l1 ac)))))
  (ad (gw PassesOwn.never rfl (iH rfl rfl T.zm (l1 (ao ai ac (c4 (ak T) hr (lc (ah 0) (l1 ac)))))) (gn 3 nd) (ad (s4 4 nd (c4 (ak T) hr (lc (ah 0) (l1 (ao ai (cB dL T.yH (l1 (ah 1))) ac)))))
  (ad (s4 5 nd (c4 (ak T) hr (lc (ah 0) (l1 ac))))
  (ad (s4 6 nd (h_ hr (ah 2) (c4 (ak T) hr (lc (ah 0) (l1 (cB dL T.yH (l1 (ah 2))))))))
  (ar (s4 1 nd (ao ai (ao ai (bP (ah 1) d_ (bU (ah 4))) (h_ hr (aU (lc (ah 6) (lc al (l1 (ah 6))))) (ah 5))) (bP (ah 1) (bU (ao ai (ah 4) (cT gE T.ze (l1 (gk lq (ah 5) ac (aO _)))))) d_))))))))
  (ar (aJ (ah 1)))))) rfl
def dy(xj:aP):bj:=(af (az 1 (aj bQ [(av xj [(v3 0),(ap aI (bh [(c3 (.int 3)),(c3 (.int 40))]) (av xj [(v3 0),(c3 (.int 2))]))])]))
  (af (az 2 (aj bQ [(av xj [(v3 0),(ap aI (bh [(c3 (.int 3)),(c3 (.int 40))]) (av xj [(v3 0),(c3 (.int 2))]))])]))
  (af (az 3 (bh [(ap aB (ap aB (v3 1) (c3 (.str "/"))) (v3 2)),(ap aB (ap aB (ap aB (c3 (.str "-")) (v3 1)) (c3 (.str "/"))) (v3 2)),(ap aB (v3 1) (c3 (.str "/1"))),(ap aB (c3 (.str "0")) (v3 1)),(ap aB (ap aB (v3 1) (c3 (.str "/0"))) (v3 2))]))
  (af (az 3 (ap aB (v3 3) (bh [(ap aB (ap aB (v3 1) (c3 (.str "/-"))) (v3 2)),(ap aB (c3 (.str "-")) (v3 1)),(ap aB (ap aB (ap aB (v3 1) (c3 (.str "/"))) (v3 2)) (c3 (.str "/2"))),(ap aB (c3 (.str "+")) (v3 1))])))
  (af (az 3 (ap aB (v3 3) (bh [(ap aB (v3 1) (c3 (.str " "))),(ap aB (c3 (.str "/")) (v3 2)),(ap aB (v3 1) (c3 (.str "/"))),(ap aB (c3 (.str "--")) (v3 1))])))
  (aR (ap aI (v3 3) (av xj [(v3 0),(c3 (.int 13))]))))))))
def dz:aP:=df 4 (dy aQ)
def iZ(T:Txt P w K mg):i9 P w K mg base 2 "_law_odd" 1 dz:=ls ["_law_deal_here","_law_top","_law_bottom","_law_some"] T.o__law_odd (fun _ _ _ _ _ _ _ hr nd=>(ad (s4 1 nd (cT fu T.yZ (l1 (c4 (ak T) hr (lc (ah 0) (l1 (h_ hr (aU (lc ac (l1 ac))) (c4 (ak T) hr (lc (ah 0) (l1 ac))))))))))
  (ad (s4 2 nd (cT fu T.yZ (l1 (c4 (ak T) hr (lc (ah 0) (l1 (h_ hr (aU (lc ac (l1 ac))) (c4 (ak T) hr (lc (ah 0) (l1 ac))))))))))
  (ad (s4 3 nd (aU (lc (ao ai (ao ai (ah 1) al) (ah 2)) (lc (ao ai (ao ai (ao ai al (ah 1)) al) (ah 2)) (lc (ao ai (ah 1) al) (lc (ao ai al (ah 1)) (l1 (ao ai (ao ai (ah 1) al) (ah 2)))))))))
  (ad (s4 3 nd (ao ai (ah 3) (aU (lc (ao ai (ao ai (ah 1) al) (ah 2)) (lc (ao ai al (ah 1)) (lc (ao ai (ao ai (ao ai (ah 1) al) (ah 2)) al) (l1 (ao ai al (ah 1)))))))))
  (ad (s4 3 nd (ao ai (ah 3) (aU (lc (ao ai (ah 1) al) (lc (ao ai al (ah 2)) (lc (ao ai (ah 1) al) (l1 (ao ai al (ah 1)))))))))
  (ar (aJ (h_ hr (ah 3) (c4 (ak T) hr (lc (ah 0) (l1 ac)))))))))))) rfl
def dA(xz xJ:aP):bj:=(af (az 1 (i8 "str" ez (v3 0) [(c3 (.str "/"))]))
  (af (az 2 (bh []))
  (af (eS (iI (v3 1)) (.tp (.cons (.n 3) (.cons (.n 4) .nil))) (af (az 5 (br (v3 4) (j_ (aj bp [(iF (ap (dI false) (v3 3) (c3 (.int 0))) (ap (dI false) (br (v3 4) n6 (j_ (c3 (.int 1)))) (c3 (.str "-"))))])) n6))
  (af (fM (mE (b7 (ap (dI false) (v3 5) (c3 (.str "")))) (b7 (ap (dI true) (cy (cO (v3 5)) (.n 0) (b7 (ap (tF true) (v3 0) (c3 (.str "0123456789")))) (v3 0) 1 []) (bh [])))) (aR (c3 .non)) bO)
  (fz (i8 "list" bR (v3 2) [(aj bp [(v3 4)])])))))
  (af (fM (mE (b7 (ap n9 (aj dw [(v3 2)]) (c3 (.int 2)))) (b7 (ap (dI false) (br (v3 2) (j_ (c3 (.int 1))) n6) (bh [(c3 (.int 0))])))) (aR (c3 .non)) bO)
  (af (az 6 (av xz [(ap aI (v3 2) (c3 (.int 0))),(ap aI (ap aB (v3 2) (bh [(c3 (.int 1))])) (c3 (.int 1)))]))
  (af (fM (b7 (ap (dI true) (av xJ [(v3 6)]) (v3 0))) (aR (c3 .non)) bO)
  (aR (v3 6))))))))
def dB:aP:=df 7 (dA aV bT)
def i0(T:Txt P w K mg):i9 P w K mg base 2 "_law_due" 1 dB:=ls ["_law_text_here","_law_pieces","_law_numbers","_law_k","_law_piece","_law_figures","_law_found"] T.o__law_due (fun _ _ _ _ _ _ _ hr nd=>(ad (s4 1 nd (qm iQ kg (ah 0) (l1 al)))
  (ad (s4 2 nd (aU j7))
  (ad (gw PassesOwn.never rfl (sf rfl rfl T.zy (by decide +kernel) (l1 (ah 1))) (wV rfl (mS (gn 3 nd) (mS (gn 4 nd) uP))) (ad (s4 5 nd (bP (ah 4) (bU (cT gE T.ze (l1 (uz (gk (mH (cP hr)) (ah 3) ac (aO _)) (qd (gk (mH (cP hr)) (bP (ah 4) d_ (bU ac)) al (aO _))))))) d_))
  (ad (cF (qc (jr (pw hr (ah 5) al) (gm (ql hr (wt [] 1 [] ["_law_sign"] (gv (ah 5)) (fun _=>(gn 0 wy)) (fun _=>(qi (b8 (mI (qj hr)) (ah 0) al rfl))) (fun _=>(ah 0))) (aU j7))))) (ar (aJ iC)) bc)
  (ar (jy (qm eu fx (ah 2) (l1 (cT gE T.ze (l1 (ah 4))))))))))
  (ad (cF (qc (jr (b8 lq (cB dL T.yH (l1 (ah 2))) ac (aO _)) (gm (pw hr (bP (ah 2) (bU ac) d_) (aU (l1 ac)))))) (ar (aJ iC)) bc)
  (ad (s4 6 nd (c4 (bN T) hr (lc (i_ hr (ah 2)) (l1 (i_ hr (ao ai (ah 2) (aU (l1 ac))))))))
  (ad (cF (ql hr (c4 (bD T) hr (l1 (ah 6))) (ah 0)) (ar (aJ iC)) bc)
  (ar (aJ (ah 6)))))))))) rfl
def cu(xM:aP):bj:=(af (az 1 (c3 .non))
  (af (pq ["BadText"] 2 (aR (di [(c3 (.str "told")),(bu xM [(v3 0)])])) (az 1 (v3 2)))
  (af (az 3 (aj (fF zx) [(v3 1),(di [(c3 (.cls "NoHouse")),(c3 (.cls "NoRow")),(c3 (.cls "NoStory")),(c3 (.cls "Stuck")),(c3 (.cls "TooLong")),(c3 (.cls "TooMany"))])]))
  (af (fM (mE (b7 (v3 3)) (mE (iE (b7 (aj (fF zx) [(v3 1),(c3 (.cls "BadText"))]))) (iE (b7 (aj (fF zx) [(v3 1),(c3 (.ty "ValueError"))]))))) (aR (di [(c3 (.str "other"))])) bO)
  (aR (ap aI (bh [(di [(c3 (.str "refused"))]),(di [(c3 (.str "other"))])]) (aj bp [(mG (aj rZ [(gC BW "row" (v3 1)),(c3 (.ty "bool"))]) (ap (dI true) (gC BW "row" (v3 1)) (c3 (.int 0))))])))))))
def cv:aP:=df 4 (cu aX)
def fV(T:Txt P w K mg):i9 P w K mg base 6 "_law_heard" 1 cv:=ls ["_law_text_here","_law_caught","e","_law_others"] T.o__law_heard (fun _ _ _ _ _ _ _ hr nd=>(ad (s4 1 nd iC)
  (ad (w9 2 T.zI nd (fun E pins hp=>(ar (aJ (cL (lc al (l1 (cX (ce T) hr (l1 (ah 0))))))))) (fun a=>(ar (s4 1 nd (ah 2)))))
  (ad (s4 3 nd (cB (jE T.Ak) T.xQ (lc (ah 1) (l1 (cL (lc (sB T.z4) (lc (sB T.AA) (lc (sB T.z6) (lc (sB T.Az) (lc (sB T.z5) (l1 (sB T.z7))))))))))))
  (ad (cF (qc (jr (iD (ah 3)) (jr (j8 (iD (cB (jE T.Ak) T.xQ (lc (ah 1) (l1 (sB T.z3)))))) (gm (j8 (iD (cB (jE T.Ak) T.xQ (lc (ah 1) (l1 (wH T.zl)))))))))) (ar (aJ (cL (l1 al)))) bc)
  (ar (aJ (h_ hr (aU (lc (cL (l1 al)) (l1 (cL (l1 al))))) (cT gE T.ze (l1 (wc (cB uL T.xQ (lc (mY T.x_at (ah 1) rfl) (l1 (wH T.A4)))) (qd (gk (qf (cP hr)) (mY T.x_at (ah 1) rfl) ac (aO _)))))))))))))) rfl
def nz(zz yQ xJ yR xM y_ zJ xz xj zK zo:aP):bj:=(af (az 1 (av zz [(v3 0),(c3 (.int 0))]))
  (af (az 2 (bh [(c3 (.str "")),(c3 (.str "0")),(c3 (.str "-0")),(c3 (.str "-")),(c3 (.str "1/1")),(c3 (.str "2/0"))]))
  (af (eS (jB (c3 (.int 8))) (.n 3) (af (az 4 (av yQ [(v3 1)]))
  (af (az 5 (av xJ [(v3 4)]))
  (af (fM (mE (b7 (ap (dI true) (aj dq [(av yR [(v3 4)])]) (aj dq [(v3 5)]))) (b7 (ap (dI true) (aj dq [(bu xM [(v3 5)])]) (aj dq [(v3 4)])))) (aR (c3 (.bl false))) bO)
  (az 2 (ap aB (v3 2) (bh [(v3 5),(av y_ [(v3 1),(v3 5)]),(av zJ [(v3 1)])])))))))
  (af (az 6 (av xz [(av xj [(v3 1),(ap eU (c3 (.int 10)) (c3 (.int 40)))]),(ap aB (c3 (.int 1)) (av xj [(v3 1),(ap aI (bh [(ap eU (c3 (.int 10)) (c3 (.int 9))),(ap eU (c3 (.int 10)) (c3 (.int 40)))]) (av xj [(v3 1),(c3 (.int 2))]))]))]))
  (af (az 2 (ap aB (v3 2) (bh [(av xJ [(v3 6)]),(ap aB (c3 (.str "-")) (av xJ [(v3 6)]))])))
  (af (eS (cO (ap aB (v3 2) (nn (v3 2) (qe iG (c3 (.int 1)))))) (.n 5) (af (az 7 (av zK [(v3 5)]))
  (fM (b7 (ap (dI true) (aj dq [(av zo [(v3 5)])]) (aj dq [(ap aI (bh [(di [(c3 (.str "told")),(v3 7)]),(di [(c3 (.str "refused"))])]) (aj bp [(ap (tE false) (v3 7) (c3 .non))]))]))) (aR (c3 (.bl false))) bO)))
  (aR (c3 (.bl true)))))))))
def i5:aP:=df 8 (nz eP bA bT bw aX bZ dz aV aQ dB cv)
def sW(T:Txt P w K mg){f:Addr}{fd:FuncData}(O:vB K mg "law" (cU 28) ["_law_script"] f fd):tK P w K mg base 7 f fd ["_law_script"] i5:=wX ["_law_script","_law_deal_here","_law_texts","_law_k","_law_one","_law_text_here","_law_far","_law_due_here"] O (fun _ _ _ _ _ _ _ hr nd=>(ad (s4 1 nd (c4 (ic T) hr (lc (ah 0) (l1 ac))))
  (ad (s4 2 nd (aU (lc al (lc al (lc al (lc al (lc al (l1 al))))))))
  (ad (gw PassesOwn.never rfl (iH rfl rfl T.zm (l1 ac)) (gn 3 nd) (ad (s4 4 nd (c4 (eE T) hr (l1 (ah 1))))
  (ad (s4 5 nd (c4 (bD T) hr (l1 (ah 4))))
  (ad (cF (qc (jr (ql hr (cB (eB (cP hr) hr.gd) T.yK (l1 (c4 (eC T) hr (l1 (ah 4))))) (cB (eB (cP hr) hr.gd) T.yK (l1 (ah 5)))) (gm (ql hr (cB (eB (cP hr) hr.gd) T.yK (l1 (cX (ce T) hr (l1 (ah 5))))) (cB (eB (cP hr) hr.gd) T.yK (l1 (ah 4))))))) (ar (aJ rP)) bc)
  (ar (s4 2 nd (ao ai (ah 2) (aU (lc (ah 5) (lc (c4 (fL T) hr (lc (ah 1) (l1 (ah 5)))) (l1 (c4 (iZ T) hr (l1 (ah 1))))))))))))))
  (ad (s4 6 nd (c4 (bN T) hr (lc (c4 (ak T) hr (lc (ah 1) (l1 (ao eM ac ac)))) (l1 (ao ai ac (c4 (ak T) hr (lc (ah 1) (l1 (h_ hr (aU (lc (ao eM ac ac) (l1 (ao eM ac ac)))) (c4 (ak T) hr (lc (ah 1) (l1 ac))))))))))))
  (ad (s4 2 nd (ao ai (ah 2) (aU (lc (c4 (bD T) hr (l1 (ah 6))) (l1 (ao ai al (c4 (bD T) hr (l1 (ah 6)))))))))
  (ad (gw PassesOwn.never rfl (gv (ao ai (ah 2) (sH (ah 2) (rR js ac)))) (gn 5 nd) (ad (s4 7 nd (c4 (i0 T) hr (l1 (ah 5))))
  (ar (cF (ql hr (cB (eB (cP hr) hr.gd) T.yK (l1 (c4 (fV T) hr (l1 (ah 5))))) (cB (eB (cP hr) hr.gd) T.yK (l1 (h_ hr (aU (lc (cL (lc al (l1 (ah 7)))) (l1 (cL (l1 al))))) (cT gE T.ze (l1 (gk uF (ah 7) iC (aO _)))))))) (ar (aJ rP)) bc))))
  (ar (aJ rP))))))))) rfl
end
end G05
namespace G05
open PySem L2 L3 Wd
open C CX T5
noncomputable abbrev bt:PV:=.exc "BadText" ["row"] [.int 0]
def toS(n:Int):PySem.Str.ofString (toString n)=xk (num n):=(jH _).symm
abbrev qq(w:aP):Prop:=∀{S:au} {n:Int} {Q:cE} {E:de},0<=n->n < 10 ^ 60->(∀S',Ext S S'->Q (.str (xk (num n))) S')->w [.int n] S Q E
def cw{n:Int}(h:n.natAbs < 10 ^ 60):n.natAbs.log2 < 1920:=by
 by_cases h0:n.natAbs=0
 ·rw[h0];decide
 ·rw[Nat.log2_lt h0]
  exact Nat.lt_of_lt_of_le h (by decide)
def bo{n:Int}{k:Nat}(h:n.natAbs < 10 ^ (k+1)):(num n).length<=k+2:=by
 rcases Int.eq_nat_or_neg n with⟨m,rfl|rfl⟩
 ·rw[aW];have:=jJ (k:=k) (m:=m) (by simpa using h);omega
 ·by_cases h0:0 < m
  ·rw[dP m h0];have:=jJ (k:=k) (m:=m) (by simpa using h);simp;omega
  ·have:m=0:=by omega
   subst this
   show(num ((0:Nat):Int)).length<=_
   rw[aW,yn (by decide)];simp
def ln{n m:Nat}(h:n<=m)(hm:m<=100000:=by decide):n<=sizeLine:=Nat.le_trans h (Nat.le_trans hm (by decide))
def u6:kI 10 60:=⟨by decide,by decide,by decide⟩
def wz{S:au}{p:Addr}{o o':SO}(h:S p=none):Ext S (xi (xi S p o) p o'):=fun a u ha=>by
 have hne:a≠p:=fun e=>by rw[e,h]at ha;cases ha
 rw[aq hne,aq hne]
 exact ha
def yV:qq (df 2 bL):=by
 intro S n Q E h0 h1 k
 unfold bL
 refine lK ?_
 rw[show aC 2 [PV.int n]=[some (.int n),none] from rfl]
 refine ay fun N hN=>?_
 walk_at "x"
 intro p hp
 refine hN _ _ (ay fun N hN=>?_)
 refine⟨fun _ σ S'=>σ=[some (.int n),some (.ref p)]/\S'=xi S p (.lst []),⟨0,rfl,rfl⟩,?_⟩
 rintro _ σ S' ⟨rfl,rfl⟩
 walk_at "x"
 refine⟨u6,?_⟩
 rw[decide_eq_false (by rw[show((10:Int) ^ Int.toNat 60)=10 ^ 60 from rfl];omega)]
 simp only[Bool.false_eq_true,if_false]
 refine hN _ _ (ay fun N hN=>?_)
 walk_at "x"
 simp only[aa,bQ]
 refine⟨trivial,cw (by omega),?_⟩
 refine⟨ln (m:=1) (by simp),hN _ _ ?_⟩
 walk_at "x"
 simp only[jF,v3,lk,c3,aa,List.nil_append,texts,Option.map_some]
 rw[toS]
 refine⟨?_,?_⟩
 ·have:=bo (n:=n) (k:=59) (by omega)
  rw[show(Str.ofString "").length=0 from rfl]
  simp[aE]
  omega
 ·exact k _ (wz hp)
noncomputable def zA(c:Nat):Bool:=decide (c∈(PySem.Str.ofString "0123456789").cps.toList)
def yW{c:Nat}:zA c=true↔48<=c/\c<=57:=by
 unfold zA
 rw[decide_eq_true_iff,show(PySem.Str.ofString "0123456789").cps.toList=[48,49,50,51,52,53,54,55,56,57] from rfl]
 simp only[List.mem_cons,List.not_mem_nil,or_false]
 omega
def zS{l:List Nat}:l.all zA=true↔NumText.AllDigits l:=by
 rw[List.all_eq_true]
 exact⟨fun h c hc=>yW.mp (h c hc),fun h c hc=>yW.mpr (h c hc)⟩
theorem gJ{α:Type}(f:α->Bool):∀l:List α,fv (l.map fun c=>PV.bl (f c))=some (l.map f)
 |[]=>rfl
 |a::r=>by rw[List.map_cons,fv,gJ f r];rfl
def nA{c:Nat}:(false != !(Builtin.Str.occurrences (PySem.Str.ofString "0123456789") (sgn c) 0 (PySem.Str.ofString "0123456789").length 1).isEmpty)=zA c:=by
 unfold zA
 rw[<-PySem.StrLaws.found_one,Bool.false_bne]
abbrev qr(w:aP):Prop:=∀{S:au} {l:List Nat} {Q:cE} {E:de},l.length<=60->(∀v S',rf l=some v->Ext S S'->Q (.int (v:Int)) S')->(∀S',rf l=none->Ext S S'->E bt [] S')->w [.str (xk l)] S Q E
def nB:qr (hZ 4 bM):=by
 intro S l Q E hl k1 k2
 unfold bM
 refine sV ?_
 rw[show aC 4 [PV.str (xk l)]=[some (.str (xk l)),none,none,none] from rfl]
 refine ay fun N hN=>?_
 by_cases hz:l=[]
 ·subst hz
  walk_at "x"
  rw[show decide (xk []=Str.ofString "")=true from by decide]
  walk_at "y"
  exact k2 _ (dS fun z=>z.1.1 rfl) .refl
 walk_at "x"
 rw[show decide (xk l=Str.ofString "")=false from decide_eq_false fun e=>hz (congrArg (fun z:Str=>z.cps.toList) e)]
 walk_at "y"
 refine gI (fun c=>PV.str (sgn c)) (fun c=>PV.bl (zA c)) trivial l [] (fun c _=>⟨_,rfl,fun Q q=>?_⟩) (ln (m:=60) (by simpa using hl)) ?_
 ·show Q (.bl (false != !(Builtin.Str.occurrences (PySem.Str.ofString "0123456789") (sgn c) 0 (PySem.Str.ofString "0123456789").length 1).isEmpty)) S
  rw[nA];exact q
 intro p hp
 simp only[o9,aa,List.nil_append,gJ]
 have ea:(l.map zA).all id=l.all zA:=by rw[List.all_map];rfl
 rw[ea]
 have X1:Ext S (xi S p (.lst (l.map fun c=>PV.bl (zA c)))):=.new hp
 generalize xi S p (.lst (l.map fun c=>PV.bl (zA c)))=S1 at X1
 by_cases hd:l.all zA=true
 ·rw[hd]
  walk_at "y"
  refine hN _ _ (ay fun N hN=>?_)
  have hd:=zS.mp hd
  cases l with
  |nil=>exact absurd rfl hz
  |cons c r=>
  walk_at "x"
  refine⟨ln (m:=60) hl,?_⟩
  rw[show xT (xk (c::r)).cps.toList 0=some c from c_ (j:=0) rfl]
  dsimp only
  have rest:eN (c::r)->N [some (PV.str (xk (c::r))),none,none,none] S1:=by
   intro hc
   have ok:ik (c::r):=⟨hz,hd⟩
   have hv:rf (c::r)=some (NumText.digitsVal (c::r)):=dR ok hc
   refine hN _ _ (ay fun N hN=>?_)
   walk_at "x"
   refine hN _ _ (ay fun N hN=>?_)
   walk_at "x"
   have DM:((xk (c::r)).length:Int)+(-((xk (c::r)).length:Int)).fmod 60=60:=by
    rw[aE,Int.fmod_eq_emod_of_nonneg _ (by decide)]
    have:1<=(c::r).length:=by simp
    omega
   rw[DM]
   simp only[fG]
   have hsz:(xk (c::r)).length<=sizeLine:=ln (m:=60) hl
   refine⟨trivial,hsz,hsz,by decide,by decide,hN _ _ (ay fun N hN=>?_)⟩
   rw[zf ok hl]
   have hsz':(xk (lE (c::r))).length<=sizeLine:=by rw[aE,dh hl];decide
   walk_at "x"
   simp only[sF,c3,aj,bG,v3,lk,dw,aE,dh hl]
   refine⟨by decide,1,⟨by decide,by decide,by decide,by decide⟩,?_⟩
   rw[show fH 0 60 1=[PV.int 0] from rfl]
   simp only[hG]
   refine⟨trivial,?_⟩
   walk_at "x"
   refine⟨u6,sI (by decide) (by decide),hsz',?_⟩
   rw[show((0:Int)+60)=60 from rfl,nl _ (dh hl)]
   simp only[bp,pE ok hl]
   refine⟨by rw[aE,dh hl];decide,trivial,hN _ _ ?_⟩
   walk_at "x"
   rw[Int.zero_mul,Int.zero_add]
   exact k1 _ _ hv X1
  by_cases Co:c=48
  ·subst Co
   rw[show decide (({ cps:=#[48] }:Str)=Str.ofString "0")=true from by decide]
   by_cases hr:r=[]
   ·subst hr
    rw[show decide (xk [48]=Str.ofString "0")=true from by decide]
    walk_at "y"
    exact rest fun r e=>((List.cons.inj e).2).symm
   ·rw[show decide (xk (48::r)=Str.ofString "0")=false from decide_eq_false fun e=>hr (List.cons.inj (congrArg (fun z:Str=>z.cps.toList) e)).2]
    walk_at "y"
    exact k2 _ (dS fun z=>hr (z.2 r rfl)) X1
  ·rw[show decide (({ cps:=#[c] }:Str)=Str.ofString "0")=false from decide_eq_false fun e=>Co (List.cons.inj (congrArg (fun z:Str=>z.cps.toList) e)).1]
   walk_at "y"
   exact rest fun r e=>absurd (List.cons.inj e).1 Co
 ·rw[Bool.not_eq_true]at hd
  rw[hd]
  walk_at "y"
  exact k2 _ (dS fun z=>by have:=zS.mpr z.1.2;rw[hd]at this;cases this) X1
def bE(a b:List Nat):xk a++xk b=xk (a++b):=by
 apply Str.ext'
 show a.toArray++b.toArray=(a++b).toArray
 simp
def u7(b:List Nat):Str.ofString "-" ++ xk b=xk (45::b):=bE [45] b
def nC(a:List Nat):xk a++Str.ofString "/" = xk (a++[47]):=bE a [47]
abbrev jK(w:aP):Prop:=∀{S:au} {n d:Int} {Q:cE} {E:de},n.natAbs < 10 ^ 60->1<=d->d < 10 ^ 60->(∀S',Ext S S'->Q (.str (xk (txt (n,d)))) S')->w [.tup [.int n,.int d]] S Q E
def yL{x:aP}(yV:qq x):jK (df 2 (bv x)):=by
 intro S n d Q E hn hd1 hd2 k
 unfold bv
 refine lK ?_
 rw[show aC 2 [PV.tup [PV.int n,PV.int d]]=[some (.tup [.int n,.int d]),none] from rfl]
 refine ay fun N hN=>?_
 walk_at "y"
 have ha:(if n < 0 then -n else n)=(n.natAbs:Int):=by split<;>omega
 rw[ha]
 refine yV (by omega) (by omega) fun S1 X1=>hN _ _ (ay fun N hN=>?_)
 have l1:=bo (n:=(n.natAbs:Int)) (k:=59) (by omega)
 have rest:N [some (.tup [.int n,.int d]),some (.str (xk (num n)))] S1:=by
  refine hN _ _ (ay fun N hN=>?_)
  walk_at "y"
  by_cases h1:d=1
  ·subst h1
   walk_at "y"
   have:=k S1 X1
   unfold txt at this
   rw[if_pos rfl]at this
   exact this
  ·rw[decide_eq_false h1]
   walk_at "y"
   refine hN _ _ ?_
   walk_at "y"
   have l2:=bo (n:=n) (k:=59) (by omega)
   have l3:=bo (n:=d) (k:=59) (by omega)
   rw[nC]
   refine⟨ln (m:=62) (by rw[aE];show _+1<=_;omega),yV (by omega) (by omega) fun S2 X2=>?_⟩
   dsimp only
   rw[bE]
   have:=k S2 (X1.trans X2)
   unfold txt at this
   rw[if_neg h1]at this
   refine⟨ln (m:=1000) (by rw[aE,aE];simp;omega),?_⟩
   simpa using this
 walk_at "y"
 by_cases h0:n < 0
 ·rw[decide_eq_true h0]
  walk_at "y"
  rw[u7]
  refine⟨ln (m:=100) (by rw[aE];show 1+_<=_;omega),?_⟩
  have e:45::num (n.natAbs:Int)=num n:=by
   rw[aW,<-dP _ (by omega)]
   congr 1
   omega
  rw[e]
  exact rest
 ·rw[decide_eq_false h0]
  walk_at "y"
  have e:(n.natAbs:Int)=n:=by omega
  rw[e]
  exact rest
def Ps(l:List Nat):Prop:=l.length<=1000/\∀p∈sp l,p.length<=60
def ie{m h:List Nat}{t:List (List Nat)}(e:sp m=h::t):sp (45::m)=(45::h)::t:=by
 rw[sp,if_neg (by decide),e]
def Ps.tail{m:List Nat}(h:Ps (45::m)):Ps m:=by
 obtain⟨h1,h2⟩:=h
 cases e:sp m with
 |nil=>exact absurd e (zd m)
 |cons a t=>
  rw[ie e]at h2
  refine⟨by simp at h1;omega,fun p hp=>?_⟩
  rw[e]at hp
  rcases List.mem_cons.mp hp with rfl|hp
  ·have:=h2 (45::p) (by simp);simp at this;omega
  ·exact h2 p (List.mem_cons_of_mem _ hp)
abbrev qt(w:aP):Prop:=∀{S:au} {l:List Nat} {Q:cE} {E:de},Ps l->(∀t u S',rn l=some (t,u)->Ext S S'->Q (.tup [.int (t:Int),.int (u:Int)]) S')->(∀S',rn l=none->Ext S S'->E bt [] S')->w [.str (xk l)] S Q E
def nE{xf xc:aP}(BA:qr xf)(Cp:fK xc):qt (hZ 4 (aN xf xc)):=by
 intro S l Q E hl k1 k2
 unfold aN
 refine sV ?_
 rw[show aC 4 [PV.str (xk l)]=[some (.str (xk l)),none,none,none] from rfl]
 refine ay fun N hN=>?_
 have hlen:=nh l
 have zB:=hl.2
 walk_at "x"
 simp only[ez]
 rw[iS,lD]
 refine⟨trivial,by decide,ln (m:=1000) hl.1,ln (m:=1001) (by rw[List.length_map];have:=hl.1;omega),fun p hp=>hN _ _ (ay fun N hN=>?_)⟩
 have X1:Ext S (xi S p (.lst (((sp l).map xk).map PV.str))):=.new hp
 have hS:(xi S p (.lst (((sp l).map xk).map PV.str))) p=some (.lst (((sp l).map xk).map PV.str)):=aa
 generalize xi S p (.lst (((sp l).map xk).map PV.str))=S1 at X1 hS
 unfold rn at k1 k2
 cases e:sp l with
 |nil=>exact absurd e (zd l)
 |cons a t=>
 rw[e]at hS zB k1 k2 hlen
 walk_at "x"
 rw[hS]
 walk_at "y"
 refine BA (zB a (by simp)) (fun v S2 hv X2=>?_) fun S2 hv X2=>?_
 ·have hS2:=X2 _ _ hS
  refine hN _ _ (ay fun N hN=>?_)
  walk_at "y"
  rw[hS2]
  walk_at "y"
  cases t with
  |nil=>
   rw[decide_eq_true (by simp)]
   walk_at "y"
   exact k1 v 1 _ (by dsimp only;rw[hv]) (X1.trans X2)
  |cons b t=>
   rw[decide_eq_false (by simp;omega)]
   walk_at "y"
   refine hN _ _ (ay fun N hN=>?_)
   walk_at "y"
   rw[hS2]
   walk_at "y"
   cases t with
   |cons c t=>
    rw[decide_eq_true (by simp;omega)]
    walk_at "y"
    exact k2 _ rfl (X1.trans X2)
   |nil=>
    rw[decide_eq_false (by simp)]
    walk_at "y"
    refine hN _ _ (ay fun N hN=>?_)
    walk_at "y"
    rw[hS2]
    walk_at "y"
    refine BA (zB b (by simp)) (fun u S3 hu X3=>?_) fun S3 hu X3=>k2 _ (by dsimp only;rw[hv,hu]) (X1.trans (X2.trans X3))
    refine hN _ _ (ay fun N hN=>?_)
    dsimp only at k1 k2
    rw[hv,hu]at k1 k2
    dsimp only at k1 k2
    have X4:=X1.trans (X2.trans X3)
    have raise:(u < 2\/Nat.gcd v u≠1)->E bt [] S3:=fun h=>k2 _ (if_pos h) X4
    have go:¬(u < 2\/Nat.gcd v u≠1)->Q (.tup [.int (v:Int),.int (u:Int)]) S3:=fun h=>k1 v u _ (if_neg h) X4
    walk_at "y"
    by_cases h2:(u:Int) < 2
    ·rw[decide_eq_true h2]
     walk_at "y"
     exact raise (.inl (by omega))
    ·rw[decide_eq_false h2]
     walk_at "y"
     refine Cp (by omega) (by omega) ?_
     walk_at "y"
     rw[show Int.gcd (v:Int) (u:Int)=Nat.gcd v u from rfl]
     by_cases hg:((Nat.gcd v u:Nat):Int)=1
     ·rw[decide_eq_true hg]
      walk_at "y"
      refine hN _ _ ?_
      walk_at "y"
      exact go (by omega)
     ·rw[decide_eq_false hg]
      walk_at "y"
      exact raise (.inr (by omega))
 ·refine k2 _ ?_ (X1.trans X2)
  match t with
  |[]=>dsimp only;rw[hv]
  |[b]=>dsimp only;rw[hv]
  |_::_::_=>rfl
noncomputable def rd:List Nat->Option (Int×Int)
 |45::m=>rs true m
 |l=>rs false l
def pG(m:List Nat):rd (45::m)=rs true m:=rfl
def dY{l:List Nat}(h:∀m,l≠45::m):rd l=rs false l:=by
 unfold rd
 split
 ·rename_i m;exact absurd rfl (h m)
 ·rfl
abbrev ig(w:aP):Prop:=∀{S:au} {l:List Nat} {Q:cE} {E:de},Ps l->(∀f S',rd l=some f->Ext S S'->Q (.tup [.int f.1,.int f.2]) S')->(∀S',rd l=none->Ext S S'->E bt [] S')->w [.str (xk l)] S Q E
def gK(l:List Nat):Txt.startswith (xk l) "-" = decide (l.head?=some 45):=by
 unfold Txt.startswith
 rw[Bool.eq_iff_iff,Bool.and_eq_true,decide_eq_true_iff,decide_eq_true_iff]
 refine(StrLaws.subAt_one (xk l) 45 0).trans ?_
 rw[lD,List.head?_eq_getElem?]
def i6(m:List Nat):Txt.startswith (xk (45::m)) "-" = true:=by rw[gK];rfl
def jL{l:List Nat}(h:∀m,l≠45::m):Txt.startswith (xk l) "-" = false:=by
 rw[gK]
 cases l with
 |nil=>rfl
 |cons c r=>exact decide_eq_false fun e=>h r (by cases e;rfl)
def lI{xn:aP}(BB:qt xn):ig (hZ 2 (bx xn)):=by
 intro S l Q E hl k1 k2
 unfold bx
 refine sV ?_
 rw[show aC 2 [PV.str (xk l)]=[some (.str (xk l)),none] from rfl]
 refine ay fun N hN=>?_
 walk_at "x"
 simp only[eZ]
 by_cases hd:∃m,l=45::m
 ·obtain⟨m,rfl⟩:=hd
  rw[i6]
  walk_at "y"
  refine⟨trivial,hN _ _ (ay fun N hN=>?_)⟩
  walk_at "y"
  rw[pG]at k1 k2
  unfold rs at k1 k2
  refine⟨ln (m:=1000) hl.1,?_⟩
  rw[show Txt.slice (xk (45::m)) (some 1) none=xk m from dU (45::m) 1]
  refine BB hl.tail (fun t u S1 hv X1=>?_) fun S1 hv X1=>k2 _ (by rw[hv]) X1
  rw[hv]at k1 k2
  dsimp only at k1 k2
  refine hN _ _ (ay fun N hN=>?_)
  walk_at "y"
  by_cases h0:(t:Int)=0
  ·rw[decide_eq_true h0]
   walk_at "y"
   exact k2 _ (if_pos ⟨rfl,by omega⟩) X1
  ·rw[decide_eq_false h0]
   walk_at "y"
   refine hN _ _ ?_
   walk_at "y"
   exact k1 _ _ (if_neg fun z=>h0 (by omega)) X1
 ·have hd:∀m,l≠45::m:=fun m e=>hd ⟨m,e⟩
  rw[jL hd]
  walk_at "y"
  rw[dY hd]at k1 k2
  unfold rs at k1 k2
  refine⟨trivial,BB hl (fun t u S1 hv X1=>?_) fun S1 hv X1=>k2 _ (by rw[hv]) X1⟩
  rw[hv]at k1
  exact k1 (t,u) _ (if_neg (by simp)) X1
abbrev e_(w:aP):Prop:=∀{S:au} {d l:Addr} {m:Int} {Q:cE} {E:de},xB S d l->0 < m->m.natAbs < 2 ^ 200->(∀r S',0<=r->r < m->xB S' d l->x_ d l S S'->Q (.int r) S')->w [.ref d,.int m] S Q E
def nF:e_ (df 5 cR):=by
  intro S d l m Q E D h0 h1 k
  obtain⟨seed,number,left,D⟩:=D
  have hne:=D.ne
  have hsz:∀a b,(aT a b l).length < sizeLine:=fun _ _=>b5 (by show 3<=1000;decide)
  have fin:∀num zT S1,yJ S1 d l seed num zT->x_ d l S S1->¬(num=0/\0 < zT.length)->
      (if 0 < num then j9 num m/\(aT seed num l).length < sizeLine/\m≠0/\Q (PV.int (num.fmod m)) (xi S1 d (SO.dct (aT seed (num.fdiv m) l)))
       else IntMulOk seed 48271/\(2147483647:Int)≠0/\IntMulOk ((seed * 48271+7919).fmod 2147483647) 40692/\(2147483399:Int)≠0/\(aT seed num l).length < sizeLine/\
        IntMulOk (((seed * 48271+7919).fmod 2147483647 * 40692+104729).fmod 2147483399) (((seed * 48271+7919).fmod 2147483647 * 40692+104729).fmod 2147483399)/\(2147483563:Int)≠0/\
        IntMulOk ((seed * 48271+7919).fmod 2147483647) ((seed * 48271+7919).fmod 2147483647)/\(2147483629:Int)≠0/\
        IntMulOk (((seed * 48271+7919).fmod 2147483647 * (seed * 48271+7919).fmod 2147483647).fmod 2147483629) 2147483563/\m≠0/\
        Q (PV.int ((((seed * 48271+7919).fmod 2147483647 * (seed * 48271+7919).fmod 2147483647).fmod 2147483629 * 2147483563+((((seed * 48271+7919).fmod 2147483647 * 40692+104729).fmod 2147483399) * (((seed * 48271+7919).fmod 2147483647 * 40692+104729).fmod 2147483399)).fmod 2147483563).fmod m))
          (xi S1 d (SO.dct (aT (((seed * 48271+7919).fmod 2147483647 * 40692+104729).fmod 2147483399) num l)))):=by
    intro num zT S1 D1 O1 hz
    split
    . rename_i hp
      rw[eO (Int.le_of_lt h0),nr (Int.le_of_lt h0)]
      refine⟨⟨by omega,Nat.lt_trans h1 (Nat.pow_lt_pow_right (by decide) (by decide))⟩,hsz _ _,by omega,k _ _ (Int.emod_nonneg _ (by omega)) (Int.emod_lt_of_pos _ h0) ⟨seed,num / m,zT,aa,by rw[aq hne.symm];exact D1.l,D1.s0,D1.s1,Int.ediv_nonneg D1.nm (Int.le_of_lt h0),D1.lf,D1.ln⟩ (O1.trans .upd)⟩
    . have e1:∀x:Int,x.fmod 2147483647=x % 2147483647:=fun x=>eO (by decide)
      have e2:∀x:Int,x.fmod 2147483399=x % 2147483399:=fun x=>eO (by decide)
      simp only[e1,e2,eO (Int.le_of_lt h0)]
      have p1:=D1.s0
      have p2:=D1.s1
      refine⟨nq (by decide) (by decide),by decide,nq (by decide) (by decide),by decide,hsz _ _,sI (by omega) (by omega),by decide,sI (by omega) (by omega),by decide,nq (by decide) (by decide),by omega,
        k _ _ (Int.emod_nonneg _ (by omega)) (Int.emod_lt_of_pos _ h0) ⟨_,num,zT,aa,by rw[aq hne.symm];exact D1.l,by omega,by omega,D1.nm,D1.lf,D1.ln⟩ (O1.trans .upd)⟩
  unfold df cR
  rw[show aC 5 [PV.ref d,PV.int m]=[some (.ref d),some (.int m),none,none,none] from rfl]
  simp only[af]
  refine⟨fun n σ S'=>σ=[some (.ref d),some (.int m),none,none,none]/\∃number left,yJ S' d l seed number left/\left.length=n/\x_ d l S S',⟨_,rfl,number,left,D,rfl,.refl⟩,?_⟩
  rintro n σ S1 ⟨rfl,num,zT,D1,hn,O1⟩
  walk_at "x"
  simp only[D1.d,D1.l,nv,sK,sJ,nu,fI,aa,Bool.false_bne,decide_eq_true_eq]
  have hlen:(List.map PV.int zT).length=zT.length:=List.length_map ..
  rw[hlen]
  split
  . rename_i hz
    subst hz
    split
    . rename_i hl
      refine⟨fun σ S'=>σ=[some (.ref d),some (.int m),none,none,none]/\∃number left,yJ S' d l seed number left/\left.length < n/\x_ d l S S',?_,?_⟩
      . rintro σ' S' ⟨rfl,a,b,h2,h3,h4⟩
        exact⟨_,h3,rfl,a,b,h2,rfl,h4⟩
      . have hl':0 < zT.length:=by omega
        obtain⟨pre,x,rfl⟩:∃pre x,zT=pre++[x]:=by
          refine⟨zT.dropLast,zT.getLast (by intro e;rw[e]at hl';simp at hl'),(List.dropLast_concat_getLast _).symm⟩
        refine⟨trivial,?_⟩
        rw[show(List.map PV.int (pre++[x]))[(pre++[x]).length - 1]?=some (.int x) by simp,show(List.map PV.int (pre++[x])).dropLast=pre.map PV.int by simp]
        simp only[aq hne,D1.d,fI]
        refine⟨hsz _ _,trivial,x,pre,⟨aa,by rw[aq hne.symm,aa],D1.s0,D1.s1,D1.lf x (by simp),fun y hy=>D1.lf y (by simp[hy]),by have:=D1.ln;simp at this;omega⟩,?_,O1.trans (x_.DK.trans .upd)⟩
        rw[<-hn];simp
    . rename_i hl
      exact fin 0 zT S1 D1 O1 (fun z=>hl (by omega))
  . rename_i hz
    rw[if_neg (by decide)]
    exact fin num zT S1 D1 O1 (fun z=>hz z.1)
def pH{w:aP}(h:e_ w):cS w:=fun D h0 h1 k=>h D h0 (Nat.lt_trans (show _ < 2 ^ 62 by omega) (Nat.pow_lt_pow_right (by decide) (by decide))) k
def qu{i:Int}(h:i.natAbs < 10 ^ 60)(h0:i≠0)(j:Int):j9 j i:=⟨h0,Nat.lt_of_lt_of_le h (Nat.le_trans (show 10 ^ 60<=2 ^ 200 by decide) (Nat.pow_le_pow_right (by decide) (by decide)))⟩
abbrev nG(w:aP):Prop:=∀{S:au} {sg:Bool} {v b:Nat} {Q:cE} {E:de},0 < b->b < 10 ^ 60->v < 10 ^ 60->Q (.tup [.int (gG sg v b).1,.int (gG sg v b).2]) S->w [.int (cA sg v),.int (b:Int)] S Q E
def sX{sg:Bool}{v g:Nat}(hg:0 < g)(hd:g ∣ v):(cA sg v).fdiv (g:Int)=cA sg (v / g):=by
 obtain⟨k,rfl⟩:=hd
 rw[Nat.mul_div_cancel_left _ hg,nr (by omega)]
 cases sg with
 |false=>simp only[cA];rw[if_neg (by decide),if_neg (by decide),Int.natCast_mul,Int.mul_ediv_cancel_left _ (by omega)]
 |true=>simp only[cA,if_true];rw[Int.natCast_mul,<-Int.mul_neg,Int.mul_ediv_cancel_left _ (by omega)]
def yC:nG (df 4 bX):=by
 intro S sg v b Q E hb hb2 hv k
 unfold bX
 refine lK ?_
 rw[show aC 4 [PV.int (cA sg v),PV.int (b:Int)]=[some (.int (cA sg v)),some (.int (b:Int)),none,none] from rfl]
 refine ay fun N hN=>?_
 walk_at "y"
 rw[decide_eq_false (by omega)]
 walk_at "y"
 refine hN _ _ (ay fun N hN=>?_)
 walk_at "y"
 have hm:(if (0:Int) - cA sg v > cA sg v then 0 - cA sg v else cA sg v)=(v:Int):=by cases sg<;>simp only[cA,if_true]<;>split<;>omega
 rw[hm]
 refine hN _ _ (ay fun N hN=>?_)
 refine⟨fun n σ S'=>S'=S/\∃x y:Nat,σ=[some (.int (cA sg v)),some (.int (b:Int)),some (.int (x:Int)),some (.int (y:Int))]/\Nat.gcd x y=Nat.gcd v b/\y=n,⟨_,rfl,v,b,rfl,rfl,rfl⟩,?_⟩
 rintro n σ S' ⟨rfl,x,y,rfl,hg,rfl⟩
 walk_at "y"
 by_cases hy:(0:Int) < y
 ·rw[decide_eq_true hy]
  walk_at "y"
  refine⟨fun σ' By=>By=S'/\∃x' y':Nat,σ'=[some (.int (cA sg v)),some (.int (b:Int)),some (.int (x':Int)),some (.int (y':Int))]/\Nat.gcd x' y'=Nat.gcd v b/\y' < y,?_,?_⟩
  ·rintro σ' By ⟨rfl,x',y',rfl,h3,h4⟩
   exact⟨_,h4,rfl,x',y',rfl,h3,rfl⟩
  ·refine⟨by omega,rfl,y,x % y,?_,?_,Nat.mod_lt _ (by omega)⟩
   ·rw[eO (by omega)];rfl
   ·rw[<-hg,Nat.gcd_comm y,<-Nat.gcd_rec,Nat.gcd_comm]
 ·rw[decide_eq_false hy]
  have:y=0:=by omega
  subst this
  rw[Nat.gcd_zero_right]at hg
  subst hg
  walk_at "y"
  refine hN _ _ ?_
  walk_at "y"
  have g0:0 < Nat.gcd v b:=Nat.gcd_pos_of_pos_right _ hb
  have gl:Nat.gcd v b<=b:=Nat.gcd_le_right _ hb
  refine⟨qu (by omega) (by omega) _,qu (by omega) (by omega) _,?_⟩
  rw[sX g0 (Nat.gcd_dvd_left _ _),nr (by omega)]
  exact k
abbrev ko(w:aP):Prop:=∀{S:au} {n d:Int} {Q:cE} {E:de},n.natAbs < 10 ^ 60->d.natAbs < 10 ^ 60->Q (.str (xk (txt (n,d)))) S->w [.tup [.int n,.int d]] S Q E
def ya:ko (df 1 cY):=by
 intro S n d Q E hn hd k
 unfold cY
 refine lK ?_
 rw[show aC 1 [PV.tup [PV.int n,PV.int d]]=[some (.tup [.int n,.int d])] from rfl]
 refine ay fun N hN=>?_
 walk_at "y"
 unfold txt at k
 by_cases h1:d=1
 ·subst h1
  rw[if_pos rfl]at k
  walk_at "y"
  simp only[bQ]
  refine⟨cw hn,?_⟩
  rw[toS]
  exact k
 ·rw[if_neg h1]at k
  rw[decide_eq_false h1]
  walk_at "y"
  refine hN _ _ ?_
  walk_at "y"
  simp only[bQ,toS]
  have l2:=bo (n:=n) (k:=59) (by omega)
  have l3:=bo (n:=d) (k:=59) (by omega)
  rw[nC]
  refine⟨cw hn,ln (m:=62) (by rw[aE];show _+1<=_;omega),cw hd,ln (m:=1000) (by rw[aE,aE];simp;omega),?_⟩
  rw[bE]
  simpa using k
def Lw(K:Nat)(n d:Int):Prop:=∃(sg:Bool) (v b:Nat),n=cA sg v/\d=(b:Int)/\1<=b/\Nat.gcd v b=1/\¬(sg=true/\v=0)/\v < K/\b < K
def jM{K:Nat}{sg:Bool}{v b:Nat}(hb:0 < b)(hv:v < K)(hb2:b < K):Lw K (gG sg v b).1 (gG sg v b).2:=by
 have g0:0 < Nat.gcd v b:=Nat.gcd_pos_of_pos_right _ hb
 have h1:Nat.gcd (v / Nat.gcd v b) (b / Nat.gcd v b)=1:=Nat.gcd_div_gcd_div_gcd_of_pos_right hb
 have h2:1<=b / Nat.gcd v b:=Nat.div_pos (Nat.gcd_le_right _ hb) g0
 have h3:v / Nat.gcd v b<=v:=Nat.div_le_self _ _
 have h4:b / Nat.gcd v b<=b:=Nat.div_le_self _ _
 by_cases hz:sg=true/\v / Nat.gcd v b=0
 ·refine⟨false,v / Nat.gcd v b,b / Nat.gcd v b,?_,rfl,h2,h1,by simp,by omega,by omega⟩
  show cA sg _=cA false _
  rw[hz.2]
  cases sg<;>rfl
 ·exact⟨sg,v / Nat.gcd v b,b / Nat.gcd v b,rfl,rfl,h2,h1,hz,by omega,by omega⟩
def Lw.bd{K:Nat}{n d:Int}(h:Lw K n d):n.natAbs < K/\d.natAbs < K/\1<=d/\d < K:=by
 obtain⟨sg,v,b,rfl,rfl,h1,_,_,h2,h3⟩:=h
 refine⟨?_,by omega,by omega,by omega⟩
 cases sg<;>simp only[cA,if_true]<;>first|omega|(rw[if_neg (by decide)];omega)
abbrev nH(w:aP):Prop:=∀{S:au} {d l:Addr} {Q:cE} {E:de},xB S d l->(∀n m S',Lw (10 ^ 7) n m->xB S' d l->x_ d l S S'->Q (.tup [.int n,.int m]) S')->w [.ref d] S Q E
def nI{xd xl:aP}(xq:cS xd)(yC:nG xl):nH (df 3 (bz xd xl)):=by
 intro S d l Q E D k
 unfold bz
 refine lK ?_
 rw[show aC 3 [PV.ref d]=[some (.ref d),none,none] from rfl]
 refine ay fun N hN=>?_
 walk_at "x"
 intro p hp
 refine xq (D.new hp) (by decide) (by decide) fun r S1 r0 r1 D1 O1=>?_
 have dp:=D.free hp
 have h1:S1 p=some (.lst [.int 1,.int 4,.int 1000]):=O1 _ _ aa dp.1 dp.2
 have Cq:x_ d l S S1:=(x_.new hp).trans O1
 dsimp only
 rw[h1]
 have Bx:∃m:Int,xT [PV.int 1,PV.int 4,PV.int 1000] r=some (.int m)/\1<=m/\m<=1000:=by
  have:r=0\/r=1\/r=2:=by omega
  rcases this with rfl|rfl|rfl
  ·exact⟨1,rfl,by decide,by decide⟩
  ·exact⟨4,rfl,by decide,by decide⟩
  ·exact⟨1000,rfl,by decide,by decide⟩
 obtain⟨m1,e1,a1,a2⟩:=Bx
 dsimp only
 rw[e1]
 refine xq D1 (by omega) (by omega) fun b S2 b0 b1 D2 O2=>?_
 have Cr:=Cq.trans O2
 dsimp only
 refine hN _ _ (ay fun N hN=>?_)
 walk_at "x"
 intro p2 hp2
 refine xq (D2.new hp2) (by decide) (by decide) fun r' S3 r0' r1' D3 O3=>?_
 have CZ:=D2.free hp2
 have h3:S3 p2=some (.lst [.int 4,.int 30,.int 1000001]):=O3 _ _ aa CZ.1 CZ.2
 have DN:x_ d l S S3:=Cr.trans ((x_.new hp2).trans O3)
 dsimp only
 rw[h3]
 have at2:∃m:Int,xT [PV.int 4,PV.int 30,PV.int 1000001] r'=some (.int m)/\1<=m/\m<=1000001:=by
  have:r'=0\/r'=1\/r'=2:=by omega
  rcases this with rfl|rfl|rfl
  ·exact⟨4,rfl,by decide,by decide⟩
  ·exact⟨30,rfl,by decide,by decide⟩
  ·exact⟨1000001,rfl,by decide,by decide⟩
 obtain⟨m2,e2,c1,c2⟩:=at2
 dsimp only
 rw[e2]
 refine xq D3 (by omega) (by omega) fun v S4 v0 v1 D4 O4=>?_
 have DO:=DN.trans O4
 refine hN _ _ ?_
 walk_at "x"
 intro p3 hp3
 refine xq (D4.new hp3) (by decide) (by decide) fun s S5 s0 s1 D5 O5=>?_
 have C0:=D4.free hp3
 have h5:S5 p3=some (.lst [.int 1,.int (0 - 1)]):=O5 _ _ aa C0.1 C0.2
 have DP:x_ d l S S5:=DO.trans ((x_.new hp3).trans O5)
 dsimp only
 rw[h5]
 dsimp only
 obtain⟨vn,rfl⟩:=Int.eq_ofNat_of_zero_le v0
 obtain⟨bn,rfl⟩:=Int.eq_ofNat_of_zero_le b0
 have DQ:∃(m:Int) (sg:Bool),xT [PV.int 1,PV.int (0 - 1)] s=some (.int m)/\-1<=m/\m<=1/\(vn:Int) * m=cA sg vn:=by
  have:s=0\/s=1:=by omega
  rcases this with rfl|rfl
  ·exact⟨1,false,rfl,by decide,by decide,by simp[cA]⟩
  ·exact⟨0 - 1,true,rfl,by decide,by decide,by simp[cA]⟩
 obtain⟨m3,sg,e3,q1,q2,q3⟩:=DQ
 rw[e3]
 dsimp only
 rw[q3]
 refine⟨nq (by omega) (by omega),?_⟩
 rw[show(1:Int)+(bn:Int)=((1+bn:Nat):Int) by omega]
 exact yC (by omega) (by omega) (by omega) (k _ _ S5 (jM (by omega) (by omega) (by omega)) D5 DP)
noncomputable def Vd(l:List Nat):Bool:=l.all fun c=>decide (c < 256)
def ba(a b:List Nat):Vd (a++b)=(Vd a&&Vd b):=List.all_append
def yb{l:List Nat}:Vd l=true↔∀c∈l,c < 256:=by unfold Vd;rw[List.all_eq_true];simp
def ii(n:Int):Vd (num n)=true:=by
 rw[yb]
 intro c hc
 rcases Int.eq_nat_or_neg n with⟨m,rfl|rfl⟩
 ·rw[aW]at hc;have:=bJ m c hc;omega
 ·by_cases h:0 < m
  ·rw[dP m h]at hc
   rcases List.mem_cons.mp hc with rfl|hc
   ·decide
   ·have:=bJ m c hc;omega
  ·have:m=0:=by omega
   subst this
   rw[show(-((0:Nat):Int))=((0:Nat):Int)from rfl,aW]at hc
   have:=bJ 0 c hc;omega
def lo{l:List Nat}(h:l.length<=1000):(xk l).length<=sizeLine:=ln (m:=1000) h
abbrev nJ(w:aP):Prop:=∀{S:au} {Q:cE} {E:de},(∀l:List Nat,1<=l.length->l.length<=200->Vd l=true->Q (.str (xk l)) S)->w [] S Q E
def y0:nJ (df 1 cr):=by
 intro S Q E k
 unfold cr
 refine lK ?_
 rw[show aC 1 []=[none] from rfl]
 refine ay fun N hN=>?_
 walk_at "x"
 refine hN _ _ ?_
 walk_at "x"
 refine⟨by decide,?_⟩
 rw[<-jH (_++_)]
 exact k _ (by decide) (by decide) (by decide +kernel)
abbrev ij(w:aP):Prop:=∀{S:au} {d l:Addr} {z:List Nat} {Q:cE} {E:de},xB S d l->z.length<=50->Vd z=true->(∀(y:List Nat) S',y.length<=z.length+3->Vd y=true->xB S' d l->x_ d l S S'->Q (.str (xk y)) S')->w [.ref d,.str (xk z)] S Q E
def yM{xs xd:aP}(y0:nJ xs)(xq:cS xd):ij (df 7 (bY xs xd)):=by
 intro S d l z Q E D hz vz k
 unfold bY
 refine lK ?_
 rw[show aC 7 [PV.ref d,PV.str (xk z)]=[some (.ref d),some (.str (xk z)),none,none,none,none,none] from rfl]
 refine ay fun N hN=>?_
 walk_at "x"
 refine y0 fun sl s1 s2 s3 p hp=>?_
 refine xq (D.new hp) (by decide) (by decide) fun r S1 r0 r1 D1 O1=>?_
 have dp:=D.free hp
 have h1:S1 p=some (.lst [.str (xk sl),.str (Str.ofString "0123456789"),.str (Str.ofString "-/0+ ")]):=O1 _ _ aa dp.1 dp.2
 have Cq:x_ d l S S1:=(x_.new hp).trans O1
 dsimp only
 rw[h1]
 dsimp only
 have Bx:∃gl:List Nat,xT [PV.str (xk sl),PV.str (Str.ofString "0123456789"),PV.str (Str.ofString "-/0+ ")] r=some (.str (xk gl))/\1<=gl.length/\gl.length<=200/\Vd gl=true:=by
  have:r=0\/r=1\/r=2:=by omega
  rcases this with rfl|rfl|rfl
  ·exact⟨sl,rfl,s1,s2,s3⟩
  ·exact⟨[48,49,50,51,52,53,54,55,56,57],rfl,by decide,by decide,by decide⟩
  ·exact⟨[45,47,48,43,32],rfl,by decide,by decide,by decide⟩
 obtain⟨gl,e1,g1,g2,g3⟩:=Bx
 rw[e1]
 refine hN _ _ (ay fun N hN=>?_)
 walk_at "x"
 refine xq D1 (by decide) (by decide) fun n S2 n0 n1 D2 O2=>?_
 dsimp only
 refine⟨by omega,by omega,?_⟩
 have hcount:(bI 0 (1+n).toNat).length<=3:=by simp[bI];omega
 refine dW (fun done σ S'=>∃(y:List Nat) (x3 x4 x5 x6:Option PV),σ=[some (.ref d),some (.str (xk y)),some (.str (xk gl)),x3,x4,x5,x6]/\y.length<=z.length+done.length/\done.length<=3/\Vd y=true/\xB S' d l/\x_ d l S S') ⟨z,_,_,_,_,rfl,by simp,by simp,vz,D2,Cq.trans O2⟩ (fun _ _ _ _=>trivial) ?_ ?_
 ·rintro done x rest σ S3 K e ⟨y,x3,x4,x5,x6,rfl,hy,BV,vy,D3,O3⟩ hK
  have hlen:done.length+1<=3:=by
   have:=congrArg List.length e
   rw[List.length_append,List.length_cons]at this
   omega
  simp only[Tg.put,List.set_cons_succ,List.set_cons_zero]
  refine ay fun N2 zL=>?_
  walk_at "x"
  rw[aE]
  refine⟨lo (by omega),?_⟩
  refine xq D3 (by omega) (by omega) fun a S4 a0 a1 D4 O4=>?_
  refine zL _ _ (ay fun N2 zL=>?_)
  walk_at "x"
  refine xq D4 (by decide) (by decide) fun fm S5 f0 f1 D5 O5=>?_
  refine zL _ _ (ay fun N2 zL=>?_)
  walk_at "x"
  rw[aE]
  refine⟨lo (by omega),?_⟩
  refine xq D5 (by omega) (by omega) fun g S6 DR DS D6 O6=>?_
  obtain⟨c,hc,DT⟩:=km (xs:=gl) DR DS
  dsimp only
  rw[lD,hc]
  refine⟨lo (by omega),zL _ _ ?_⟩
  obtain⟨an,rfl⟩:=Int.eq_ofNat_of_zero_le a0
  walk_at "x"
  rw[qp]
  refine⟨lo (by omega),fun q hq=>?_⟩
  rw[aa]
  dsimp only
  have at2:∃w:List Nat,xT [PV.str ({ cps:=#[c] }:Str),PV.str (Str.ofString ""),PV.str ({ cps:=#[c] }:Str)] fm=some (.str (xk w))/\w.length<=1/\Vd w=true:=by
   have vc:Vd [c]=true:=yb.mpr fun x hx=>by rw[List.mem_singleton.mp hx];exact yb.mp g3 c DT
   have:fm=0\/fm=1\/fm=2:=by omega
   rcases this with rfl|rfl|rfl
   ·exact⟨[c],rfl,by simp,vc⟩
   ·exact⟨[],rfl,by simp,rfl⟩
   ·exact⟨[c],rfl,by simp,vc⟩
  obtain⟨w,ew,hw,vw⟩:=at2
  rw[ew]
  dsimp only [bp,b9]
  obtain⟨kn,ek,hk1⟩:∃kn:Nat,(an:Int)+(if decide (0 < fm)=true then 1 else 0)=((an+kn:Nat):Int)/\kn<=1:=by
   split
   ·exact⟨1,by omega,Nat.le_refl _⟩
   ·exact⟨0,by omega,by decide⟩
  rw[ek,dU,bE,bE]
  have h5:(List.take an y).length=an:=by rw[List.length_take];omega
  have h6:(List.drop (an+kn) y).length=y.length - (an+kn):=List.length_drop
  have h7:(List.take an y++w).length<=an+1:=by rw[List.length_append];omega
  refine⟨ln (m:=200) (show(List.take an y).length+w.length<=200 by omega),lo (by omega),ln (m:=200) (show(List.take an y++w).length+(List.drop (an+kn) y).length<=200 by omega),hK _ _ ⟨_,_,_,_,_,rfl,?_,by rw[List.length_append];exact hlen,yb.mpr ?_,D6.new hq,O3.trans (O4.trans (O5.trans (O6.trans (.new hq))))⟩⟩
  ·rw[List.length_append,List.length_append]
   rw[List.length_append (as:=done)]
   show _<=z.length+(done.length+1)
   omega
  ·intro x hx
   rcases List.mem_append.mp hx with hx|hx
   ·rcases List.mem_append.mp hx with hx|hx
    ·exact yb.mp vy x (List.mem_of_mem_take hx)
    ·exact yb.mp vw x hx
   ·exact yb.mp vy x (List.mem_of_mem_drop hx)
 ·rintro σ S3 ⟨y,x3,x4,x5,x6,rfl,hy,BV,vy,D3,O3⟩
  refine hN _ _ ?_
  walk_at "x"
  exact k y S3 (by omega) vy D3 O3
def sY{v:Int}(h0:0<=v)(h1:v < 40):(num v).length<=2:=by
 obtain⟨n,rfl⟩:=Int.eq_ofNat_of_zero_le h0
 rw[aW]
 exact jJ (k:=1) (by omega)
inductive zC:List PV->Prop
 |nil:zC []
 |cons {y:List Nat} {r:List PV} (h:y.length<=20) (v:Vd y=true) (t:zC r):zC (.str (xk y)::r)
theorem zC.append:∀{a b:List PV},zC a->zC b->zC (a++b)
 |_,_,.nil,h=>h
 |_,_,.cons h v t,g=>.cons h v (zC.append t g)
theorem zC.mem:∀{a:List PV},zC a->∀v∈a,∃y,v = .str (xk y)/\y.length<=20/\Vd y=true
 |_,.nil,v,h=>by simp at h
 |_,.cons (y:=y) hy hv t,v,h=>by
  rcases List.mem_cons.mp h with rfl|h
  ·exact⟨y,rfl,hy,hv⟩
  ·exact zC.mem t v h
abbrev sZ(w:aP):Prop:=∀{S:au} {d l:Addr} {Q:cE} {E:de},xB S d l->(∀(y:List Nat) S',y.length<=20->Vd y=true->xB S' d l->x_ d l S S'->Q (.str (xk y)) S')->w [.ref d] S Q E
def zM{xd:aP}(xq:cS xd):sZ (df 4 (dy xd)):=by
 intro S d l Q E D k
 unfold dy
 refine lK ?_
 rw[show aC 4 [PV.ref d]=[some (.ref d),none,none,none] from rfl]
 have one:∀(i:Nat) (σ:bq) (S:au) (DD:eK),lk σ 0=some (.ref d)->xB S d l->(∀(t:List Nat) S',t.length<=2->Vd t=true->xB S' d l->x_ d l S S'->DD.nx (σ.set i (some (.str (xk t)))) S')->az i (aj bQ [av xd [v3 0,ap aI (bh [c3 (.int 3),c3 (.int 40)]) (av xd [v3 0,c3 (.int 2)])]]) DD σ S:=by
  intro i σ S DD h0 D kk
  simp only[az,aj,av,bG,ap,bh,aI,v3,c3,h0]
  intro p hp
  refine xq (D.new hp) (by decide) (by decide) fun r S1 r0 r1 D1 O1=>?_
  have dp:=D.free hp
  have h1:S1 p=some (.lst [.int 3,.int 40]):=O1 _ _ aa dp.1 dp.2
  dsimp only
  rw[h1]
  dsimp only
  obtain⟨m,em,m1,m2⟩:∃m:Int,xT [PV.int 3,PV.int 40] r=some (.int m)/\1<=m/\m<=40:=by
   have:r=0\/r=1:=by omega
   rcases this with rfl|rfl
   ·exact⟨3,rfl,by decide,by decide⟩
   ·exact⟨40,rfl,by decide,by decide⟩
  rw[em]
  refine xq D1 (by omega) (by omega) fun v S2 v0 v1 D2 O2=>?_
  simp only[bQ,toS]
  exact⟨cw (by omega),kk _ _ (sY v0 (by omega)) (ii _) D2 ((x_.new hp).trans (O1.trans O2))⟩
 refine ay fun N hN=>one 1 _ _ _ rfl D fun t S1 ht vt D1 O1=>hN _ _ (ay fun N hN=>one 2 _ _ _ rfl D1 fun b S2 hb vb D2 O2=>hN _ _ ?_)
 simp only[List.set_cons_succ,List.set_cons_zero]
 have Cr:=O1.trans O2
 refine ay fun N hN=>?_
 have c1:Str.ofString "/" = xk [47]:=rfl
 have c2:Str.ofString "-" = xk [45]:=rfl
 have c3:Str.ofString "/1" = xk [47,49]:=rfl
 have c4:Str.ofString "0" = xk [48]:=rfl
 have c5:Str.ofString "/0" = xk [47,48]:=rfl
 have c6:Str.ofString "/-" = xk [47,45]:=rfl
 have c7:Str.ofString "/2" = xk [47,50]:=rfl
 have c8:Str.ofString "+" = xk [43]:=rfl
 have c9:Str.ofString " " = xk [32]:=rfl
 have c0:Str.ofString "--" = xk [45,45]:=rfl
 have ll:∀a b:List Nat,a.length+b.length<=100->(xk a).length+(xk b).length<=sizeLine:=fun a b h=>ln (m:=100) h
 have n1:t.length<=2:=ht
 have n2:b.length<=2:=hb
 walk_at "x"
 simp only[c1,c2,c3,c4,c5,bE]
 refine⟨ll _ _ (by simp;omega),ll _ _ (by simp;omega),ll _ _ (by simp;omega),ll _ _ (by simp;omega),ll _ _ (by simp;omega),ll _ _ (by simp;omega),ll _ _ (by simp;omega),ll _ _ (by simp;omega),ll _ _ (by simp;omega),fun p hp=>hN _ _ (ay fun N hN=>?_)⟩
 generalize hxs:[PV.str (xk (t++[47]++b)),PV.str (xk ([45]++t++[47]++b)),PV.str (xk (t++[47,49])),PV.str (xk ([48]++t)),PV.str (xk (t++[47,48]++b))]=xs
 have Tx:zC xs:=by
  subst hxs
  exact .cons (by simp;omega) (by simp only[ba,vt,vb];decide) (.cons (by simp;omega) (by simp only[ba,vt,vb];decide) (.cons (by simp;omega) (by simp only[ba,vt,vb];decide) (.cons (by simp;omega) (by simp only[ba,vt,vb];decide) (.cons (by simp;omega) (by simp only[ba,vt,vb];decide) .nil))))
 have lx:xs.length=5:=by subst hxs;rfl
 have dp:=D2.free hp
 have D3:xB (xi S2 p (.lst xs)) d l:=D2.new hp
 have O3:x_ d l S (xi S2 p (.lst xs)):=Cr.trans (.new hp)
 have h3:(xi S2 p (.lst xs)) p=some (.lst xs):=aa
 generalize xi S2 p (.lst xs)=S3 at D3 O3 h3
 walk_at "x"
 simp only[c1,c2,c6,c7,c8,bE]
 refine⟨ll _ _ (by simp;omega),ll _ _ (by simp;omega),ll _ _ (by simp;omega),ll _ _ (by simp;omega),ll _ _ (by simp;omega),ll _ _ (by simp;omega),ll _ _ (by simp;omega),fun p2 hp2=>?_⟩
 generalize hys:[PV.str (xk (t++[47,45]++b)),PV.str (xk ([45]++t)),PV.str (xk (t++[47]++b++[47,50])),PV.str (xk ([43]++t))]=ys
 have Ty:zC ys:=by
  subst hys
  exact .cons (by simp;omega) (by simp only[ba,vt,vb];decide) (.cons (by simp;omega) (by simp only[ba,vt,vb];decide) (.cons (by simp;omega) (by simp only[ba,vt,vb];decide) (.cons (by simp;omega) (by simp only[ba,vt,vb];decide) .nil)))
 have ly:ys.length=4:=by subst hys;rfl
 have D4:xB (xi S3 p2 (.lst ys)) d l:=D3.new hp2
 have O4:x_ d l S (xi S3 p2 (.lst ys)):=O3.trans (.new hp2)
 have h4:(xi S3 p2 (.lst ys)) p=some (.lst xs):=Ext.new hp2 _ _ h3
 have h4':(xi S3 p2 (.lst ys)) p2=some (.lst ys):=aa
 generalize xi S3 p2 (.lst ys)=S4 at D4 O4 h4 h4'
 rw[h4,h4']
 refine⟨ln (m:=20) (by omega),fun p3 hp3=>hN _ _ (ay fun N hN=>?_)⟩
 have Tz:zC (xs++ys):=Tx.append Ty
 have lz:(xs++ys).length=9:=by rw[List.length_append];omega
 generalize xs++ys=zs at Tz lz
 have D5:xB (xi S4 p3 (.lst zs)) d l:=D4.new hp3
 have O5:x_ d l S (xi S4 p3 (.lst zs)):=O4.trans (.new hp3)
 have h5:(xi S4 p3 (.lst zs)) p3=some (.lst zs):=aa
 generalize xi S4 p3 (.lst zs)=S5 at D5 O5 h5
 walk_at "x"
 simp only[c1,c9,c0,bE]
 refine⟨ll _ _ (by simp;omega),ll _ _ (by simp;omega),ll _ _ (by simp;omega),ll _ _ (by simp;omega),fun p4 A7=>?_⟩
 generalize hws:[PV.str (xk (t++[32])),PV.str (xk ([47]++b)),PV.str (xk (t++[47])),PV.str (xk ([45,45]++t))]=ws
 have Tw:zC ws:=by
  subst hws
  exact .cons (by simp;omega) (by simp only[ba,vt,vb];decide) (.cons (by simp;omega) (by simp only[ba,vt,vb];decide) (.cons (by simp;omega) (by simp only[ba,vt,vb];decide) (.cons (by simp;omega) (by simp only[ba,vt,vb];decide) .nil)))
 have lw:ws.length=4:=by subst hws;rfl
 have D6:xB (xi S5 p4 (.lst ws)) d l:=D5.new A7
 have O6:x_ d l S (xi S5 p4 (.lst ws)):=O5.trans (.new A7)
 have h6:(xi S5 p4 (.lst ws)) p3=some (.lst zs):=Ext.new A7 _ _ h5
 have BC:(xi S5 p4 (.lst ws)) p4=some (.lst ws):=aa
 generalize xi S5 p4 (.lst ws)=S6 at D6 O6 h6 BC
 rw[h6,BC]
 refine⟨ln (m:=20) (by omega),fun p5 zU=>hN _ _ ?_⟩
 have Ta:zC (zs++ws):=Tz.append Tw
 have la:(zs++ws).length=13:=by rw[List.length_append];omega
 generalize zs++ws=vs at Ta la
 walk_at "x"
 have BD:=D6.free zU
 refine xq (D6.new zU) (by decide) (by decide) fun r S7 r0 r1 D7 O7=>?_
 have h7:=O7 _ _ aa BD.1 BD.2
 dsimp only
 rw[h7]
 obtain⟨v,hv,DU⟩:=km (xs:=vs) r0 (by rw[la];exact r1)
 dsimp only
 rw[hv]
 obtain⟨y,rfl,hy,vy⟩:=Ta.mem v DU
 exact k y S7 hy vy D7 (O6.trans ((x_.new zU).trans O7))
noncomputable def u8:Option (Int×Int)->PV
 |none=>.non
 |some f=>.tup [.int f.1,.int f.2]
theorem eF{α:Type}{g:Tg}{tc:fq}{te:aD}{σ':bq}{keep:au->Prop}{fin:List PV->au->Prop}{S:au}(enc f:α->PV)(b:α->Bool)(hk:keep S):∀(xs:List α) (ys:List PV),
  (∀x∈xs,∃σ2,g.put (enc x) σ'=some σ2/\(∀K:Bool->au->Prop,K (b x) S->tc σ2 S K fN)/\∀Q:cE,Q (f x) S->te σ2 S Q fN)->ys.length+xs.length<=sizeLine->fin (ys++(xs.filter b).map f) S->dm g tc te σ' keep fin (xs.map enc) ys S
 |[],ys,_,hl,hf=>⟨hk,by simpa using hl,by simpa using hf⟩
 |x::r,ys,h,hl,hf=>by
  obtain⟨σ2,e,h1,h2⟩:=h x (by simp)
  refine⟨hk,by simp at hl;omega,?_⟩
  rw[e]
  refine h1 _ ?_
  cases hb:b x with
  |true=>
   rw[if_pos rfl]
   refine h2 _ (eF enc f b hk r _ (fun y hy=>h y (by simp[hy])) (by simp at hl ⊢;omega) ?_)
   rw[List.filter_cons_of_pos hb]at hf
   simpa using hf
  |false=>
   rw[if_neg (by decide)]
   refine eF enc f b hk r _ (fun y hy=>h y (by simp[hy])) (by simp at hl ⊢;omega) ?_
   rw[List.filter_cons_of_neg (by rw[hb];decide)]at hf
   exact hf
def s9:∀(k:Nat) (h:List Nat),h.length=k->NumText.AllDigits h->NumText.digitsVal h < 10 ^ k:=by
 intro k
 induction k with
 |zero=>intro h hl _;rw[List.length_eq_zero_iff.mp hl];decide
 |succ k ih=>
  intro h hl hd
  have hn:h≠[]:=fun e=>by rw[e]at hl;cases hl
  obtain⟨p,c,rfl⟩:∃p c,h=p++[c]:=⟨h.dropLast,h.getLast hn,(List.dropLast_concat_getLast hn).symm⟩
  rw[NumText.digitsVal_snoc,Nat.pow_succ]
  have:=ih p (by simpa using hl) fun x hx=>hd x (List.mem_append_left _ hx)
  have:=hd c (by simp)
  omega
def jN{h:List Nat}(o:ik h)(hl:h.length<=60):NumText.digitsVal h < 10 ^ 60:=Nat.lt_of_lt_of_le (s9 _ h rfl o.2) (Nat.pow_le_pow_right (by decide) hl)
def s_{sg:Bool}{m h:List Nat}{t:List (List Nat)}(e:sp m=h::t):sp (pre sg m)=pre sg h::t:=by
 cases sg with
 |false=>exact e
 |true=>exact ie e
theorem nK:∀(l:List Nat),∀p∈sp l,∀c∈p,c∈l
 |[],p,h,c,hc=>by rw[List.mem_singleton.mp h]at hc;exact hc
 |a::r,p,h,c,hc=>by
  have ih:=nK r
  unfold sp at h
  split at h
  ·rcases List.mem_cons.mp h with rfl|h
   ·simp at hc
   ·exact List.mem_cons_of_mem _ (ih p h c hc)
  ·split at h
   ·rw[List.mem_singleton.mp h]at hc;rw[List.mem_singleton.mp hc];simp
   ·rename_i x y e
    rw[e]at ih
    rcases List.mem_cons.mp h with rfl|h
    ·rcases List.mem_cons.mp hc with rfl|hc
     ·simp
     ·exact List.mem_cons_of_mem _ (ih x List.mem_cons_self c hc)
    ·exact List.mem_cons_of_mem _ (ih p (List.mem_cons_of_mem _ h) c hc)
theorem kq:∀{zs:Vs},(∀z∈zs,PyData.strOk z=true)->PyData.canLayAll0 (zs.map PyData.str)=true
 |[],_=>rfl
 |z::r,h=>by
  show(PyData.canLay0 (.str z)&&PyData.canLayAll0 (r.map PyData.str))=true
  rw[kq fun y hy=>h y (by simp[hy])]
  show(PyData.strOk z&&true)=true
  rw[h z (by simp)];rfl
def nL{zs:Vs}(h:∀z∈zs,PyData.strOk z=true):(PyData.list (zs.map PyData.str)).canLay0=true:=kq h
def pI(zs:Vs):(PyData.list (zs.map PyData.str)).eqv (.list [])=zs.isEmpty:=by
 cases zs with
 |nil=>rfl
 |cons a b=>rfl
def pJ(i:Int):(PyData.list [.int i]).eqv (.list [.int 0])=decide (i=0):=by
 have:(PyData.list [.int i]).eqv (.list [.int 0])=(PyData.eqv (.int i) (.int 0)&&true):=rfl
 rw[this,Bool.and_true]
 rfl
abbrev td(w:aP):Prop:=∀{S:au} {l:List Nat} {Q:cE} {E:de},Ps l->Vd l=true->(∀S',Ext S S'->Q (u8 (rd l)) S')->w [.str (xk l)] S Q E
def u9(l:List Nat):∃sg m,l=pre sg m/\rd l=rs sg m/\(sg=false->∀r,m≠45::r):=by
 by_cases hd:∃m,l=45::m
 ·obtain⟨m,rfl⟩:=hd
  exact⟨true,m,rfl,rfl,fun h=>by cases h⟩
 ·have hd:∀m,l≠45::m:=fun m e=>hd ⟨m,e⟩
  exact⟨false,l,rfl,dY hd,fun _=>hd⟩
def zN{xl xt:aP}(yC:nG xl)(ya:ko xt):td (df 7 (dA xl xt)):=by
 intro S l Q E hl vl k
 obtain⟨sg,m,el,er,hm⟩:=u9 l
 rw[er,<-u3 sg m,<-el]at k
 cases e:sp m with
 |nil=>exact absurd e (zd m)
 |cons h t=>
 have C1:sp l=pre sg h::t:=by rw[el];exact s_ e
 rw[e]at k
 have zB:=hl.2
 have hlen:=nh l
 rw[C1]at zB hlen
 unfold dA
 refine lK ?_
 rw[show aC 7 [PV.str (xk l)]=[some (.str (xk l)),none,none,none,none,none,none] from rfl]
 refine ay fun N hN=>?_
 walk_at "x"
 simp only[ez]
 rw[iS,lD,C1]
 refine⟨trivial,by decide,ln (m:=1000) hl.1,ln (m:=1001) (by rw[List.length_map];have:=hl.1;omega),fun p hp=>hN _ _ (ay fun N hN=>?_)⟩
 generalize C2:((pre sg h::t).map xk).map PV.str=PL
 have X1:Ext S (xi S p (.lst PL)):=.new hp
 have hS1:(xi S p (.lst PL)) p=some (.lst PL):=aa
 generalize xi S p (.lst PL)=S1 at X1 hS1
 walk_at "x"
 intro q hq
 have hpq:p≠q:=fun e=>by rw[e,hq]at hS1;cases hS1
 have DV:S q=none:=X1.free hq
 refine hN _ _ (ay fun N hN=>?_)
 walk_at "x"
 have hS2:(xi S1 q (.lst [])) p=some (.lst PL):=by rw[aq hpq];exact hS1
 have C3:(xi S1 q (.lst [])) q=some (.lst []):=aa
 have X2:Ext S (xi S1 q (.lst [])):=X1.trans (.new hq)
 generalize xi S1 q (.lst [])=S2 at hS2 C3 X2
 rw[hS2]
 dsimp only
 generalize hnm:cA sg (NumText.digitsVal h)::t.map (fun u=>((NumText.digitsVal u:Nat):Int))=nm
 refine dW (fun done σ S'=>∃(x3 x4 x5:Option PV),σ=[some (.str (xk l)),some (.ref p),some (.ref q),x3,x4,x5,none]/\done.length<=t.length+1/\(∀f∈(h::t).take done.length,ik f)/\S' q=some (.lst ((nm.take done.length).map PV.int))/\S' p=some (.lst PL)/\Ext S S') ⟨_,_,_,rfl,by simp,by simp,by simpa using C3,hS2,X2⟩ (fun _ _ _ ⟨_,_,_,_,_,_,_,hh,_⟩=>hh) ?_ ?_
 ·rintro done x rest σ S3 K ee ⟨x3,x4,x5,rfl,hd,hok,A8,hp3,X3⟩ hK
  have hxi:(L3.aM PL)[done.length]?=some x:=by rw[ee];simp
  unfold L3.aM at hxi
  rw[List.getElem?_mapIdx,<-C2]at hxi
  have key:∃(y f:List Nat) (n:Int) (kk:Nat),x = .tup [.int (done.length:Int),.str (xk y)]/\(h::t)[done.length]?=some f/\nm[done.length]?=some n/\y.length<=60/\kk=(if done.length=0/\y.take 1=[45] then 1 else 0)/\y.drop kk=f/\(ik f->PySem.intText? (xk y)=some n):=by
   cases hi:done.length with
   |zero=>
    rw[hi]at hxi
    simp only[List.map_cons,List.getElem?_cons_zero,Option.map_some,Option.some.injEq]at hxi
    refine⟨pre sg h,h,cA sg (NumText.digitsVal h),if sg then 1 else 0,hxi.symm,rfl,by rw[<-hnm];rfl,zB _ (by simp),?_,?_,fun o=>?_⟩
    ·cases sg with
     |true=>simp[pre]
     |false=>
      have hne:¬(List.take 1 h=[45]):=fun z=>by
       cases h with
       |nil=>simp at z
       |cons c r=>
        simp at z
        subst z
        have:=ib m
        rw[e]at this
        cases t with
        |nil=>exact hm rfl r this.symm
        |cons a b=>rw[dg (by simp)]at this;exact hm rfl _ this.symm
      simp[pre,hne]
    ·cases sg<;>rfl
    ·cases sg with
     |true=>
      have:=intText_neg (x:=xk (45::h)) rfl o.2 o.1 (by have:=zB (45::h) (by simp[pre]);exact Nat.le_trans this (by decide))
      simpa [pre,cA]using this
     |false=>
      have:=intText_digits (x:=xk h) o.2 o.1 (by have:=zB h (by simp[pre]);exact Nat.le_trans this (by decide))
      rw[lD]at this
      simpa [pre,cA]using this
   |succ j=>
    rw[hi]at hxi
    simp only[List.map_cons,List.getElem?_cons_succ,List.getElem?_map]at hxi
    cases hj:t[j]? with
    |none=>rw[hj]at hxi;simp at hxi
    |some y=>
     rw[hj]at hxi
     simp only[Option.map_some,Option.some.injEq]at hxi
     have C4:y∈t:=List.mem_of_getElem? hj
     refine⟨y,y,((NumText.digitsVal y:Nat):Int),0,hxi.symm,hj,by rw[<-hnm];simp[hj],zB _ (by simp[C4]),by simp,rfl,fun o=>?_⟩
     exact intText_digits (x:=xk y) o.2 o.1 (Nat.le_trans (zB y (by simp[C4])) (by decide))
  obtain⟨y,f,n,kk,rfl,hf,hn,Cs,hkk,hdr,hint⟩:=key
  have hlt:done.length < t.length+1:=by have:=(List.getElem?_eq_some_iff.mp hf).1;simpa using this
  have hfm:f∈h::t:=List.mem_of_getElem? hf
  have hyl:(xk y).length<=sizeLine:=lo (by omega)
  have vf:f.length<=60:=by rw[<-hdr,List.length_drop];omega
  have hsub:∀f∈h::t,∀c∈f,c∈l:=fun f hf c hc=>by
   have:=nK m f (by rw[e];exact hf) c hc
   rw[el]
   cases sg
   ·exact this
   ·exact List.mem_cons_of_mem _ this
  have none_of:¬ik f->∀S',Ext S S'->Q .non S':=fun no S' X'=>by
   have:=k S' X'
   unfold dv at this
   rw[if_neg fun z=>no (z f hfm)]at this
   exact this
  simp only[Tg.put,Tg.xZ,List.set_cons_succ,List.set_cons_zero]
  refine ay fun N2 zL=>?_
  have Ct:N2 [some (.str (xk l)),some (.ref p),some (.ref q),some (.int (done.length:Int)),some (.str (xk y)),some (.str (xk f)),none] S3:=by
   refine zL _ _ (ay fun N3 DW=>?_)
   by_cases hfe:f=[]
   ·subst hfe
    walk_at "x"
    rw[show decide (xk []=Str.ofString "")=true from by decide]
    walk_at "y"
    exact none_of (fun z=>z.1 rfl) S3 X3
   walk_at "x"
   rw[show decide (xk f=Str.ofString "")=false from decide_eq_false fun e=>hfe (congrArg (fun z:Str=>z.cps.toList) e)]
   walk_at "y"
   rw[lD]
   refine eF (fun c=>PV.str (sgn c)) (fun c=>PV.str (sgn c)) (fun c=>!zA c) trivial f [] (fun c _=>⟨_,rfl,fun K q=>?_,fun Q q=>q⟩) (ln (m:=60) (by simpa using vf)) ?_
   ·show K (true != !(Builtin.Str.occurrences (PySem.Str.ofString "0123456789") (sgn c) 0 (PySem.Str.ofString "0123456789").length 1).isEmpty) S3
    have e1:=nA (c:=c)
    rw[Bool.false_bne]at e1
    rw[e1]
    simpa using q
   intro p4 A7 p5 zU
   rw[List.nil_append]at zU ⊢
   have DX:List.map (fun c=>PV.str (sgn c)) (List.filter (fun c=>!zA c) f)=((List.filter (fun c=>!zA c) f).map sgn).map PV.str:=by rw[List.map_map];rfl
   rw[DX]at zU ⊢
   have vz:∀z∈(List.filter (fun c=>!zA c) f).map sgn,PyData.strOk z=true:=by
    intro z hz
    obtain⟨c,hc,rfl⟩:=List.mem_map.mp hz
    have hc:=(List.mem_filter.mp hc).1
    have:=yb.mp vl c (hsub f hfm c hc)
    show(#[c].all fun x=>decide (x < 0x110000))=true
    simp;omega
   have A9:(List.filter (fun c=>!zA c) f).map sgn=[]↔NumText.AllDigits f:=by
    rw[List.map_eq_nil_iff,List.filter_eq_nil_iff]
    exact⟨fun h c hc=>yW.mp (by simpa using h c hc),fun h c hc=>by rw[yW.mpr (h c hc)];decide⟩
   generalize (List.filter (fun c=>!zA c) f).map sgn=zs at zU vz A9 ⊢
   have DY:p4≠p5:=fun e=>by rw[e,aa]at zU;cases zU
   have X4:Ext S3 (xi (xi S3 p4 (.lst (zs.map PV.str))) p5 (.lst [])):=(Ext.new A7).trans (.new zU)
   have h4:(xi (xi S3 p4 (.lst (zs.map PV.str))) p5 (.lst [])) p4=some (.lst (zs.map PV.str)):=by rw[aq DY,aa]
   have h5:(xi (xi S3 p4 (.lst (zs.map PV.str))) p5 (.lst [])) p5=some (.lst []):=aa
   generalize xi (xi S3 p4 (.lst (zs.map PV.str))) p5 (.lst [])=S4 at X4 h4 h5
   refine⟨.list (zs.map PyData.str),.list [],.ref h4 (iX S4 zs),.ref h5 .nil,nL vz,rfl,Nat.le_trans (Nat.min_le_right _ _) (by decide),?_⟩
   rw[pI]
   by_cases hz:zs=[]
   ·subst hz
    have o:ik f:=⟨hfe,A9.mp rfl⟩
    walk_at "y"
    simp only[List.isEmpty_nil,Bool.not_true,Bool.false_eq_true,if_false]
    refine DW _ _ ?_
    have BE:=X4 _ _ A8
    walk_at "x"
    rw[BE]
    refine⟨trivial,?_⟩
    simp only[bp,hint o]
    refine⟨Nat.le_trans Cs (by decide),?_⟩
    rw[BE]
    have Am:(done++[PV.tup [.int (done.length:Int),.str (xk y)]]).length=done.length+1:=by simp
    refine⟨Nat.lt_of_le_of_lt (show _<=2000 by rw[List.length_map,List.length_take];have:=hl.1;simp at hlen;omega) (by decide),hK _ _ ⟨_,_,_,rfl,by rw[Am];omega,?_,?_,?_,?_⟩⟩
    ·rw[Am,List.take_add_one,hf]
     intro g hg
     rcases List.mem_append.mp hg with hg|hg
     ·exact hok g hg
     ·rw[List.mem_singleton.mp hg];exact o
    ·rw[Am,List.take_add_one,hn,aa]
     simp
    ·rw[aq hpq];exact X4 _ _ hp3
    ·intro a o ha
     have hne:a≠q:=fun e=>by rw[e,DV]at ha;cases ha
     rw[aq hne]
     exact X4 _ _ (X3 _ _ ha)
   ·rw[show zs.isEmpty=false by cases zs with|nil=>exact absurd rfl hz|cons a b=>rfl]
    walk_at "y"
    try simp only[Bool.not_false,if_true]
    exact none_of (fun z=>hz (A9.mpr z.2)) _ (X3.trans X4)
  walk_at "x"
  by_cases h0:(done.length:Int)=0
  ·rw[decide_eq_true h0]
   walk_at "y"
   have hd0:done.length=0:=by omega
   rw[show Txt.slice (xk y) none (some 1)=xk (y.take 1)from qp y 1]
   refine⟨hyl,?_⟩
   by_cases hc:y.take 1=[45]
   ·rw[hc,show decide (xk [45]=Str.ofString "-")=true from by decide]
    rw[if_pos ⟨hd0,hc⟩]at hkk
    subst hkk
    simp only[bp,b9,if_true]
    rw[show Txt.slice (xk y) (some 1) none=xk (y.drop 1)from dU y 1,hdr]
    exact⟨hyl,Ct⟩
   ·rw[show decide (xk (y.take 1)=Str.ofString "-")=false from decide_eq_false fun e=>hc (congrArg (fun z:Str=>z.cps.toList) e)]
    rw[if_neg fun z=>hc z.2]at hkk
    subst hkk
    simp only[bp,b9,Bool.false_eq_true,if_false]
    rw[show Txt.slice (xk y) (some 0) none=xk (y.drop 0)from dU y 0,hdr]
    exact⟨hyl,Ct⟩
  ·rw[decide_eq_false h0]
   walk_at "y"
   rw[if_neg fun z=>h0 (by omega)]at hkk
   subst hkk
   simp only[bp,b9,Bool.false_eq_true,if_false]
   rw[show Txt.slice (xk y) (some 0) none=xk (y.drop 0)from dU y 0,hdr]
   exact⟨hyl,Ct⟩
 ·rintro σ S3 ⟨x3,x4,x5,rfl,hd,hok,A8,hp3,X3⟩
  refine hN _ _ (ay fun N hN=>?_)
  have hdl:(L3.aM PL).length=t.length+1:=by rw[<-C2];simp[L3.aM]
  have hnl:nm.length=t.length+1:=by rw[<-hnm];simp
  rw[hdl]at hok A8
  rw[List.take_of_length_le (by simp)]at hok
  rw[List.take_of_length_le (by omega)]at A8
  have ho:=hok h (by simp)
  have BF:NumText.digitsVal h < 10 ^ 60:=jN ho (by
   have:=zB (pre sg h) (by simp)
   cases sg
   ·exact this
   ·have:(45::h).length<=60:=this;simp at this;omega)
  unfold dv at k
  rw[if_pos hok]at k
  have last:∀(b:Nat) (S4:au),Ext S S4->S4 q=some (.lst (nm.map PV.int))->nm.length<=2->xT (nm.map PV.int++[.int 1]) 1=some (.int (b:Int))->0 < b->b < 10 ^ 60->(∀S',Ext S S'->Q (u8 (fin sg l (NumText.digitsVal h) b)) S')->N [some (.str (xk l)),some (.ref p),some (.ref q),x3,x4,x5,none] S4:=by
   intro b S4 X4 BE hl2 hat hb0 BG kk
   refine hN _ _ (ay fun N hN=>?_)
   walk_at "x"
   rw[BE]
   dsimp only
   have Cu:xT (nm.map PV.int) 0=some (.int (cA sg (NumText.digitsVal h))):=by rw[<-hnm];exact c_ (j:=0) rfl
   rw[Cu]
   dsimp only
   intro p6 C5
   have h6:(xi S4 p6 (.lst [.int 1])) q=some (.lst (nm.map PV.int)):=Ext.new C5 _ _ BE
   have BC:(xi S4 p6 (.lst [.int 1])) p6=some (.lst [.int 1]):=aa
   have X6:Ext S (xi S4 p6 (.lst [.int 1])):=X4.trans (.new C5)
   generalize xi S4 p6 (.lst [.int 1])=S6 at h6 BC X6
   rw[h6,BC]
   refine⟨ln (m:=10) (by rw[List.length_map];simp;omega),fun p7 Cv=>?_⟩
   rw[aa]
   dsimp only
   rw[hat]
   dsimp only
   refine yC hb0 BG BF (hN _ _ (ay fun N hN=>?_))
   have X7:Ext S (xi S6 p7 (.lst (nm.map PV.int++[.int 1]))):=X6.trans (.new Cv)
   generalize xi S6 p7 (.lst (nm.map PV.int++[.int 1]))=S7 at X7
   have hB:=(jM (K:=10 ^ 60) (sg:=sg) hb0 BF BG).bd
   have kk:=kk S7 X7
   unfold fin at kk
   walk_at "y"
   refine ya hB.1 hB.2.1 ?_
   walk_at "y"
   by_cases ht:txt (gG sg (NumText.digitsVal h) b)=l
   ·rw[if_pos ht]at kk
    rw[decide_eq_true (show xk (txt (gG sg (NumText.digitsVal h) b))=xk l by rw[ht])]
    walk_at "y"
    refine hN _ _ ?_
    walk_at "y"
    exact kk
   ·rw[if_neg ht]at kk
    rw[show decide (xk (txt (gG sg (NumText.digitsVal h) b))=xk l)=false from decide_eq_false fun e=>ht (congrArg (fun z:Str=>z.cps.toList) e)]
    walk_at "y"
    exact kk
  walk_at "x"
  rw[A8]
  dsimp only
  rw[List.length_map,hnl]
  have two:∀p8,S3 p8=none->∀p9,xi S3 p8 (.lst (bV (nm.map PV.int) (some 1) none)) p9=none->Ext S3 (xi (xi S3 p8 (.lst (bV (nm.map PV.int) (some 1) none))) p9 (.lst [.int 0]))/\(xi (xi S3 p8 (.lst (bV (nm.map PV.int) (some 1) none))) p9 (.lst [.int 0])) p8=some (.lst (bV (nm.map PV.int) (some 1) none))/\(xi (xi S3 p8 (.lst (bV (nm.map PV.int) (some 1) none))) p9 (.lst [.int 0])) p9=some (.lst [.int 0]):=by
   intro p8 h8 p9 h9
   have hne:p8≠p9:=fun e=>by rw[e,aa]at h9;cases h9
   exact⟨(Ext.new h8).trans (.new h9),by rw[aq hne,aa],aa⟩
  match t,hnm,hok,hnl,k,zB with
  |[],hnm,hok,hnl,k,zB=>
   rw[decide_eq_false (by simp)]
   simp only[Bool.false_eq_true,if_false]
   intro p8 h8 p9 h9
   obtain⟨X8,e8,e9⟩:=two p8 h8 p9 h9
   generalize xi (xi S3 p8 (.lst (bV (nm.map PV.int) (some 1) none))) p9 (.lst [.int 0])=S4 at X8 e8 e9
   have ec:bV (nm.map PV.int) (some 1) none=[]:=by rw[<-hnm];rfl
   rw[ec]at e8
   refine⟨.list [],.list [.int 0],.ref e8 .nil,.ref e9 (.cons (.int 0) .nil),rfl,rfl,by decide,?_⟩
   rw[show(PyData.list []).eqv (.list [.int 0])=false from rfl]
   simp only[Bool.false_bne,Bool.false_eq_true,if_false]
   exact last 1 S4 (X3.trans X8) (X8 _ _ A8) (by rw[hnl];simp) (by rw[<-hnm];exact c_ (j:=1) rfl) (by decide) (by decide) k
  |[u],hnm,hok,hnl,k,zB=>
   rw[decide_eq_false (by simp)]
   simp only[Bool.false_eq_true,if_false]
   intro p8 h8 p9 h9
   obtain⟨X8,e8,e9⟩:=two p8 h8 p9 h9
   generalize xi (xi S3 p8 (.lst (bV (nm.map PV.int) (some 1) none))) p9 (.lst [.int 0])=S4 at X8 e8 e9
   have ec:bV (nm.map PV.int) (some 1) none=[.int ((NumText.digitsVal u:Nat):Int)]:=by rw[<-hnm];rfl
   rw[ec]at e8
   refine⟨.list [.int ((NumText.digitsVal u:Nat):Int)],.list [.int 0],.ref e8 (.cons (.int _) .nil),.ref e9 (.cons (.int 0) .nil),rfl,rfl,Nat.le_trans (Nat.min_le_right _ _) (by decide),?_⟩
   have DZ:=hok u (by simp)
   rw[pJ]
   by_cases hz:NumText.digitsVal u=0
   ·dsimp only at k
    rw[if_pos hz]at k
    rw[decide_eq_true (by omega)]
    simp only[Bool.false_bne,if_true]
    exact k _ (X3.trans X8)
   ·dsimp only at k
    rw[if_neg hz]at k
    rw[decide_eq_false (by omega)]
    simp only[Bool.false_bne,Bool.false_eq_true,if_false]
    exact last (NumText.digitsVal u) S4 (X3.trans X8) (X8 _ _ A8) (by rw[hnl];simp) (by rw[<-hnm];exact c_ (j:=1) rfl) (by omega) (jN DZ (zB u (by simp))) k
  |u::w::r,hnm,hok,hnl,k,zB=>
   rw[decide_eq_true (by simp;omega)]
   simp only[if_true]
   exact k _ X3
noncomputable def hv:Option (Int×Int)->PV
 |none=>.tup [.str "refused"]
 |some f=>.tup [.str "told",.tup [.int f.1,.int f.2]]
abbrev jO(w:aP):Prop:=∀{S:au} {l:List Nat} {Q:cE} {E:de},Ps l->(∀S',Ext S S'->Q (hv (rd l)) S')->w [.str (xk l)] S Q E
def y1{xr:aP}(zp:ig xr):jO (df 4 (cu xr)):=by
 intro S l Q E hl k
 unfold cu
 refine lK ?_
 rw[show aC 4 [PV.str (xk l)]=[some (.str (xk l)),none,none,none] from rfl]
 refine ay fun N hN=>?_
 walk_at "x"
 refine hN _ _ (ay fun N hN=>?_)
 simp only[pq,aR,di,bu,bG,v3,c3,lk]
 refine zp hl (fun f S1 hf X1=>?_) fun S1 hf X1=>⟨by decide,?_⟩
 ·have:=k S1 X1
  rw[hf]at this
  exact this
 ·have kk:=k S1 X1
  rw[hf]at kk
  walk_at "x"
  refine hN _ _ (ay fun N hN=>?_)
  walk_at "y"
  simp only[fF,lr,fE,zx,bC,String.reduceEq,and_true,and_false,if_false,if_true,List.any,beq_self_eq_true,Bool.true_or,true_and]
  refine hN _ _ (ay fun N hN=>?_)
  walk_at "y"
  simp only[fF,lr,fE,zx,bC,String.reduceEq,and_true,and_false,if_false,if_true,List.any,beq_self_eq_true,Bool.true_or,true_and,Bool.not_true,Bool.false_eq_true]
  refine hN _ _ ?_
  walk_at "y"
  intro p4 A7
  have el:List.lookup (Str.ofString "row") ([Str.ofString "row"].zip [PV.int 0])=some (PV.int 0):=rfl
  rw[el]
  refine⟨by decide,?_⟩
  show cN "bool" = true/\_
  refine⟨by decide,?_⟩
  rw[show lg "int" "bool" = false from by decide]
  simp only[Bool.false_eq_true,if_false]
  refine⟨by decide,?_⟩
  simp only[decide_true,bp,b9,Bool.not_true,Bool.false_eq_true,if_false,aa]
  rw[show xT [PV.tup [PV.str (Str.ofString "refused")],PV.tup [PV.str (Str.ofString "other")]] 0=some (.tup [.str (Str.ofString "refused")])from rfl]
  have:=k _ (X1.trans (Ext.new (o:=.lst [PV.tup [PV.str (Str.ofString "refused")],PV.tup [PV.str (Str.ofString "other")]]) A7))
  rw[hf]at this
  exact this
def nM{a:List Nat}{v:Nat}(h:rf a=some v)(hl:a.length<=60):v < 10 ^ 60:=by
 obtain⟨e1,e2⟩:=gH h
 rw[<-e2]
 exact jN (by rw[e1];exact kj v) hl
def qv {sg : Bool} {m : List Nat} {f : Int × Int} (hm : ∀ p ∈ sp m, p.length <= 60) (h : rs sg m = some f) : f.1.natAbs < 10 ^ 60 /\ f.2.natAbs < 10 ^ 60 := by
 unfold rs at h
 split at h
 ·rename_i t u e
  split at h
  ·cases h
  ·cases h
   have : t < 10 ^ 60 /\ u < 10 ^ 60 := by
    unfold rn at e
    split at e
    ·rename_i a ea
     split at e
     ·rename_i v ev
      cases e
      exact ⟨nM ev (hm a (by rw [ea]; simp)), by decide⟩
     ·cases e
    ·rename_i a b ea
     split at e
     ·rename_i v w ev ew
      split at e
      ·cases e
      ·cases e
       exact ⟨nM ev (hm a (by rw [ea]; simp)), nM ew (hm b (by rw [ea]; simp))⟩
     ·cases e
    ·cases e
   refine ⟨?_, by show (u : Int).natAbs < _; omega⟩
   cases sg <;> simp only [cA, if_true] <;> first | omega | (rw [if_neg (by decide)]; omega)
 ·cases h
def u_{l:List Nat}{f:Int×Int}(hl:Ps l)(h:rd l=some f):f.1.natAbs < 10 ^ 60/\f.2.natAbs < 10 ^ 60:=by
 by_cases hd:∃m,l=45::m
 ·obtain⟨m,rfl⟩:=hd
  exact qv hl.tail.2 h
 ·rw[dY fun m e=>hd ⟨m,e⟩]at h
  exact qv hl.2 h
def Ps.of{l:List Nat}(h:l.length<=60):Ps l:=⟨by omega,fun p hp=>Nat.le_trans (qo l p hp) h⟩
def tj{n d:Int}(h:Lw (10 ^ 50) n d):Ps (txt (n,d))/\Ps (45::txt (n,d)):=by
 have b:=h.bd
 have l1:=bo (n:=n) (k:=49) b.1
 have l2:=bo (n:=d) (k:=49) b.2.1
 unfold txt
 split
 ·have e:=bS (num n) (cb n)
  exact⟨.of (by show(num n).length<=60;omega),.of (by show(45::num n).length<=60;simp;omega)⟩
 ·have e:sp (num n++47::num d)=[num n,num d]:=by rw[eA _ _ (cb n),bS _ (cb d)]
  refine⟨⟨by simp;omega,fun p hp=>?_⟩,⟨by simp;omega,fun p hp=>?_⟩⟩
  ·have hp:p∈sp (num n++47::num d):=hp
   rw[e]at hp
   simp at hp
   rcases hp with rfl|rfl<;>omega
  ·have hp:p∈sp (45::(num n++47::num d)):=hp
   rw[ie e]at hp
   simp at hp
   rcases hp with rfl|rfl
   ·simp;omega
   ·omega
def nN(n d:Int):Vd (txt (n,d))=true:=by
 unfold txt
 split
 ·exact ii n
 ·have:=ba (num n) (47::num d)
  rw[this,ii,show Vd (47::num d)=(decide (47 < 256)&&Vd (num d))from rfl,ii]
  rfl
def pK{n d:Int}(h:Lw (10 ^ 7) n d):(txt (n,d)).length<=20:=by
 have b:=h.bd
 have l1:=bo (n:=n) (k:=6) b.1
 have l2:=bo (n:=d) (k:=6) b.2.1
 unfold txt
 split
 ·show(num n).length<=20;omega
 ·show(num n++47::num d).length<=20;simp;omega
def nO{K:Nat}{n d:Int}(h:Lw K n d):rd (txt (n,d))=some (n,d):=by
 obtain⟨sg,v,b,rfl,rfl,h1,h2,h3,_,_⟩:=h
 obtain⟨m,e1,e2,c,r,e3,hc⟩:=sG (sg:=sg) h1 h2 h3
 rw[e1]
 cases sg with
 |true=>exact e2
 |false=>
  show rd m=_
  rw[dY fun x e=>by rw[e3]at e;have:=(List.cons.inj e).1;omega]
  exact e2
def pL{l:List Nat}(hl:Ps l):∃z:Str,∀{S:au} {Q:cE},Q (.str z) S->dq [hv (rd l)] S Q:=by
 cases h:rd l with
 |none=>exact⟨_,fun{S Q} q=>fJ (S:=S) (Sh.tup ((((Sh.str (z:="refused") (by decide +kernel)).le (m:=100) (by decide) (Nat.le_refl 0))).cons (.Ay _))) (by decide) (by decide) q⟩
 |some f=>
  have b:=u_ hl h
  exact⟨_,fun{S Q} q=>fJ (S:=S) (Sh.tup (((Sh.str (z:="told") (by decide +kernel)).le (m:=100) (by decide) (Nat.zero_le 1)).cons ((Sh.tup ((Sh.int (cw b.1)).cons ((Sh.int (cw b.2)).cons (.Ay _)))).cons (.Ay _)))) (by decide) (by decide) q⟩
def pM{n d:Int}(h1:n.natAbs < 10 ^ 60)(h2:d.natAbs < 10 ^ 60):∃z:Str,∀{S:au} {Q:cE},Q (.str z) S->gq [.tup [.int n,.int d]] S Q:=
 ⟨_,fun{S Q} q=>fJ (S:=S) (Sh.tup ((Sh.int (cw h1)).cons ((Sh.int (cw h2)).cons (.Ay _)))) (by decide) (by decide) q⟩
def kr{l:List Nat}(h:l.length<=100)(v:Vd l=true):(reprText (xk l)).length<=sizeLine:=by
 have hs:PyData.strOk (xk l)=true:=by
  show(l.toArray.all fun x=>decide (x < 0x110000))=true
  rw[<-Array.all_toList,List.all_eq_true]
  intro c hc
  have:=yb.mp v c hc
  simp;omega
 have:=(Sh.str (S:=fun _=>none) hs).len
 exact Nat.le_trans this (ln (m:=2000) (by rw[aE];omega))
def Tq(xs:List PV):Prop:=∀v∈xs,∃y,v = .str (xk y)/\Ps y/\Vd y=true
def Tq.append{a b:List PV}(h:Tq a)(g:Tq b):Tq (a++b):=fun v hv=>(List.mem_append.mp hv).elim (h v) (g v)
theorem Tq.reverse{a:List PV}(h:Tq a):Tq a.reverse:=fun v hv=>h v (List.mem_reverse.mp hv)
def jP:Tq []:=fun v hv=>by simp at hv
def bb{y:List Nat}{r:List PV}(h:Ps y)(v:Vd y=true)(t:Tq r):Tq (.str (xk y)::r):=fun x hx=>by
 rcases List.mem_cons.mp hx with rfl|hx
 ·exact⟨y,rfl,h,v⟩
 ·exact t x hx
def nP:Tq [.str (Str.ofString ""),.str (Str.ofString "0"),.str (Str.ofString "-0"),.str (Str.ofString "-"),.str (Str.ofString "1/1"),.str (Str.ofString "2/0")]:=
 bb (y:=[]) (.of (by decide)) rfl (bb (y:=[48]) (.of (by decide)) rfl (bb (y:=[45,48]) (.of (by decide)) rfl (bb (y:=[45]) (.of (by decide)) rfl (bb (y:=[49,47,49]) (.of (by decide)) rfl (bb (y:=[50,47,48]) (.of (by decide)) rfl jP)))))
abbrev pN(w:aP):Prop:=∀{ns:Vu} {S:au} {Q:cE} {E:de},ns.length<=63->(∀S',Q (.bl true) S')->w [.cl (ns.map PV.int)] S Q E
def tm{x0 x1 x2 x3 x4 x5 x6 x7 x8 x9 C6:aP}(zk:iW x0)(AB:nH x1)(ya:ko x2)(yL:jK x3)(zp:ig x4)(yM:ij x5)(zM:sZ x6)(yC:nG x7)(xq:e_ x8)(zN:td x9)(y1:jO C6):pN (df 8 (nz x0 x1 x2 x3 x4 x5 x6 x7 x8 x9 C6)):=by
 intro ns S Q E hn k
 unfold nz
 refine lK ?_
 rw[show aC 8 [PV.cl (ns.map PV.int)]=[some (.cl (ns.map PV.int)),none,none,none,none,none,none,none] from rfl]
 refine ay fun N hN=>?_
 walk_at "x"
 refine zk hn (by decide) (by decide) fun d l S1 _ _ D1 _=>?_
 refine hN _ _ (ay fun N hN=>?_)
 walk_at "x"
 intro p hp
 have D2:xB (xi S1 p (.lst [.str (Str.ofString ""),.str (Str.ofString "0"),.str (Str.ofString "-0"),.str (Str.ofString "-"),.str (Str.ofString "1/1"),.str (Str.ofString "2/0")])) d l:=D1.new hp
 have h2:(xi S1 p (.lst [.str (Str.ofString ""),.str (Str.ofString "0"),.str (Str.ofString "-0"),.str (Str.ofString "-"),.str (Str.ofString "1/1"),.str (Str.ofString "2/0")])) p=some (.lst [.str (Str.ofString ""),.str (Str.ofString "0"),.str (Str.ofString "-0"),.str (Str.ofString "-"),.str (Str.ofString "1/1"),.str (Str.ofString "2/0")]):=aa
 refine hN _ _ (ay fun N hN=>?_)
 generalize xi S1 p (.lst [.str (Str.ofString ""),.str (Str.ofString "0"),.str (Str.ofString "-0"),.str (Str.ofString "-"),.str (Str.ofString "1/1"),.str (Str.ofString "2/0")])=S2 at D2 h2
 simp only[eS,jB,c3]
 refine⟨by decide,by decide,?_⟩
 refine dW (fun done σ S'=>∃(pt:Addr) (xs:List PV) (x3 x4 x5:Option PV),σ=[some (.cl (ns.map PV.int)),some (.ref d),some (.ref pt),x3,x4,x5,none,none]/\S' pt=some (.lst xs)/\pt≠d/\pt≠l/\Tq xs/\xs.length=6+3 * done.length/\done.length<=8/\xB S' d l) ⟨p,_,_,_,_,rfl,h2,(D1.free hp).1,(D1.free hp).2,nP,rfl,by simp,D2⟩ (fun _ _ _ _=>trivial) ?_ ?_
 ·rintro done x rest σ S3 K e ⟨pt,xs,y3,y4,y5,rfl,h3,n1,n2,T3,lx,ld,D3⟩ hK
  have hlen:done.length+1<=8:=by
   have:=congrArg List.length e
   simp[bI]at this
   omega
  simp only[Tg.put,List.set_cons_succ,List.set_cons_zero]
  refine ay fun N2 zL=>?_
  walk_at "x"
  refine AB D3 fun n m S4 hw D4 O4=>zL _ _ (ay fun N2 zL=>?_)
  have b:=hw.bd
  have b1:n.natAbs < 10 ^ 60:=Nat.lt_of_lt_of_le b.1 (by decide)
  have b2:m.natAbs < 10 ^ 60:=Nat.lt_of_lt_of_le b.2.1 (by decide)
  have lt:=pK hw
  have vt:=nN n m
  have C7:Ps (txt (n,m)):=.of (by omega)
  walk_at "x"
  refine ya b1 b2 (zL _ _ (ay fun N2 zL=>?_))
  have h4:=O4 _ _ h3 n1 n2
  obtain⟨zf,C8⟩:=pM b1 b2
  walk_at "x"
  refine yL b1 b.2.2.1 (by omega) fun S5 X5=>?_
  simp only[dq]
  refine⟨kr (by omega) vt,kr (by omega) vt,?_⟩
  simp only[decide_true,Bool.bne_true,Bool.not_true,Bool.false_eq_true,if_false]
  refine zp C7 (fun f S6 hf X6=>?_) fun S6 hf X6=>by rw[nO hw]at hf;cases hf
  rw[nO hw]at hf
  cases hf
  refine C8 (C8 ?_)
  simp only[decide_true,Bool.bne_true,Bool.not_true,Bool.false_eq_true,if_false]
  have h6:=X6 _ _ (X5 _ _ h4)
  have D6:xB S6 d l:=(D4.ext X5).ext X6
  refine zL _ _ ?_
  walk_at "x"
  refine yM D6 (by omega) vt fun y S7 ly vy D7 O7=>?_
  refine zM D7 fun w S8 lw vw D8 O8=>?_
  have h8:=O8 _ _ (O7 _ _ h6 n1 n2) n1 n2
  intro p9 hp9
  have h9:=Ext.new (o:=.lst [.str (xk (txt (n,m))),.str (xk y),.str (xk w)]) hp9 _ _ h8
  rw[h9,aa]
  dsimp only
  refine⟨ln (m:=100) (by rw[lx];simp;omega),fun Bd A_=>?_⟩
  have D9:xB (xi S8 p9 (.lst [.str (xk (txt (n,m))),.str (xk y),.str (xk w)])) d l:=D8.new hp9
  have dp:=D9.free A_
  refine hK _ _ ⟨Bd,_,_,_,_,rfl,aa,dp.1,dp.2,T3.append (bb C7 vt (bb (.of (by omega)) vy (bb (.of (by omega)) vw jP))),by simp[lx];omega,by simp;omega,D9.new A_⟩
 ·rintro σ S3 ⟨pt,xs,y3,y4,y5,rfl,h3,n1,n2,T3,lx,ld,D3⟩
  refine hN _ _ (ay fun N hN=>?_)
  have BH:xs.length=30:=by rw[lx];rfl
  walk_at "x"
  have BI:kI 10 40:=⟨by decide,by decide,by decide⟩
  have D0:kI 10 9:=⟨by decide,by decide,by decide⟩
  have D_:((10:Int) ^ Int.toNat 40)=10 ^ 40:=rfl
  have e9:((10:Int) ^ Int.toNat 9)=10 ^ 9:=rfl
  rw[D_,e9]
  refine⟨BI,xq D3 (by decide) (by decide) fun v S4 v0 v1 D4 O4=>⟨D0,BI,fun p5 zU=>?_⟩⟩
  refine xq (D4.new zU) (by decide) (by decide) fun r S5 r0 r1 D5 O5=>?_
  have BD:=D4.free zU
  have h5:S5 p5=some (.lst [.int (10 ^ 9),.int (10 ^ 40)]):=O5 _ _ aa BD.1 BD.2
  have Ea:x_ d l S3 S5:=O4.trans ((x_.new zU).trans O5)
  dsimp only
  rw[h5]
  dsimp only
  obtain⟨mm,em,m1,m2⟩:∃mm:Int,xT [PV.int (10 ^ 9),PV.int (10 ^ 40)] r=some (.int mm)/\1<=mm/\mm<=10 ^ 40:=by
   have:r=0\/r=1:=by omega
   rcases this with rfl|rfl
   ·exact⟨10 ^ 9,rfl,by decide,by decide⟩
   ·exact⟨10 ^ 40,rfl,by decide,by decide⟩
  rw[em]
  dsimp only
  refine xq D5 (by omega) (Nat.lt_of_le_of_lt (show mm.natAbs<=10 ^ 40 by omega) (by decide)) fun b S6 b0 b1 D6 O6=>?_
  obtain⟨vn,rfl⟩:=Int.eq_ofNat_of_zero_le v0
  obtain⟨bn,rfl⟩:=Int.eq_ofNat_of_zero_le b0
  dsimp only
  rw[show(1:Int)+(bn:Int)=((1+bn:Nat):Int) by omega]
  have hvn:vn < 10 ^ 40:=by omega
  have hbn:1+bn < 10 ^ 41:=by omega
  have hw:Lw (10 ^ 50) (gG false vn (1+bn)).1 (gG false vn (1+bn)).2:=jM (by omega) (by omega) (by omega)
  refine yC (sg:=false) (by omega) (by omega) (by omega) (hN _ _ (ay fun N hN=>?_))
  generalize (gG false vn (1+bn)).1=n at hw
  generalize (gG false vn (1+bn)).2=m at hw
  have bd:=hw.bd
  have b1:n.natAbs < 10 ^ 60:=Nat.lt_of_lt_of_le bd.1 (by decide)
  have b2:m.natAbs < 10 ^ 60:=Nat.lt_of_lt_of_le bd.2.1 (by decide)
  have ps:=tj hw
  have vt:=nN n m
  have h6:=(Ea.trans O6) _ _ h3 n1 n2
  walk_at "x"
  refine ya b1 b2 (ya b1 b2 ?_)
  dsimp only
  rw[u7]
  refine⟨ln (m:=2000) (show 1+(txt (n,m)).length<=2000 by have:=ps.1.1;omega),fun p7 Cv=>?_⟩
  have h7:=Ext.new (o:=.lst [.str (xk (txt (n,m))),.str (xk (45::txt (n,m)))]) Cv _ _ h6
  rw[h7,aa]
  dsimp only
  refine⟨ln (m:=100) (by rw[BH];simp),fun p8 hp8=>?_⟩
  have T8:Tq (xs++[.str (xk (txt (n,m))),.str (xk (45::txt (n,m)))]):=T3.append (bb ps.1 vt (bb ps.2 (by show(decide (45 < 256)&&Vd (txt (n,m)))=true;rw[vt];rfl) jP))
  have l8:(xs++[PV.str (xk (txt (n,m))),.str (xk (45::txt (n,m)))]).length=32:=by rw[List.length_append,BH];rfl
  generalize xs++[PV.str (xk (txt (n,m))),.str (xk (45::txt (n,m)))]=zs at T8 l8
  generalize xi S6 p7 (.lst [.str (xk (txt (n,m))),.str (xk (45::txt (n,m)))])=S7 at hp8
  refine hN _ _ (ay fun N hN=>?_)
  have h8:(xi S7 p8 (.lst zs)) p8=some (.lst zs):=aa
  generalize xi S7 p8 (.lst zs)=S8 at h8
  simp only[eS,cO,ap,nn,qe,iG,v3,c3,lk]
  rw[h8]
  refine⟨trivial,fun p9 hp9=>?_⟩
  have h9:=Ext.new (o:=.lst zs.reverse) hp9 _ _ h8
  simp only[aB]
  rw[h9,aa]
  dsimp only
  refine⟨ln (m:=100) (by rw[List.length_reverse,l8];decide),fun Bd A_=>?_⟩
  have C9:Tq (zs++zs.reverse):=T8.append T8.reverse
  have Bc:(xi (xi S8 p9 (.lst zs.reverse)) Bd (.lst (zs++zs.reverse))) Bd=some (.lst (zs++zs.reverse)):=aa
  generalize xi (xi S8 p9 (.lst zs.reverse)) Bd (.lst (zs++zs.reverse))=S10 at Bc
  generalize zs++zs.reverse=ws at C9 Bc
  simp only[gu,Bc]
  refine dW (fun done σ S'=>∃(y5 y7:Option PV),σ=[some (.cl (ns.map PV.int)),some (.ref d),some (.ref p8),y3,y4,y5,some (.tup [.int n,.int m]),y7]/\S' Bd=some (.lst ws)) ⟨_,_,rfl,Bc⟩ (fun _ _ _ ⟨_,_,_,hh⟩=>hh) ?_ ?_
  ·rintro done x rest σ Cw K e ⟨y5,y7,rfl,h11⟩ hK
   obtain⟨y,rfl,py,vy⟩:=C9 x (by rw[e];simp)
   simp only[Tg.put,List.set_cons_succ,List.set_cons_zero]
   refine ay fun N2 zL=>?_
   walk_at "x"
   refine zN py vy fun S12 Eb=>zL _ _ ?_
   obtain⟨z,hz⟩:=pL py
   walk_at "x"
   refine y1 py fun Ec Ed=>hz ?_
   intro Ee Cy
   have Ef:Ext Cw (xi Ec Ee (.lst [.tup [.str (Str.ofString "told"),u8 (rd y)],.tup [.str (Str.ofString "refused")]])):=Eb.trans (Ed.trans (.new Cy))
   have BX:=Ef _ _ h11
   cases hr:rd y with
   |none=>
    rw[hr]at BX hz
    simp only[u8,bp,b9,aa,Bool.false_bne,if_true]
    rw[show xT [PV.tup [PV.str (Str.ofString "told"),PV.non],PV.tup [PV.str (Str.ofString "refused")]] 1=some (hv none)from rfl]
    refine hz ?_
    simp only[decide_true,Bool.bne_true,Bool.not_true,Bool.false_eq_true,if_false]
    exact hK _ _ ⟨_,_,rfl,BX⟩
   |some f=>
    rw[hr]at BX hz
    simp only[u8,bp,b9,aa,Bool.false_bne,Bool.false_eq_true,if_false]
    rw[show xT [PV.tup [PV.str (Str.ofString "told"),PV.tup [PV.int f.1,PV.int f.2]],PV.tup [PV.str (Str.ofString "refused")]] 0=some (hv (some f))from rfl]
    refine hz ?_
    simp only[decide_true,Bool.bne_true,Bool.not_true,Bool.false_eq_true,if_false]
    exact hK _ _ ⟨_,_,rfl,BX⟩
  ·rintro σ Cw ⟨y5,y7,rfl,h11⟩
   refine hN _ _ ?_
   walk_at "x"
   exact k Cw
def ku:e_ aQ:=nF
def jQ:cS aQ:=pH ku
def nQ:nG aV:=yC
def tq:nH bA:=nI jQ nQ
def nR:ko bT:=ya
def nS:jK bw:=yL yV
def nT:ig aX:=lI (nE nB lG)
def nU:ij bZ:=yM y0 jQ
def va:sZ dz:=zM jQ
def vd:td dB:=zN nQ nR
def pO:jO cv:=y1 nT
def nV:∀ns:List Int,ns.length<=63->i5 [.cl (ns.map PV.int)] (fun _=>none) (fun v _=>v = .bl true) fN:=fun ns h=>tm zk tq nR nS nT nU va nQ ku vd pO h fun _=>rfl
end G05
namespace L3
open PySem L2 Xc
def nW{P:List Value->Prop}(h:∀a,P [a])(us:Vv)(hl:us.length=1):P us:=match us,hl with|[_],_=>h _
def tM{P:List Value->Prop}(h:∀a b,P [a,b])(us:Vv)(hl:us.length=2):P us:=match us,hl with|[_,_],_=>h _ _
section
variable {K:Vo} {h:Heap} {mg:Vr} {x c m q:Str} {st:Stmt} {ps fl:Vs}
noncomputable def lJ:Option (Option Value)->Bool
 |some none=>true
 |_=>false
def ky{o:Option (Option Value)}(h:lJ o=true):o=some none:=by
 unfold lJ at h;split at h
 ·rfl
 ·cases h
def FnAt(K:Vo)(f:Addr)(m q:Str)(st:Stmt):Prop:=∃(oc kV doc pm cdv ct:Value) (od an:Option Addr) (osl:Array (Option Value)),
 K.lookup f=some ⟨oc,od,.func (PySem.W.fnOf m q (bB st) (aH st) (am st) .none kV doc pm an cdv ct),osl⟩/\PySem.W.codeIn K cdv q=true/\PySem.W.keepIn K (.ref f)=true
abbrev kz(m q:Str)(st:Stmt)(ps:Vs):Prop:=∀(kV doc pm:Value) (an:Option Addr) (cdv ct:Value) (us:Vv),us.length=ps.length->bindArgs (PySem.W.fnOf m q (bB st) (aH st) (am st) .none kV doc pm an cdv ct) ⟨us,[]⟩=pure (ps.zip us)
def FnAt.mk{f:Addr}(a:FnAt K f m q st)(hb:kz m q st ps):∃fd,Ae K m q st f fd/\Binds K fd ps []/\PySem.W.keepIn K (.ref f)=true:=by
 obtain⟨oc,kV,doc,pm,cdv,ct,od,an,osl,l,cc,k⟩:=a
 exact⟨_,gV l cc k,(gV l cc k).binds hb,k⟩
def y2(K:Vo)(x:Str)(st:Stmt):Prop:=∃f,PySem.W.nsIn K mainGlobals x=some (some (.ref f))/\FnAt K f x x st
def y2.own(X:K.In h)(G:h.Ns mainGlobals mg)(a:y2 K x st)(hb:kz x x st ps):cp K mg x st ps:=by
 obtain⟨f,n,a⟩:=a
 obtain⟨fd,F,b,k⟩:=a.mk hb
 exact⟨f,fd,F,b,k,PySem.W.mg_of X G n⟩
def y2.law{fa:Addr}(X:K.In h)(G:h.Ns mainGlobals mg)(a:y2 K x st)(hfa:mg x=some (.ref fa))(hb:kz x x st ps):∃kV doc pm an cdv ct,vB K mg x st ps fa (PySem.W.fnOf x x (bB st) (aH st) (am st) .none kV doc pm an cdv ct):=by
 obtain⟨f,n,oc,kV,doc,pm,cdv,ct,od,an,osl,l,cc,k⟩:=a
 cases hfa.symm.trans (PySem.W.mg_of X G n)
 exact⟨kV,doc,pm,an,cdv,ct,gV l cc k,(gV l cc k).binds hb,k,hfa⟩
def vg{z:Str}(X:K.In h)(G:h.Ns mainGlobals mg)(a:∃t,PySem.W.nsIn K mainGlobals x=some (some (.str z t))):∃t,mg x=some (.str z t):=let ⟨t,e⟩:=a;⟨t,PySem.W.mg_of X G e⟩
def AJ(K:Vo)(c q:Str)(st:Stmt)(fl:Vs):Prop:=∃C f,PySem.W.nsIn K mainGlobals c=some (some (.ref C))/\PySem.W.findIn K (.ref C) "__init__" = some (some (.ref f))/\PySem.W.isFn K (.ref f)=true/\FnAt K f "__init__" q st/\PySem.W.keepIn K (.ref C)=true/\
 PySem.W.findIn K (.ref C) "__setattr__" = some (some (.builtin "object.__setattr__"))/\PySem.W.findIn K (.ref C) "__getattribute__" = some (some (.builtin "BaseException.__getattribute__"))/\PySem.W.findIn K (.ref C) "__getattr__" = some none/\
 PySem.W.mroIn K C (.type "BaseException")=some true/\PySem.W.mroIn K C (.type "object")=some true/\PySem.W.findIn K (.ref C) "__class__" = some (some (.builtin "object.__class__"))/\
 PySem.W.specialIn K (.builtin "object.__class__") "__get__" = some (some (.builtin "getset_descriptor.__get__"))/\PySem.W.takesIn K (.builtin "object.__class__")=some true/\
 (eJ K C&&(PySem.W.kitOne K (.ref C) (.type "ValueError") == some true)&&fl.all fun f=>lJ (PySem.W.findIn K (.ref C) f))=true
def AJ.ek(a:AJ K c q st fl):∃C,xL K c C/\ExcK K C/\PySem.W.kitOne K (.ref C) (.type "ValueError")=some true/\∀f∈fl,NoAttr K C f:=by
 obtain⟨C,f,n,i1,i2,i3,i4,e1,e2,e3,e4,e5,e6,e7,e8,r⟩:=a
 simp only[Bool.and_eq_true,List.all_eq_true]at r
 obtain⟨⟨r1,r2⟩,r3⟩:=r
 exact⟨C,n,⟨r1,e1,e2,e3,e4,e5,e6,e7,e8⟩,eq_of_beq r2,fun f hf=>ky (r3 f hf)⟩
def AJ.xc(X:K.In h)(G:h.Ns mainGlobals mg)(a:AJ K c q st fl)(hb:kz "__init__" q st ps):wv K mg c q st ps fl:=by
 obtain⟨C',n',ek,_,na⟩:=a.ek
 obtain⟨C,f,n,i1,i2,i3,i4,_⟩:=a
 have e:=xL.inj (c:=c) n' n;subst e
 obtain⟨fd,F,b,kp⟩:=i3.mk hb
 exact⟨_,f,fd,F,b,n,PySem.W.mg_of X G n,ek,na,i1,i2,i4⟩
def i7(X:K.In h)(G:h.Ns mainGlobals mg)(a:∃C,PySem.W.nsIn K mainGlobals c=some (some (.ref C))):n_ K mg c:=let ⟨C,e⟩:=a;⟨C,PySem.W.mg_of X G e,e⟩
def BY(K:Vo)(D:Str)(cs:Vs):Prop:=∃C,PySem.W.nsIn K mainGlobals D=some (some (.ref C))/\PySem.W.typeIn K (.ref C)=some (.type "type")/\PySem.W.hasDictIn K C=true/\PySem.W.mroIn K C (.type "BaseException")=some true/\
 (cs.all fun c=>match PySem.W.nsIn K mainGlobals c with|some (some (.ref B))=>PySem.W.mroIn K B (.ref C) == some true|_=>false)=true
theorem kA{C:Addr}:∀{cs:Vs},(cs.all fun c=>match PySem.W.nsIn K mainGlobals c with|some (some (.ref B))=>PySem.W.mroIn K B (.ref C) == some true|_=>false)=true->zH K C cs
 |[],_=>trivial
 |d::cs,e=>by
  rw[List.all_cons,Bool.and_eq_true]at e
  obtain⟨e1,e2⟩:=e
  refine⟨?_,kA e2⟩
  split at e1
  ·rename_i B hB;exact⟨B,hB,eq_of_beq e1⟩
  ·cases e1
def BY.xe(X:K.In h)(G:h.Ns mainGlobals mg){cs:Vs}(a:BY K x cs):ww K mg x cs:=by
 obtain⟨C,n,t,d,b,r⟩:=a
 exact⟨C,PySem.W.mg_of X G n,⟨t,(by obtain⟨cd,hc,_⟩:=PySem.W.any_some d;rw[hc];rfl),b⟩,kA r⟩
def nX{l:List (Str×Str)}(r:∀p∈l,∃q st fl,AJ K p.1 q st fl/\p.2∈fl):yX K l:=by
 induction l with
 |nil=>trivial
 |cons p l ih=>
  obtain⟨q,st,fl,a,hf⟩:=r p (by simp)
  obtain⟨C,n,ek,_,na⟩:=a.ek
  exact⟨⟨C,n,ek,na _ hf⟩,ih fun p' hp=>r p' (by simp[hp])⟩
def pP(K:Vo)(l:List (Str×Str×Bool)):Prop:=(l.all fun t=>match PySem.W.nsIn K mainGlobals t.1,PySem.W.nsIn K mainGlobals t.2.1 with|some (some (.ref C)),some (some (.ref D))=>PySem.W.kitOne K (.ref C) (.ref D) == some t.2.2|_,_=>false)=true
def pQ{l:List (Str×Str×Bool)}(e:pP K l)(r:∀p∈l,∃q st fl,AJ K p.1 q st fl):XTab K l:=by
 induction l with
 |nil=>trivial
 |cons p l ih=>
  unfold pP at e
  rw[List.all_cons,Bool.and_eq_true]at e
  obtain⟨e1,e2⟩:=e
  obtain⟨c,d,b⟩:=p
  refine⟨?_,ih e2 fun p' hp=>r p' (by simp[hp])⟩
  obtain⟨q,st,fl,a⟩:=r (c,d,b) (by simp)
  obtain⟨C',n',ek,kv,_⟩:=a.ek
  split at e1
  ·rename_i C D h1 h2
   have e:=xL.inj (c:=c) n' h1;subst e
   exact⟨_,D,h1,h2,ek,eq_of_beq e1,kv⟩
  ·cases e1
def dZ(X:K.In h)(G:h.Ns mainGlobals mg){l:Vs}(a:(l.all fun x=>lJ (PySem.W.nsIn K mainGlobals x))=true)(hx:x∈l:=by decide):mg x=none:=PySem.W.mg_none_of X G (ky (List.all_eq_true.mp a x hx))
section
variable {f C:Addr} {oc kV doc pm cdv ct:Value} {od an:Option Addr} {osl:Array (Option Value)}
def xb(n:PySem.W.nsIn K mainGlobals x=some (some (.ref f)))(l:K.lookup f=some ⟨oc,od,.func (PySem.W.fnOf x x (bB st) (aH st) (am st) .none kV doc pm an cdv ct),osl⟩)(cc:PySem.W.codeIn K cdv x=true)(k:PySem.W.keepIn K (.ref f)=true):y2 K x st:=⟨f,n,oc,kV,doc,pm,cdv,ct,od,an,osl,l,cc,k⟩
def xg(n:PySem.W.nsIn K mainGlobals c=some (some (.ref C)))(e:PySem.W.findIn K (.ref C) "__init__" = some (some (.ref f)))(i:PySem.W.isFn K (.ref f)=true)(l:K.lookup f=some ⟨oc,od,.func (PySem.W.fnOf "__init__" q (bB st) (aH st) (am st) .none kV doc pm an cdv ct),osl⟩)(cc:PySem.W.codeIn K cdv q=true)(k:PySem.W.keepIn K (.ref f)=true)(kc:PySem.W.keepIn K (.ref C)=true)
  (e1:PySem.W.findIn K (.ref C) "__setattr__" = some (some (.builtin "object.__setattr__"))) (e2:PySem.W.findIn K (.ref C) "__getattribute__" = some (some (.builtin "BaseException.__getattribute__"))) (e3:PySem.W.findIn K (.ref C) "__getattr__" = some none)
  (e4:PySem.W.mroIn K C (.type "BaseException")=some true) (e5:PySem.W.mroIn K C (.type "object")=some true) (e6:PySem.W.findIn K (.ref C) "__class__" = some (some (.builtin "object.__class__")))
  (e7:PySem.W.specialIn K (.builtin "object.__class__") "__get__" = some (some (.builtin "getset_descriptor.__get__"))) (e8:PySem.W.takesIn K (.builtin "object.__class__")=some true)
  (r:(eJ K C&&(PySem.W.kitOne K (.ref C) (.type "ValueError") == some true)&&fl.all fun f=>lJ (PySem.W.findIn K (.ref C) f))=true):AJ K c q st fl:=⟨C,f,n,e,i,⟨oc,kV,doc,pm,cdv,ct,od,an,osl,l,cc,k⟩,kc,e1,e2,e3,e4,e5,e6,e7,e8,r⟩
def xh{cs:Vs}(n:PySem.W.nsIn K mainGlobals x=some (some (.ref C)))(t:PySem.W.typeIn K (.ref C)=some (.type "type"))(d:PySem.W.hasDictIn K C=true)(b:PySem.W.mroIn K C (.type "BaseException")=some true)
  (r:(cs.all fun c=>match PySem.W.nsIn K mainGlobals c with|some (some (.ref B))=>PySem.W.mroIn K B (.ref C) == some true|_=>false)=true):BY K x cs:=⟨C,n,t,d,b,r⟩
def qw(n:PySem.W.nsIn K mainGlobals x=some (some (.ref C))):∃C,PySem.W.nsIn K mainGlobals x=some (some (.ref C)):=⟨C,n⟩
def sk{z:Str}{t:Tok}(n:PySem.W.nsIn K mainGlobals x=some (some (.str z t))):∃t,PySem.W.nsIn K mainGlobals x=some (some (.str z t)):=⟨t,n⟩
end
end
end L3
namespace G05
open PySem L2 L3
def tt{l:PySem.W.OpenLaw}{w:World}{K:Vo}{h:Heap}{mg:Vr}{fa:Addr}(X:K.In h)(G:h.Ns mainGlobals mg)(hfa:mg "law" = some (.ref fa))
  (yD:y2 K "common" (cU 11))
  (xH:y2 K "show_figures" (cU 12))
  (xI:y2 K "read_figures" (cU 13))
  (xC:y2 K "show_fraction" (cU 14))
  (xw:y2 K "read_from_nought_on" (cU 15))
  (xD:y2 K "read_fraction" (cU 16))
  (xV:y2 K "_law_deal" (cU 18))
  (xW:y2 K "_law_draw" (cU 19))
  (xN:y2 K "_law_lowest" (cU 20))
  (xR:y2 K "_law_signs" (cU 21))
  (xE:y2 K "_law_fraction" (cU 22))
  (xX:y2 K "_law_text" (cU 23))
  (xO:y2 K "_law_spoilt" (cU 24))
  (yc:y2 K "_law_odd" (cU 25))
  (yd:y2 K "_law_due" (cU 26))
  (xS:y2 K "_law_heard" (cU 27))
  (yq:∃t,PySem.W.nsIn K mainGlobals "FIGURES" = some (some (.str "0123456789" t)))
  (ye:∃C,PySem.W.nsIn K mainGlobals "DueError" = some (some (.ref C)))
  (yr:∃C,PySem.W.nsIn K mainGlobals "BadText" = some (some (.ref C)))
  (yt:∃C,PySem.W.nsIn K mainGlobals "NoHouse" = some (some (.ref C)))
  (yN:∃C,PySem.W.nsIn K mainGlobals "Stuck" = some (some (.ref C)))
  (yu:∃C,PySem.W.nsIn K mainGlobals "TooLong" = some (some (.ref C)))
  (yv:∃C,PySem.W.nsIn K mainGlobals "NoStory" = some (some (.ref C)))
  (yw:∃C,PySem.W.nsIn K mainGlobals "TooMany" = some (some (.ref C)))
  (yO:∃C,PySem.W.nsIn K mainGlobals "NoRow" = some (some (.ref C)))
  (xp:AJ K "BadText" "BadText.__init__" (mt 2 0) ["row"])
  (yf:BY K "DueError" ["BadText"])
  (An:pP K zx)
  (zD:((["ValueError","abs","all","bool","enumerate","int","isinstance","len","list","max","range","repr","reversed","str"]:Vs).all fun x=>lJ (PySem.W.nsIn K mainGlobals x))=true)
  (Ao:y2 K "law" (cU 28))
  : ∃fd:FuncData,(∀(s:Shared) (v:Value),BindsTo s fd ⟨[v],[]⟩ [("_law_script",v)])/\∀base:Heap,K.In base->base.Ns mainGlobals mg->cG l.prog w K mg base j2 7 fa fd ["_law_script"] (uQ K 1 i5):=by
 obtain⟨kV,doc,pm,an,cdv,ct,O⟩:=Ao.law X G hfa (ps:=["_law_script"]) (fun _ _ _ _ _ _=>nW fun _=>rfl)
 exact⟨_,fun s v=>.of_eq rfl,fun base _ _=>(sW (P:=l.prog) (w:=w) (base:=base) ⟨yD.own X G (fun _ _ _ _ _ _=>tM fun _ _=>rfl),
  xH.own X G (fun _ _ _ _ _ _=>nW fun _=>rfl),
  xI.own X G (fun _ _ _ _ _ _=>nW fun _=>rfl),
  xC.own X G (fun _ _ _ _ _ _=>nW fun _=>rfl),
  xw.own X G (fun _ _ _ _ _ _=>nW fun _=>rfl),
  xD.own X G (fun _ _ _ _ _ _=>nW fun _=>rfl),
  xV.own X G (fun _ _ _ _ _ _=>tM fun _ _=>rfl),
  xW.own X G (fun _ _ _ _ _ _=>tM fun _ _=>rfl),
  xN.own X G (fun _ _ _ _ _ _=>tM fun _ _=>rfl),
  xR.own X G (fun _ _ _ _ _ _ us hl=>match us,hl with|[],_=>rfl),
  xE.own X G (fun _ _ _ _ _ _=>nW fun _=>rfl),
  xX.own X G (fun _ _ _ _ _ _=>nW fun _=>rfl),
  xO.own X G (fun _ _ _ _ _ _=>tM fun _ _=>rfl),
  yc.own X G (fun _ _ _ _ _ _=>nW fun _=>rfl),
  yd.own X G (fun _ _ _ _ _ _=>nW fun _=>rfl),
  xS.own X G (fun _ _ _ _ _ _=>nW fun _=>rfl),
  dZ (x:="ValueError") X G zD,
  dZ (x:="abs") X G zD,
  dZ (x:="all") X G zD,
  dZ (x:="bool") X G zD,
  dZ (x:="enumerate") X G zD,
  dZ (x:="int") X G zD,
  dZ (x:="isinstance") X G zD,
  dZ (x:="len") X G zD,
  dZ (x:="list") X G zD,
  dZ (x:="max") X G zD,
  dZ (x:="range") X G zD,
  dZ (x:="repr") X G zD,
  dZ (x:="reversed") X G zD,
  dZ (x:="str") X G zD,
  vg X G yq,
  i7 X G ye,
  i7 X G yr,
  i7 X G yt,
  i7 X G yN,
  i7 X G yu,
  i7 X G yv,
  i7 X G yw,
  i7 X G yO,
  xp.xc X G (fun _ _ _ _ _ _=>tM fun _ _=>rfl),
  yf.xe X G,
  nX (by intro p hp;simp only[BW,List.mem_cons,List.not_mem_nil,or_false]at hp;rcases hp with rfl;exact⟨_,_,_,xp,by decide⟩),
  pQ An (by intro p hp;simp only[zx,List.mem_cons,List.not_mem_nil,or_false]at hp;rcases hp with rfl|rfl|rfl|rfl|rfl|rfl|rfl;exact⟨_,_,_,xp⟩;exact⟨_,_,_,xp⟩;exact⟨_,_,_,xp⟩;exact⟨_,_,_,xp⟩;exact⟨_,_,_,xp⟩;exact⟨_,_,_,xp⟩;exact⟨_,_,_,xp⟩)⟩ O).ok⟩
def wA{l:PySem.W.OpenLaw}{q:Program}{loose:Vs}{XP:(Vr)->Heap->Prop}{YP:World->Heap->Prop}{d:DefRec}{K:Params->PySem.W.Frag}(hn:l.most=some 63)(hdf:d.params.defaults=[])
  (hY:∀(w:World) (h:Heap),YP w h->(K w.params).In h)
  (F:∀(w:World) (mg:Vr) (fa:Addr) (h:Heap),(K w.params).In h->h.Ns mainGlobals mg->mg d.name=some (.ref fa)->
   ∃fd:FuncData,(∀(s:Shared) (u:Value),BindsTo s fd ⟨[u],[]⟩ [("_law_script",u)])/\∀base:Heap,(K w.params).In base->base.Ns mainGlobals mg->cG l.prog w (K w.params) mg base j2 7 fa fd ["_law_script"] (uQ (K w.params) 1 i5)) :
  PySem.W.WalkO q loose XP YP l.row.toRowW d [] (fun f vs=>PySem.call f vs):=
 L2.oQ (n:=63) (k:=7) (x:="_law_script") (CX:=fun _=>j2) (sp:=fun w=>uQ (K w.params) 1 i5) hn (by decide) hdf ⟨rfl,by decide,by decide,rfl⟩ hY F (fun _ _ a ns hl hO hS=>wk hO hS (nV ns hl)) fun _ _ _ _ _ z=>z
end G05
local macro_rules | `(tactic| walk_at "k")=>`(tactic| (apply L3.xb; k_is; k_is; k_is; k_is))
local macro_rules | `(tactic| walk_at "e")=>`(tactic| (apply L3.xg; k_is; k_is; k_is; k_is; k_is; k_is; k_is; k_is; k_is; k_is; k_is; k_is; k_is; k_is; k_is; kernel_rfl))
local macro_rules | `(tactic| walk_at "t")=>`(tactic| (apply L3.xh; k_is; k_is; k_is; k_is; kernel_rfl))
open PySem PySem.W PyProof.Rows
set_option maxRecDepth 100000 in
set_option maxHeartbeats 0 in
theorem PySem.Challenge.cw_dueworth_k05_texts_of_fractions_holds : PySem.Challenge.rw_dueworth_k05_texts_of_fractions.Holds := by
 w_on; refine holds_law E05.said fun said => ?_
 refine holds_open (q := E05.vw) (loose := []) (Xt := fun s => (xlAt E05.vw [] s && recOk (RowW.records E05.rr) s)) (XP := XL E05.vw []) (N := 4852)
  (Yf := Hook.obs E05.hk) (Ya := Hook.val E05.hk) (YP := Hook.says (kHook E05.early.heap_1 E05.as E05.wB)) E05.left (Hook.of E05.hk) (Hook.keeps E05.hk) (fun s e => xl_of s (Bool.and_eq_true_iff.mp e).1)
  XL.keeps rfl rfl rfl (fun s e => recFacts_of (Bool.and_eq_true_iff.mp e).2) rfl (by assumption)
  (by decide +kernel) ⟨rfl, rfl, rfl, rfl, rfl, by decide +kernel⟩ ?hw ?hc
 (case hw => w_witness2)
 k_fill
 refine G05.wA (l := PySem.Challenge.rw_dueworth_k05_texts_of_fractions) rfl rfl (fun w h Y => PySem.W.kIn_of Y) ?F
 case F =>
  intro w mg fa h KX G hmg
  refine' G05.tt KX G hmg ?yD ?xH ?xI ?xC ?xw ?xD ?xV ?xW ?xN ?xR ?xE ?xX ?xO ?yc ?yd ?xS ?yq ?ye ?yr ?yt ?yN ?yu ?yv ?yw ?yO ?xp ?yf ?An ?zD ?Ao
  (case yD => walk_at "k")
  (case xH => walk_at "k")
  (case xI => walk_at "k")
  (case xC => walk_at "k")
  (case xw => walk_at "k")
  (case xD => walk_at "k")
  (case xV => walk_at "k")
  (case xW => walk_at "k")
  (case xN => walk_at "k")
  (case xR => walk_at "k")
  (case xE => walk_at "k")
  (case xX => walk_at "k")
  (case xO => walk_at "k")
  (case yc => walk_at "k")
  (case yd => walk_at "k")
  (case xS => walk_at "k")
  (case yq => apply L3.sk; k_is)
  (case ye => apply L3.qw; k_is)
  (case yr => apply L3.qw; k_is)
  (case yt => apply L3.qw; k_is)
  (case yN => apply L3.qw; k_is)
  (case yu => apply L3.qw; k_is)
  (case yv => apply L3.qw; k_is)
  (case yw => apply L3.qw; k_is)
  (case yO => apply L3.qw; k_is)
  (case xp => walk_at "e")
  (case yf => walk_at "t")
  (case An => unfold L3.pP; kernel_rfl)
  (case zD => kernel_rfl)
  (case Ao => walk_at "k")
#print axioms PySem.Challenge.cw_dueworth_k05_texts_of_fractions_holds
