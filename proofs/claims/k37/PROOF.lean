import PyProof.Rows.All
import Wide.All
import OpenK.AllK
import Wide.FinOn
import Lean
import PyProof.EqAt
import PyProof.EqKinds
import PyProof.TupleCall
import PySem.Challenge.RW_dueworth_k37_whole_the_same_weighed
import Open.Tree
import Open.Head
section
set_option Elab.async false
set_option linter.all false
set_option maxRecDepth 100000
set_option maxHeartbeats 0
namespace ET
open PySem PySem.W PyProof.Rows
def gM(tb:String→Option Builtin)(p:Program)(w:World)(n₀:Nat)(ann:Option Value):Nat→SharedT→Thread→Option SharedT
 |0,_,_=>none
 |n+1,s,t=>match through t with
  |true=>some s
  |false=>match stepOk n₀ ann t with
   |false=>none
   |true=>match stepT (denote tb) p w s t with
    |some x=>gM tb p w n₀ ann n x.1 x.2
    |none=>none
theorem j7{tb:String→Option Builtin}{p:Program}{w:World}{n₀:Nat}{ann:Option Value}:∀{n:Nat} {s s':SharedT} {t:Thread},gM tb p w n₀ ann n s t=some s'→topRun tb p w n₀ ann n s.abs t=some s'.abs
 |0,_,_,_,h=>by cases h
 |n+1,s,s',t,h=>by
  unfold gM at h
  unfold topRun
  cases he:through t with
  |true=>rw[he]at h;cases h;rfl
  |false=>
   rw[he]at h
   cases hk:stepOk n₀ ann t with
   |false=>rw[hk]at h;cases h
   |true=>
    rw[hk]at h
    cases hs:stepT (denote tb) p w s t with
    |none=>rw[hs]at h;cases h
    |some r=>rw[hs]at h;rw[stepT_spec hs];exact j7 h
def Aa:List Obj→BT→Nat→Option (BT×Nat)
 |[],t,n=>some (t,n)
 |o::os,t,n=>match ((t.ins n o).get n).isSome with
  |true=>Aa os (t.ins n o) (n+1)
  |false=>none
theorem oA{life:Life}:∀{os:List Obj} {t t':BT} {n n':Nat},Aa os t n=some (t',n')→absHeap t' n' life=⟨(absHeap t n life).objs++os.toArray,life⟩
 |[],t,t',n,n',h=>by cases h;simp[absHeap]
 |o::os,t,t',n,n',h=>by
  unfold Aa at h
  cases g:((t.ins n o).get n).isSome with
  |false=>rw[g]at h;cases h
  |true=>
   rw[g]at h
   rw[oA h,absHeap_ins g]
   simp[Heap.push]
def gN(tb:String→Option Builtin)(p:Program)(w:World)(N:Nat)(s₀:Shared):Option Shared:=
 match s₀.heap.isNs mainGlobals&&s₀.gens.size == 0 with
 |true=>match Aa s₀.heap.objs.toList .nil 0 with
  |some x=>match gM tb p w x.2 (s₀.heap.nsMap mainGlobals "__annotations__") N ⟨x.1,x.2,s₀.heap.life,s₀.gens,s₀.drawn,s₀.toks,s₀.os⟩ (topStub p)with
   |some s=>match staticsOk (importedModules p.main.body) s₀.heap s.abs.heap&&namesBound p s.abs.heap&&gensDone s.abs&&laidKept s₀.heap s.abs.heap with
    |true=>some s.abs
    |false=>none
   |none=>none
  |none=>none
 |false=>none
theorem mR{tb:String→Option Builtin}{p:Program}{w:World}{N:Nat}{s₀ s:Shared}(h:gN tb p w N s₀=some s):topFrom tb p w N s₀=some s:=by
 unfold gN at h
 unfold topFrom
 cases h1:s₀.heap.isNs mainGlobals&&s₀.gens.size == 0 with
 |false=>rw[h1]at h;cases h
 |true=>
  rw[h1]at h
  dsimp only at h ⊢
  cases h2:Aa s₀.heap.objs.toList .nil 0 with
  |none=>rw[h2]at h;cases h
  |some x=>
   rw[h2]at h
   dsimp only at h
   have e:=oA (life:=s₀.heap.life) h2
   have e':absHeap x.1 x.2 s₀.heap.life=s₀.heap:=by
    rw[e]
    simp[absHeap,BT.list]
   have n':x.2=s₀.heap.objs.size:=by rw[←e',absHeap_size]
   cases h3:gM tb p w x.2 (s₀.heap.nsMap mainGlobals "__annotations__") N ⟨x.1,x.2,s₀.heap.life,s₀.gens,s₀.drawn,s₀.toks,s₀.os⟩ (topStub p)with
   |none=>rw[h3]at h;cases h
   |some r=>
    rw[h3]at h
    dsimp only at h
    have ea:SharedT.abs ⟨x.1,x.2,s₀.heap.life,s₀.gens,s₀.drawn,s₀.toks,s₀.os⟩=s₀:=by
     unfold SharedT.abs
     rw[e']
    have:=j7 h3
    rw[ea,n']at this
    rw[this]
    exact h
theorem mS{tb:String→Option Builtin}{p:Program}{w:World}{N:Nat}{s₀:Shared}{α:Type}{f:Shared→α}{a:α}(h:Option.map f (gN tb p w N s₀)=some a):Option.map f (topFrom tb p w N s₀)=some a:=by
 obtain⟨s,h1,h2⟩:=Option.map_eq_some_iff.mp h
 rw[mR h1]
 exact congrArg some h2
def seenT(p q:Program)(loose:List Str)(Xt:Shared→Bool){α:Type}(Yf:Shared→α)(N:Nat)(u u':World):=
 Option.map (fun c=>Option.map (fun s=>(openSeen q loose (importedModules p.main.body) Xt true s,Yf s)) (gN treeTable p u' N c)) (fencedOpening treeTable p u N)
lay_quick seenT
theorem uQ{p q:Program}{loose:List Str}{Xt:Shared→Bool}{α:Type}{Yf:Shared→α}{N:Nat}{u u':World}{r}(h:PySem.W.Fast.tw2787559817927863336 p q loose Xt Yf N u u'=r):seenT p q loose Xt Yf N u u'=r:=by
 rw[PySem.W.Fast.te2787559817927863336]
 exact h
theorem uR{p q:Program}{loose:List Str}{Xt:Shared→Bool}{α:Type}{Yf:Shared→α}{Ya:World→α}{N:Nat}
  (h:∀u:World,seenT p q loose Xt Yf N u u=some (some (openGood q loose,Ya u))):LeftO p q loose Xt Yf Ya N:=fun u=>by
 obtain⟨c,a,b⟩:=Option.map_eq_some_iff.mp (h u)
 unfold openEnds
 rw[a]
 exact mS b
theorem Ab{p q:Program}{loose:List Str}{Xt:Shared→Bool}{α:Type}{Yf:Shared→α}{Ya:World→α}{N:Nat}(row:String)
  (h0:∀u:World,seenT p q loose Xt Yf N u (u.withFollow row false)=some (some (openGood q loose,Ya (u.withFollow row false))))
  (h1:∀u:World,seenT p q loose Xt Yf N u (u.withFollow row true)=some (some (openGood q loose,Ya (u.withFollow row true)))):LeftO p q loose Xt Yf Ya N:=fun u=>by
 obtain⟨c,a,b⟩:=Option.map_eq_some_iff.mp (h0 u)
 obtain⟨c',a',b'⟩:=Option.map_eq_some_iff.mp (h1 u)
 have hc:c'=c:=by rw[a]at a';cases a';rfl
 subst hc
 have b:=mS b
 have b':=mS b'
 have hu:=World.withFollow_self u row
 unfold openEnds
 rw[a]
 cases hb:u.params.followText row<;>rw[hb]at hu
 ·rw[hu]at b
  exact b
 ·rw[hu]at b'
  exact b'
end ET
namespace E37
open PySem PySem.W PyProof.Rows
abbrev tp(i:Nat):Stmt:=PySem.Challenge.pw_dueworth_k37_whole_the_same_weighed.main.body.getD i (.Pass ⟨0,0,0,0⟩)
/-- the text without what says nothing -/
def vw:Program:={ PySem.Challenge.pw_dueworth_k37_whole_the_same_weighed with main:={ PySem.Challenge.pw_dueworth_k37_whole_the_same_weighed.main with body:=[tp 1,tp 2,tp 3,tp 4,tp 5,tp 6,tp 7,tp 8,tp 10,tp 11,tp 12,tp 13,tp 14,tp 15,tp 16,tp 17,tp 18,tp 19,tp 20,tp 22,tp 23,tp 24,tp 25,tp 26,tp 27,tp 28,tp 29,tp 30,tp 31,tp 32,tp 33,tp 34,tp 35,tp 36,tp 37] } }
abbrev rr:RowW:=OpenRow.toRowW (OpenLaw.row PySem.Challenge.rw_dueworth_k37_whole_the_same_weighed)
local macro_rules | `(tactic| o_head $H)=>`(tactic|
 refine holds_open (q:=vw) (loose:=[]) (Xt:=fun s=>(xlAt vw [] s&&recOk (RowW.records rr) s)) (XP:=XL vw []) (N:=2936)
  (Yf:=Hook.obs $H) (Ya:=Hook.val $H) (YP:=Hook.says $H) ?hl (Hook.of $H) (Hook.keeps $H) (fun s e=>xl_of s (Bool.and_eq_true_iff.mp e).1)
  XL.keeps rfl rfl rfl (fun s e=>recFacts_of (Bool.and_eq_true_iff.mp e).2) rfl (by assumption)
  (by decide +kernel) ⟨rfl,rfl,rfl,rfl,rfl,by decide +kernel⟩ ?hw ?hc)
/-- the law is well said: by the quick twin of the look,with no twin of the program -/
theorem said:OpenLaw.wellSaid PySem.Challenge.rw_dueworth_k37_whole_the_same_weighed=true:=(congrFun PySem.W.Fast.te9446332074065402090 _).trans (by kernel_rfl)
/-- says nothing; what lies in the heap is written down by the way -/
theorem early(h:∀P:Prop,P):PySem.Challenge.rw_dueworth_k37_whole_the_same_weighed.Holds:=by
 w_on;refine holds_law said fun said=>?_;k_head
 all_goals exact h _
abbrev as:List Addr:=[2,3,15,17,18,20,21,22,24,25,27,28,29,31,32,34,35,36,38,39,41,42,43,45,46,48,49,50,52,53,55,56,57,59,60,62,63,64,67,68,69,71,72,74,75,76,79,80,81,84,85,86,89,90,98,100,101,103,104,105,108,109,110,112,113,115,116,117,119,120,122,123,124,126,127,129,130,131,133,134,136,137,138,139,140,141,142,145,148,149,150,153,154,155,158,159,160,162,163,165,166,167,170,171,172,174,175,177,178,179,182,183,184,186,187,189,190,191,193,194,196,197,198,200,201,203,204,205,207,208,210,211,212,215,216,217,219,220,222,223,224,227,228,229,231,232,234,235,236,238,239,241,242,243,246,247,248,251,252,253,256,257,258,260,261,263,264,265,267,268,270,271,272,275,276]
theorem Dl(P:Params):as=(early.heap_1 P).map (·.1):=by kernel_rfl
noncomputable abbrev hk:Hook:=kHook early.heap_1 as Dl
theorem Ac(u:World):ET.seenT (OpenLaw.row PySem.Challenge.rw_dueworth_k37_whole_the_same_weighed).prog vw [] (fun s=>(xlAt vw [] s&&recOk (RowW.records rr) s)) (Hook.obs hk) 2936 u u=some (some (openGood vw [],Hook.val hk u)):=ET.uQ (by kernel_rfl)
theorem left:LeftO (OpenLaw.row PySem.Challenge.rw_dueworth_k37_whole_the_same_weighed).prog vw [] (fun s=>(xlAt vw [] s&&recOk (RowW.records rr) s)) (Hook.obs hk) (Hook.val hk) 2936:=ET.uR Ac
end E37
end
open PySem in
abbrev Vq:=Value->Shared->Prop
open PySem in
abbrev Va:=List (Addr×Obj)
open PySem in
abbrev Vo:=PySem.W.Frag
open PySem in
abbrev Vr:=Str->Option Value
open PySem in
abbrev Vs:=List Str
open PySem in
abbrev Vu:=List Int
open PySem in
abbrev Vv:=List Value
open PySem in
abbrev Vw:=Array Value
set_option Elab.async false
set_option linter.all false
set_option maxRecDepth 100000
namespace L2
open PySem PySem.Spec PyProof.Rows
abbrev bZ:=Sum Int Str
noncomputable def j8:bZ->Value->Bool
 | .inl k,v=>Value.isInt k v
 | .inr x,v=>Value.isStrOf x v
noncomputable def B_(w:World):bZ->Int
 | .inl k=>hashInt k
 | .inr x=>hashStr w x
theorem bh:∀{k:bZ} {v:Value},j8 k v=true->(∃i t,k=Sum.inl i/\v=Value.int i t)\/(∃x t,k=Sum.inr x/\v=Value.str x t)
 | .inl i,v,h=>by
  obtain⟨t,e⟩:=Value.isInt_shape (k:=i) (v:=v) h
  exact .inl ⟨i,t,rfl,e⟩
 | .inr x,v,h=>by
  obtain⟨t,e⟩:=Value.isStrOf_shape (x:=x) (v:=v) h
  exact .inr ⟨x,t,rfl,e⟩
def pY(i:Int)(t:Tok):j8 (.inl i) (.int i t)=true:=by simp[j8,Value.isInt]
def pZ(x:Str)(t:Tok):j8 (.inr x) (.str x t)=true:=by simp[j8,Value.isStrOf]
def xz(a b:Int):decide ((Sum.inl a:bZ)=Sum.inl b)=(a == b):=by
 by_cases e:a=b
 ·subst e;simp
 ·have h:¬(Sum.inl a:bZ)=Sum.inl b:=fun q=>e (Sum.inl.inj q)
  rw[decide_eq_false h]
  exact(beq_eq_false_iff_ne.mpr e).symm
def xA(a b:Str):decide ((Sum.inr a:bZ)=Sum.inr b)=decide (a=b):=by
 by_cases e:a=b
 ·subst e;simp
 ·have h:¬(Sum.inr a:bZ)=Sum.inr b:=fun q=>e (Sum.inr.inj q)
  rw[decide_eq_false h,decide_eq_false e]
def xB(a:Int)(b:Str):decide ((Sum.inl a:bZ)=Sum.inr b)=false:=decide_eq_false (fun q=>nomatch q)
def xC(a:Str)(b:Int):decide ((Sum.inr a:bZ)=Sum.inl b)=false:=decide_eq_false (fun q=>nomatch q)
noncomputable def bz(prog:Program)(w:World):PySem.KeyKind prog w bZ where
 is:=j8
 hash:=B_ w
 inj:=fun v a b ha hb=>by
  rcases bh ha with⟨i,t,rfl,rfl⟩|⟨x,t,rfl,rfl⟩
  ·rcases bh hb with⟨j,u,rfl,e⟩|⟨y,u,rfl,e⟩
   ·injection e with e1 _;rw[e1]
   ·exact nomatch e
  ·rcases bh hb with⟨j,u,rfl,e⟩|⟨y,u,rfl,e⟩
   ·exact nomatch e
   ·injection e with e1 _;rw[e1]
 byValue:=fun k v h=>by
  rcases bh h with⟨i,t,rfl,rfl⟩|⟨x,t,rfl,rfl⟩<;>rfl
 pyHash:=fun hv h=>by
  rcases bh hv with⟨i,t,rfl,rfl⟩|⟨x,t,rfl,rfl⟩
  ·exact wpAny_pyHash_int h
  ·exact wpAny_pyHash_str h
 eqBool:=fun hu hv h=>by
  rcases bh hu with⟨i,t,rfl,rfl⟩|⟨x,t,rfl,rfl⟩
  ·rcases bh hv with⟨j,u,rfl,rfl⟩|⟨y,u,rfl,rfl⟩
   ·rw[xz]at h;exact wpAny_eqBool_int h
   ·rw[xB]at h;exact SeqAt.EqAt.int_str i t y u _ _ _ _ h
  ·rcases bh hv with⟨j,u,rfl,rfl⟩|⟨y,u,rfl,rfl⟩
   ·rw[xC]at h;exact SeqAt.EqAt.str_int x t j u _ _ _ _ h
   ·rw[xA]at h;exact wpAny_eqBool_str h
 «strs»:=fun k x t v h=>by
  rcases bh h with⟨i,u,rfl,e⟩|⟨y,u,rfl,e⟩
  ·exact nomatch e
  ·injection e with e1 _
   subst e1
   cases v<;>rfl
def lO(prog:Program)(w:World)(i:Int)(t:Tok):(bz prog w).is (.inl i) (.int i t)=true:=pY i t
def lP(prog:Program)(w:World)(x:Str)(t:Tok):(bz prog w).is (.inr x) (.str x t)=true:=pZ x t
inductive V where
 |non|bl (b:Bool)|int (i:Int)|str (x:Str)|Hs (b:Array UInt8)|JL (b:UInt64)|ref (a:Addr)|ty (n:String)
 deriving DecidableEq
noncomputable def RelV:V->Value->Prop
 | .non,u=>u=Value.none
 | .bl b,u=>u=Value.bool b
 | .int i,u=>∃t,u=Value.int i t
 | .str x,u=>∃t,u=Value.str x t
 | .Hs b,u=>∃t,u=Value.bytes b t
 | .JL b,u=>∃t,u=Value.float b t
 | .ref a,u=>u=Value.ref a
 | .ty n,u=>u=Value.type n
noncomputable abbrev Vals:List V->List Value->Prop:=Paired RelV
theorem Vals.length{xs:List V}{us:Vv}(r:Vals xs us):xs.length=us.length:=Paired.length r
theorem Vals.get:∀{xs:List V} {us:Vv} {i:Nat} {x:V},Vals xs us->xs[i]?=some x->∃u,us[i]?=some u/\RelV x u
 |_,_,_,_,.nil,e=>by simp at e
 |_,_,0,_,.cons r _,e=>by simp at e;subst e;exact⟨_,rfl,r⟩
 |_,_,i+1,x,.cons _ t,e=>by
  obtain⟨u,h1,h2⟩:=Vals.get (i:=i) (x:=x) t (by simpa using e)
  exact⟨u,by simpa using h1,h2⟩
theorem Vals.set{x:V}{u:Value}(r:RelV x u):∀{xs:List V} {us:Vv} (i:Nat),Vals xs us->Vals (xs.set i x) (us.set i u)
 |_,_,_,.nil=>.nil
 |_,_,0,.cons _ t=>.cons r t
 |_,_,i+1,.cons q t=>.cons q (Vals.set r i t)
theorem Vals.append:∀{xs ys:List V} {us ws:Vv},Vals xs us->Vals ys ws->Vals (xs++ys) (us++ws)
 |_,_,_,_,.nil,s=>s
 |_,_,_,_,.cons r t,s=>.cons r (Vals.append t s)
theorem Vals.take:∀{xs:List V} {us:Vv} (n:Nat),Vals xs us->Vals (xs.take n) (us.take n)
 |_,_,0,_=>.nil
 |_,_,_+1,.nil=>.nil
 |_,_,n+1,.cons r t=>.cons r (Vals.take n t)
theorem Vals.drop:∀{xs:List V} {us:Vv} (n:Nat),Vals xs us->Vals (xs.drop n) (us.drop n)
 |_,_,0,r=>r
 |_,_,_+1,.nil=>.nil
 |_,_,n+1,.cons _ t=>Vals.drop n t
noncomputable def Ft:Option V->Option Value->Prop
 |some v,some u=>RelV v u
 |none,none=>True
 |_,_=>False
noncomputable def KV{κ:Type}:List (κ×V)->List (κ×Value)->Prop:=Paired fun(p:κ×V) (q:κ×Value)=>p.1=q.1/\RelV p.2 q.2
noncomputable def kV:bZ->V
 | .inl i=>.int i
 | .inr x=>.str x
inductive HO where
 /-- a list -/
 |lst (xs:List V)
 /-- a tuple (never changes) -/
 |tup (xs:List V)
 /-- a dict whose keys are ints and texts; one whose keys are tuples of ints and texts (the empty one is both) -/
 |dK (kvs:List (bZ×V))|dT (kvs:List (List bZ×V))
 /-- a set of ints: its members,its size -/
 |set (S:Int->Bool) (n:Nat)
 /-- an instance of the class at C,its dict at dx,its attributes -/
 |ins (C dx:Addr) (fs:List (Str×V))
 /-- the dict of the instance at x -/
 |own (x:Addr)
 /-- the dict of an exception -/
 |xd (fs:List (Str×V))
 /-- a bound method,f of x -/
 |met (f x:Addr)
 /-- a range object lo,lo + 1,.. below hi -/
 |J_ (lo hi:Int)
 /-- a thing that is known to the object (the script; a dict while a loop walks it): read,never written while it is so -/
 |frz (o:Obj) (u:HO)
 /-- a code object's table -/
 |Iy (ps:Vw)
 /-- any other thing,by what is true of its one object (a def of K1 own: LV a S n:=HO.ext fun h=>..) -/
 |ext (φ:Heap->Prop)
abbrev Hp:=Addr->Option HO
noncomputable def upd(H:Hp)(a:Addr)(o:HO):Hp:=fun b=>if b=a then some o else H b
def ay{H:Hp}{a:Addr}{o:HO}:upd H a o a=some o:=by unfold upd;rw[if_pos rfl]
def aA{H:Hp}{a b:Addr}{o:HO}(h:b≠a):upd H a o b=H b:=by unfold upd;rw[if_neg h]
def Ad{H:Hp}{a b:Addr}{o u:HO}(h:H a=some o)(h':H b=some u)(d:o≠u):a≠b:=by
 intro e;subst e;rw[h]at h';exact d (Option.some.inj h')
def a9{H:Hp}{a b:Addr}{o:HO}(h:H a=some o)(h':H b=none):a≠b:=by
 intro e;subst e;rw[h]at h';cases h'
def ES(h:Heap)(a:Addr)(its:Vw):Prop:=∃o,h.get? a=some o/\o.dict=none/\o.cls = .type "tuple"/\∃n,o.data = .seq its n
def ES.tup{h:Heap}{a:Addr}{its:Vw}(x:ES h a its):IsTup h a its:=let ⟨o,e,_,c,d⟩:=x;⟨o,e,c,d⟩
def ES.new(h:Heap)(its:Vw):ES (h.push { cls:=.type "tuple",data:=.seq its }) h.objs.size its:=⟨_,Heap.get?_push_size _ rfl,rfl,rfl,_,rfl⟩
section
variable (P:Program) (w:World)
noncomputable def ED(H:Hp)(h:Heap)(a:Addr):HO->Prop
 | .lst xs=>xs.length<=sizeLine/\∃(its:Vv) (n:Nat),Vals xs its/\h.get? a=some { cls:=.type "list",data:=.seq its.toArray n }
 | .tup xs=>xs.length<=sizeLine/\∃its:List Value,Vals xs its/\ES h a its.toArray
 | .dK kvs=>kvs.length<=sizeLine/\(a == sysModules)=false/\∃vs,KV kvs vs/\h.DictOf (bz P w) a vs
 | .dT kvs=>kvs.length<=sizeLine/\(a == sysModules)=false/\∃xs:List (List bZ×Addr×Value),
   Paired (fun(p:List bZ×V) (q:List bZ×Addr×Value)=>p.1=q.1/\H q.2.1=some (.tup (p.1.map kV))/\RelV p.2 q.2.2) kvs xs/\
   ∃o es ep,h.get? a=some o/\o.ExactDict/\o.data = .dict es ep/\es.toList=xs.map (entryOfKey (tupleKind (bz P w)))/\(xs.map (·.1)).Nodup
 | .set S n=>h.SetOf (intKind P w) a S n
 | .ins C dx fs=>H dx=some (.own a)/\fs.length<=1000/\dx≠a/\h.get? a=some (PySem.W.instObj C dx)/\
   ∃mA,h.Ns1 dx mA/\(∀f,Ft (fs.lookup f) (mA f))/\PySem.Within mA (fs.map (·.1))
 | .own _=>∃o,h.get? a=some o
 | .xd fs=>∃mA,h.Ns1 a mA/\∀f,Ft (fs.lookup f) (mA f)
 | .J_ lo hi=>∃t u v,h.get? a=some { cls:=.type "range",data:=.fields #[.int lo t,.int hi u,.int 1 v] }
 | .frz o u=>h.get? a=some o/\ED H h a u
 | .Iy ps=>h.get? a=some { cls:=.none,data:=.fields ps }
 | .met f x=>h.get? a=some (PySem.W.methodObj (.ref f) (.ref x))
 | .ext φ=>φ h/\(∃o,h.get? a=some o)/\∀h1 h2:Heap,φ h1->(∀o,h1.get? a=some o->h2.get? a=some o)->φ h2
def FL(H:Hp)(h:Heap):Prop:=∀a o,H a=some o->ED P w H h a o
end
section
variable {P:Program} {w:World} {H H':Hp} {h h':Heap} {a:Addr} {o:HO}
theorem ED.lt(x:ED P w H h a o):a < h.objs.size:=by
 cases o with
 |lst xs=>obtain⟨_,_,_,_,e⟩:=x;exact Heap.lt_size e
 |tup xs=>obtain⟨_,_,_,p⟩:=x;exact p.tup.lt
 |dK kvs=>obtain⟨_,_,_,_,o,_,_,e,_⟩:=x;exact Heap.lt_size e
 |dT kvs=>obtain⟨_,_,_,_,o,_,_,e,_⟩:=x;exact Heap.lt_size e
 |set S n=>obtain⟨o,_,_,_,e,_⟩:=x;exact Heap.lt_size e
 |ins C dx fs=>obtain⟨_,_,_,e,_⟩:=x;exact Heap.lt_size e
 |own y=>obtain⟨_,e⟩:=x;exact Heap.lt_size e
 |xd fs=>obtain⟨_,⟨_,_,_,e,_⟩,_⟩:=x;exact Heap.lt_size e
 |J_ lo hi=>obtain⟨_,_,_,e⟩:=x;exact Heap.lt_size e
 |frz ob u=>obtain⟨e,_⟩:=x;exact Heap.lt_size e
 |Iy ps=>exact Heap.lt_size (show h.get? a=some _ from x)
 |met f y=>exact Heap.lt_size (show h.get? a=some _ from x)
 |ext φ=>obtain⟨_,⟨_,e⟩,_⟩:=x;exact Heap.lt_size e
theorem Paired.Iz{α β:Type}{F G:α->β->Prop}:∀{l₁:List α} {l₂:List β},Paired F l₁ l₂->(∀a b,F a b->G a b)->Paired G l₁ l₂
 |_,_,.nil,_=>.nil
 |_,_,.cons r t,f=>.cons (f _ _ r) (Paired.Iz t f)
def ED.stay(x:ED P w H h a o)(k:∀b u,(b=a\/H b=some (.own a))->h.get? b=some u->h'.get? b=some u)
  (ho:∀b,H b=some (.own a)->H' b=some (.own a)) (ht:∀b xs,H b=some (.tup xs)->H' b=some (.tup xs)):ED P w H' h' a o:=by
 induction o with
 |lst xs=>obtain⟨z,its,n,r,e⟩:=x;exact⟨z,its,n,r,k _ _ (.inl rfl) e⟩
 |tup xs=>obtain⟨z,its,r,ob,e,c⟩:=x;exact⟨z,its,r,ob,k _ _ (.inl rfl) e,c⟩
 |dK kvs=>obtain⟨z,y,vs,r,ob,es,ep,e,c⟩:=x;exact⟨z,y,vs,r,ob,es,ep,k _ _ (.inl rfl) e,c⟩
 |dT kvs=>
  obtain⟨z,y,xs,r,ob,es,ep,e,c⟩:=x
  exact⟨z,y,xs,Paired.Iz r fun p q z=>⟨z.1,ht _ _ z.2.1,z.2.2⟩,ob,es,ep,k _ _ (.inl rfl) e,c⟩
 |set S n=>obtain⟨ob,es,ep,t,e,c⟩:=x;exact⟨ob,es,ep,t,k _ _ (.inl rfl) e,c⟩
 |ins C dx fs=>
  obtain⟨d,z,ne,e,mA,⟨od,es,ep,e2,c⟩,r⟩:=x
  exact⟨ho _ d,z,ne,k _ _ (.inl rfl) e,mA,⟨od,es,ep,k _ _ (.inr d) e2,c⟩,r⟩
 |own y=>obtain⟨ob,e⟩:=x;exact⟨ob,k _ _ (.inl rfl) e⟩
 |xd fs=>obtain⟨mA,⟨od,es,ep,e,c⟩,r⟩:=x;exact⟨mA,⟨od,es,ep,k _ _ (.inl rfl) e,c⟩,r⟩
 |J_ lo hi=>obtain⟨t,u,v,e⟩:=x;exact⟨t,u,v,k _ _ (.inl rfl) e⟩
 |frz ob u ih=>obtain⟨e,q⟩:=x;exact⟨k _ _ (.inl rfl) e,ih q⟩
 |Iy ps=>
  have e:h.get? a=some { cls:=.none,data:=.fields ps }:=x
  show h'.get? a=some { cls:=.none,data:=.fields ps }
  exact k a _ (.inl rfl) e
 |met f y=>
  have e:h.get? a=some (PySem.W.methodObj (.ref f) (.ref y)):=x
  show h'.get? a=some (PySem.W.methodObj (.ref f) (.ref y))
  exact k a _ (.inl rfl) e
 |ext φ=>obtain⟨p,⟨o,e⟩,st⟩:=x;exact⟨st _ _ p fun o q=>k _ _ (.inl rfl) q,⟨o,k _ _ (.inl rfl) e⟩,st⟩
theorem FL.lt(x:FL P w H h)(e:H a=some o):a < h.objs.size:=(x a o e).lt
def FL.fresh(x:FL P w H h)(e:h.objs.size<=a):H a=none:=by
 cases q:H a with
 |none=>rfl
 |some u=>exact absurd (Nat.lt_of_lt_of_le (x.lt q) e) (Nat.lt_irrefl _)
def FL.kept(x:FL P w H h)(k:∀b u,h.get? b=some u->h'.get? b=some u):FL P w H h':=fun a o e=>
 (x a o e).stay (fun b u _ q=>k b u q) (fun _ q=>q) fun _ _ q=>q
def FL.laid(x:FL P w H h)(k:∀b u,h.get? b=some u->h'.get? b=some u)(hp:h.objs.size<=a)(new:ED P w (upd H a o) h' a o):FL P w (upd H a o) h':=fun b u e=>by
 have hn:=x.fresh hp
 by_cases hb:b=a
 ·subst hb;rw[ay]at e;cases e;exact new
 ·rw[aA hb]at e
  exact(x b u e).stay (fun c v _ q=>k c v q) (fun c q=>by rw[aA (a9 q hn)];exact q) fun c xs q=>by rw[aA (a9 q hn)];exact q
end
def Rd(H:Hp)(a:Addr)(u:HO):Prop:=H a=some u\/∃o,H a=some (.frz o u)
def Rd.ok{P:Program}{w:World}{H:Hp}{h:Heap}{a:Addr}{u:HO}(r:Rd H a u)(x:FL P w H h):ED P w H h a u:=by
 rcases r with r|⟨o,r⟩
 ·exact x a u r
 ·obtain⟨_,q⟩:=x a _ r
  exact q
noncomputable def Ae:Option HO->Prop
 |some (.lst _)=>True
 |some (.dK _)=>True
 |some (.dT _)=>True
 |some (.set _ _)=>True
 |some (.ins _ _ _)=>True
 |some (.ext _)=>True
 |_=>False
section
variable {P:Program} {w:World} {H:Hp} {h h':Heap} {x e:Addr} {o':HO}
def FL.write(ok:FL P w H h)(mu:Ae (H x))(he:e=x\/H e=some (.own x))(k:∀b u,b≠e->h.get? b=some u->h'.get? b=some u)(I_:∃u,h'.get? e=some u)
  (new:ED P w (upd H x o') h' x o'):FL P w (upd H x o') h':=fun b u q=>by
 have Jj:∀c y,H c=some (.own y)->c≠x:=fun c y r z=>by subst z;rw[r]at mu;exact mu
 have Ka:∀c xs,H c=some (.tup xs)->c≠x:=fun c xs r z=>by subst z;rw[r]at mu;exact mu
 by_cases hb:b=x
 ·subst hb;rw[ay]at q;cases q;exact new
 ·rw[aA hb]at q
  by_cases IA:b=e
  ·have q':H b=some (.own x):=by
    rcases he with z|z
    ·exact absurd (IA.trans z) hb
    ·rw[IA];exact z
   rw[q]at q';cases q'
   obtain⟨v,hv⟩:=I_
   exact⟨v,by rw[IA];exact hv⟩
  ·refine(ok b u q).stay (fun c v hc r=>k c v ?_ r) (fun c r=>by rw[aA (Jj c b r)];exact r) fun c xs r=>by rw[aA (Ka c xs r)];exact r
   rcases hc with rfl|hc
   ·exact IA
   ·rintro rfl
    rcases he with z|z
    ·exact Jj c b hc z
    ·rw[hc]at z;cases z;exact hb rfl
end
structure Un (fs ex:List Addr) (H H':Hp) (h h':Heap):Prop where
 keep:∀b o,h.get? b=some o->H b=none->b ∉ fs->b ∉ ex->h'.get? b=some o
 slot:∀b o,h.get? b=some o->H b=none->b∈fs->b ∉ ex->∃sl,h'.get? b=some { o with slots:=sl }
 free:∀b o,h.get? b=some o->H b=none->b ∉ ex->H' b=none
 there:∀b o,h.get? b=some o->b ∉ ex->∃o',h'.get? b=some o'
 tups:∀b xs,H b=some (.tup xs)->H' b=some (.tup xs)
 Gs:∀b o u,H b=some (.frz o u)->H' b=some (.frz o u)
 GN:∀b ps,H b=some (.Iy ps)->∃more,H' b=some (.Iy (ps++more))
section
variable {fs fs' ex ex':List Addr} {H H1 H2:Hp} {h h1 h2 h':Heap} {a x e:Addr} {o:HO}
def Un.any(u:Un fs ex H H1 h h1){b:Addr}{ob:Obj}(q:h.get? b=some ob)(n:H b=none)(hx:b ∉ ex):∃sl,h1.get? b=some { ob with slots:=sl }:=by
 by_cases hb:b∈fs
 ·exact u.slot b ob q n hb hx
 ·exact⟨ob.slots,u.keep b ob q n hb hx⟩
def Un.kept(k:∀b u,h.get? b=some u->h'.get? b=some u):Un fs ex H H h h':=
 ⟨fun b ob q _ _ _=>k b ob q,fun b ob q _ _ _=>⟨ob.slots,k b ob q⟩,fun _ _ _ n _=>n,fun b ob q _=>⟨ob,k b ob q⟩,fun _ _ q=>q,fun _ _ _ q=>q,fun _ ps q=>⟨#[],by rw[q];simp⟩⟩
def Un.refl:Un fs ex H H h h:=Un.kept fun _ _ q=>q
def Un.laid(k:∀b u,h.get? b=some u->h'.get? b=some u)(hp:h.objs.size<=a)(hn:H a=none):Un fs ex H (upd H a o) h h' where
 keep:=fun b u q _ _ _=>k b u q
 slot:=fun b u q _ _ _=>⟨u.slots,k b u q⟩
 free:=fun b u q n _=>by rw[aA (Nat.ne_of_lt (Nat.lt_of_lt_of_le (Heap.lt_size q) hp))];exact n
 there:=fun b u q _=>⟨u,k b u q⟩
 tups:=fun b xs q=>by rw[aA (a9 q hn)];exact q
 Gs:=fun b u xs q=>by rw[aA (a9 q hn)];exact q
 GN:=fun b ps q=>⟨#[],by rw[aA (a9 q hn),q];simp⟩
def Un.write(mu:Ae (H x))(he:e=x\/H e=some (.own x))(k:∀b u,b≠e->h.get? b=some u->h'.get? b=some u)(I_:∃u,h'.get? e=some u):Un fs ex H (upd H x o) h h':=by
 have hx:∀b,H b=none->b≠x:=fun b n z=>by subst z;rw[n]at mu;exact mu
 have hb:∀b,H b=none->b≠e:=fun b n z=>by
  subst z
  rcases he with r|r
  ·exact hx b n r
  ·rw[n]at r;cases r
 have hm:∀b u,H b=some u->¬Ae (some u)->b≠x:=fun b u q nm z=>by subst z;rw[q]at mu;exact nm mu
 refine⟨fun b u q n _ _=>k b u (hb b n) q,fun b u q n _ _=>⟨u.slots,k b u (hb b n) q⟩,fun b u q n _=>by rw[aA (hx b n)];exact n,fun b u q _=>?_,
  fun b xs q=>by rw[aA (hm b _ q fun z=>z)];exact q,fun b u xs q=>by rw[aA (hm b _ q fun z=>z)];exact q,fun b ps q=>⟨#[],by rw[aA (hm b _ q fun z=>z),q];simp⟩⟩
 by_cases IA:b=e
 ·subst IA;exact I_
 ·exact⟨u,k b u IA q⟩
end
noncomputable def BP(h:Heap)(H:Hp):List Addr:=(List.range h.objs.size).filter fun a=>(H a).isSome
noncomputable def kK(h:Heap)(H:Hp):Heap:=PySem.W.hideAll h (BP h H)
def p8(h:Heap)(H:Hp):(kK h H).objs.size=h.objs.size:=PySem.W.hideAll_size _ _
def rn{h:Heap}{H:Hp}{b:Addr}{o:Obj}(e:h.get? b=some o)(n:H b=none):(kK h H).get? b=some o:=
 PySem.W.hideAll_get _ e fun hm=>by
  have q:(H b).isSome=true:=(List.mem_filter.mp hm).2
  rw[n]at q;simp at q
def uS{h:Heap}{H:Hp}{b:Addr}{o:Obj}(e:(kK h H).get? b=some o):h.get? b=some o/\H b=none:=by
 have e':h.get? b=some o:=PySem.W.of_hideAll (BP h H) e
 refine⟨e',?_⟩
 cases q:H b with
 |none=>rfl
 |some x=>
  have hm:b∈BP h H:=List.mem_filter.mpr ⟨List.mem_range.mpr (Heap.lt_size e'),by simp[q]⟩
  have z:(kK h H).get? b=none:=PySem.W.hideAll_none (BP h H) hm
  rw[z]at e;cases e
structure Mod (K:Vo) (mg:Vr) (base:Heap):Prop where
 Jk:K.In base
 glob:base.Ns mainGlobals mg
 blt:∃mb,base.Ns builtinsNs mb/\∀x:Str,x ≠ "__name__"->mb x=bootBuiltins x
 nolimit:base.NoLimit
structure Cx where
 prog:Program
 w:World
 K:Vo
 mg:Vr
 base:Heap
 A:Around
 N:List Str
 s₀:Shared
 H₀:Hp
 env:Env
 outer:List Env
 stack:List Env
 ex:List Addr
 fn:Str->Bool
 calm:Bool
 pn:Va
 xe:Value->Shared->Prop
noncomputable def frs(l:List Env):List Addr:=l.filterMap (·.frame)
noncomputable abbrev Cx.fs(X:Cx):List Addr:=frs X.outer
def BQ(sc:Scope)(x:Str):Prop:=sc.names.lookup x=some .local\/sc.names.lookup x=some .cell\/sc.names.lookup x=some .free
def wG(sc:Scope)(x:Str):Prop:=sc.names.lookup x=some .local\/sc.names.lookup x=some .cell
def Ca(env:Env)(h:Heap)(m:Vr)(x:Str)(u:Value):Prop:=
 (env.kindOf x=some .local/\m x=some u)\/((env.kindOf x=some .cell\/env.kindOf x=some .free)/\∃c,env.cells.lookup x=some c/\h.IsCell c (some u))
structure Cx.Ok (X:Cx):Prop where
 mod:Mod X.K X.mg X.base
 kind:X.env.scope.kind = .function
 glob:X.env.globals=mainGlobals
 blt:X.env.builtins=builtinsNs
 above:X.s₀.heap.objs.size<=X.env.locals
 inj:∀x y c,X.env.cells.lookup x=some c->X.env.cells.lookup y=some c->x=y
 has:∀x,(X.env.kindOf x=some .cell\/X.env.kindOf x=some .free)->∃c,X.env.cells.lookup x=some c
 Ja:∀x c,X.fn x=true->X.env.cells.lookup x=some c->X.s₀.heap.objs.size<=c
 hd:X.calm=true->X.A.handled=none
 frames:X.A.frames=some X.stack
 stk:X.stack=X.outer\/(X.stack=X.env::X.outer/\X.env.frame=some X.env.locals)
 Kc:∀b∈X.ex,b≠X.env.locals/\∀x c,X.env.cells.lookup x=some c->c≠b
 bs:∀b o,X.base.get? b=some o->X.s₀.heap.get? b=some o/\X.H₀ b=none
 HP:X.base.objs.size<=X.s₀.heap.objs.size
 Hg:∀b o,X.base.get? b=some o->b ∉ X.ex
 Hv:∀b∈X.ex,b ∉ X.fs
 FU:X.s₀.heap.FunFrames X.base X.outer
 Ik:∀b∈X.fs,X.H₀ b=none
structure Inv (X:Cx) (pins:Va) (σ:List (Option V)) (H:Hp) (s:Shared):Prop where
 ok:X.Ok
 os:s.os=X.s₀.os
 bare:AllBare s.gens
 base:Un X.fs X.ex X.H₀ H X.s₀.heap s.heap
 loc:∃m,s.heap.Ns X.env.locals m/\∀(i:Nat) (x:Str) (v:V),X.N[i]?=some x->σ[i]?=some (some v)->BQ X.env.scope x->∃u,RelV v u/\Ca X.env s.heap m x u
 cell:∀x c,X.env.cells.lookup x=some c->∃v,s.heap.IsCell c v
 free:H X.env.locals=none
 Fu:∀x c,X.env.cells.lookup x=some c->H c=none
 pin:∀p∈X.pn++pins,s.heap.get? p.1=some p.2/\H p.1=none/\p.1≠X.env.locals/\p.1 ∉ X.fs/\∀v,p.2.data ≠ .cell v
 hok:FL X.prog X.w H s.heap
 len:σ.length=X.N.length
section
variable {X:Cx} {pins:Va} {σ:List (Option V)} {H H':Hp} {s:Shared} {h':Heap}
def Cx.Ok.Kd(ok:X.Ok){b:Addr}{o:Obj}(e:X.base.get? b=some o):b ∉ X.fs:=fun hb=>by
 have:=(ok.FU.mem hb).1
 rw[e]at this;cases this
theorem Inv.bs(I:Inv X pins σ H s):∀b o,X.base.get? b=some o->s.heap.get? b=some o/\H b=none:=fun b o e=>
 ⟨I.base.keep b o (I.ok.bs b o e).1 (I.ok.bs b o e).2 (I.ok.Kd e) (I.ok.Hg b o e),I.base.free b o (I.ok.bs b o e).1 (I.ok.bs b o e).2 (I.ok.Hg b o e)⟩
def Inv.bk(I:Inv X pins σ H s):∀b o,X.base.get? b=some o->s.heap.get? b=some o:=fun b o e=>(I.bs b o e).1
theorem Inv.mod(I:Inv X pins σ H s):Mod X.K X.mg X.base:=I.ok.mod
def Inv.G9(I:Inv X pins σ H s):X.K.In s.heap:=I.ok.mod.Jk.keeps I.bk
theorem Inv.lt(I:Inv X pins σ H s):X.env.locals < s.heap.objs.size:=let ⟨_,hn,_⟩:=I.loc;hn.lt
def Inv.sz(I:Inv X pins σ H s):X.s₀.heap.objs.size<=s.heap.objs.size:=Nat.le_trans I.ok.above (Nat.le_of_lt I.lt)
def Inv.Jl(I:Inv X pins σ H s){a:Addr}(h:s.heap.objs.size<=a):a ∉ X.fs:=fun hb=>by
 obtain⟨_,o,ho,_⟩:=I.ok.FU.mem hb
 exact absurd (Nat.lt_of_lt_of_le (Heap.lt_size ho) (Nat.le_trans I.sz h)) (Nat.lt_irrefl _)
def Inv.IB(I:Inv X pins σ H s):∀x c,X.env.cells.lookup x=some c->c≠X.env.locals:=fun x c e z=>by
 obtain⟨v,o,ho,hd⟩:=I.cell x c e
 obtain⟨m,⟨o',es,ep,ho',hd',_⟩,_⟩:=I.loc
 rw[z,ho']at ho;cases ho;rw[hd']at hd;cases hd
theorem Inv.FU(I:Inv X pins σ H s):s.heap.FunFrames X.base X.outer:=by
 have all:∀(l:List Env),(∀b∈frs l,b∈X.fs)->X.s₀.heap.FunFrames X.base l->s.heap.FunFrames X.base l:=by
  intro l
  induction l with
  |nil=>intro _ _;trivial
  |cons env r ih=>
   intro hs hl
   obtain⟨hk,⟨L,o,hf,hn,ho,hd⟩,hr⟩:=hl
   have hL:L∈X.fs:=hs L (by unfold frs;rw[List.filterMap_cons,hf];exact List.mem_cons_self)
   obtain⟨sl,e⟩:=I.base.slot L o ho (I.ok.Ik L hL) hL fun z=>I.ok.Hv L z hL
   exact⟨hk,⟨L,_,hf,hn,e,hd⟩,ih (fun b hb=>hs b (by unfold frs;rw[List.filterMap_cons,hf];exact List.mem_cons_of_mem _ hb)) hr⟩
 exact all X.outer (fun _ hb=>hb) I.ok.FU
theorem Inv.stack(I:Inv X pins σ H s):s.heap.FunFrames X.base X.stack:=by
 rcases I.ok.stk with e|⟨e,hf⟩
 ·rw[e];exact I.FU
 ·rw[e]
  obtain⟨m,hn,_⟩:=I.loc
  refine .cons (by rw[I.ok.kind];decide) hf hn ?_ I.FU
  exact Heap.get?_none_of_le (Nat.le_trans I.ok.HP I.ok.above)
def Inv.FV(I:Inv X pins σ H s):∀b∈frs X.stack,b∈X.env.locals::X.fs:=fun b hb=>by
 rcases I.ok.stk with e|⟨e,hf⟩
 ·rw[e]at hb;exact List.mem_cons_of_mem _ hb
 ·rw[e]at hb
  unfold frs at hb
  rw[List.filterMap_cons,hf]at hb
  exact hb
def Inv.G_(I:Inv X pins σ H s):∀b∈frs X.stack,H b=none:=fun b hb=>by
 rcases List.mem_cons.mp (I.FV b hb)with e|hb
 ·rw[e];exact I.free
 ·obtain⟨_,o,ho,_⟩:=I.ok.FU.mem hb
  exact I.base.free b o ho (I.ok.Ik b hb) fun z=>I.ok.Hv b z hb
def Inv.step{g':Array GenState}{t':Nat}{d':Drawn}{ch:List Addr}(I:Inv X pins σ H s)
  (hch:∀b∈ch,(b∈X.ex\/X.s₀.heap.objs.size<=b)/\b≠X.env.locals/\(∀x c,X.env.cells.lookup x=some c->c≠b)/\∀p∈X.pn++pins,p.1≠b)
  (keep:∀b o,b≠X.env.locals->b ∉ X.fs->b ∉ ch->s.heap.get? b=some o->H b=none->h'.get? b=some o)
  (slot:∀b o,b≠X.env.locals->b∈X.fs->b ∉ ch->s.heap.get? b=some o->H b=none->∃sl,h'.get? b=some { o with slots:=sl }) (free:∀b o,b ∉ ch->s.heap.get? b=some o->H b=none->H' b=none)
  (there:∀b o,b ∉ ch->s.heap.get? b=some o->∃o',h'.get? b=some o')
  (tups:∀b xs,H b=some (.tup xs)->H' b=some (.tup xs)) (Gs:∀b o u,H b=some (.frz o u)->H' b=some (.frz o u)) (GN:∀b ps,H b=some (.Iy ps)->∃more,H' b=some (.Iy (ps++more)))
  (ns:∀m,s.heap.Ns X.env.locals m->h'.Ns X.env.locals m) (hok:FL X.prog X.w H' h') (hg:AllBare g') :
  Inv X pins σ H' { s with heap:=h',gens:=g',drawn:=d',toks:=t' }:=by
 have K3:∀b o,X.s₀.heap.get? b=some o->b≠X.env.locals:=fun b o e=>Nat.ne_of_lt (Nat.lt_of_lt_of_le (Heap.lt_size e) I.ok.above)
 have JM:∀b o,X.s₀.heap.get? b=some o->b ∉ X.ex->b ∉ ch:=fun b o e hx hb=>by
  rcases(hch b hb).1 with z|z
  ·exact hx z
  ·exact absurd (Nat.lt_of_lt_of_le (Heap.lt_size e) z) (Nat.lt_irrefl _)
 have cellK:∀x c,X.env.cells.lookup x=some c->∀v,s.heap.IsCell c v->h'.IsCell c v:=fun x c e v ⟨o,ho,hd⟩=>by
  have Jm:c ∉ ch:=fun z=>(hch c z).2.2.1 x c e rfl
  by_cases hc:c∈X.fs
  ·obtain⟨sl,q⟩:=slot c o (I.IB x c e) hc Jm ho (I.Fu x c e)
   exact⟨_,q,hd⟩
  ·exact⟨o,keep c o (I.IB x c e) hc Jm ho (I.Fu x c e),hd⟩
 refine⟨I.ok,I.os,hg,⟨fun b o e n hb hx=>?_,fun b o e n hb hx=>?_,fun b o e n hx=>?_,fun b o e hx=>?_,fun b xs e=>tups b xs (I.base.tups b xs e),fun b o xs e=>Gs b o xs (I.base.Gs b o xs e),fun b ps e=>?_⟩,?_,fun x c e=>?_,?_,fun x c e=>?_,fun p hp=>?_,hok,I.len⟩
 ·exact keep b o (K3 b o e) hb (JM b o e hx) (I.base.keep b o e n hb hx) (I.base.free b o e n hx)
 ·obtain⟨sl,e1⟩:=I.base.slot b o e n hb hx
  obtain⟨sl',e2⟩:=slot b _ (K3 b o e) hb (JM b o e hx) e1 (I.base.free b o e n hx)
  exact⟨sl',e2⟩
 ·obtain⟨o',e1⟩:=I.base.there b o e hx
  exact free b o' (JM b o e hx) e1 (I.base.free b o e n hx)
 ·obtain⟨o',e1⟩:=I.base.there b o e hx
  exact there b o' (JM b o e hx) e1
 ·obtain⟨m1,e1⟩:=I.base.GN b ps e
  obtain⟨m2,e2⟩:=GN b _ e1
  exact⟨m1++m2,by rw[e2,Array.append_assoc]⟩
 ·obtain⟨m,hn,hl⟩:=I.loc
  refine⟨m,ns m hn,fun i x v e1 e2 e3=>?_⟩
  obtain⟨u,r,l⟩:=hl i x v e1 e2 e3
  refine⟨u,r,?_⟩
  rcases l with l|⟨k,c,e,z⟩
  ·exact .inl l
  ·exact .inr ⟨k,c,e,cellK x c e _ z⟩
 ·obtain⟨v,z⟩:=I.cell x c e
  exact⟨v,cellK x c e v z⟩
 ·obtain⟨m,⟨o,_,_,ho,_⟩,_⟩:=I.loc
  exact free _ o (fun z=>(hch _ z).2.1 rfl) ho I.free
 ·obtain⟨v,o,ho,hd⟩:=I.cell x c e
  exact free c o (fun z=>(hch c z).2.2.1 x c e rfl) ho (I.Fu x c e)
 ·obtain⟨e,n,ne,nf,d⟩:=I.pin p hp
  have Jm:p.1 ∉ ch:=fun z=>(hch p.1 z).2.2.2 p hp rfl
  exact⟨keep p.1 p.2 ne nf Jm e n,free p.1 p.2 Jm e n,ne,nf,d⟩
def Inv.un{t':Nat}(I:Inv X pins σ H s)(u:Un X.fs [] H H' s.heap h')(hok:FL X.prog X.w H' h'):Inv X pins σ H' { s with heap:=h',toks:=t' }:=by
 obtain⟨m,⟨o,es,ep,ho,r⟩,_⟩:=id I.loc
 obtain⟨sl,hL⟩:=u.any ho I.free (by simp)
 exact I.step (g':=s.gens) (d':=s.drawn) (ch:=[]) (fun _ z=>nomatch z) (fun b o _ hb _ e n=>u.keep b o e n hb (by simp)) (fun b o _ hb _ e n=>u.slot b o e n hb (by simp)) (fun b o _ e n=>u.free b o e n (by simp)) (fun b o _ e=>u.there b o e (by simp)) u.tups u.Gs u.GN (fun m' hm=>by
  obtain⟨o',es',Ke,ho',r'⟩:=hm
  rw[ho]at ho';cases ho'
  exact⟨_,es',Ke,hL,r'⟩) hok I.bare
def Inv.call{g':Array GenState}{t':Nat}{d':Drawn}{ch:List Addr}(I:Inv X pins σ H s)(u:Un (frs X.stack) ch H H' s.heap h')(hok:FL X.prog X.w H' h')(hg:AllBare g')
  (hch:∀b∈ch,(b∈X.ex\/X.s₀.heap.objs.size<=b)/\b≠X.env.locals/\(∀x c,X.env.cells.lookup x=some c->c≠b)/\∀p∈X.pn++pins,p.1≠b) :
  Inv X pins σ H' { s with heap:=h',gens:=g',drawn:=d',toks:=t' }:=by
 obtain⟨m,⟨o,es,ep,ho,r⟩,_⟩:=id I.loc
 obtain⟨sl,hL⟩:=u.any ho I.free fun z=>(hch _ z).2.1 rfl
 exact I.step (ch:=ch) hch (fun b o hL hb hc e n=>u.keep b o e n (fun z=>(List.mem_cons.mp (I.FV b z)).elim hL hb) hc) (fun b o _ _ hc e n=>u.any e n hc) (fun b o hc e n=>u.free b o e n hc) (fun b o hc e=>u.there b o e hc) u.tups u.Gs u.GN (fun m' hm=>by
  obtain⟨o',es',Ke,ho',r'⟩:=hm
  rw[ho]at ho';cases ho'
  exact⟨_,es',Ke,hL,r'⟩) hok hg
def Inv.turned{t':Nat}{it:Addr}(I:Inv X pins σ H s)(k:∀b o,b≠it->s.heap.get? b=some o->h'.get? b=some o)(hn:H it=none)(hL:it≠X.env.locals)
  (h1:it∈X.ex\/X.s₀.heap.objs.size<=it) (h2:∀x c,X.env.cells.lookup x=some c->c≠it) (h3:∀p∈X.pn++pins,p.1≠it):Inv X pins σ H { s with heap:=h',toks:=t' }:=by
 have Jn:∀b u,H b=some u->b≠it:=fun b u e z=>by rw[z,hn]at e;cases e
 refine I.step (g':=s.gens) (d':=s.drawn) (ch:=[it]) (fun b hb=>?_) (fun b o _ _ hc e _=>k b o (fun z=>hc (by simp[z])) e) (fun b o _ _ hc e _=>⟨o.slots,k b o (fun z=>hc (by simp[z])) e⟩) (fun _ _ _ _ n=>n)
  (fun b o hc e=>⟨o,k b o (fun z=>hc (by simp[z])) e⟩) (fun _ _ e=>e) (fun _ _ _ e=>e) (fun b ps e=>⟨#[],by rw[e];simp⟩) (fun m hm=>?_) (fun b u e=>?_) I.bare
 ·have e:b=it:=by simpa using hb
  subst e
  exact⟨h1,hL,h2,h3⟩
 ·obtain⟨o,es,ep,ho,r⟩:=hm
  exact⟨o,es,ep,k _ o (Ne.symm hL) ho,r⟩
 ·refine(I.hok b u e).stay (fun c v hc q=>k c v ?_ q) (fun _ q=>q) fun _ _ q=>q
  rcases hc with z|z
  ·rw[z];exact Jn b u e
  ·exact Jn c _ z
def Inv.tok(I:Inv X pins σ H s)(t:Nat):Inv X pins σ H { s with toks:=t }:=I.un (h':=s.heap) (t':=t) Un.refl I.hok
theorem Inv.kept{t':Nat}(I:Inv X pins σ H s)(k:∀b u,s.heap.get? b=some u->h'.get? b=some u):Inv X pins σ H { s with heap:=h',toks:=t' }:=I.un (Un.kept k) (I.hok.kept k)
theorem Inv.laid{a:Addr}{o:HO}{t':Nat}(I:Inv X pins σ H s)(k:∀b u,s.heap.get? b=some u->h'.get? b=some u)(hp:s.heap.objs.size<=a)(new:ED X.prog X.w (upd H a o) h' a o) :
  Inv X pins σ (upd H a o) { s with heap:=h',toks:=t' }:=I.un (Un.laid k hp (I.hok.fresh hp)) (I.hok.laid k hp new)
theorem Inv.write{x e:Addr}{o:HO}{t':Nat}(I:Inv X pins σ H s)(mu:Ae (H x))(he:e=x\/H e=some (.own x))(k:∀b u,b≠e->s.heap.get? b=some u->h'.get? b=some u)(I_:∃u,h'.get? e=some u)
  (new:ED X.prog X.w (upd H x o) h' x o):Inv X pins σ (upd H x o) { s with heap:=h',toks:=t' }:=I.un (Un.write mu he k I_) (I.hok.write mu he k I_ new)
def Inv.weak{σ':List (Option V)}(I:Inv X pins σ H s)(hl:σ'.length=σ.length)(w:∀(i:Nat) v,σ'[i]?=some (some v)->σ[i]?=some (some v)):Inv X pins σ' H s:=
 ⟨I.ok,I.os,I.bare,I.base,let ⟨m,hn,hl'⟩:=I.loc;⟨m,hn,fun i x v e1 e2 e3=>hl' i x v e1 (w i v e2) e3⟩,I.cell,I.free,I.Fu,I.pin,I.hok,hl.trans I.len⟩
def Inv.Ga{Il:Va}(I:Inv X pins σ H s)(h:∀p∈Il,s.heap.get? p.1=some p.2/\H p.1=none/\p.1≠X.env.locals/\p.1 ∉ X.fs/\∀v,p.2.data ≠ .cell v):Inv X Il σ H s:=
 ⟨I.ok,I.os,I.bare,I.base,I.loc,I.cell,I.free,I.Fu,fun p hp=>(List.mem_append.mp hp).elim (fun z=>I.pin p (List.mem_append_left _ z)) (h p),I.hok,I.len⟩
def lQ{N:Vs}(hN:N.Nodup){i j:Nat}{x:Str}(a:N[i]?=some x)(b:N[j]?=some x):i=j:=by
 obtain⟨h1,e1⟩:=List.getElem?_eq_some_iff.mp a
 obtain⟨h2,e2⟩:=List.getElem?_eq_some_iff.mp b
 exact(List.getElem_inj hN).mp (e1.trans e2.symm)
def j9 {M : Model} {A : Around} {E : Value -> Shared -> Prop} {i : Nat} {x : Str} {v : V} {u : Value} {Q : Unit -> Shared -> Prop} (I : Inv X pins σ H s) (hN : X.N.Nodup) (hi : X.N[i]? = some x) (hx : wG X.env.scope x) (r : RelV v u)
  (h : ∀ s', Inv X pins (σ.set i (some v)) H s' -> (∃ a, Heap.SameBut a s.heap s'.heap /\ (a = X.env.locals \/ X.env.cells.lookup x = some a)) -> Q () s') (hf : X.fn x = true \/ X.env.scope.names.lookup x = some .local := by first | exact .inl rfl | exact .inr rfl | assumption) : wpAny M A (storeName X.env x u) Q E s := by
 obtain ⟨m, hn, hl⟩ := id I.loc
 have hcls : (X.env.scope.kind == .class || (X.env.scope.kind == .module && X.env.locals != X.env.globals)) = false := by rw [I.ok.kind]; rfl
 have K4 : i < σ.length := by rw [I.len]; exact (List.getElem?_eq_some_iff.mp hi).1
 have IB := I.IB
 have tracked : ∀ {a : Addr} {h' : Heap}, (∃ o, s.heap.get? a = some o /\ H a = none) -> Heap.SameBut a s.heap h' -> FL X.prog X.w H h' := fun {a h'} ha hs b ob e => by
  obtain ⟨_, _, hfree⟩ := ha
  refine (I.hok b ob e).stay (fun c w' hc q => (hs.2 c ?_).trans q) (fun _ q => q) fun _ _ q => q
  rintro rfl
  rcases hc with rfl | hc
  ·rw [hfree] at e; cases e
  ·rw [hfree] at hc; cases hc
 rcases hx with hk | hk
 ·refine wpAny_storeName_local hk hn (fun h' hn' hs => ?_) hcls
  obtain ⟨oL, _, _, LW, _⟩ := id hn
  refine h _ ⟨I.ok, I.os, I.bare, ⟨fun b o e n hb hx => ?_, fun b o e n hb hx => ?_, I.base.free, fun b o e hx => ?_, I.base.tups, I.base.Gs, I.base.GN⟩, ⟨_, hn', fun j y v' e1 e2 e3 => ?_⟩, fun y c e => ?_, I.free, I.Fu, fun p hp => ?_, tracked ⟨oL, LW, I.free⟩ hs, by simpa using I.len⟩ ⟨_, hs, .inl rfl⟩
  ·exact (hs.2 b (Nat.ne_of_lt (Nat.lt_of_lt_of_le (Heap.lt_size e) I.ok.above))).trans (I.base.keep b o e n hb hx)
  ·obtain ⟨sl, e1⟩ := I.base.slot b o e n hb hx
   exact ⟨sl, (hs.2 b (Nat.ne_of_lt (Nat.lt_of_lt_of_le (Heap.lt_size e) I.ok.above))).trans e1⟩
  ·obtain ⟨o', e1⟩ := I.base.there b o e hx
   exact ⟨o', (hs.2 b (Nat.ne_of_lt (Nat.lt_of_lt_of_le (Heap.lt_size e) I.ok.above))).trans e1⟩
  ·by_cases hj : j = i
   ·subst hj
    rw [hi] at e1; cases e1
    rw [List.getElem?_set_self K4] at e2
    cases e2
    exact ⟨u, r, .inl ⟨hk, by simp⟩⟩
   ·rw [List.getElem?_set_ne (Ne.symm hj)] at e2
    obtain ⟨u', r', q⟩ := hl j y v' e1 e2 e3
    refine ⟨u', r', ?_⟩
    rcases q with ⟨k, e⟩ | ⟨k, c, e, z⟩
    ·refine .inl ⟨k, ?_⟩
     have : y ≠ x := fun e => hj (lQ hN e1 (e ▸ hi))
     simp [this, e]
    ·exact .inr ⟨k, c, e, z.sameBut hs (IB y c e)⟩
  ·obtain ⟨w', z⟩ := I.cell y c e
   exact ⟨w', z.sameBut hs (IB y c e)⟩
  ·obtain ⟨e, n, ne, nf, d⟩ := I.pin p hp
   exact ⟨(hs.2 p.1 ne).trans e, n, ne, nf, d⟩
 ·have hfn : X.fn x = true := by
   rcases hf with z | z
   ·exact z
   ·rw [z] at hk; cases hk
  obtain ⟨c, hc⟩ := I.ok.has x (.inl hk)
  obtain ⟨w', z⟩ := I.cell x c hc
  refine wpAny_storeName_cell I.ok.kind hk hc z (fun h' hc' hs => ?_)
  obtain ⟨oc, hoc, Kf⟩ := id z
  refine h { s with heap := h' } ⟨I.ok, I.os, I.bare, ⟨fun b o e n hb hx => ?_, fun b o e n hb hx => ?_, I.base.free, fun b o e hx => ?_, I.base.tups, I.base.Gs, I.base.GN⟩, ⟨m, hn.sameBut hs (Ne.symm (IB x c hc)), fun j y v' e1 e2 e3 => ?_⟩, fun y c' e => ?_, I.free, I.Fu, fun p hp => ?_, tracked ⟨oc, hoc, I.Fu x c hc⟩ hs, by simpa using I.len⟩ ⟨c, hs, .inr hc⟩
  ·exact (hs.2 b (Nat.ne_of_lt (Nat.lt_of_lt_of_le (Heap.lt_size e) (I.ok.Ja x c hfn hc)))).trans (I.base.keep b o e n hb hx)
  ·obtain ⟨sl, e1⟩ := I.base.slot b o e n hb hx
   exact ⟨sl, (hs.2 b (Nat.ne_of_lt (Nat.lt_of_lt_of_le (Heap.lt_size e) (I.ok.Ja x c hfn hc)))).trans e1⟩
  ·obtain ⟨o', e1⟩ := I.base.there b o e hx
   exact ⟨o', (hs.2 b (Nat.ne_of_lt (Nat.lt_of_lt_of_le (Heap.lt_size e) (I.ok.Ja x c hfn hc)))).trans e1⟩
  ·by_cases hj : j = i
   ·subst hj
    rw [hi] at e1; cases e1
    rw [List.getElem?_set_self K4] at e2
    cases e2
    exact ⟨u, r, .inr ⟨.inl hk, c, hc, hc'⟩⟩
   ·rw [List.getElem?_set_ne (Ne.symm hj)] at e2
    obtain ⟨u', r', q⟩ := hl j y v' e1 e2 e3
    refine ⟨u', r', ?_⟩
    rcases q with q | ⟨k, c', e, z'⟩
    ·exact .inl q
    ·refine .inr ⟨k, c', e, z'.sameBut hs ?_⟩
     rintro rfl
     exact hj (lQ hN e1 (I.ok.inj _ _ _ e hc ▸ hi))
  ·by_cases hcc : c' = c
   ·subst hcc; exact ⟨_, hc'⟩
   ·obtain ⟨w2, z2⟩ := I.cell y c' e
    exact ⟨w2, z2.sameBut hs hcc⟩
  ·obtain ⟨e, n, ne, nf, d⟩ := I.pin p hp
   refine ⟨(hs.2 p.1 ?_).trans e, n, ne, nf, d⟩
   intro q
   rw [q, hoc] at e
   have q' : oc = p.2 := Option.some.inj e
   exact d w' (by rw [<- q']; exact Kf)
def gP{M:Model}{A:Around}{E:Vq}{i:Nat}{x:Str}{v:V}{u:Value}{Q:Unit->Shared->Prop}(I:Inv X pins σ H s)(hN:X.N.Nodup)(hi:X.N[i]?=some x)(hx:wG X.env.scope x)(r:RelV v u)
  (h:∀s',Inv X pins (σ.set i (some v)) H s'->Q () s') (hf:X.fn x=true\/X.env.scope.names.lookup x=some .local:=by first|exact .inl rfl|exact .inr rfl|assumption):wpAny M A (storeName X.env x u) Q E s:=
 j9 I hN hi hx r (fun s' I' _=>h s' I') hf
def Inv.Jo{s':Shared}{ch:List Addr}(I:Inv X pins σ H s)(ho:s'.os=s.os)(u:Un (frs X.stack) ch H H' s.heap s'.heap)(hok:FL X.prog X.w H' s'.heap)(hg:AllBare s'.gens)
  (hch:∀b∈ch,(b∈X.ex\/X.s₀.heap.objs.size<=b)/\b≠X.env.locals/\(∀x c,X.env.cells.lookup x=some c->c≠b)/\∀p∈X.pn++pins,p.1≠b):Inv X pins σ H' s':=by
 obtain⟨h',g',d',t',o'⟩:=s'
 have e:o'=s.os:=ho
 subst e
 exact I.call (g':=g') (t':=t') (d':=d') u hok hg hch
end
abbrev XK:=Value->Option Addr->Hp->Prop
abbrev St:=List (Option V)
abbrev VK:=V->Hp->Prop
abbrev TE:=St->Hp->VK->Prop
abbrev TT:=St->Hp->(Bool->Hp->Prop)->Prop
abbrev TA:=St->Hp->(List V->Hp->Prop)->Prop
structure kL where
 nx:St->Hp->Prop
 rt:VK
 bk:St->Hp->Prop:=fun _ _=>False
 ct:St->Hp->Prop:=fun _ _=>False
abbrev TS:=kL->St->Hp->Prop
def EP(X:Cx)(pins:Va)(σ:St)(Q:VK)(u:Value)(s':Shared):Prop:=∃v H',Inv X pins σ H' s'/\RelV v u/\Q v H'
def TP(X:Cx)(pins:Va)(σ:St)(Q:Bool->Hp->Prop)(b:Bool)(s':Shared):Prop:=∃H',Inv X pins σ H' s'/\Q b H'
def AP(X:Cx)(pins:Va)(σ:St)(Q:List V->Hp->Prop)(us:Vv)(s':Shared):Prop:=∃vs H',Inv X pins σ H' s'/\Vals vs us/\Q vs H'
def SP(X:Cx)(pins:Va)(D:kL)(f:Flow)(s':Shared):Prop:=
 match f with
 | .next=>∃σ' H',Inv X pins σ' H' s'/\D.nx σ' H'
 | .brk=>∃σ' H',Inv X pins σ' H' s'/\D.bk σ' H'
 | .cont=>∃σ' H',Inv X pins σ' H' s'/\D.ct σ' H'
 | .ret u=>∃v σ' H',Inv X pins σ' H' s'/\RelV v u/\D.rt v H'
def PE(X:Cx)(e:Expr)(t:TE):Prop:=
 ∀(pins:Va) (s:Shared) (σ:St) (H:Hp) (Q:VK),Inv X pins σ H s->t σ H Q->wpAny (model X.prog X.w) X.A (eval e X.env) (EP X pins σ Q) X.xe s
def PT(X:Cx)(e:Expr)(t:TT):Prop:=
 ∀(pins:Va) (s:Shared) (σ:St) (H:Hp) (Q:Bool->Hp->Prop),Inv X pins σ H s->t σ H Q->wpAny (model X.prog X.w) X.A (isTrue e X.env (eval e X.env)) (TP X pins σ Q) X.xe s
def PW(X:Cx)(e:Expr)(t:TT):Prop:=
 ∀(whole:Sem Value) (pins:Va) (s:Shared) (σ:St) (H:Hp) (Q:Bool->Hp->Prop),Inv X pins σ H s->t σ H Q->wpAny (model X.prog X.w) X.A (isTrue e X.env whole) (TP X pins σ Q) X.xe s
def PW.pt{X:Cx}{e:Expr}{t:TT}(h:PW X e t):PT X e t:=h _
def PA(X:Cx)(es:List Expr)(t:TA):Prop:=
 ∀(pos:Pos) (pins:Va) (s:Shared) (σ:St) (H:Hp) (Q:List V->Hp->Prop),Inv X pins σ H s->t σ H Q->wpAny (model X.prog X.w) X.A (spliced (backTo pos (starEach es X.env))) (AP X pins σ Q) X.xe s
def PS(X:Cx)(st:Stmt)(t:TS):Prop:=
 ∀(pins:Va) (s:Shared) (σ:St) (H:Hp) (D:kL),Inv X pins σ H s->t D σ H->wpAny (model X.prog X.w) X.A (exec st X.env) (SP X pins D) X.xe s
def GV(X:Cx)(st:List Stmt)(t:TS):Prop:=
 ∀(pins:Va) (s:Shared) (σ:St) (H:Hp) (D:kL),Inv X pins σ H s->t D σ H->wpAny (model X.prog X.w) X.A (execs st X.env) (SP X pins D) X.xe s
def bA{α:Type}{t:Sem α}{Q Q':α->Shared->Prop}{M:Model}{A:Around}{E:Vq}{s:Shared}(h:wpAny M A t Q E s)(hQ:∀a s,Q a s->Q' a s):wpAny M A t Q' E s:=wpAny_mono h hQ fun _ _ x=>x
section
variable {X:Cx}
def Cd(i:Nat):TE:=fun σ H Q=>∃v,σ[i]?=some (some v)/\Q v H
def tC(v:V):TE:=fun _ H Q=>Q v H
def xD{i:Nat}{x:Str}{pos:Pos}(hN:X.N[i]?=some x)(hv:BQ X.env.scope x)(hd:(x == ("__debug__":Str))=false:=by decide)(hcd:(x == ("__classdict__":Str))=false:=by decide):PE X (.Name x pos) (Cd i):=by
 intro pins s σ H Q I h
 obtain⟨v,e,h⟩:=h
 obtain⟨m,hn,hl⟩:=I.loc
 obtain⟨u,r,l⟩:=hl i x v hN e hv
 have fin:EP X pins σ Q u s:=⟨v,H,I,r,h⟩
 rcases l with⟨hk,hm⟩|⟨hk,c,hc,hcell⟩
 ·exact wpAny_Name (wpAny_loadName_local I.ok.kind hk hn hm fin) hd
 ·rcases hk with hk|hk
  ·exact wpAny_Name (wpAny_loadName_cell I.ok.kind hk hc hcell fin) hd
  ·exact wpAny_Name (wpAny_loadName_free I.ok.kind hk hc hcell fin hcd) hd
def xE{i j pos}:PE X (.Constant (.int i) j pos) (tC (.int i)):=fun _ _ _ H _ I h=>wpAny_Constant_int ⟨.int i,H,I.tok _,⟨_,rfl⟩,h⟩
def Af{b j pos}:PE X (.Constant (.bool b) j pos) (tC (.bl b)):=fun _ _ _ H _ I h=>Constant_bool ⟨.bl b,H,I,rfl,h⟩
def xF{j pos}:PE X (.Constant .none j pos) (tC .non):=fun _ _ _ H _ I h=>Constant_none ⟨.non,H,I,rfl,h⟩
def xG{x j pos}:PE X (.Constant (.str x) j pos) (tC (.str x)):=fun _ _ _ H _ I h=>Calls.Constant_str ⟨.str x,H,I.tok _,⟨_,rfl⟩,h⟩
def Gl(X:Cx)(x:Str):Prop:=X.env.kindOf x=some .globalImplicit
def oB{E:Vq}{pins:Va}{s:Shared}{σ:St}{H:Hp}{x:Str}{u:Value}{pos:Pos}{Q:Vq}(I:Inv X pins σ H s)(hg:Gl X x)(hm:X.mg x=some u)(h:Q u s)
  (hd:(x == ("__debug__":Str))=false:=by decide):wpAny (model X.prog X.w) X.A (eval (.Name x pos) X.env) Q E s:=
 Calls.Name_function_global I.ok.kind hg (Calls.loadGlobal_global (by rw[I.ok.glob];exact I.mod.glob.keeps I.bk) hm h) hd
def dM{E:Vq}{pins:Va}{s:Shared}{σ:St}{H:Hp}{x:Str}{u:Value}{pos:Pos}{Q:Vq}(I:Inv X pins σ H s)(hg:Gl X x)(hm:X.mg x=none)(hv:bootBuiltins x=some u)(h:Q u s)
  (hn:x ≠ "__name__":=by decide) (hd:(x == ("__debug__":Str))=false:=by decide):wpAny (model X.prog X.w) X.A (eval (.Name x pos) X.env) Q E s:=by
 obtain⟨mb,h1,h2⟩:=I.mod.blt
 exact Calls.Name_function_global I.ok.kind hg (Calls.loadGlobal_builtin (by rw[I.ok.glob];exact I.mod.glob.keeps I.bk) hm (by rw[I.ok.blt];exact h1.keeps I.bk) ((h2 x hn).trans hv) h) hd
variable {a b:Expr} {ta tb:TE} {pos:Pos}
def tB(t:TE):TT:=fun σ H Q=>t σ H fun x H1=>∃c,x = .bl c/\Q c H1
def xH{e:Expr}{t:TE}(h:PE X e t)(he:∀whole,isTrue e X.env whole=(do let v <-whole;standAt e.pos;holding [v] (truthy v)):=by intro _;rfl):PT X e (tB t):=by
 intro pins s σ H Q I hw
 refine isTrue_plain (bA (h pins s σ H _ I hw) fun v s1 ⟨x,H1,I1,r1,q1⟩=>?_) (he _)
 obtain⟨d,rfl,q⟩:=q1
 cases r1
 exact wpAny_truthy_bool ⟨H1,I1,q⟩
variable {tA JN:TT} {rest:List Expr}
def Ce(t u:TT):TT:=fun σ H Q=>t σ H fun c H1=>if c=true then u σ H1 Q else Q false H1
def Dw(t u:TT):TT:=fun σ H Q=>t σ H fun c H1=>if c=true then Q true H1 else u σ H1 Q
def Cf(t:TT):TT:=fun σ H Q=>t σ H fun c H1=>Q (!c) H1
def uT(ha:PT X a tA):PW X (.BoolOp .And [a] pos) tA:=by
 intro wh pins s σ H Q I h
 refine isTrue_and (bA (ha pins s σ H Q I h) fun c s1 e=>?_)
 cases c with
 |true=>exact isTrue_and_nil e
 |false=>exact e
def xI(ha:PT X a tA):PW X (.BoolOp .Or [a] pos) tA:=by
 intro wh pins s σ H Q I h
 refine isTrue_or (bA (ha pins s σ H Q I h) fun c s1 e=>?_)
 cases c with
 |false=>exact isTrue_or_nil e
 |true=>exact e
def xJ(ha:PT X a tA)(hb:PW X (.BoolOp .And (b::rest) pos) JN):PW X (.BoolOp .And (a::b::rest) pos) (Ce tA JN):=by
 intro wh pins s σ H Q I h
 refine isTrue_and (bA (ha pins s σ H _ I h) fun c s1 ⟨H1,I1,q1⟩=>?_)
 cases c with
 |true=>exact hb wh pins s1 σ H1 Q I1 q1
 |false=>exact⟨H1,I1,q1⟩
def Ag(ha:PT X a tA)(hb:PW X (.BoolOp .Or (b::rest) pos) JN):PW X (.BoolOp .Or (a::b::rest) pos) (Dw tA JN):=by
 intro wh pins s σ H Q I h
 refine isTrue_or (bA (ha pins s σ H _ I h) fun c s1 ⟨H1,I1,q1⟩=>?_)
 cases c with
 |true=>exact⟨H1,I1,q1⟩
 |false=>exact hb wh pins s1 σ H1 Q I1 q1
def xK(ha:PT X a tA):PT X (.UnaryOp .Not a pos) (Cf tA):=by
 intro pins s σ H Q I h
 exact isTrue_not (ha pins s σ H (fun c H1=>Q (!c) H1) I h)
def Dx(t:TT)(ta tb:TE):TE:=fun σ H Q=>t σ H fun c H1=>if c=true then ta σ H1 Q else tb σ H1 Q
def rq{c:Expr}(hc:PT X c tA)(ha:PE X a ta)(hb:PE X b tb):PE X (.IfExp c a b pos) (Dx tA ta tb):=by
 intro pins s σ H Q I h
 refine wpAny_IfExp (bA (hc pins s σ H _ I h) fun d s1 ⟨H1,I1,q1⟩=>?_)
 cases d with
 |true=>exact ha pins s1 σ H1 Q I1 q1
 |false=>exact hb pins s1 σ H1 Q I1 q1
end
def SqL(K:Vo)(H:Hp)(a:Addr)(xs:List V):Prop:=
 Rd H a (.lst xs) \/
  ∃(o:Obj) (its:Vw) (n:Nat),K.lookup a=some o/\o.cls = .type "list"/\o.dict=none/\o.data = .seq its n/\its.size<=sizeLine/\Vals xs its.toList
def SqT(K:Vo)(H:Hp)(a:Addr)(xs:List V):Prop:=
 Rd H a (.tup xs) \/
  ∃(o:Obj) (its:Vw) (n:Nat),K.lookup a=some o/\o.cls = .type "tuple"/\o.dict=none/\o.data = .seq its n/\its.size<=sizeLine/\Vals xs its.toList
noncomputable def Cg:Value->Option V
 | .none=>some .non
 | .bool b=>some (.bl b)
 | .int i _=>some (.int i)
 | .str x _=>some (.str x)
 | .bytes b _=>some (.Hs b)
 | .float b _=>some (.JL b)
 | .ref a=>some (.ref a)
 | .type n=>some (.ty n)
 |_=>none
def RelV.abs{x:V}{u:Value}(r:RelV x u):Cg u=some x:=by
 cases x with
 |non=>cases r;rfl
 |bl _=>cases r;rfl
 |int _=>obtain⟨t,rfl⟩:=r;rfl
 |str _=>obtain⟨t,rfl⟩:=r;rfl
 |Hs _=>obtain⟨t,rfl⟩:=r;rfl
 |JL _=>obtain⟨t,rfl⟩:=r;rfl
 |ref _=>cases r;rfl
 |ty _=>cases r;rfl
theorem RelV.inj{x y:V}{u:Value}(r:RelV x u)(q:RelV y u):x=y:=Option.some.inj (r.abs.symm.trans q.abs)
theorem Vals.inj:∀{xs ys:List V} {us:Vv},Vals xs us->Vals ys us->xs=ys
 |_,_,_,.nil,.nil=>rfl
 |_,_,_,.cons r t,.cons r' t'=>by rw[r.inj r',Vals.inj t t']
section
variable {X:Cx} {pins:Va} {σ:St} {H:Hp} {s:Shared} {a:Addr} {xs ys:List V}
def SqL.of{K:Vo}(h:H a=some (.lst xs)):SqL K H a xs:=.inl (.inl h)
def SqT.of{K:Vo}(h:H a=some (.tup xs)):SqT K H a xs:=.inl (.inl h)
def Inv.list(I:Inv X pins σ H s)(h:SqL X.K H a xs):∃its:List Value,Vals xs its/\PlainL s.heap a its.toArray/\xs.length<=sizeLine:=by
 rcases h with h|⟨o,its,n,hk,hc,hd,hs,hz,r⟩
 ·obtain⟨z,its,n,r,e⟩:=h.ok I.hok
  exact⟨its,r,⟨_,n,e,rfl,rfl,rfl⟩,z⟩
 ·refine⟨its.toList,r,⟨o,n,I.G9 a o hk,hc,hd,by simpa using hs⟩,?_⟩
  have e:=r.length
  simp only[Array.length_toList]at e
  omega
def Inv.tuple(I:Inv X pins σ H s)(h:SqT X.K H a xs):∃its:List Value,Vals xs its/\IsTup s.heap a its.toArray/\xs.length<=sizeLine:=by
 rcases h with h|⟨o,its,n,hk,hc,_,hs,hz,r⟩
 ·obtain⟨z,its,r,p⟩:=h.ok I.hok
  exact⟨its,r,p.tup,z⟩
 ·refine⟨its.toList,r,⟨o,I.G9 a o hk,hc,n,by simpa using hs⟩,?_⟩
  have e:=r.length
  simp only[Array.length_toList]at e
  omega
def Inv.Gd(I:Inv X pins σ H s)(h:SqL X.K H a xs)(h':SqL X.K H a ys):xs=ys:=by
 obtain⟨its,r,⟨o,n,e,_,_,d⟩,_⟩:=I.list h
 obtain⟨its',r',⟨o',n',e',_,_,d'⟩,_⟩:=I.list h'
 rw[e]at e';cases e'
 rw[d]at d'
 injection d' with d1 _
 have:its=its':=by simpa using congrArg Array.toList d1
 subst this
 exact r.inj r'
def Inv.FW(I:Inv X pins σ H s)(h:SqT X.K H a xs)(h':SqT X.K H a ys):xs=ys:=by
 obtain⟨its,r,⟨o,e,_,n,d⟩,_⟩:=I.tuple h
 obtain⟨its',r',⟨o',e',_,n',d'⟩,_⟩:=I.tuple h'
 rw[e]at e';cases e'
 rw[d]at d'
 injection d' with d1 _
 have:its=its':=by simpa using congrArg Array.toList d1
 subst this
 exact r.inj r'
end
noncomputable abbrev Cx.wish(X:Cx)(E:Vq):Cx:={ X with xe:=E }
noncomputable abbrev Cx.Jp(X:Cx):Cx:=X.wish fun _ _=>False
theorem Cx.Ok.wish{X:Cx}(ok:X.Ok)(E:Vq):(X.wish E).Ok:=
 ⟨ok.mod,ok.kind,ok.glob,ok.blt,ok.above,ok.inj,ok.has,ok.Ja,ok.hd,ok.frames,ok.stk,ok.Kc,ok.bs,ok.HP,ok.Hg,ok.Hv,ok.FU,ok.Ik⟩
def Cx.Ok.Fv{X:Cx}{E:Vq}(ok:(X.wish E).Ok):X.Ok:=
 ⟨ok.mod,ok.kind,ok.glob,ok.blt,ok.above,ok.inj,ok.has,ok.Ja,ok.hd,ok.frames,ok.stk,ok.Kc,ok.bs,ok.HP,ok.Hg,ok.Hv,ok.FU,ok.Ik⟩
section
variable {X:Cx} {pins:Va} {σ:St} {H:Hp} {s:Shared} {E:Vq}
theorem Inv.wish(I:Inv X pins σ H s)(E:Vq):Inv (X.wish E) pins σ H s:=⟨I.ok.wish E,I.os,I.bare,I.base,I.loc,I.cell,I.free,I.Fu,I.pin,I.hok,I.len⟩
theorem Inv.Fv(I:Inv (X.wish E) pins σ H s):Inv X pins σ H s:=⟨I.ok.Fv,I.os,I.bare,I.base,I.loc,I.cell,I.free,I.Fu,I.pin,I.hok,I.len⟩
theorem SP.Fv{D:kL}{f:Flow}{s':Shared}(h:SP (X.wish E) pins D f s'):SP X pins D f s':=by
 cases f with
 |next=>obtain⟨σ',H',I,q⟩:=h;exact⟨σ',H',I.Fv,q⟩
 |brk=>obtain⟨σ',H',I,q⟩:=h;exact⟨σ',H',I.Fv,q⟩
 |cont=>obtain⟨σ',H',I,q⟩:=h;exact⟨σ',H',I.Fv,q⟩
 |ret u=>obtain⟨v,σ',H',I,r,q⟩:=h;exact⟨v,σ',H',I.Fv,r,q⟩
theorem GV.Jp{st:List Stmt}{t:TS}(h:GV X.Jp st t):GV X st t:=fun pins s σ H D I hw=>
 wpAny_mono (h pins s σ H D (I.wish _) hw) (fun _ _ q=>q.Fv) fun _ _ z=>False.elim z
end
section
variable {X:Cx} {st:Stmt} {rest:List Stmt} {t u:TS} {e:Expr} {te:TE} {pos:Pos}
def Ah:TS:=fun D σ H=>D.nx σ H
def Ch(t u:TS):TS:=fun D σ H=>t { D with nx:=u D } σ H
def uU:GV X [] Ah:=fun _ _ σ H _ I h=>wpAny_execs_nil ⟨σ,H,I,h⟩
def rA(h1:PS X st t)(h2:GV X rest u):GV X (st::rest) (Ch t u):=by
 intro pins s σ H D I h
 refine wpAny_execs_cons (bA (h1 pins s σ H { D with nx:=u D } I h) fun f s1 q=>?_)
 cases f with
 |next=>
  obtain⟨σ',H',I',q⟩:=q
  exact h2 pins s1 σ' H' D I' q
 |ret v=>exact q
 |brk=>exact q
 |cont=>exact q
def uV(h1:PS X st t):GV X [st] t:=by
 intro pins s σ H D I h
 refine wpAny_execs_cons (bA (h1 pins s σ H D I h) fun f s1 q=>?_)
 cases f with
 |next=>exact wpAny_execs_nil q
 |ret v=>exact q
 |brk=>exact q
 |cont=>exact q
def Inv.quiet{pins:Va}{σ:St}{H:Hp}{s:Shared}(I:Inv X pins σ H s):interactive X.env=false:=by simp[interactive,I.ok.kind]
def Ai(te:TE):TS:=fun D σ H=>te σ H fun _ H1=>D.nx σ H1
def uW(he:PE X e te)(hs:swapsWith e none pos.line X.env=pure false:=by rfl):PS X (.Expr e pos) (Ai te):=by
 intro pins s σ H D I h
 exact wpAny_Expr_any (bA (he pins s σ H _ I h) fun v s1 ⟨x,H1,I1,r1,q1⟩=>⟨σ,H1,I1,q1⟩) I.quiet hs
def Ci(te:TE):TS:=fun D σ H=>te σ H D.rt
def xL(he:PE X e te):PS X (.Return (some e) pos) (Ci te):=by
 intro pins s σ H D I h
 exact wpAny_Return_some (bA (he pins s σ H _ I h) fun v s1 ⟨x,H1,I1,r1,q1⟩=>⟨x,σ,H1,I1,r1,q1⟩)
def Cj(c:TT)(t u:TS):TS:=fun D σ H=>c σ H fun b H1=>if b=true then t D σ H1 else u D σ H1
def Aj{c:Expr}{a b:List Stmt}{tc:TT}(hc:PT X c tc)(ha:GV X a t)(hb:GV X b u):PS X (.If c a b pos) (Cj tc t u):=by
 intro pins s σ H D I h
 refine wpAny_If (bA (hc pins s σ H _ I h) fun d s1 ⟨H1,I1,q1⟩=>?_)
 cases d with
 |true=>exact ha pins s1 σ H1 D I1 q1
 |false=>exact hb pins s1 σ H1 D I1 q1
end
abbrev TG:=V->St->Hp->(St->Hp->Prop)->Prop
abbrev wH:=List V->St->Hp->(St->Hp->Prop)->Prop
def PG(X:Cx)(target:Expr)(t:TG):Prop:=
 ∀(pins:Va) (s:Shared) (σ:St) (H:Hp) (v:V) (u:Value) (Q:St->Hp->Prop),Inv X pins σ H s->RelV v u->t v σ H Q->
  wpAny (model X.prog X.w) X.A (assign target X.env u) (fun _ s'=>∃σ' H',Inv X pins σ' H' s'/\Q σ' H') X.xe s
def Ak(X:Cx)(ts:List Expr)(t:wH):Prop:=
 ∀(pins:Va) (s:Shared) (σ:St) (H:Hp) (vs:List V) (us:Vv) (Q:St->Hp->Prop),Inv X pins σ H s->Vals vs us->t vs σ H Q->
  wpAny (model X.prog X.w) X.A (assignInOrder ((assignEach ts X.env).map (·.2)) us) (fun _ s'=>∃σ' H',Inv X pins σ' H' s'/\Q σ' H') X.xe s
abbrev xM:=V->V->V->Hp->(Hp->Prop)->Prop
def uX(X:Cx)(t:xM):Prop:=
 ∀(pins:Va) (s:Shared) (σ:St) (H:Hp) (o i v:V) (ov iv u:Value) (Q:Hp->Prop),Inv X pins σ H s->RelV o ov->RelV i iv->RelV v u->t o i v H Q->
  wpAny (model X.prog X.w) X.A (setItem ov iv u) (fun _ s'=>∃H',Inv X pins σ H' s'/\Q H') X.xe s
section
variable {X:Cx} {pos:Pos}
def lR(i:Nat):TG:=fun v σ H Q=>Q (σ.set i (some v)) H
def uY{i:Nat}{x:Str}(hN:X.N.Nodup)(hi:X.N[i]?=some x)(hx:wG X.env.scope x)(hf:X.fn x=true\/X.env.scope.names.lookup x=some .local:=by first|exact .inl rfl|exact .inr rfl|assumption):PG X (.Name x pos) (lR i):=by
 intro pins s σ H v u Q I r h
 exact wpAny_assign_Name (gP I hN hi hx r (fun s' I'=>⟨_,H,I',h⟩) hf)
noncomputable def Al:wH:=fun vs σ H Q=>vs=[]/\Q σ H
noncomputable def wI(t:TG)(u:wH):wH:=fun vs σ H Q=>∃v r,vs=v::r/\t v σ H fun σ' H'=>u r σ' H' Q
def uZ:Ak X [] Al:=by
 intro pins s σ H vs us Q I r h
 obtain⟨e,h⟩:=h
 subst e
 cases r
 exact assignInOrder_nil ⟨σ,H,I,h⟩
def rB{e:Expr}{es:List Expr}{t:TG}{u:wH}(h1:PG X e t)(h2:Ak X es u)
  (hs:(assignEach (e::es) X.env).map (·.2)=assign e X.env::(assignEach es X.env).map (·.2):=by rfl):Ak X (e::es) (wI t u):=by
 intro pins s σ H vs us Q I r h
 obtain⟨v,vr,e1,h⟩:=h
 subst e1
 cases r with
 |cons r rr=>
  rw[hs]
  refine assignInOrder_cons (bA (h1 pins s σ H _ _ _ I r h) fun _ s1 ⟨σ1,H1,I1,q1⟩=>?_)
  exact h2 pins s1 σ1 H1 _ _ Q I1 rr q1
def Am(K:Vo)(n:Nat)(t:wH):TG:=fun v σ H Q=>∃a xs,v = .ref a/\SqT K H a xs/\xs.length=n/\t xs σ H Q
def xN{es:List Expr}{k:Nat}{t:wH}{n:Nat}(hc:X.calm=true)(h:Ak X es t)
  (hn:(assignEach es X.env).length=n:=by rfl) (hst:(assignEach es X.env).findIdx? (·.1)=none:=by rfl):PG X (.Tuple es k pos) (Am X.K n t):=by
 intro pins s σ H v u Q I r hw
 obtain⟨a,xs,e1,hq,hl,hw⟩:=hw
 subst e1
 cases r
 obtain⟨its,rv,ht,hz⟩:=I.tuple hq
 refine assign_Tuple_tuple (I.ok.hd hc) ht (by simp[hn,<-hl,rv.length]) hst fun h' hx=>?_
 have I1:Inv X pins σ H { s with heap:=h' }:=I.kept (t':=s.toks) fun b o e=>hx b o (Nat.ne_of_lt (Heap.lt_size e)) e
 exact h pins _ σ H xs _ Q I1 (by simpa using rv) hw
def Ck(to ti:TE)(t:xM):TG:=fun v σ H Q=>to σ H fun o H1=>ti σ H1 fun i H2=>t o i v H2 fun H3=>Q σ H3
def xO{o i:Expr}{to ti:TE}{t:xM}(ho:PE X o to)(hi:PE X i ti)(hs:uX X t)
  (ha:∀v,assign (.Subscript o i pos) X.env v=(do
   let ov <-holding [v] (eval o X.env)
   let iv <-holding [v,ov] (eval i X.env)
   standAt pos
   holding [v,ov,iv] (setItem ov iv v)
   release [v,ov,iv] []):=by intro _;rfl):PG X (.Subscript o i pos) (Ck to ti t):=by
 intro pins s σ H v u Q I r h
 rw[ha]
 refine wpAny_bind (wpAny_holding (bA (ho pins s σ H _ I h) fun ov s1 ⟨x,H1,I1,r1,q1⟩=>?_))
 refine wpAny_bind (wpAny_holding (bA (hi pins s1 σ H1 _ I1 q1) fun iv s2 ⟨y,H2,I2,r2,q2⟩=>?_))
 refine wpAny_bind (wpAny_standAt (wpAny_bind (wpAny_holding (bA (hs pins s2 σ H2 x y v ov iv u _ I2 r1 r2 r q2) fun _ s3 ⟨H3,I3,q3⟩=>?_))))
 exact wpAny_release ⟨σ,H3,I3,q3⟩
def u3(te:TE)(g:TG):TS:=fun D σ H=>te σ H fun x H1=>g x σ H1 D.nx
def rC{tg e:Expr}{te:TE}{g:TG}(he:PE X e te)(hg:PG X tg g)(hs:swapsWithSole [tg] e pos.line X.env=pure false:=by rfl)(hw:swappedStores [tg] e X.env=pure none:=by rfl)
  (h1:(assignEach [tg] X.env).map (·.2)=[assign tg X.env]:=by rfl):PS X (.Assign [tg] e pos) (u3 te g):=by
 intro pins s σ H D I h
 refine wpAny_Assign_stores (bA (he pins s σ H _ I h) fun v s1 ⟨x,H1,I1,r1,q1⟩=>?_) hs hw
 rw[h1]
 exact bA (hg pins s1 σ H1 x v _ I1 r1 q1) fun _ s2 q=>q
def xP{i:Nat}{x:Str}{e:Expr}{te:TE}{pos':Pos}(hN:X.N.Nodup)(hi:X.N[i]?=some x)(hx:wG X.env.scope x)(he:PE X e te)(hs:swapsWith e (some (.Name x pos')) pos.line X.env=pure false:=by rfl)(hf:X.fn x=true\/X.env.scope.names.lookup x=some .local:=by first|exact .inl rfl|exact .inr rfl|assumption) :
  PS X (.Assign [.Name x pos'] e pos) (u3 te (lR i)):=by
 intro pins s σ H D I h
 refine wpAny_Assign_Name (bA (he pins s σ H _ I h) fun v s1 ⟨y,H1,I1,r1,q1⟩=>?_) hs
 exact gP I1 hN hi hx r1 (fun s2 I2=>⟨_,H1,I2,q1⟩) hf
def Cm(i j:Nat)(ta:TA):TS:=fun D σ H=>ta σ H fun vs H1=>∃v w,vs=[v,w]/\D.nx ((σ.set i (some v)).set j (some w)) H1
def xQ{i j:Nat}{x y:Str}{a b:Expr}{ta:TA}{px py pt:Pos}{kt k2 IC}(hc:X.calm=true)(hN:X.N.Nodup)(hi:X.N[i]?=some x)(hj:X.N[j]?=some y)(hij:i≠j)
  (hx:X.env.scope.names.lookup x=some .local) (hy:X.env.scope.names.lookup y=some .local) (ha:PA X [a,b] ta)
  (hw:swappedStores [.Tuple [.Name x px,.Name y py] kt pt] (.Tuple [a,b] k2 IC) X.env=pure (some [x,y]))
  (hs:swapsWithSole [.Tuple [.Name x px,.Name y py] kt pt] (.Tuple [a,b] k2 IC) pos.line X.env=pure false:=by rfl) :
  PS X (.Assign [.Tuple [.Name x px,.Name y py] kt pt] (.Tuple [a,b] k2 IC) pos) (Cm i j ta):=by
 intro pins s σ H D I h
 rw[exec_Assign_arm]
 refine wpAny_bind (wpAny_standAt ?_)
 rw[hs]
 refine wpAny_bind (wpAny_pure ?_)
 rw[if_neg (by decide)]
 refine wpAny_bind (Tuple_ (bA (ha _ pins s σ H _ I h) fun us s1 ⟨vs,H1,I1,r1,q1⟩=>?_))
 obtain⟨v,w,e1,q1⟩:=q1
 subst e1
 obtain⟨u1,u2,rfl,rv,rw'⟩:∃u1 u2,us=[u1,u2]/\RelV v u1/\RelV w u2:=by
  cases r1 with
  |cons p q=>
   cases q with
   |cons p' q'=>
    cases q'
    exact⟨_,_,rfl,p,p'⟩
 refine wpAny_newObj_type ?_ (by show 2<=sizeLine;decide)
 have I2:Inv X pins σ H1 { s1 with heap:=s1.heap.push { cls:=.type "tuple",data:=.seq [u1,u2].toArray } }:=I1.kept (t':=s1.toks) fun b o e=>Heap.get?_push_of_some _ e
 rw[hw]
 refine wpAny_bind (wpAny_pure ?_)
 show wpAny (model X.prog X.w) X.A (do rule "assign.swapped-stores"; let items <-unpackItems (.ref s1.heap.objs.size) 2 none;assignInOrder [fun v=>bindName X.env y v,fun v=>bindName X.env x v] items.reverse;pure Flow.next) _ _ _
 refine wpAny_bind (wpAny_rule (wpAny_bind (unpackItems_tuple (items:=#[u1,u2]) (I.ok.hd hc) (IsTup.new s1.heap _) fun h' hx'=>?_)))
 have I3:=I2.kept (h':=h') (t':=s1.toks) fun b o e=>hx' b o (Nat.ne_of_lt (Heap.lt_size e)) e
 show wpAny _ _ (assignInOrder [fun v=>bindName X.env y v,fun v=>bindName X.env x v] [u2,u1] >>= fun _=>pure Flow.next) _ _ _
 refine wpAny_bind (assignInOrder_cons (wpAny_bindName (gP I3 hN hj (.inl hy) rw' (fun s2 I4=>?_) (.inr hy))))
 refine assignInOrder_cons (wpAny_bindName (gP I4 hN hi (.inl hx) rv (fun s3 I5=>assignInOrder_nil (wpAny_pure ?_)) (.inr hx)))
 rw[List.set_comm _ _ (Ne.symm hij)]at I5
 exact⟨_,H1,I5,q1⟩
end
section
variable {X:Cx} {pos:Pos}
def xR(c:TT)(tb:TS):TS:=fun D σ H=>∃W:Nat->St->Hp->Prop,(∃m,W m σ H)/\∀m σ H,W m σ H->
 c σ H fun b H1=>if b=true then ∃N:St->Hp->Prop,(∀σ' H',N σ' H'->∃m',m' < m/\W m' σ' H')/\tb { D with nx:=N,ct:=N,bk:=D.nx } σ H1 else D.nx σ H1
def rD{c:Expr}{body:List Stmt}{tc:TT}{tb:TS}(hp:PassesOwn (model X.prog X.w) X.A X.env X.xe)(hc:PT X c tc)(hb:GV X body tb):PS X (.While c body [] pos) (xR tc tb):=by
 intro pins s σ H D I h
 obtain⟨W,⟨m0,w0⟩,turn⟩:=h
 refine wpAny_While (codeAny_whileLoop (fun n s'=>∃σ' H',Inv X pins σ' H' s'/\W n σ' H') ?_ m0 ⟨σ,H,I,w0⟩)
 rintro n s1 ⟨σ1,H1,I1,w1⟩
 refine wpAny_passesOwn hp (bA (hc pins s1 σ1 H1 _ I1 (turn n σ1 H1 w1)) fun b s2 ⟨H2,I2,q2⟩=>?_)
 cases b with
 |true=>
  obtain⟨N,hN,q2⟩:=q2
  rw[if_pos rfl]
  refine wpAny_passesOwn hp (bA (hb pins s2 σ1 H2 _ I2 q2) fun f s3 q3=>?_)
  cases f with
  |next=>
   obtain⟨σ3,H3,I3,n3⟩:=q3
   obtain⟨m',hm,w3⟩:=hN σ3 H3 n3
   exact⟨m',hm,σ3,H3,I3,w3⟩
  |cont=>
   obtain⟨σ3,H3,I3,n3⟩:=q3
   obtain⟨m',hm,w3⟩:=hN σ3 H3 n3
   exact⟨m',hm,σ3,H3,I3,w3⟩
  |brk=>exact q3
  |ret v=>exact q3
 |false=>
  rw[if_neg Bool.false_ne_true]
  exact wpAny_execs_nil ⟨σ1,H2,I2,q2⟩
end
structure It where
 go:Nat->Hp->Prop
 JO:Nat->Hp->V->Hp->Prop
 stop:Nat->Hp->Prop
def e8(X:Cx)(pins:Va)(H:Hp)(b:Addr):Prop:=
 H b=none/\b≠X.env.locals/\b ∉ X.fs/\(b∈X.ex\/X.s₀.heap.objs.size<=b)/\(∀x c,X.env.cells.lookup x=some c->c≠b)/\∀p∈X.pn++pins,p.1≠b
def Inv.F8{X:Cx}{pins:Va}{σ:St}{H H':Hp}{s:Shared}{b:Addr}(I:Inv X pins σ H s)(hb:s.heap.objs.size<=b)(hn:H' b=none):e8 X pins H' b:=by
 refine⟨hn,Nat.ne_of_gt (Nat.lt_of_lt_of_le I.lt hb),I.Jl hb,.inr (Nat.le_trans I.sz hb),fun x c e z=>?_,fun p hp z=>?_⟩
 ·obtain⟨v,q⟩:=I.cell x c e
  exact absurd (Nat.lt_of_lt_of_le q.lt (by rw[z];exact hb)) (Nat.lt_irrefl _)
 ·exact absurd (Nat.lt_of_lt_of_le (Heap.lt_size (I.pin p hp).1) (by rw[z];exact hb)) (Nat.lt_irrefl _)
structure kM (P:Program) (w:World) (K:Vo) (tg:Expr) (J:It) (fp:List Addr) (it:Addr) (tn:Nat->Heap->Prop):Prop where
 mem:it∈fp
 obj:∀i h,tn i h->∀b∈fp,∃o,h.get? b=some o/\∀v,o.data ≠ .cell v
 keep:∀i h h',tn i h->(∀b∈fp,∀o,h.get? b=some o->h'.get? b=some o)->tn i h'
 item:∀(X:Cx),X.prog=P->X.w=w->X.K=K->X.calm=true->∀(i:Nat) (pins:Va) (s:Shared) (σ:St) (H:Hp) (E:Vq),Inv X pins σ H s->(∀b∈fp,e8 X pins H b)->tn i s.heap->J.go i H->
  wpAny (model P w) X.A (pyNext (.ref it)) (fun r s1=>∃u,r=some u/\
   wpAny (model P w) X.A (letOwnedTupleGo tg (.ref it) u) (fun _ s2=>∃x H',Inv X pins σ H' s2/\RelV x u/\J.JO i H x H'/\tn (i+1) s2.heap/\∀b∈fp,H' b=none) E s1) E s
 done:∀(X:Cx),X.prog=P->X.w=w->X.K=K->X.calm=true->∀(i:Nat) (pins:Va) (s:Shared) (σ:St) (H:Hp) (E:Vq),Inv X pins σ H s->(∀b∈fp,e8 X pins H b)->tn i s.heap->J.stop i H->
  wpAny (model P w) X.A (pyNext (.ref it)) (fun r s1=>r=none/\Inv X pins σ H s1) E s
 self:∀(A:Around) (i:Nat) (s:Shared) (Q:Vq) (E:Vq),tn i s.heap->Q (.ref it) s->wpAny (model P w) A (pyIter (.ref it)) Q E s
abbrev TI:=St->Hp->(It->Hp->Prop)->Prop
def Co(X:Cx)(pins:Va)(σ:St)(tg:Expr)(R:It->Hp->Prop)(itv:Value)(s2:Shared):Prop:=
 ∃(it:Addr) (fp:List Addr) (tn:Nat->Heap->Prop) (J:It) (H':Hp),itv = .ref it/\Inv X pins σ H' s2/\kM X.prog X.w X.K tg J fp it tn/\tn 0 s2.heap/\(∀b∈fp,e8 X pins H' b)/\R J H'
def PI(X:Cx)(tg iter:Expr)(wi:TI):Prop:=
 ∀(pins:Va) (s:Shared) (σ:St) (H:Hp) (R:It->Hp->Prop),Inv X pins σ H s->wi σ H R->
  wpAny (model X.prog X.w) X.A (eval iter X.env) (fun v s1=>wpAny (model X.prog X.w) X.A (pyIter v) (Co X pins σ tg R) X.xe s1) X.xe s
def oC {M : Model} {A : Around} {E : Value -> Shared -> Prop} {s : Shared} {tg : Expr} {it : Addr} {u : Value} {o : Obj} {n : String} {vs : Array Value} {Q : Unit -> Shared -> Prop} (ho : s.heap.get? it = some o) (hc : o.cls = .type n) (hd : o.data = .fields vs)
    (hn : ["enumerate", "zip", "dict_itemiterator", "dict_reverseitemiterator", "odict_iterator", "itertools.zip_longest", "itertools.pairwise"].contains n = false) (hQ : Q () s) : wpAny M A (letOwnedTupleGo tg (.ref it) u) Q E s := by
  unfold letOwnedTupleGo
  cases tg <;> first
    | exact wpAny_pure hQ
    | (cases u <;> first
        | exact wpAny_pure hQ
        | (refine wpAny_bind (wpAny_load ho ?_)
           rw [hc, hd]
           show wpAny M A (if (["enumerate", "zip", "dict_itemiterator", "dict_reverseitemiterator", "odict_iterator", "itertools.zip_longest", "itertools.pairwise"].contains n && vs[0]? == some (rawInt _)) = true then _ else _) Q E s
           rw [if_neg (by intro h; rw [hn, Bool.false_and] at h; cases h)]
           exact wpAny_pure hQ))
noncomputable def BR(K:Vo)(a:Addr):It:=
 ⟨fun i H=>∃xs x,SqL K H a xs/\xs[i]?=some x,fun i H x H'=>H'=H/\∀xs,SqL K H a xs->xs[i]?=some x,fun i H=>∃xs,SqL K H a xs/\xs.length<=i⟩
noncomputable def Cq(K:Vo)(a:Addr):It:=
 ⟨fun i H=>∃xs x,SqT K H a xs/\xs[i]?=some x,fun i H x H'=>H'=H/\∀xs,SqT K H a xs->xs[i]?=some x,fun i H=>∃xs,SqT K H a xs/\xs.length<=i⟩
noncomputable def BS(lo:Int)(n:Nat):It:=⟨fun i _=>i < n,fun i H x H'=>H'=H/\x = .int (lo+i),fun i _=>n<=i⟩
def p_{P:Program}{w:World}{K:Vo}{tg:Expr}(a it:Addr):kM P w K tg (BR K a) [it] it (fun i h=>h.IsListIter it a i) where
 mem:=by simp
 obj:=fun i h st b hb=>by
  have e:b=it:=by simpa using hb
  subst e
  obtain⟨o,e,c,d⟩:=st
  exact⟨o,e,fun v z=>by rw[d]at z;cases z⟩
 keep:=fun i h h' st k=>st.at fun o e=>k it (by simp) o e
 item:=by
  intro X hP hw hK hc i pins s σ H E I hf st hg
  subst hP hw hK
  obtain⟨xs,x,hq,hx⟩:=hg
  obtain⟨its,rv,p,hz⟩:=I.list hq
  obtain⟨u,hu,ru⟩:=rv.get hx
  obtain⟨f0,f1,f2,f3,f4,f5⟩:=hf it (by simp)
  refine wpAny_pyNext_list_item st p.isList (x:=u) (by simpa using hu) fun h' st' sb=>?_
  have I1:Inv X pins σ H { s with heap:=h' }:=I.turned (t':=s.toks) (fun b o hb e=>(sb.2 b hb).trans e) f0 f1 f3 f4 f5
  obtain⟨o,e,c,d⟩:=id st'
  exact⟨u,rfl,oC (s:={ s with heap:=h' }) e c d (by decide) ⟨x,H,I1,ru,⟨rfl,fun ys hy=>by rw[I.Gd hy hq];exact hx⟩,st',fun b hb=>(hf b hb).1⟩⟩
 done:=by
  intro X hP hw hK hc i pins s σ H E I hf st hg
  subst hP hw hK
  obtain⟨xs,hq,hx⟩:=hg
  obtain⟨its,rv,p,hz⟩:=I.list hq
  obtain⟨f0,f1,f2,f3,f4,f5⟩:=hf it (by simp)
  have hl:=rv.length
  exact wpAny_pyNext_list_end (I.ok.hd hc) st p.isList (by simp;omega) fun h' eb=>⟨rfl,I.turned (t':=s.toks) (fun b o hb e=>eb b o hb e) f0 f1 f3 f4 f5⟩
 self:=fun _ _ _ _ _ st h=>wpAny_pyIter_listiter st h
def mT{P:Program}{w:World}{K:Vo}{tg:Expr}(a it:Addr):kM P w K tg (Cq K a) [it] it (fun i h=>h.IsTupleIter it a i) where
 mem:=by simp
 obj:=fun i h st b hb=>by
  have e:b=it:=by simpa using hb
  subst e
  obtain⟨o,e,c,d⟩:=st
  exact⟨o,e,fun v z=>by rw[d]at z;cases z⟩
 keep:=fun i h h' st k=>st.at fun o e=>k it (by simp) o e
 item:=by
  intro X hP hw hK hc i pins s σ H E I hf st hg
  subst hP hw hK
  obtain⟨xs,x,hq,hx⟩:=hg
  obtain⟨its,rv,p,hz⟩:=I.tuple hq
  obtain⟨u,hu,ru⟩:=rv.get hx
  obtain⟨f0,f1,f2,f3,f4,f5⟩:=hf it (by simp)
  refine wpAny_pyNext_tuple_item st (show s.heap.IsTuple a its.toArray from p) (x:=u) (by simpa using hu) fun h' st' sb=>?_
  have I1:Inv X pins σ H { s with heap:=h' }:=I.turned (t':=s.toks) (fun b o hb e=>(sb.2 b hb).trans e) f0 f1 f3 f4 f5
  obtain⟨o,e,c,d⟩:=id st'
  exact⟨u,rfl,oC (s:={ s with heap:=h' }) e c d (by decide) ⟨x,H,I1,ru,⟨rfl,fun ys hy=>by rw[I.FW hy hq];exact hx⟩,st',fun b hb=>(hf b hb).1⟩⟩
 done:=by
  intro X hP hw hK hc i pins s σ H E I hf st hg
  subst hP hw hK
  obtain⟨xs,hq,hx⟩:=hg
  obtain⟨its,rv,p,hz⟩:=I.tuple hq
  obtain⟨f0,f1,f2,f3,f4,f5⟩:=hf it (by simp)
  have hl:=rv.length
  exact wpAny_pyNext_tuple_end (I.ok.hd hc) st (show s.heap.IsTuple a its.toArray from p) (by simp;omega) fun h' eb=>⟨rfl,I.turned (t':=s.toks) (fun b o hb e=>eb b o hb e) f0 f1 f3 f4 f5⟩
 self:=fun _ _ _ _ _ st h=>wpAny_pyIter_tupleiter st h
def mU{P:Program}{w:World}{K:Vo}{tg:Expr}(it:Addr)(lo:Int)(n:Nat):kM P w K tg (BS lo n) [it] it (fun i h=>IsRangeIter h it (lo+(i:Nat) * 1) ((n:Int) - (i:Nat)) 1) where
 mem:=by simp
 obj:=fun i h st b hb=>by
  have e:b=it:=by simpa using hb
  subst e
  exact⟨_,st,fun v z=>by
   have z':Data.fields _=Data.cell v:=z
   cases z'⟩
 keep:=fun i h h' st k=>k it (by simp) _ st
 item:=by
  intro X hP hw hK hc i pins s σ H E I hf st hg
  subst hP hw hK
  obtain⟨f0,f1,f2,f3,f4,f5⟩:=hf it (by simp)
  have W:=Walks.range (prog:=X.prog) (w:=X.w) (I.ok.hd hc) it lo 1 n
  refine W.item i s _ _ hg st fun v h' tk hv st' kk=>?_
  obtain⟨t,rfl⟩:=hv
  have I1:Inv X pins σ H { s with heap:=h',toks:=tk }:=I.turned (fun b o hb e=>kk b o (by simpa using hb) e) f0 f1 f3 f4 f5
  refine⟨_,rfl,oC (s:={ s with heap:=h',toks:=tk }) (n:="range_iterator") st' rfl rfl (by decide) ⟨.int (lo+i),H,I1,⟨t,?_⟩,⟨rfl,rfl⟩,st',fun b hb=>(hf b hb).1⟩⟩
  rw[Int.mul_one]
 done:=by
  intro X hP hw hK hc i pins s σ H E I hf st hg
  subst hP hw hK
  obtain⟨f0,f1,f2,f3,f4,f5⟩:=hf it (by simp)
  exact wpAny_pyNext_range_end (I.ok.hd hc) st (by have:n<=i:=hg;omega) fun h' eb=>⟨rfl,I.turned (t':=s.toks) (fun b o hb e=>eb b o hb e) f0 f1 f3 f4 f5⟩
 self:=fun _ _ _ _ _ st h=>wpAny_pyIter_rangeiter st h
section
variable {X:Cx} {tg:Expr}
def rE{pins:Va}{σ:St}{H:Hp}{s:Shared}{R:It->Hp->Prop}{E:Vq}{lo hi:Int}{t u v:Tok}{tk:Nat}(I:Inv X pins σ H s)(h1:-(2 ^ 62)<=lo)(h2:lo < 2 ^ 62)(h3:-(2 ^ 62)<=hi)(h4:hi < 2 ^ 62)
  (q:R (BS lo (hi - lo).toNat) H):wpAny (model X.prog X.w) X.A (pyIter (.ref s.heap.objs.size)) (Co X pins σ tg R) E { s with heap:=s.heap.push { cls:=.type "range",data:=.fields #[.int lo t,.int hi u,.int 1 v] },toks:=tk }:=by
 refine wpAny_pyIter_range (IsRange.new ..) (small_one h1 h2 h3 h4) ?_
 have I1:Inv X pins σ H { s with heap:=s.heap.push { cls:=.type "range",data:=.fields #[.int lo t,.int hi u,.int 1 v] },toks:=tk }:=I.kept fun b o e=>Heap.get?_push_of_some _ e
 refine⟨(s.heap.push { cls:=.type "range",data:=.fields #[.int lo t,.int hi u,.int 1 v] }).objs.size,[(s.heap.push { cls:=.type "range",data:=.fields #[.int lo t,.int hi u,.int 1 v] }).objs.size],_,_,H,rfl,
  I1.kept (t':=tk) fun b o e=>Heap.get?_push_of_some _ e,mU _ lo (hi - lo).toNat,?_,fun b hb=>?_,q⟩
 ·have e1:lo+((0:Nat):Int) * 1=lo:=by simp
  have e2:(((hi - lo).toNat:Nat):Int) - ((0:Nat):Int)=Builtin.Range.rangeSize lo hi 1:=by rw[rangeSize_one];split<;>omega
  show IsRangeIter _ _ (lo+((0:Nat):Int) * 1) ((((hi - lo).toNat:Nat):Int) - ((0:Nat):Int)) 1
  rw[e1,e2]
  exact Heap.get?_push_size _ rfl
 ·have e:b=(s.heap.push { cls:=.type "range",data:=.fields #[.int lo t,.int hi u,.int 1 v] }).objs.size:=by simpa using hb
  subst e
  exact I1.F8 (Nat.le_refl _) (I1.hok.fresh (Nat.le_refl _))
def An(ta:TA):TI:=fun σ H R=>ta σ H fun vs H1=>∃j:Int,vs=[.int j]/\-(2 ^ 62)<=j/\j < 2 ^ 62/\R (BS 0 j.toNat) H1
def qc{a:Expr}{ta:TA}{p pos:Pos}(hg:Gl X "range")(hm:X.mg "range" = none)(ha:PA X [a] ta)(hs:starEach [a] X.env=[(false,eval a X.env)]:=by rfl):PI X tg (.Call (.Name "range" p) [a] [] pos) (An ta):=by
 intro pins s σ H R I h
 refine Call_ (dM I hg hm boot_range (PyProof.Rows.callWith_type1 (bA (ha pos pins s σ H _ I h) fun us s1 ⟨vs,H1,I1,r1,q1⟩=>?_) hs rfl))
 obtain⟨j,e,q1,q2,q⟩:=q1
 subst e
 cases r1 with
 |cons r rr=>
  cases rr
  obtain⟨t,rfl⟩:=r
  exact call_range_1 (rE I1 (by omega) (by omega) q1 q2 (by simpa using q))
def Cr(wi:TI)(g:TG)(tb:TS):TS:=fun D σ H=>wi σ H fun J H1=>∃W:Nat->Nat->St->Hp->Prop,(∃m,W 0 m σ H1)/\∀i m σ H,W i m σ H->
 (J.stop i H/\D.nx σ H)\/(J.go i H/\∃N:St->Hp->Prop,(∀σ' H',N σ' H'->∃m',m' < m/\W (i+1) m' σ' H')/\∀x H',J.JO i H x H'->g x σ H' fun σ2 H2=>tb { D with nx:=N,ct:=N,bk:=D.nx } σ2 H2)
noncomputable def jj(fp:List Addr)(h:Heap):List (Addr×Obj):=fp.filterMap fun b=>(h.get? b).map fun o=>(b,o)
def gk{fp:List Addr}{h:Heap}{b:Addr}{o:Obj}(hb:b∈fp)(e:h.get? b=some o):(b,o)∈jj fp h:=List.mem_filterMap.mpr ⟨b,hb,by rw[e];rfl⟩
def qd{fp:List Addr}{h:Heap}{p:Addr×Obj}(hp:p∈jj fp h):p.1∈fp/\h.get? p.1=some p.2:=by
 obtain⟨b,hb,e⟩:=List.mem_filterMap.mp hp
 cases q:h.get? b with
 |none=>rw[q]at e;cases e
 |some o=>
  rw[q]at e
  have e':(b,o)=p:=Option.some.inj e
  subst e'
  exact⟨hb,q⟩
def Inv.pinned{pins:Va}{σ:St}{H:Hp}{s:Shared}{fp:List Addr}(I:Inv X pins σ H s)(hf:∀b∈fp,e8 X pins H b)(ho:∀b∈fp,∃o,s.heap.get? b=some o/\∀v,o.data ≠ .cell v):Inv X (pins++jj fp s.heap) σ H s:=
 I.Ga fun p hp=>(List.mem_append.mp hp).elim (fun z=>I.pin p (List.mem_append_right _ z)) fun z=>by
  obtain⟨hb,e⟩:=qd z
  obtain⟨f0,f1,f2,_⟩:=hf p.1 hb
  obtain⟨o,e',d⟩:=ho p.1 hb
  rw[e]at e';cases e'
  exact⟨e,f0,f1,f2,d⟩
def Inv.FQ{pins pl:Va}{σ:St}{H:Hp}{s:Shared}(I:Inv X (pins++pl) σ H s):Inv X pins σ H s:=I.Ga fun p hp=>I.pin p (List.mem_append_right _ (List.mem_append_left _ hp))
def xS{iter:Expr}{body:List Stmt}{wi:TI}{g:TG}{tb:TS}{pos:Pos}(hp:PassesOwn (model X.prog X.w) X.A X.env X.xe)(hc:X.calm=true)(hi:PI X tg iter wi)(hg:PG X tg g)(hb:GV X body tb)
  (hs:∀x,foldedSetIterable iter X.env x=pure x:=by intro _;rfl):PS X (.For tg iter body [] pos) (Cr wi g tb):=by
 intro pins s σ H D I h
 refine wpAny_For (bA (hi pins s σ H _ I h) fun v s1 h1=>bA h1 fun itv s2 h2=>?_) hs
 obtain⟨it,fp,tn,J,H2,e,I2,T,st2,f2,W,⟨m0,w0⟩,turn⟩:=h2
 subst e
 -- what stays true of the iterator's objects through the loop
 have stat:∀{H':Hp},(∀b∈fp,H' b=none)->∀b∈fp,e8 X pins H' b:=fun hn b hb=>⟨hn b hb,(f2 b hb).2⟩
 refine codeAny_forLoop_any (fun n s'=>∃i σ' H',Inv X pins σ' H' s'/\tn i s'.heap/\(∀b∈fp,H' b=none)/\W i n σ' H') ?_ m0 ⟨0,σ,H2,I2,st2,fun b hb=>(f2 b hb).1,w0⟩
 rintro n s3 ⟨i,σ3,H3,I3,st3,K5,w3⟩
 rcases turn i n σ3 H3 w3 with⟨stop,qn⟩|⟨go,N,hN,step⟩
 ·refine wpAny_passesOwn hp (bA (T.done X rfl rfl rfl hc i pins s3 σ3 H3 X.xe I3 (stat K5) st3 stop) fun r s4 ⟨hr,I4⟩=>?_)
  subst hr
  exact wpAny_execs_nil ⟨σ3,H3,I4,qn⟩
 ·refine wpAny_passesOwn hp (bA (T.item X rfl rfl rfl hc i pins s3 σ3 H3 X.xe I3 (stat K5) st3 go) fun r s4 ⟨u,hr,h4⟩=>?_)
  subst hr
  refine wpAny_passesOwn hp (bA h4 fun _ s5 ⟨x,H5,I5,r5,y5,HR,Kg⟩=>?_)
  have Kh:=I5.pinned (stat Kg) (T.obj _ _ HR)
  refine wpAny_passesOwn hp (bA (hg _ s5 σ3 H5 x u _ Kh r5 (step x H5 y5)) fun _ s6 ⟨σ6,H6,I6,q6⟩=>?_)
  refine wpAny_passesOwn hp (bA (hb _ s6 σ6 H6 _ I6 q6) fun f s7 q7=>?_)
  have again:∀{σ7:St} {H7:Hp},Inv X (pins++jj fp s5.heap) σ7 H7 s7->N σ7 H7->∃m,m < n/\∃i σ' H',Inv X pins σ' H' s7/\tn i s7.heap/\(∀b∈fp,H' b=none)/\W i m σ' H':=fun{σ7 H7} I7 n7=>by
   obtain⟨m',hm,w7⟩:=hN σ7 H7 n7
   refine⟨m',hm,i+1,σ7,H7,I7.FQ,T.keep _ _ _ HR fun b hb o e=>(I7.pin (b,o) (List.mem_append_right _ (List.mem_append_right _ (gk hb e)))).1,fun b hb=>?_,w7⟩
   obtain⟨o,e,d⟩:=T.obj _ _ HR b hb
   exact(I7.pin (b,o) (List.mem_append_right _ (List.mem_append_right _ (gk hb e)))).2.1
  cases f with
  |next=>obtain⟨σ7,H7,I7,n7⟩:=q7;exact again I7 n7
  |cont=>obtain⟨σ7,H7,I7,n7⟩:=q7;exact again I7 n7
  |brk=>obtain⟨σ7,H7,I7,q7⟩:=q7;exact⟨σ7,H7,I7.FQ,q7⟩
  |ret v=>obtain⟨x7,σ7,H7,I7,r7,q7⟩:=q7;exact⟨x7,σ7,H7,I7.FQ,r7,q7⟩
end
abbrev R2:=V->V->Hp->VK->Prop
def fQ(X:Cx)(f:Value->Value->Sem Value)(r:R2):Prop:=
 ∀(pins:Va) (s:Shared) (σ:St) (H:Hp) (x y:V) (v u:Value) (Q:VK),Inv X pins σ H s->RelV x v->RelV y u->r x y H Q->
  wpAny (model X.prog X.w) X.A (f v u) (EP X pins σ Q) X.xe s
def BU(X:Cx)(f:Value->Sem Value)(r:V->Hp->VK->Prop):Prop:=
 ∀(pins:Va) (s:Shared) (σ:St) (H:Hp) (x:V) (v:Value) (Q:VK),Inv X pins σ H s->RelV x v->r x H Q->
  wpAny (model X.prog X.w) X.A (f v) (EP X pins σ Q) X.xe s
def eR(X:Cx)(f:Value)(r:List V->Hp->VK->Prop):Prop:=
 ∀(pins:Va) (s:Shared) (σ:St) (H:Hp) (xs:List V) (us:Vv) (Q:VK),Inv X pins σ H s->Vals xs us->r xs H Q->
  wpAny (model X.prog X.w) X.A (call f us) (EP X pins σ Q) X.xe s
def zP(r:R2)(ta tb:TE):TE:=fun σ H Q=>ta σ H fun x H1=>tb σ H1 fun y H2=>r x y H2 Q
def Dy(r:V->Hp->VK->Prop)(ta:TE):TE:=fun σ H Q=>ta σ H fun x H1=>r x H1 Q
def rI(C:Int->Int->Prop)(g:Int->Int->V):R2:=fun x y H Q=>∃i j,x = .int i/\y = .int j/\C i j/\Q (g i j) H
def uL(g:Int->Int->V):R2:=fun x y H Q=>∃i j,x = .int i/\y = .int j/\Q (g i j) H
noncomputable def rU(g:Int->V):V->Hp->VK->Prop:=fun x H Q=>∃i,x = .int i/\Q (g i) H
section
variable {X:Cx} {a b c:Expr} {ta tb tc:TE} {pos:Pos}
def xT(ha:PE X a ta)(hb:PE X b tb){pins:Va}{s:Shared}{σ:St}{H:Hp}{R:V->V->Hp->Prop}(I:Inv X pins σ H s)
  (h:ta σ H fun x H1=>tb σ H1 fun y H2=>R x y H2) {Q:Vq} {f:Value->Value->Sem Value}
  (hf:∀v u s2 x y H2,Inv X pins σ H2 s2->RelV x v->RelV y u->R x y H2->wpAny (model X.prog X.w) X.A (f v u) Q X.xe s2) :
  wpAny (model X.prog X.w) X.A (eval a X.env) (fun v s₁=>wpAny (model X.prog X.w) X.A (eval b X.env) (fun u s₂=>wpAny (model X.prog X.w) X.A (f v u) Q X.xe s₂) X.xe s₁) X.xe s:=by
 refine bA (ha pins s σ H _ I h) fun v s1 ⟨x,H1,I1,r1,q1⟩=>?_
 refine bA (hb pins s1 σ H1 _ I1 q1) fun u s2 ⟨y,H2,I2,r2,q2⟩=>?_
 exact hf v u s2 x y H2 I2 r1 r2 q2
def Ap{op:Operator}{r:R2}(ho:fQ X (binaryOp op) r)(ha:PE X a ta)(hb:PE X b tb):PE X (.BinOp a op b pos) (zP r ta tb):=by
 intro pins s σ H Q I h
 exact wpAny_BinOp (xT ha hb I h fun v u s2 x y H2 I2 rx ry q=>ho pins s2 σ H2 x y v u Q I2 rx ry q)
def Aq{op:UnaryOp}{r:V->Hp->VK->Prop}(ho:BU X (unaryOp op) r)(ha:PE X a ta):PE X (.UnaryOp op a pos) (Dy r ta):=by
 intro pins s σ H Q I h
 exact UnaryOp_ (bA (ha pins s σ H _ I h) fun v s1 ⟨x,H1,I1,r1,q1⟩=>ho pins s1 σ H1 x v Q I1 r1 q1)
def BV{f:Value->Value->Sem Value}{C:Int->Int->Prop}{g:Int->Int->Int}
  (rule:∀(i j:Int) (t u:Tok) (s:Shared) (Q:Vq) (E:Vq),C i j->Q (.int (g i j) s.toks) { s with toks:=s.toks+1 }->wpAny (model X.prog X.w) X.A (f (.int i t) (.int j u)) Q E s) :
  fQ X f (rI C fun i j=>.int (g i j)):=by
 intro pins s σ H x y v u Q I rx ry h
 obtain⟨i,j,rfl,rfl,hc,q⟩:=h
 obtain⟨t,rfl⟩:=rx
 obtain⟨t',rfl⟩:=ry
 exact rule i j t t' s _ _ hc ⟨.int (g i j),H,I.tok _,⟨_,rfl⟩,q⟩
def Ar{f:Value->Value->Sem Value}{g:Int->Int->Int}
  (rule:∀(i j:Int) (t u:Tok) (s:Shared) (Q:Vq) (E:Vq),Q (.int (g i j) s.toks) { s with toks:=s.toks+1 }->wpAny (model X.prog X.w) X.A (f (.int i t) (.int j u)) Q E s) :
  fQ X f (uL fun i j=>.int (g i j)):=by
 intro pins s σ H x y v u Q I rx ry h
 obtain⟨i,j,rfl,rfl,q⟩:=h
 obtain⟨t,rfl⟩:=rx
 obtain⟨t',rfl⟩:=ry
 exact rule i j t t' s _ _ ⟨.int (g i j),H,I.tok _,⟨_,rfl⟩,q⟩
def u4{f:Value->Value->Sem Value}{g:Int->Int->Bool}
  (rule:∀(i j:Int) (t u:Tok) (s:Shared) (Q:Vq) (E:Vq),Q (.bool (g i j)) s->wpAny (model X.prog X.w) X.A (f (.int i t) (.int j u)) Q E s) :
  fQ X f (uL fun i j=>.bl (g i j)):=by
 intro pins s σ H x y v u Q I rx ry h
 obtain⟨i,j,rfl,rfl,q⟩:=h
 obtain⟨t,rfl⟩:=rx
 obtain⟨t',rfl⟩:=ry
 exact rule i j t t' s _ _ ⟨.bl (g i j),H,I,rfl,q⟩
def xU(i j:Int):Prop:=0<=j/\j<=1000000/\i.natAbs < 2 ^ 64
def HS(i j:Int):Prop:=(-(2 ^ 64) < i/\i < 2 ^ 64)\/(-(2 ^ 64) < j/\j < 2 ^ 64)
def HS.ok{i j:Int}(h:HS i j):IntMulOk i j:=by
 rcases h with⟨h1,h2⟩|⟨h1,h2⟩
 ·exact .of_left (intBits_le_64 h1 h2)
 ·exact .of_right (intBits_le_64 h1 h2)
def xV:fQ X (binaryOp .Add) (uL fun i j=>.int (i+j)):=Ar fun _ _ _ _ _ _ _ q=>add_int q
def xW:fQ X (binaryOp .Sub) (uL fun i j=>.int (i - j)):=Ar fun _ _ _ _ _ _ _ q=>sub_int q
def u5:fQ X (binaryOp .Mod) (rI (fun _ j=>j≠0) fun i j=>.int (i.fmod j)):=BV fun _ _ _ _ _ _ _ hc q=>mod_int' hc q
def xX:fQ X (binaryOp .Pow) (rI xU fun i j=>.int (i ^ j.toNat)):=BV fun _ _ _ _ _ _ _ hc q=>pow_int_small hc.1 hc.2.1 hc.2.2 q
def Dz{f:Value->Sem Value}{g:Int->Int}
  (rule:∀(i:Int) (t:Tok) (s:Shared) (Q:Vq) (E:Vq),Q (.int (g i) s.toks) { s with toks:=s.toks+1 }->wpAny (model X.prog X.w) X.A (f (.int i t)) Q E s) :
  BU X f (rU fun i=>.int (g i)):=by
 intro pins s σ H x v Q I rx h
 obtain⟨i,rfl,q⟩:=h
 obtain⟨t,rfl⟩:=rx
 exact rule i t s _ _ ⟨.int (g i),H,I.tok _,⟨_,rfl⟩,q⟩
def xY:BU X (unaryOp .USub) (rU fun i=>.int (-i)):=Dz fun _ _ _ _ _ q=>neg_int q
end
noncomputable def As:V->V->Bool
 | .non,.non=>true | .non,.int _=>true | .int _,.non=>true | .non,.bl _=>true | .bl _,.non=>true | .non,.str _=>true | .str _,.non=>true
 | .int _,.int _=>true | .bl _,.bl _=>true | .str _,.str _=>true | .Hs _,.Hs _=>true
 | .int _,.str _=>true | .str _,.int _=>true | .bl _,.str _=>true | .str _,.bl _=>true
 |_,_=>false
def DE:R2:=fun x y H Q=>As x y=true/\Q (.bl (decide (x=y))) H
def DK:R2:=fun x y H Q=>As x y=true/\Q (.bl (!decide (x=y))) H
def oE{i j:Int}:decide (V.int i=V.int j)=(i == j):=by
 rw[Bool.eq_iff_iff]
 simp
def rF{i j:Bool}:decide (V.bl i=V.bl j)=(i == j):=by
 rw[Bool.eq_iff_iff]
 simp
def oF{i j:Str}:decide (V.str i=V.str j)=(i == j):=by
 rw[Bool.eq_iff_iff]
 simp
def oG{i j:Array UInt8}:decide (V.Hs i=V.Hs j)=(i.toList == j.toList):=by
 rw[Bool.eq_iff_iff]
 cases i
 cases j
 simp
section
variable {X:Cx} {a b c:Expr} {ta tb tc:TE} {pos:Pos}
def aM{pins:Va}{σ:St}{H:Hp}{s:Shared}{Q:VK}{k k':Bool}(I:Inv X pins σ H s)(q:Q (.bl k) H)(e:k=k'):EP X pins σ Q (.bool k') s:=by
 subst e
 exact⟨.bl k,H,I,rfl,q⟩
def rG:fQ X (compareOp .Eq) DE:=by
 intro pins s σ H x y v u Q I rx ry h
 obtain⟨hs,q⟩:=h
 cases x with
 |non=>
  cases rx
  cases y with
  |non=>cases ry;exact PySem.EqNone.eq_none_none (aM I q (by simp))
  |bl j=>cases ry;exact PySem.EqNone.eq_none_bool (aM I q (by simp))
  |int j=>obtain⟨t',rfl⟩:=ry;exact PySem.EqNone.eq_none_int (aM I q (by simp))
  |str j=>obtain⟨t',rfl⟩:=ry;exact PySem.EqNone.eq_none_str (aM I q (by simp))
  |_=>exact absurd (show false=true from hs) Bool.false_ne_true
 |bl i=>
  cases rx
  cases y with
  |non=>cases ry;exact PySem.EqNone.eq_bool_none (aM I q (by simp))
  |bl j=>cases ry;exact eq_bool (aM I q rF)
  |str j=>obtain⟨t',rfl⟩:=ry;exact PySem.EqMixed.eq_bool_str (aM I q (by simp))
  |_=>exact absurd (show false=true from hs) Bool.false_ne_true
 |int i=>
  obtain⟨t,rfl⟩:=rx
  cases y with
  |non=>cases ry;exact PySem.EqNone.eq_int_none (aM I q (by simp))
  |int j=>obtain⟨t',rfl⟩:=ry;exact eq_int (aM I q oE)
  |str j=>obtain⟨t',rfl⟩:=ry;exact PySem.EqMixed.eq_int_str (aM I q (by simp))
  |_=>exact absurd (show false=true from hs) Bool.false_ne_true
 |str i=>
  obtain⟨t,rfl⟩:=rx
  cases y with
  |non=>cases ry;exact PySem.EqNone.eq_str_none (aM I q (by simp))
  |bl j=>cases ry;exact PySem.EqMixed.eq_str_bool (aM I q (by simp))
  |int j=>obtain⟨t',rfl⟩:=ry;exact PySem.EqMixed.eq_str_int (aM I q (by simp))
  |str j=>obtain⟨t',rfl⟩:=ry;exact eq_str (aM I q oF)
  |_=>exact absurd (show false=true from hs) Bool.false_ne_true
 |Hs i=>
  obtain⟨t,rfl⟩:=rx
  cases y with
  |Hs j=>obtain⟨t',rfl⟩:=ry;exact PySem.W.eq_bytes (aM I q oG)
  |_=>exact absurd (show false=true from hs) Bool.false_ne_true
 |_=>cases y<;>exact absurd (show false=true from hs) Bool.false_ne_true
def rH:fQ X (compareOp .NotEq) DK:=by
 intro pins s σ H x y v u Q I rx ry h
 obtain⟨hs,q⟩:=h
 cases x with
 |non=>
  cases rx
  cases y with
  |non=>cases ry;exact PySem.EqNone.ne_none_none (aM I q (by simp))
  |bl j=>cases ry;exact PySem.EqNone.ne_none_bool (aM I q (by simp))
  |int j=>obtain⟨t',rfl⟩:=ry;exact PySem.EqNone.ne_none_int (aM I q (by simp))
  |str j=>obtain⟨t',rfl⟩:=ry;exact PySem.EqNone.ne_none_str (aM I q (by simp))
  |_=>exact absurd (show false=true from hs) Bool.false_ne_true
 |bl i=>
  cases rx
  cases y with
  |non=>cases ry;exact PySem.EqNone.ne_bool_none (aM I q (by simp))
  |bl j=>cases ry;exact ne_bool (aM I q (congrArg not rF))
  |str j=>obtain⟨t',rfl⟩:=ry;exact PySem.EqMixed.ne_bool_str (aM I q (by simp))
  |_=>exact absurd (show false=true from hs) Bool.false_ne_true
 |int i=>
  obtain⟨t,rfl⟩:=rx
  cases y with
  |non=>cases ry;exact PySem.EqNone.ne_int_none (aM I q (by simp))
  |int j=>obtain⟨t',rfl⟩:=ry;exact ne_int (aM I q (congrArg not oE))
  |str j=>obtain⟨t',rfl⟩:=ry;exact PySem.EqMixed.ne_int_str (aM I q (by simp))
  |_=>exact absurd (show false=true from hs) Bool.false_ne_true
 |str i=>
  obtain⟨t,rfl⟩:=rx
  cases y with
  |non=>cases ry;exact PySem.EqNone.ne_str_none (aM I q (by simp))
  |bl j=>cases ry;exact PySem.EqMixed.ne_str_bool (aM I q (by simp))
  |int j=>obtain⟨t',rfl⟩:=ry;exact PySem.EqMixed.ne_str_int (aM I q (by simp))
  |str j=>obtain⟨t',rfl⟩:=ry;exact ne_str (aM I q (congrArg not oF))
  |_=>exact absurd (show false=true from hs) Bool.false_ne_true
 |Hs i=>
  obtain⟨t,rfl⟩:=rx
  cases y with
  |Hs j=>obtain⟨t',rfl⟩:=ry;exact PySem.W.ne_bytes (aM I q (congrArg not oG))
  |_=>exact absurd (show false=true from hs) Bool.false_ne_true
 |_=>cases y<;>exact absurd (show false=true from hs) Bool.false_ne_true
def At:fQ X (compareOp .Lt) (uL fun i j=>.bl (decide (i < j))):=u4 fun _ _ _ _ _ _ _ q=>lt_int q
def Au:fQ X (compareOp .LtE) (uL fun i j=>.bl (decide (i<=j))):=u4 fun _ _ _ _ _ _ _ q=>le_int q
def Av:fQ X (compareOp .Gt) (uL fun i j=>.bl (decide (j < i))):=u4 fun _ _ _ _ _ _ _ q=>gt_int q
def Aw:fQ X (compareOp .GtE) (uL fun i j=>.bl (decide (j<=i))):=u4 fun _ _ _ _ _ _ _ q=>ge_int q
def xZ:fQ X (compareOp .Is) (fun x y H Q=>y = .non/\Q (.bl (decide (x = .non))) H):=by
 intro pins s σ H x y v u Q I rx ry h
 obtain⟨rfl,q⟩:=h
 cases ry
 refine is_none_gen (aM I q ?_)
 cases x<;>first
  |(cases rx;rfl)
  |(obtain⟨t,rfl⟩:=rx;rfl)
def u6:fQ X (compareOp .IsNot) (fun x y H Q=>y = .non/\Q (.bl (!decide (x = .non))) H):=by
 intro pins s σ H x y v u Q I rx ry h
 obtain⟨rfl,q⟩:=h
 cases ry
 refine isnot_none_gen (aM I q ?_)
 cases x<;>first
  |(cases rx;rfl)
  |(obtain⟨t,rfl⟩:=rx;rfl)
def aQ(b:Expr){op:CmpOp}(h:op ≠ .In:=by decide)(h2:op ≠ .NotIn:=by decide):behindInMarks op b=false:=by
 have e1:(op == CmpOp.In)=false:=by cases op<;>first|rfl|exact absurd rfl h
 have e2:(op == CmpOp.NotIn)=false:=by cases op<;>first|rfl|exact absurd rfl h2
 cases b<;>simp[behindInMarks,e1,e2]
def u7{op:CmpOp}{r:R2}(ho:fQ X (compareOp op) r)(ha:PE X a ta)(hb:PE X b tb)(hm:behindInMarks op b=false):PE X (.Compare a [op] [b] pos) (zP r ta tb):=by
 intro pins s σ H Q I h
 exact wpAny_Compare1 (xT ha hb I h fun v u s2 x y H2 I2 rx ry q=>ho pins s2 σ H2 x y v u Q I2 rx ry q) hm
def Ax(t:TE):TT:=fun σ H Q=>t σ H fun x H'=>∃k,x = .bl k/\Q k H'
def u8{op:CmpOp}{r:R2}(ho:fQ X (compareOp op) r)(ha:PE X a ta)(hb:PE X b tb)(hm:behindInMarks op b=false):PT X (.Compare a [op] [b] pos) (Ax (zP r ta tb)):=by
 intro pins s σ H Q I h
 refine wpAny_isTrue_Compare1 (bA (ha pins s σ H _ I h) fun v s1 ⟨x,H1,I1,r1,q1⟩=>bA (hb pins s1 σ H1 _ I1 q1) fun u s2 ⟨y,H2,I2,r2,q2⟩=>
  bA (ho pins s2 σ H2 x y v u _ I2 r1 r2 q2) fun c s3 ⟨z,H3,I3,r3,k,e,q3⟩=>?_) hm
 subst e
 cases r3
 exact wpAny_truthy_bool ⟨H3,I3,q3⟩
def iq:(sizeLine:Nat) < 2 ^ 63:=by rw[sizeLine_eq];decide
def mV:fQ X (binaryOp .Add) (fun x y H Q=>∃i j,x = .str i/\y = .str j/\i.length+j.length<=sizeLine/\Q (.str (i++j)) H):=by
 intro pins s σ H x y v u Q I rx ry h
 obtain⟨i,j,rfl,rfl,hz,q⟩:=h
 obtain⟨t,rfl⟩:=rx
 obtain⟨t',rfl⟩:=ry
 exact add_str (fun t' tk=>⟨.str (i++j),H,I.tok _,⟨_,rfl⟩,q⟩) hz
def fU{x:V}{us:Vv}(r:Vals [x] us):∃u,us=[u]/\RelV x u:=by
 cases r with
 |cons r1 r2=>cases r2;exact⟨_,rfl,r1⟩
def wJ{x y:V}{us:Vv}(r:Vals [x,y] us):∃u w',us=[u,w']/\RelV x u/\RelV y w':=by
 cases r with
 |cons r1 r2=>
  cases r2 with
  |cons r3 r4=>cases r4;exact⟨_,_,rfl,r1,r3⟩
def rJ:eR X (.builtin "abs") (fun xs H Q=>∃i,xs=[.int i]/\Q (.int (if i < 0 then -i else i)) H):=by
 intro pins s σ H xs us Q I r h
 obtain⟨i,rfl,q⟩:=h
 obtain⟨u,rfl,t,rfl⟩:=fU r
 exact call_abs_int fun u tk=>⟨.int (if i < 0 then -i else i),H,I.tok _,⟨_,rfl⟩,q⟩
def qe(hc:X.calm=true):eR X (.builtin "max") (fun xs H Q=>∃i j,xs=[.int i,.int j]/\Q (.int (if j > i then j else i)) H):=by
 intro pins s σ H xs us Q I r h
 obtain⟨i,j,rfl,q⟩:=h
 obtain⟨u,w',rfl,⟨t,rfl⟩,⟨t',rfl⟩⟩:=wJ r
 refine max_two_ints (I.ok.hd hc) fun h' tk k=>⟨_,H,I.kept k,?_,q⟩
 by_cases hj:j > i
 ·rw[if_pos hj,if_pos hj];exact⟨_,rfl⟩
 ·rw[if_neg hj,if_neg hj];exact⟨_,rfl⟩
def j_:eR X (.type "int") (fun xs H Q=>(∃i,xs=[.int i]/\Q (.int i) H)\/∃k,xs=[.bl k]/\Q (.int (if k then 1 else 0)) H):=by
 intro pins s σ H xs us Q I r h
 rcases h with⟨i,rfl,q⟩|⟨k,rfl,q⟩
 ·obtain⟨u,rfl,t,rfl⟩:=fU r
  exact call_int_int ⟨.int i,H,I,⟨_,rfl⟩,q⟩
 ·obtain⟨u,rfl,r1⟩:=fU r
  cases r1
  exact call_int_bool ⟨.int (if k then 1 else 0),H,I.tok _,⟨_,rfl⟩,q⟩
end
structure ObjM (h:Heap) (x dx C:Addr) (mA:Vr):Prop where
 obj:h.get? x=some (PySem.W.instObj C dx)
 ns:h.Ns1 dx mA
 ne:dx≠x
def qf{h:Heap}{dx:Addr}{mA:Vr}(n:h.Ns1 dx mA):∃od,h.get? dx=some od/\∀name,PySem.W.lookIn name od=some (mA name):=by
 obtain⟨o,es,ep,ho,hd,hk,_,hm⟩:=n
 refine⟨o,ho,fun name=>?_⟩
 have e:=hm name
 unfold nsFind findBy at e
 rw[<-Array.find?_toList]at e
 unfold PySem.W.lookIn
 rw[hd]
 dsimp only
 split
 ·rename_i y q
  rw[q]at e
  exact congrArg some e
 ·rename_i q
  rw[q]at e
  have a:es.toList.any (·.refKey)=false:=by
   rw[List.any_eq_false]
   intro y hy
   obtain⟨z,t,hkey⟩:=hk y (Array.mem_toList_iff.mp hy)
   simp[DictEntry.refKey,hkey]
  have a':¬es.toList.any (·.refKey)=true:=by rw[a];exact Bool.false_ne_true
  rw[if_neg a']
  exact congrArg some e
def ObjM.look{h:Heap}{x dx C:Addr}{mA:Vr}(I:ObjM h x dx C mA):∃od,PySem.W.InstAt h x (PySem.W.instObj C dx) C (some od)/\∀name,PySem.W.lookIn name od=some (mA name):=
 let ⟨od,ho,hl⟩:=qf I.ns
 ⟨od,⟨I.obj,rfl,rfl,ho⟩,hl⟩
section
variable {prog:Program} {w:World} {A:Around} {E:Vq} {s:Shared} {K:Vo} {x dx C f:Addr} {mA:Vr} {name:Str} {v:Value}
def u9{expr:Bool}{Q:Vq}(X:K.In s.heap)(I:ObjM s.heap x dx C mA)(hg:PySem.W.plainGet K C name=true)(hh:PySem.W.hasDictIn K C=true)
  (ha:PySem.W.findIn K (.ref C) name=some none) (hv:mA name=some v) (hv':PySem.W.handedIn v=true) (h:Q v { s with toks:=s.toks+1 }) :
  wpAny (model prog w) A (getAttr (.ref x) name expr) Q E s:=by
 obtain⟨od,J,hl⟩:=I.look
 exact PySem.W.get_value X J (PySem.W.plainGet_of hg).1 (PySem.W.findObj_own hh ha rfl (by rw[hl,hv])) hv' h
def rK{pl:Sem Bool}{Q:Value×List Value->Shared->Prop}(X:K.In s.heap)(I:ObjM s.heap x dx C mA)(hg:PySem.W.plainGet K C name=true)
  (hf:PySem.W.findIn K (.ref C) name=some (some (.ref f))) (ht:PySem.W.isFn K (.ref f)=true) (hv:mA name=none) (h:Q (.ref f,[.ref x]) s) :
  wpAny (model prog w) A (getMethod (.ref x) name pl) Q E s:=by
 obtain⟨od,J,hl⟩:=I.look
 exact PySem.W.method_fn X J (PySem.W.plainGet_of hg).1 (PySem.W.plainGet_of hg).2 hf (beq_iff_eq.mp ht) (by show(PySem.W.lookIn name od).map (·.isSome)=some false;rw[hl,hv];rfl) h
def u_{ns:Vs}{Q:Unit->Shared->Prop}(X:K.In s.heap)(I:ObjM s.heap x dx C mA)
  (hs:PySem.W.findIn K (.ref C) "__setattr__" = some (some (.builtin "object.__setattr__"))) (hp:PySem.W.plainOver K C=true) (ht:PySem.W.takerIn K C name=some none) (hh:PySem.W.hasDictIn K C=true)
  (hw:PySem.Within mA ns) (hsz:ns.length<=sizeLine)
  (h:∀h',ObjM h' x dx C (fun y=>if y=name then some v else mA y)->Heap.SameBut dx s.heap h'->Q () { s with heap:=h',toks:=s.toks+2 }) :
  wpAny (model prog w) A (setAttr (.ref x) name v) Q E s:=by
 obtain⟨od,J,hl⟩:=I.look
 refine PySem.W.set_plain X J hs (PySem.W.osa_open (s:={ s with toks:=s.toks+1 }) (r:=none) X J hp ht fun b=>?_)
 obtain⟨cd,hc,hd'⟩:=PySem.W.any_some hh
 have hx:s.heap.get? x=some ⟨.ref C,some dx,.plain,#[]⟩:=I.obj
 refine wpAny_bind (wpAny_pure (wpAny_bind (wpAny_bind (wpAny_loadPart hx (wpAny_bind (PySem.W.Looks.here (s:={ s with toks:=s.toks+1 }) (PySem.W.looks_clsIn X hc) ?_))))))
 rw[hd']
 refine wpAny_pure (a:=some dx) (wpAny_bind (wpAny_pure (wpAny_bind ?_)))
 refine wpAny_nsSet1 (s:={ s with toks:=s.toks+1 }) I.ns fun h' hn2 hs2=>?_
 obtain⟨oD,esD,epD,LX,LY,LZ⟩:=hn2.count (PySem.Within.cons name v hw)
 refine wpAny_bind (wpAny_lookBehind LX (by rw[LY];exact pastItsLine_dict (Nat.le_trans LZ (by rw[List.length_cons];omega))) ?_)
 exact wpAny_pure (h _ ⟨(hs2.2 _ (Ne.symm I.ne)).trans I.obj,hn2,I.ne⟩ hs2)
def rL{R:Result->Shared->Prop}{vs:Vv}{kw:List (Str×Value)}(X:K.In s.heap)(hm:PySem.W.makesIn K C=true)
  (hi:PySem.W.findIn K (.ref C) "__init__" = some (some (.ref f))) (hf:PySem.W.typeIn K (.ref f)=some (.type "function"))
  (h:codeAny (model prog w) (A.under (.builtin "type.__call__" ⟨.ref C::vs,kw⟩)) (.call (.ref f) ⟨.ref (s.heap.objs.size+1)::vs,kw⟩) (PySem.W.InitBack (s.heap.objs.size+1) R)
   { s with heap:=(s.heap.push PySem.W.emptyDict).push (PySem.W.instObj C s.heap.objs.size) }) :
  codeAny (model prog w) A (.call (.ref C) ⟨vs,kw⟩) R s:=by
 obtain⟨hh,g,d,t,os⟩:=s
 exact PySem.W.make_core (PySem.W.makes_of X hm) (PySem.W.looks_findIn X hi) (fun self=>PySem.W.bind_fn X self hf) (.inl rfl) h
end
noncomputable def putF(f:Str)(v:V):List (Str×V)->List (Str×V)
 |[]=>[(f,v)]
 |(g,x)::r=>if g=f then (g,v)::r else (g,x)::putF f v r
theorem iT(f g:Str)(v:V):∀fs:List (Str×V),(putF f v fs).lookup g=if g=f then some v else fs.lookup g
 |[]=>by
  show List.lookup g [(f,v)]=_
  by_cases h:g=f
  ·have hb:(g == f)=true:=beq_iff_eq.mpr h
   simp only[List.lookup,hb,if_pos h]
  ·have hb:(g == f)=false:=beq_eq_false_iff_ne.mpr h
   simp only[List.lookup,hb,if_neg h]
 |(k,x)::r=>by
  have ih:=iT f g v r
  rw[show putF f v ((k,x)::r)=(if k=f then (k,v)::r else (k,x)::putF f v r)from rfl]
  by_cases hk:k=f
  ·rw[if_pos hk]
   by_cases h:g=k
   ·have hb:(g == k)=true:=beq_iff_eq.mpr h
    simp only[List.lookup,hb,if_pos (h.trans hk)]
   ·have hb:(g == k)=false:=beq_eq_false_iff_ne.mpr h
    simp only[List.lookup,hb,if_neg (fun e:g=f=>h (e.trans hk.symm))]
  ·rw[if_neg hk]
   by_cases h:g=k
   ·have hb:(g == k)=true:=beq_iff_eq.mpr h
    simp only[List.lookup,hb,if_neg (fun e:g=f=>hk (h.symm.trans e))]
   ·have hb:(g == k)=false:=beq_eq_false_iff_ne.mpr h
    simp only[List.lookup,hb]
    exact ih
theorem ir(f:Str)(v:V):∀fs:List (Str×V),f∈(putF f v fs).map (·.1)/\∀g,g∈fs.map (·.1)->g∈(putF f v fs).map (·.1)
 |[]=>⟨by simp[putF],fun g h=>by simp at h⟩
 |(k,x)::r=>by
  obtain⟨i1,i2⟩:=ir f v r
  rw[show putF f v ((k,x)::r)=(if k=f then (k,v)::r else (k,x)::putF f v r)from rfl]
  by_cases hk:k=f
  ·rw[if_pos hk]
   subst hk
   exact⟨by simp,fun g h=>by simpa using h⟩
  ·rw[if_neg hk]
   refine⟨?_,fun g h=>?_⟩
   ·rw[List.map_cons]
    exact List.mem_cons_of_mem _ i1
   ·rw[List.map_cons]at h ⊢
    rcases List.mem_cons.mp h with e|e
    ·exact List.mem_cons.mpr (.inl e)
    ·exact List.mem_cons_of_mem _ (i2 g e)
theorem iU(f:Str)(v:V):∀fs:List (Str×V),(putF f v fs).length<=fs.length+1
 |[]=>by simp[putF]
 |(k,x)::r=>by
  have ih:=iU f v r
  rw[show putF f v ((k,x)::r)=(if k=f then (k,v)::r else (k,x)::putF f v r)from rfl]
  by_cases hk:k=f
  ·rw[if_pos hk,List.length_cons,List.length_cons];omega
  ·rw[if_neg hk,List.length_cons,List.length_cons];omega
def Ft.some_of{v:V}{o:Option Value}(r:Ft (some v) o):∃u,o=some u/\RelV v u:=by
 cases o with
 |none=>exact(show False from r).elim
 |some u=>exact⟨u,rfl,r⟩
def Ft.none_of{o:Option Value}(r:Ft none o):o=none:=by
 cases o with
 |none=>rfl
 |some u=>exact(show False from r).elim
def qg{v:V}{u:Value}(r:RelV v u):PySem.W.handedIn u=true:=by
 cases v with
 |non=>cases (show u=Value.none from r);rfl
 |bl b=>cases (show u=Value.bool b from r);rfl
 |int i=>obtain⟨t,e⟩:=(show ∃t,u=Value.int i t from r);cases e;rfl
 |str x=>obtain⟨t,e⟩:=(show ∃t,u=Value.str x t from r);cases e;rfl
 |Hs b=>obtain⟨t,e⟩:=(show ∃t,u=Value.bytes b t from r);cases e;rfl
 |JL b=>obtain⟨t,e⟩:=(show ∃t,u=Value.float b t from r);cases e;rfl
 |ref a=>cases (show u=Value.ref a from r);rfl
 |ty n=>cases (show u=Value.type n from r);rfl
section
variable {P:Program} {w:World} {H H':Hp} {h h':Heap} {a C dx:Addr} {fs fs':List (Str×V)}
def kN(hok:FL P w H h)(e:H a=some (.ins C dx fs)):∃mA,ObjM h a dx C mA/\(∀f,Ft (fs.lookup f) (mA f))/\PySem.Within mA (fs.map (·.1))/\fs.length<=1000/\H dx=some (.own a):=by
 obtain⟨d,z,ne,ob,mA,n,r,q⟩:=(show ED P w H h a (.ins C dx fs)from hok a _ e)
 exact⟨mA,⟨ob,n,ne⟩,r,q,z,d⟩
end
structure Cls (K:Vo) (C:Addr):Prop where
 pg:PySem.W.plainGet K C Str.empty=true
 hd:PySem.W.hasDictIn K C=true
 po:PySem.W.plainOver K C=true
 sa:PySem.W.findIn K (.ref C) "__setattr__" = some (some (.builtin "object.__setattr__"))
def Cls.get{K:Vo}{C:Addr}(c:Cls K C)(f:Str):PySem.W.plainGet K C f=true:=c.pg
def NoAttr(K:Vo)(C:Addr)(f:Str):Prop:=PySem.W.findIn K (.ref C) f=some none
def NoAttr.Jq{K:Vo}{C:Addr}{f:Str}(n:NoAttr K C f):PySem.W.takerIn K C f=some none:=by
 unfold PySem.W.takerIn
 rw[show PySem.W.findIn K (.ref C) f=some none from n]
 rfl
structure rM (K:Vo) (C:Addr) (m:Str) (f:Addr):Prop where
 at_:PySem.W.findIn K (.ref C) m=some (some (.ref f))
 fn:PySem.W.isFn K (.ref f)=true
 kp:PySem.W.keepIn K (.ref f)=true
section
variable {X:Cx} {pins:Va} {σ:St} {H:Hp} {s:Shared} {a C dx:Addr} {fs:List (Str×V)} {f:Str} {v:V} {A:Around} {E:Vq}
def mW{b:Bool}{Q:Vq}(I:Inv X pins σ H s)(e:H a=some (.ins C dx fs))(c:Cls X.K C)(n:NoAttr X.K C f)(l:fs.lookup f=some v)
  (h:∀u s',Inv X pins σ H s'->RelV v u->Q u s'):wpAny (model X.prog X.w) A (getAttr (.ref a) f b) Q E s:=by
 obtain⟨mA,O,r,_,_,_⟩:=kN I.hok e
 obtain⟨u,hu,ru⟩:=Ft.some_of (v:=v) (o:=mA f) (by rw[<-l];exact r f)
 exact u9 I.G9 O (c.get f) c.hd n hu (qg ru) (h u _ (I.tok _) ru)
def jk{m:Str}{g:Addr}{pl:Sem Bool}{Q:Value×List Value->Shared->Prop}(I:Inv X pins σ H s)(e:H a=some (.ins C dx fs))(c:Cls X.K C)(k:rM X.K C m g)(l:fs.lookup m=none)
  (h:Q (.ref g,[.ref a]) s):wpAny (model X.prog X.w) A (getMethod (.ref a) m pl) Q E s:=by
 obtain⟨mA,O,r,_,_,_⟩:=kN I.hok e
 have hn:mA m=none:=Ft.none_of (by rw[<-l];exact r m)
 exact rK I.G9 O (c.get m) k.at_ k.fn hn h
def mX{y:V}{u:Value}{Q:Unit->Shared->Prop}(I:Inv X pins σ H s)(e:H a=some (.ins C dx fs))(c:Cls X.K C)(n:NoAttr X.K C f)(hl:fs.length < 1000)(ry:RelV y u)
  (h:∀s',Inv X pins σ (upd H a (.ins C dx (putF f y fs))) s'->Q () s'):wpAny (model X.prog X.w) A (setAttr (.ref a) f u) Q E s:=by
 obtain⟨mA,O,r,wi,_,ho⟩:=kN I.hok e
 have hz:(fs.map (·.1)).length<=sizeLine:=by rw[List.length_map,sizeLine_eq];omega
 refine u_ I.G9 O c.sa c.po n.Jq c.hd wi hz fun h' O' sb=>h _ ?_
 have hd:∃o,h'.get? dx=some o:=let ⟨o,_,_,e',_⟩:=O'.ns;⟨o,e'⟩
 refine I.write (x:=a) (e:=dx) (by rw[e];exact True.intro) (.inr ho) (fun b q hb z=>(sb.2 b hb).trans z) hd ?_
 refine⟨by rw[aA O.ne];exact ho,?_,O.ne,O'.obj,_,O'.ns,fun g=>?_,fun g hg=>?_⟩
 ·have:=iU f y fs;omega
 ·show Ft ((putF f y fs).lookup g) (if g=f then some u else mA g)
  rw[iT]
  by_cases q:g=f
  ·rw[if_pos q,if_pos q];exact ry
  ·rw[if_neg q,if_neg q];exact r g
 ·by_cases q:g=f
  ·rw[q];exact(ir f y fs).1
  ·refine(ir f y fs).2 g (wi g fun z=>hg ?_)
   show(if g=f then some u else mA g)=none
   rw[if_neg q];exact z
def Inv.made(I:Inv X pins σ H s):Inv X pins σ (upd (upd H s.heap.objs.size (.own (s.heap.objs.size+1))) (s.heap.objs.size+1) (.ins C s.heap.objs.size []))
  { s with heap:=(s.heap.push PySem.W.emptyDict).push (PySem.W.instObj C s.heap.objs.size) }:=by
 have e1:(s.heap.push PySem.W.emptyDict).get? s.heap.objs.size=some PySem.W.emptyDict:=Heap.get?_push_size s.heap rfl
 have e2:((s.heap.push PySem.W.emptyDict).push (PySem.W.instObj C s.heap.objs.size)).get? (s.heap.objs.size+1)=some (PySem.W.instObj C s.heap.objs.size):=by
  have:=Heap.get?_push_size (s.heap.push PySem.W.emptyDict) (o:=PySem.W.instObj C s.heap.objs.size) rfl
  rwa [Heap.size_push]at this
 have e3:(s.heap.push PySem.W.emptyDict).Ns s.heap.objs.size (fun _=>none):=⟨PySem.W.emptyDict,#[],_,e1,rfl,(fun e he=>absurd he (by simp)),fun _=>rfl⟩
 have I1:=I.laid (a:=s.heap.objs.size) (o:=.own (s.heap.objs.size+1)) (h':=s.heap.push PySem.W.emptyDict) (t':=s.toks) (fun b u q=>Heap.get?_push_of_some _ q) (Nat.le_refl _) ⟨_,e1⟩
 refine I1.laid (a:=s.heap.objs.size+1) (o:=.ins C s.heap.objs.size []) (t':=s.toks) (fun b u q=>Heap.get?_push_of_some _ q) (Nat.le_of_eq (Heap.size_push _ _)) ?_
 have ne:s.heap.objs.size≠s.heap.objs.size+1:=Nat.ne_of_lt (Nat.lt_succ_self _)
 refine⟨by rw[aA ne,ay],Nat.zero_le _,ne,e2,fun _=>none,(Heap.Ns1.of_empty e3).at fun o q=>Heap.get?_push_of_some _ q,fun _=>True.intro,fun y hy=>absurd rfl hy⟩
def va{prog:Program}{w:World}{env:Env}{e:Expr}{f:Str}{pos:Pos}{s:Shared}{Q:Vq}(hb:attributeBase e f env (eval e env)=eval e env)
  (h:wpAny (model prog w) A (eval e env) (fun o s₁=>wpAny (model prog w) A (getAttr o f true) Q E s₁) E s):wpAny (model prog w) A (eval (.Attribute e f pos) env) Q E s:=
 Attribute_any_ h (by rw[arm_eval_Attribute,hb])
end
def Cs(K:Vo)(ta:TE)(f:Str):TE:=fun σ H Q=>ta σ H fun x H1=>∃a C dx fs v,x = .ref a/\H1 a=some (.ins C dx fs)/\Cls K C/\NoAttr K C f/\fs.lookup f=some v/\Q v H1
def Ct(K:Vo)(ta tv:TE)(f:Str):TS:=fun D σ H=>tv σ H fun y H1=>ta σ H1 fun x H2=>∃a C dx fs,x = .ref a/\H2 a=some (.ins C dx fs)/\Cls K C/\NoAttr K C f/\fs.length < 1000/\
 D.nx σ (upd H2 a (.ins C dx (putF f y fs)))
section
variable {X:Cx} {o e value:Expr} {f:Str} {pos pos' tpos:Pos} {ta tv:TE}
def x_(he:PE X e ta)(hb:attributeBase e f X.env (eval e X.env)=eval e X.env):PE X (.Attribute e f pos) (Cs X.K ta f):=by
 intro pins s σ H Q I h
 refine va hb (bA (he pins s σ H _ I h) fun u s1 ⟨x,H1,I1,rx,a,C,dx,fs,v,ex,ea,c,n,l,q⟩=>?_)
 subst ex
 obtain rfl:u=Value.ref a:=rx
 exact mW I1 ea c n l fun u' s2 I2 ru=>⟨v,H1,I2,ru,q⟩
def ya(ha:PE X o ta)(hv:PE X value tv)(hs:swapsWith value (some (.Attribute o f pos')) pos.line X.env=pure false):PS X (.Assign [.Attribute o f pos'] value pos) (Ct X.K ta tv f):=by
 intro pins s σ H D I h
 refine plainObj_wpAny_Assign_Attribute (bA (hv pins s σ H _ I h) fun u s1 ⟨y,H1,I1,ry,q⟩=>bA (ha pins s1 σ H1 _ I1 q) fun ov s2 ⟨x,H2,I2,rx,a,C,dx,fs,ex,ea,c,n,l,q2⟩=>?_) hs
 subst ex
 obtain rfl:ov=Value.ref a:=rx
 exact mX I2 ea c n l ry fun s3 I3=>⟨σ,_,I3,q2⟩
end
structure Room (k:Nat) (A:Around):Prop where
 hd:A.handled=none
 dp:A.depth+3 * k+5 < recursionLimit
 un:A.units+16 * k+200 < cLine
 gd:A.guards=some []
def Room.mono{j k:Nat}{A:Around}(r:Room k A)(h:j<=k):Room j A:=⟨r.hd,by have:=r.dp;omega,by have:=r.un;omega,r.gd⟩
theorem Room.deeper{k:Nat}{A:Around}(r:Room (k+1) A)(env:Env):Room k (A.deeper env):=
 ⟨r.hd,by have:=r.dp;show A.depth+1+3 * k+5 < _;omega,by have:=r.un;show A.units+3+16 * k+200 < _;omega,r.gd⟩
def mY{A:Around}{C:Addr}{us:Vv}{kw:List (Str×Value)}:(A.under (.builtin "type.__call__" ⟨.ref C::us,kw⟩)).depth=A.depth+1:=by
 first|rfl|simp[Around.under,Code.weight,Code.isCreation,Code.isGuard,Code.isCaller,Code.frames,Code.isFrame,guardIds]
def mZ{A:Around}{C:Addr}{us:Vv}{kw:List (Str×Value)}:(A.under (.builtin "type.__call__" ⟨.ref C::us,kw⟩)).units=A.units+1:=by
 first|rfl|simp[Around.under,Code.cUnits,Code.frames,Code.isFrame]
def lS{A:Around}{C:Addr}{us:Vv}{kw:List (Str×Value)}:(A.under (.builtin "type.__call__" ⟨.ref C::us,kw⟩)).guards=A.guards:=by
 first|rfl|(cases h:A.guards<;>simp[Around.under,Code.guards,Code.isGuard,guardIds,pushGuards,h])
def Room.make{k:Nat}{A:Around}(r:Room (k+1) A)(C:Addr)(us:Vv)(kw:List (Str×Value)):Room k (A.under (.builtin "type.__call__" ⟨.ref C::us,kw⟩)):=
 ⟨r.hd,by have:=r.dp;rw[mY];omega,by have:=r.un;rw[mZ];omega,by rw[lS];exact r.gd⟩
theorem Room.depth{k:Nat}{A:Around}(r:Room k A):A.depth < recursionLimit:=by have:=r.dp;omega
def vb:TA:=fun _ H Q=>Q [] H
def rN(ta:TE)(tr:TA):TA:=fun σ H Q=>ta σ H fun x H1=>tr σ H1 fun xs H2=>Q (x::xs) H2
section
variable {X:Cx} {e:Expr} {es:List Expr} {te:TE} {t:TA} {pos:Pos}
def yb:PA X [] vb:=fun _ _ _ _ H Q I h=>Calls.spliced_nil ⟨[],H,I,.nil,h⟩
def vc(ha:PE X e te)(hr:PA X es t)(hs:starEach (e::es) X.env=(false,eval e X.env)::starEach es X.env:=by rfl):PA X (e::es) (rN te t):=by
 intro pos pins s σ H Q I h
 rw[hs]
 show wpAny _ _ (spliced ((false,eval e X.env)::backTo pos (starEach es X.env))) _ _ s
 refine Calls.spliced_cons (bA (ha pins s σ H _ I h) fun u s1 ⟨x,H1,I1,r1,q1⟩=>?_)
 exact bA (hr pos pins s1 σ H1 _ I1 q1) fun us s2 ⟨xs,H2,I2,r2,q2⟩=>⟨x::xs,H2,I2,.cons r1 r2,q2⟩
def Cu(t:TA):TE:=fun σ H Q=>t σ H fun xs H1=>xs.length<=sizeLine/\∀p,H1 p=none->Q (.ref p) (upd H1 p (.tup xs))
def Cv(t:TA):TE:=fun σ H Q=>t σ H fun xs H1=>xs.length<=sizeLine/\∀p,H1 p=none->Q (.ref p) (upd H1 p (.lst xs))
def yc{x1}(h:PA X es t):PE X (.Tuple es x1 pos) (Cu t):=by
 intro pins s σ H Q I hq
 refine wpAny_Tuple_spliced (bA (h pos pins s σ H _ I hq) fun us s1 ⟨xs,H1,I1,r,z,q⟩=>⟨by rw[<-r.length];exact z,?_⟩)
 have hf:H1 s1.heap.objs.size=none:=I1.hok.fresh (Nat.le_refl _)
 refine⟨.ref s1.heap.objs.size,upd H1 s1.heap.objs.size (.tup xs),I1.laid (t':=s1.toks) (fun b u e=>Heap.get?_push_of_some _ e) (Nat.le_refl _) ?_,rfl,q _ hf⟩
 exact⟨z,us,r,⟨_,Heap.get?_push_size _ rfl,rfl,rfl,_,rfl⟩⟩
def ye(h:PA X es t):PE X (.List es pos) (Cv t):=by
 intro pins s σ H Q I hq
 refine wpAny_List_spliced (bA (h pos pins s σ H _ I hq) fun us s1 ⟨xs,H1,I1,r,z,q⟩=>⟨by rw[<-r.length];exact z,?_⟩)
 have hf:H1 s1.heap.objs.size=none:=I1.hok.fresh (Nat.le_refl _)
 refine⟨.ref s1.heap.objs.size,upd H1 s1.heap.objs.size (.lst xs),I1.laid (t':=s1.toks) (fun b u e=>Heap.get?_push_of_some _ e) (Nat.le_refl _) ?_,rfl,q _ hf⟩
 exact⟨z,us,0,r,Heap.get?_push_size _ rfl⟩
end
abbrev Sp:=List V->Hp->VK->XK->Prop
abbrev rO:=List Env->Hp->Shared->XK->Value->Shared->Prop
structure GY (P:Program) (w:World) (K:Vo) (mg:Vr) (base:Heap) (A:Around) (outer:List Env) (s:Shared) (H:Hp):Prop where
 frames:A.frames=some outer
 mod:Mod K mg base
 bs:∀b o,base.get? b=some o->s.heap.get? b=some o/\H b=none
 HP:base.objs.size<=s.heap.objs.size
 FU:s.heap.FunFrames base outer
 Ik:∀b∈frs outer,H b=none
 hok:FL P w H s.heap
 bare:AllBare s.gens
def CE(outer:List Env)(P:Program)(w:World)(H:Hp)(s:Shared)(Q:VK)(u:Value)(s':Shared):Prop:=
 ∃v H',s'.os=s.os/\AllBare s'.gens/\Un (frs outer) [] H H' s.heap s'.heap/\FL P w H' s'.heap/\RelV v u/\Q v H'
def CR(CX:rO)(outer:List Env)(P:Program)(w:World)(H:Hp)(s:Shared)(Q:VK)(E:XK)(r:Result)(s':Shared):Prop:=
 match r with
 | .ok (.ret u)=>CE outer P w H s Q u s'
 | .ok _=>False
 | .error e=>CX outer H s E e s'
structure iu (P:Program) (w:World) (K:Vo) (mg:Vr) (base:Heap) (CX:rO) (k:Nat) (f:Addr) (fd:FuncData) (ps:Vs) (sp:Sp):Prop where
 len:∀vs H Q E,sp vs H Q E->vs.length=ps.length
 run:∀(A:Around) (outer:List Env) (s:Shared) (H:Hp) (args:Args) (us:Vv) (vs:List V) (Q:VK) (E:XK),Room k A->GY P w K mg base A outer s H->BindsTo s fd args (ps.zip us)->Vals vs us->sp vs H Q E->
  codeAny (model P w) A (.call (.ref f) args) (CR CX outer P w H s Q E) s
def GY.make{P:Program}{w:World}{K:Vo}{mg:Vr}{base:Heap}{A:Around}{outer:List Env}{s:Shared}{H:Hp}(e:GY P w K mg base A outer s H)(C:Addr)(us:Vv)(kw:List (Str×Value)) :
  GY P w K mg base (A.under (.builtin "type.__call__" ⟨.ref C::us,kw⟩)) outer s H:=⟨by first|exact e.frames|(simpa [Around.under,Code.envs,Code.isFrame,pushEnvs]using e.frames),e.mod,e.bs,e.HP,e.FU,e.Ik,e.hok,e.bare⟩
section
variable {X:Cx} {pins:Va} {σ:St} {H:Hp} {s s':Shared}
def Inv.Jr(I:Inv X pins σ H s):GY X.prog X.w X.K X.mg X.base X.A X.stack s H:=
 ⟨I.ok.frames,I.ok.mod,I.bs,Nat.le_trans I.ok.HP I.sz,I.stack,I.G_,I.hok,I.bare⟩
def Inv.after{Q:VK}{u:Value}(I:Inv X pins σ H s)(h:CE X.stack X.prog X.w H s Q u s'):EP X pins σ Q u s':=by
 obtain⟨v,H',os,bare,un,hok,r,q⟩:=h
 obtain⟨hh,g,d,t,os'⟩:=s'
 obtain rfl:os'=s.os:=os
 exact⟨v,H',I.call (h':=hh) (g':=g) (d':=d) (t':=t) (ch:=[]) un hok bare (fun b z=>absurd z (by simp)),r,q⟩
end
def Ay(sp:Sp)(dvs:List V)(E:XK)(t:TA):TE:=fun σ H Q=>t σ H fun vs H1=>sp (vs++dvs) H1 Q E
def wK(C:Addr)(m:Str)(sp:Sp)(dvs:List V)(E:XK)(ta:TE)(t:TA):TE:=fun σ H Q=>ta σ H fun x H1=>∃a dx fs,x = .ref a/\H1 a=some (.ins C dx fs)/\fs.lookup m=none/\
 t σ H1 fun vs H2=>sp (x::(vs++dvs)) H2 Q E
def Az(C:Addr)(sp:Sp)(dvs:List V)(E:XK)(t:TA):TE:=fun σ H Q=>t σ H fun vs H1=>∀x dx,H1 x=none->H1 dx=none->dx≠x->
 sp (.ref x::(vs++dvs)) (upd (upd H1 dx (.own x)) x (.ins C dx [])) (fun v H2=>v = .non/\Q (.ref x) H2) E
def Binds(K:Vo)(fd:FuncData)(ps:Vs)(ds:Vv):Prop:=
 ∀(s:Shared) (us:Vv),K.In s.heap->(us++ds).length=ps.length->BindsTo s fd ⟨us,[]⟩ (ps.zip (us++ds))
def Binds.all{K:Vo}{fd:FuncData}{ps:Vs}(h:∀us:List Value,us.length=ps.length->bindArgs fd ⟨us,[]⟩=pure (ps.zip us)):Binds K fd ps []:=fun s us _ hl=>by
 rw[List.append_nil]at hl ⊢
 exact .of_eq (h us hl)
def gq(CX:rO)(X:Cx)(E:XK):Prop:=∀(pins:Va) (σ:St) (H:Hp) (s:Shared) (e:Value) (s':Shared),Inv X pins σ H s->CX X.stack H s E e s'->X.xe e s'
section
variable {X:Cx} {CX:rO} {k:Nat} {f C:Addr} {fd:FuncData} {ps:Vs} {sp:Sp} {dvs:List V} {ds:Vv} {E:XK} {x m:Str} {p pos apos:Pos} {e o:Expr} {es:List Expr} {ta:TE} {t:TA}
def m4{pins:Va}{σ:St}{H:Hp}{s:Shared}{Q:VK}{us:Vv}{vs:List V}(F:iu X.prog X.w X.K X.mg X.base CX k f fd ps sp)(hr:Room k X.A)(hb:Binds X.K fd ps ds)(hd:Vals dvs ds)(hx:gq CX X E)
  (I:Inv X pins σ H s) (r:Vals vs us) (h:sp (vs++dvs) H Q E):wpAny (model X.prog X.w) X.A (call (.ref f) us) (EP X pins σ Q) X.xe s:=by
 have r2:Vals (vs++dvs) (us++ds):=r.append hd
 have hl:(us++ds).length=ps.length:=by rw[<-r2.length];exact F.len _ _ _ _ h
 refine wpAny_call (codeAny_mono (F.run X.A X.stack s H ⟨us,[]⟩ (us++ds) (vs++dvs) Q E hr I.Jr (hb s us I.G9 hl) r2 h) fun r s' hq=>?_)
 cases r with
 |error e=>exact hx pins σ H s e s' I hq
 |ok fl=>
  cases fl with
  |ret u=>exact I.after hq
  |next=>exact False.elim hq
  |brk=>exact False.elim hq
  |cont=>exact False.elim hq
def vd(F:iu X.prog X.w X.K X.mg X.base CX k f fd ps sp)(hr:Room k X.A)(hg:Gl X x)(hm:X.mg x=some (.ref f))(hk:PySem.W.keepIn X.K (.ref f)=true)(hb:Binds X.K fd ps ds)(hd:Vals dvs ds)(hx:gq CX X E)
  (ha:PA X (e::es) t) (hdb:(x == ("__debug__":Str))=false:=by decide) (he:starEach (e::es) X.env=(false,eval e X.env)::starEach es X.env:=by rfl) (hpl:(backTo pos (starEach es X.env)).any (·.1)=false:=by rfl) :
  PE X (.Call (.Name x p) (e::es) [] pos) (Ay sp dvs E t):=by
 intro pins s σ H Q I h
 refine wpAny_Call_Name_kw (oB I hg hm ?_ hdb)
 refine PySem.W.callWith_K (h₀:=X.base) I.ok.mod.Jk hk (bA (ha pos pins s σ H _ I h) fun us s1 ⟨vs,H1,I1,r,q⟩=>⟨I1.G9,?_⟩) he hpl
 exact m4 F hr hb hd hx I1 r q
def ve{pl:Sem Bool}(he:PE X o ta)(c:Cls X.K C)(hm:rM X.K C m f)(F:iu X.prog X.w X.K X.mg X.base CX k f fd ps sp)(hr:Room k X.A)(hb:Binds X.K fd ps ds)(hd:Vals dvs ds)(hx:gq CX X E)(ha:PA X (e::es) t)
  (hst:starEach (e::es) X.env=(false,eval e X.env)::starEach es X.env:=by rfl) (hpl:(backTo pos (starEach es X.env)).any (·.1)=false:=by rfl)
  (ht:eval (.Call (.Attribute o m apos) (e::es) [] pos) X.env=(do
   let ov <-eval o X.env
   standAt apos.atName
   let (f,first) <-holding [ov] (getMethod ov m pl)
   callWith pos f first (backTo pos (starEach (e::es) X.env)) (backToKw pos (keywordEach [] X.env))):=by rfl) :
  PE X (.Call (.Attribute o m apos) (e::es) [] pos) (wK C m sp dvs E ta t):=by
 intro pins s σ H Q I h
 refine PySem.W.methodCall_KW (pl:=pl) (bA (he pins s σ H _ I h) fun u s1 ⟨x,H1,I1,rx,a,dx,fs,ex,ea,l,q⟩=>?_) ht
 subst ex
 obtain rfl:u=Value.ref a:=rx
 refine jk I1 ea c hm l ?_
 refine PySem.W.callWith_K (first:=[.ref a]) (h₀:=X.base) I.ok.mod.Jk hm.kp (bA (ha pos pins s1 σ H1 _ I1 q) fun us s2 ⟨vs,H2,I2,r,q2⟩=>⟨I2.G9,?_⟩) hst hpl
 exact m4 (us:=.ref a::us) (vs:=.ref a::vs) F hr hb hd hx I2 (.cons rfl r) q2
def rP{pl:Sem Bool}(he:PE X o ta)(c:Cls X.K C)(hm:rM X.K C m f)(F:iu X.prog X.w X.K X.mg X.base CX k f fd ps sp)(hr:Room k X.A)(hb:Binds X.K fd ps ds)(hd:Vals dvs ds)(hx:gq CX X E)
  (ht:eval (.Call (.Attribute o m apos) [] [] pos) X.env=(do
   let ov <-eval o X.env
   standAt apos.atName
   let (f,first) <-holding [ov] (getMethod ov m pl)
   callWith pos f first (backTo pos (starEach [] X.env)) (backToKw pos (keywordEach [] X.env))):=by rfl) :
  PE X (.Call (.Attribute o m apos) [] [] pos) (wK C m sp dvs E ta vb):=by
 intro pins s σ H Q I h
 refine PySem.W.methodCall_KW (pl:=pl) (bA (he pins s σ H _ I h) fun u s1 ⟨x,H1,I1,rx,a,dx,fs,ex,ea,l,q⟩=>?_) ht
 subst ex
 obtain rfl:u=Value.ref a:=rx
 refine jk I1 ea c hm l ?_
 exact PySem.W.callWith_K0 (first:=[.ref a]) I1.G9 hm.kp (m4 (us:=[.ref a]) (vs:=[.ref a]) F hr hb hd hx I1 (.cons rfl .nil) q)
structure Mk (K:Vo) (C f:Addr):Prop where
 makes:PySem.W.makesIn K C=true
 init:PySem.W.findIn K (.ref C) "__init__" = some (some (.ref f))
 fn:PySem.W.isFn K (.ref f)=true
 kp:PySem.W.keepIn K (.ref C)=true
def rQ{pins:Va}{σ:St}{H:Hp}{s:Shared}{Q:VK}{us:Vv}{vs:List V}(M:Mk X.K C f)(F:iu X.prog X.w X.K X.mg X.base CX k f fd ps sp)(hr:Room (k+1) X.A)(hb:Binds X.K fd ps ds)(hd:Vals dvs ds)
  (hx:gq CX X E) (I:Inv X pins σ H s) (r:Vals vs us)
  (h:∀x dx,H x=none->H dx=none->dx≠x->sp (.ref x::(vs++dvs)) (upd (upd H dx (.own x)) x (.ins C dx [])) (fun v H2=>v = .non/\Q (.ref x) H2) E) :
  wpAny (model X.prog X.w) X.A (call (.ref C) us) (EP X pins σ Q) X.xe s:=by
 have hq:=h (s.heap.objs.size+1) s.heap.objs.size (I.hok.fresh (Nat.le_succ _)) (I.hok.fresh (Nat.le_refl _)) (Nat.ne_of_lt (Nat.lt_succ_self _))
 have I2:=Inv.made (C:=C) I
 have r2:Vals (V.ref (s.heap.objs.size+1)::(vs++dvs)) (Value.ref (s.heap.objs.size+1)::(us++ds)):=.cons rfl (r.append hd)
 have hl:(Value.ref (s.heap.objs.size+1)::us++ds).length=ps.length:=by
  have e:=r2.length
  rw[F.len _ _ _ _ hq]at e
  exact e.symm
 refine wpAny_call (rL (f:=f) I.G9 M.makes M.init (beq_iff_eq.mp M.fn) (codeAny_mono (F.run _ X.stack _ _ ⟨Value.ref (s.heap.objs.size+1)::us,[]⟩ (Value.ref (s.heap.objs.size+1)::(us++ds)) _ _ E (hr.make C us [])
  (I2.Jr.make C us []) (hb _ (Value.ref (s.heap.objs.size+1)::us) I2.G9 hl) r2 hq) fun r s' hq'=>?_))
 cases r with
 |error e=>exact hx pins σ _ _ e s' I2 hq'
 |ok fl=>
  cases fl with
  |ret u=>
   obtain⟨v,H',I3,rv,ev,q3⟩:=I2.after hq'
   subst ev
   exact⟨rv,⟨V.ref (s.heap.objs.size+1),H',I3,rfl,q3⟩⟩
  |next=>exact False.elim hq'
  |brk=>exact False.elim hq'
  |cont=>exact False.elim hq'
def vf(M:Mk X.K C f)(F:iu X.prog X.w X.K X.mg X.base CX k f fd ps sp)(hr:Room (k+1) X.A)(hg:Gl X x)(hm:X.mg x=some (.ref C))(hb:Binds X.K fd ps ds)(hd:Vals dvs ds)(hx:gq CX X E)
  (ha:PA X (e::es) t) (hdb:(x == ("__debug__":Str))=false:=by decide) (he:starEach (e::es) X.env=(false,eval e X.env)::starEach es X.env:=by rfl) (hpl:(backTo pos (starEach es X.env)).any (·.1)=false:=by rfl) :
  PE X (.Call (.Name x p) (e::es) [] pos) (Az C sp dvs E t):=by
 intro pins s σ H Q I h
 refine wpAny_Call_Name_kw (oB I hg hm ?_ hdb)
 refine PySem.W.callWith_K (h₀:=X.base) I.ok.mod.Jk M.kp (bA (ha pos pins s σ H _ I h) fun us s1 ⟨vs,H1,I1,r,q⟩=>⟨I1.G9,?_⟩) he hpl
 exact rQ M F hr hb hd hx I1 r q
end
def PK(X:Cx)(kws:List Keyword)(t:TA):Prop:=
 ∀(pos:Pos) (pins:Va) (s:Shared) (σ:St) (H:Hp) (Q:List V->Hp->Prop),Inv X pins σ H s->t σ H Q->wpAny (model X.prog X.w) X.A (evalAll ((backToKw pos (keywordEach kws X.env)).map (·.2))) (AP X pins σ Q) X.xe s
section
variable {X:Cx} {CX:rO} {k:Nat} {f C:Addr} {fd:FuncData} {ps ks:Vs} {sp:Sp} {E:XK} {x m:Str} {p pos apos kpos:Pos} {e o:Expr} {es:List Expr} {kws:List Keyword} {te ta:TE} {t tk:TA} {nm:Option Str}
def yf:PK X [] vb:=fun _ _ _ _ H Q I h=>wpAny_evalAll_nil ⟨[],H,I,.nil,h⟩
def vg(ha:PE X e te)(hr:PK X kws t):PK X (⟨nm,e,kpos⟩::kws) (rN te t):=by
 intro pos pins s σ H Q I h
 show wpAny _ _ (evalAll ((do let v <-eval e X.env;standAt pos;pure v)::(backToKw pos (keywordEach kws X.env)).map (·.2))) _ _ s
 refine wpAny_evalAll_cons (wpAny_bind (bA (ha pins s σ H _ I h) fun u s1 ⟨x,H1,I1,r1,q1⟩=>wpAny_bind (wpAny_standAt (wpAny_pure ?_))))
 exact bA (hr pos pins s1 σ H1 _ I1 q1) fun us s2 ⟨xs,H2,I2,r2,q2⟩=>⟨x::xs,H2,I2,.cons r1 r2,q2⟩
variable {g:List Value->List Value->List Value} {gV:List V->List V->List V}
end
structure d_ (N P:Vs) (sc:Scope):Prop where
 kind:sc.kind = .function
 co:sc.isCoroutine=false
 gen:sc.isGenerator=false
 nd:N.Nodup
 pre:N.take P.length=P
 par:∀x∈P,sc.names.lookup x=some .local\/sc.names.lookup x=some .cell
 ID:∀y∈sc.names,y.2 ≠ .free
theorem kc{kindOf:Str->Option NameKind}{x:Str}:∀{binds:List (Str×Value)} {m:Vr},(∀v,(x,v) ∉ binds)->bindL kindOf binds m x=m x
 |[],_,_=>rfl
 |(n,v)::r,m,h=>by
  unfold bindL
  rw[kc fun w hw=>h w (List.mem_cons_of_mem _ hw)]
  split
  ·have:x≠n:=by rintro rfl;exact h v List.mem_cons_self
   simp[this]
  ·rfl
theorem ke{kindOf:Str->Option NameKind}{x:Str}:∀{binds:List (Str×Value)} {m:Vr},(∀v,(x,v) ∉ binds)->bindC kindOf binds m x=m x
 |[],_,_=>rfl
 |(n,v)::r,m,h=>by
  unfold bindC
  rw[ke fun w hw=>h w (List.mem_cons_of_mem _ hw)]
  split
  ·rfl
  ·have:x≠n:=by rintro rfl;exact h v List.mem_cons_self
   simp[this]
theorem kf{kindOf:Str->Option NameKind}{x:Str}{v:Value}:∀{P:Vs} {vs:Vv} {i:Nat} {m:Vr},P.Nodup->P[i]?=some x->vs[i]?=some v->kindOf x=some .local->
  bindL kindOf (P.zip vs) m x=some v
 |[],_,_,_,_,h,_,_=>by simp at h
 |_::_,[],_,_,_,_,h,_=>by simp at h
 |p::P,w::vs,0,m,nd,h1,h2,hk=>by
  simp at h1 h2;subst h1;subst h2
  show bindL kindOf ((p,w)::P.zip vs) m p=_
  unfold bindL
  rw[kc fun v hv=>(List.nodup_cons.mp nd).1 (List.of_mem_zip hv).1,if_pos hk]
  simp
 |p::P,w::vs,i+1,m,nd,h1,h2,hk=>by
  show bindL kindOf ((p,w)::P.zip vs) m x=_
  unfold bindL
  exact kf (i:=i) (List.nodup_cons.mp nd).2 (by simpa using h1) (by simpa using h2) hk
theorem kg{kindOf:Str->Option NameKind}{x:Str}{v:Value}:∀{P:Vs} {vs:Vv} {i:Nat} {m:Vr},P.Nodup->P[i]?=some x->vs[i]?=some v->kindOf x≠some .local->
  bindC kindOf (P.zip vs) m x=some v
 |[],_,_,_,_,h,_,_=>by simp at h
 |_::_,[],_,_,_,_,h,_=>by simp at h
 |p::P,w::vs,0,m,nd,h1,h2,hk=>by
  simp at h1 h2;subst h1;subst h2
  show bindC kindOf ((p,w)::P.zip vs) m p=_
  unfold bindC
  rw[ke fun v hv=>(List.nodup_cons.mp nd).1 (List.of_mem_zip hv).1,if_neg hk]
  simp
 |p::P,w::vs,i+1,m,nd,h1,h2,hk=>by
  show bindC kindOf ((p,w)::P.zip vs) m x=_
  unfold bindC
  exact kg (i:=i) (List.nodup_cons.mp nd).2 (by simpa using h1) (by simpa using h2) hk
noncomputable def fe(N:Vs)(vs:List V):St:=vs.map some++List.replicate (N.length - vs.length) none
noncomputable def m5(CX:rO)(P:Program)(w:World)(K:Vo)(mg:Vr)(base:Heap)(N:Vs)(qual:Str)(scope:Scope)(f:Addr)(cd:Value)(A:Around)(outer:List Env)(s:Shared)(H:Hp)(E:XK):Cx where
 prog:=P
 w:=w
 K:=K
 mg:=mg
 base:=base
 A:=A.deeper (envOfC qual scope s.heap.objs.size f cd)
 N:=N
 s₀:=s
 H₀:=H
 env:=envOfC qual scope s.heap.objs.size f cd
 outer:=outer
 stack:=envOfC qual scope s.heap.objs.size f cd::outer
 ex:=[]
 calm:=true
 fn:=fun _=>true
 pn:=[]
 xe:=fun e s'=>wpAny (model P w) (A.deeper (envOfC qual scope s.heap.objs.size f cd)) (leaving (envOfC qual scope s.heap.objs.size f cd) e) (fun _ s''=>CX outer H s E e s'') (fun e' s''=>CX outer H s E e' s'') s'
def lT{sc:Scope}{n:Nat}{x:Str}(h:sc.names.lookup x=some .cell):∃c,(cellsFrom n sc.names []).lookup x=some c:=by
 have q:=PySem.W.cellsFrom_some sc.names n [] (.inl h)
 exact Option.isSome_iff_exists.mp q
def qh{CX:rO}{P:Program}{w:World}{K:Vo}{mg:Vr}{base:Heap}{N ps:Vs}{qual:Str}{scope:Scope}{f:Addr}{cd:Value}{A:Around}{outer:List Env}{s s1:Shared}{H:Hp}{E:XK}{us:Vv}{vs:List V}
  (S:d_ N ps scope) (hd:A.handled=none) (e0:GY P w K mg base A outer s H) (hl:vs.length=ps.length) (r:Vals vs us)
  (x:InCallC s s.heap.objs.size (bindL (envOfC qual scope s.heap.objs.size f cd).kindOf (ps.zip us) fun _=>none) (cellsFrom (s.heap.objs.size+1) scope.names []) (bindC (envOfC qual scope s.heap.objs.size f cd).kindOf (ps.zip us) fun _=>none) s1) :
  Inv (m5 CX P w K mg base N qual scope f cd A outer s H E) [] (fe N vs) H s1:=by
 have hpl:ps.length<=N.length:=by have:=congrArg List.length S.pre;rw[List.length_take]at this;omega
 obtain⟨h1,tk,rfl,hk⟩:=x.done
 have Js:∀b:Addr,b ∉ (m5 CX P w K mg base N qual scope f cd A outer s H E).ex:=fun b z=>absurd (show b∈([]:List Addr)from z) (by simp)
 refine⟨⟨e0.mod,S.kind,rfl,rfl,Nat.le_refl _,fun y z c h1 h2=>?_,fun y hy=>?_,fun y c _ h=>?_,fun _=>hd,Around.frames_deeper e0.frames,.inr ⟨rfl,rfl⟩,fun b z=>absurd z (Js b),e0.bs,e0.HP,fun b _ _=>Js b,fun b z=>absurd z (Js b),e0.FU,e0.Ik⟩,
  rfl,e0.bare,Un.kept hk,⟨_,x.toInCall.ns,fun i y v h1 h2 h3=>?_⟩,fun y c h=>⟨_,x.cell y c h⟩,e0.hok.fresh (Nat.le_refl _),fun y c h=>?_,fun p hp=>absurd (show p∈([]:Va)from hp) (by simp),e0.hok.kept hk,?_⟩
 ·exact name_of_addr x.apart (PySem.mem_of_lookup h1) (PySem.mem_of_lookup h2)
 ·have hy:scope.names.lookup y=some .cell\/scope.names.lookup y=some .free:=hy
  rcases hy with hy|hy
  ·exact lT hy
  ·exact absurd rfl (S.ID _ (PySem.mem_of_lookup hy))
 ·exact Nat.le_of_lt (x.above y c (PySem.mem_of_lookup h))
 ·have hi:i < vs.length:=by
   unfold fe at h2
   by_cases hi:i < vs.length
   ·exact hi
   ·rw[List.getElem?_append_right (by simpa using hi)]at h2
    rw[List.getElem?_replicate]at h2
    split at h2<;>cases h2
  have ha:vs[i]?=some v:=by
   unfold fe at h2
   rw[List.getElem?_append_left (by simpa using hi),List.getElem?_map]at h2
   cases e:vs[i]? with
   |none=>rw[e]at h2;cases h2
   |some a=>rw[e]at h2;cases h2;rfl
  obtain⟨u,hu,rv⟩:=r.get ha
  have hp:ps[i]?=some y:=by
   rw[<-S.pre,List.getElem?_take_of_lt (by omega)];exact h1
  have K6:ps.Nodup:=by rw[<-S.pre];exact S.nd.sublist (List.take_sublist _ _)
  refine⟨u,rv,?_⟩
  rcases S.par y (List.mem_of_getElem? hp)with k|k
  ·exact .inl ⟨k,kf K6 hp hu k⟩
  ·obtain⟨c,e⟩:=lT (n:=s.heap.objs.size+1) k
   refine .inr ⟨.inl k,c,e,?_⟩
   have q:=x.cell y c e
   rw[kg K6 hp hu (by show scope.names.lookup y≠_;rw[k];decide)]at q
   exact q
 ·exact e0.hok.fresh (Nat.le_of_lt (x.above y c (PySem.mem_of_lookup h)))
 ·unfold fe
  show _=N.length
  rw[List.length_append,List.length_map,List.length_replicate]
  omega
def AA{CX:rO}{P:Program}{w:World}{K:Vo}{mg:Vr}{base:Heap}{k:Nat}{f:Addr}{name qual:Str}{params:Arguments}{body:List Stmt}{scope:Scope}{dV kV doc pm cdv ct oc:Value}{an od:Option Addr}
  {osl:Array (Option Value)} {N ps:Vs} {sp:Sp} (lk:K.lookup f=some ⟨oc,od,.func (PySem.W.fnOf name qual params body scope dV kV doc pm an cdv ct),osl⟩) (hcd:PySem.W.codeIn K cdv qual=true) (S:d_ N ps scope)
  (len:∀vs H Q E,sp vs H Q E->vs.length=ps.length)
  (hbody:∀(A:Around) (outer:List Env) (s:Shared) (H:Hp) (vs:List V) (Q:VK) (E:XK),Room k (A.deeper (envOfC qual scope s.heap.objs.size f cdv))->sp vs H Q E->
   ∃t,GV (m5 CX P w K mg base N qual scope f cdv A outer s H E) body t/\t { nx:=fun _ H'=>Q .non H',rt:=Q } (fe N vs) H) :
  iu P w K mg base CX (k+1) f (PySem.W.fnOf name qual params body scope dV kV doc pm an cdv ct) ps sp:=by
 refine⟨len,fun A outer s H args us vs Q E hr e0 hb r Im=>?_⟩
 have hl:=len _ _ _ _ Im
 have KX:K.In s.heap:=e0.mod.Jk.keeps fun b o e=>(e0.bs b o e).1
 have lim:s.heap.NoLimit:=e0.mod.nolimit.keeps fun b o e=>(e0.bs b o e).1
 have hkind:∀y∈ps.zip us,scope.names.lookup y.1=some .local\/(scope.names.lookup y.1=some .cell/\((cellsFrom (s.heap.objs.size+1) scope.names []).lookup y.1).isSome=true):=fun⟨n,v⟩ hy=>by
  rcases S.par n (List.of_mem_zip hy).1 with q|q
  ·exact .inl q
  ·exact .inr ⟨q,PySem.W.cellsFrom_some _ _ _ (.inl q)⟩
 refine codeAny_call_function hr.depth (KX _ _ lk) rfl S.co S.gen rfl (PySem.W.codeRec_of KX hcd) (hb _ _ _ _ ?_)
 refine wpAny_newFunctionEnv_cells S.kind hkind fun env he s1 x=>?_
 subst he
 refine⟨lim.keeps x.toInCall.keep,codeAny_func ?_⟩
 obtain⟨t,ht,hq⟩:=hbody A outer s H vs Q E (hr.deeper _) Im
 have I:Inv (m5 CX P w K mg base N qual scope f cdv A outer s H E) [] (fe N vs) H s1:=qh S hr.hd e0 hl r x
 refine wpAny_mono (ht [] s1 (fe N vs) H _ I hq) (fun fl s' hs=>?_) fun e s' hs=>hs
 have fin:∀{σ':St} {H':Hp} {v:V} {u:Value},Inv (m5 CX P w K mg base N qual scope f cdv A outer s H E) [] σ' H' s'->RelV v u->Q v H'->CE outer P w H s Q u s':=
  fun{σ' H' v u} J rv q=>⟨v,H',J.os,J.bare,J.base,J.hok,rv,q⟩
 cases fl with
 |ret u=>
  obtain⟨v,σ',H',J,rv,q⟩:=hs
  exact fin J rv q
 |next=>
  obtain⟨σ',H',J,q⟩:=hs
  exact fin (v:=V.non) (u:=Value.none) J rfl q
 |brk=>
  obtain⟨_,_,_,q⟩:=hs
  exact False.elim q
 |cont=>
  obtain⟨_,_,_,q⟩:=hs
  exact False.elim q
section
variable {X:Cx} {x:Str} {p pos:Pos} {e:Expr} {es:List Expr} {t:TA} {id T:String} {r:List V->Hp->VK->Prop}
def Dn(r:List V->Hp->VK->Prop)(t:TA):TE:=fun σ H Q=>t σ H fun vs H1=>r vs H1 Q
def rR(hc:eR X (.builtin id) r)(hg:Gl X x)(hm:X.mg x=none)(hv:bootBuiltins x=some (.builtin id))(ha:PA X (e::es) t)(hn:x ≠ "__name__":=by decide)(hdb:(x == ("__debug__":Str))=false:=by decide)
  (he:starEach (e::es) X.env=(false,eval e X.env)::starEach es X.env:=by rfl) (hpl:(backTo pos (starEach es X.env)).any (·.1)=false:=by rfl):PE X (.Call (.Name x p) (e::es) [] pos) (Dn r t):=by
 intro pins s σ H Q I h
 refine wpAny_Call_Name_kw (dM I hg hm hv ?_ hn hdb)
 exact PyProof.Rows.callWith_builtin1 (bA (ha pos pins s σ H _ I h) fun us s1 ⟨vs,H1,I1,r1,q1⟩=>hc pins s1 σ H1 vs us Q I1 r1 q1) he hpl
def qi(hc:eR X (.type T) r)(hg:Gl X x)(hm:X.mg x=none)(hv:bootBuiltins x=some (.type T))(ha:PA X (e::es) t)(hn:x ≠ "__name__":=by decide)(hdb:(x == ("__debug__":Str))=false:=by decide)
  (he:starEach (e::es) X.env=(false,eval e X.env)::starEach es X.env:=by rfl) (hpl:(backTo pos (starEach es X.env)).any (·.1)=false:=by rfl):PE X (.Call (.Name x p) (e::es) [] pos) (Dn r t):=by
 intro pins s σ H Q I h
 refine wpAny_Call_Name_kw (dM I hg hm hv ?_ hn hdb)
 exact PyProof.Rows.callWith_type1 (bA (ha pos pins s σ H _ I h) fun us s1 ⟨vs,H1,I1,r1,q1⟩=>hc pins s1 σ H1 vs us Q I1 r1 q1) he hpl
end
end L2
namespace HT
open PySem PyProof.Rows
section
open PySem.SeqAt
open PySem.AutoSeq1 (wpAny_loadPart')
open PySem.MeetsSeq PySem.MeetsSeq2 PySem.MeetsSeq3
end
section
variable {prog:Program} {w:World} {A:Around} {E:Vq} {s:Shared}
def vh{t b:Addr}{vs ws:Vv}{Q:Vq}(ht:IsTup s.heap t vs.toArray)(hb:IsTup s.heap b ws.toArray)(hv:vs≠[])
  (h1:ws=[]->Q (.ref t) s) (h2:ws≠[]->Q (.ref s.heap.objs.size) { s with heap:=s.heap.push { cls:=.type "tuple",data:=.seq (vs++ws).toArray } })
  (hsz:vs.length+ws.length<=sizeLine):wpAny (model prog w) A (binaryOp .Add (.ref t) (.ref b)) Q E s:=by
 obtain⟨⟨cls,dd,data,sl⟩,ho,hc,n,hd⟩:=id ht
 obtain⟨⟨Ki,dd2,data2,sl2⟩,ho2,hc2,n2,hd2⟩:=id hb
 simp only at hc hd hc2 hd2
 subst hc hd hc2 hd2
 have e:vs.toArray++ws.toArray=(vs++ws).toArray:=by simp
 by_cases hw:ws=[]
 ·exact concat_meets ⟨_,ho,rfl⟩ ⟨_,ho2,rfl⟩ noFill_tuple_add seq_tuple_add PySem.F.slot_tuple_add PySem.F.entry_tuple_add (PySem.F.args_tuple_add_2 _ _)
   (tuple_addW1 t b vs.toArray ws.toArray n n2 dd dd2 sl sl2 (by simpa using hv) (by simp[hw])) ⟨ho,ho2,h1 hw⟩
 ·refine concat_meets ⟨_,ho,rfl⟩ ⟨_,ho2,rfl⟩ noFill_tuple_add seq_tuple_add PySem.F.slot_tuple_add PySem.F.entry_tuple_add (PySem.F.args_tuple_add_2 _ _)
   (tuple_addW2 t b vs.toArray ws.toArray n n2 dd dd2 sl sl2 (by simpa using hv) (by simpa using hw) (by rw[List.size_toArray,List.size_toArray];exact hsz)) ⟨ho,ho2,?_⟩
  rw[e]
  exact h2 hw
noncomputable def Ew(n d:Nat):Option Int->Nat
 |none=>d
 |some v=>if v < 0 then (v+(n:Int)).toNat else min v.toNat n
def jm(n d:Nat):Ew n d none=d:=rfl
def gQ(n d k:Nat):Ew n d (some (k:Int))=min k n:=by
 show(if (k:Int) < 0 then ((k:Int)+(n:Int)).toNat else min (k:Int).toNat n)=min k n
 rw[if_neg (by omega),Int.toNat_natCast]
def yg(n d:Nat)(hd:d<=n)(o:Option Int):Ew n d o<=n:=by
 cases o with
 |none=>exact hd
 |some v=>
  show(if v < 0 then (v+(n:Int)).toNat else min v.toNat n)<=n
  by_cases hv:v < 0
  ·rw[if_pos hv];omega
  ·rw[if_neg hv];exact Nat.min_le_right _ _
def oH(v:Int)(n d:Nat):(if v < 0 then max (v+(n:Int)) 0 else min v (n:Int))=((Ew n d (some v):Nat):Int):=by
 show(if v < 0 then max (v+(n:Int)) 0 else min v (n:Int))=(((if v < 0 then (v+(n:Int)).toNat else min v.toNat n):Nat):Int)
 by_cases hv:v < 0
 ·simp only[if_pos hv];omega
 ·simp only[if_neg hv];omega
def m6(lo hi:Option Int)(n:Nat):Builtin.Slice.sliceAdjust lo hi 1 (n:Int)=(((Ew n 0 lo:Nat):Int),((Ew n n hi:Nat):Int)):=by
 have h1:¬((1:Int) < 0):=by omega
 unfold Builtin.Slice.sliceAdjust
 simp only[h1,if_false]
 refine Prod.ext ?_ ?_
 ·cases lo with
  |none=>rfl
  |some v=>exact oH v n 0
 ·cases hi with
  |none=>rfl
  |some v=>exact oH v n n
def m7(i j:Nat):Builtin.Slice.slicePlaces (i:Int) (j:Int) 1=j - i:=by
 unfold Builtin.Slice.slicePlaces
 have h1:(1:Int) > 0:=by omega
 simp only[h1,if_true,Int.ediv_one]
 split<;>omega
def jn{v:Value}{o:Option Int}{Q:Option Int->Shared->Prop}(p:IsPart v o)(h:Q o s):wpAny (model prog w) A (Builtin.Slice.slicePartIndex v) Q E s:=by
 cases p with
 |none=>exact slicePart_none h
 |int i t=>exact slicePart_int h
def dU{sl:Addr}{vl vu:Value}{lo hi:Option Int}{n:Nat}{Q:Int×Int×Nat->Shared->Prop}(hs:s.heap.IsSliceOf sl vl vu .none)(pl:IsPart vl lo)(pu:IsPart vu hi)
  (h:Q (((Ew n 0 lo:Nat):Int),1,Ew n n hi - Ew n 0 lo) s):wpAny (model prog w) A (Builtin.Slice.sliceApplied (.ref sl) (pure (n:Int))) Q E s:=by
 obtain⟨os,hos,hcs,hds⟩:=id hs
 unfold Builtin.Slice.sliceApplied Builtin.Slice.sliceFields
 refine wpAny_bind (wpAny_bind (wpAny_field hos hds (x:=vl) rfl (wpAny_bind (wpAny_field hos hds (x:=vu) rfl (wpAny_bind (wpAny_field hos hds (x:=.none) rfl (wpAny_pure ?_)))))))
 refine wpAny_bind (slicePart_none ?_)
 show wpAny _ _ (if ((1:Int) == 0)=true then _ else _) _ _ s
 rw[if_neg (by decide)]
 refine wpAny_bind (jn pl (wpAny_bind (jn pu (wpAny_bind (wpAny_pure ?_)))))
 show wpAny _ _ (match Builtin.Slice.sliceAdjust lo hi 1 (n:Int)with|(lo,hi)=>pure (lo,(1:Int),Builtin.Slice.slicePlaces lo hi 1)) _ _ s
 rw[m6 lo hi n]
 show wpAny _ _ (pure (((Ew n 0 lo:Nat):Int),(1:Int),Builtin.Slice.slicePlaces ((Ew n 0 lo:Nat):Int) ((Ew n n hi:Nat):Int) 1)) _ _ s
 rw[m7]
 exact wpAny_pure h
def rT(xs:Vw)(i k:Nat):((List.range k).filterMap fun(m:Nat)=>xs[((i:Int)+(m:Int) * 1).toNat]?).toArray=((xs.toList.drop i).take k).toArray:=by
 have e:(fun(m:Nat)=>xs[((i:Int)+(m:Int) * 1).toNat]?)=fun m=>xs[i+m]?:=by
  funext m
  have:((i:Int)+(m:Int) * 1).toNat=i+m:=by omega
  rw[this]
 rw[e]
 have:=pick_run xs i k
 rw[List.filterMap_map]at this
 have e2:((fun x=>xs[x]?) ∘ fun x=>i+x)=fun m=>xs[i+m]?:=rfl
 rw[e2]at this
 rw[this]
def gR{t sl:Addr}{items:Vw}{vl vu:Value}{lo hi:Option Int}{Q:Vq}(ht:IsTup s.heap t items)(hs:s.heap.IsSliceOf sl vl vu .none)(pl:IsPart vl lo)(pu:IsPart vu hi)
  (hw:¬(Ew items.size 0 lo=0/\Ew items.size items.size hi=items.size))
  (h:Q (.ref s.heap.objs.size) { s with heap:=s.heap.push { cls:=.type "tuple",data:=.seq ((items.toList.drop (Ew items.size 0 lo)).take (Ew items.size items.size hi - Ew items.size 0 lo)).toArray } })
  (hsz:items.size<=sizeLine):wpAny (model prog w) A (getItem (.ref t) (.ref sl)) Q E s:=by
 have Ha:sizeOk (.seq ((items.toList.drop (Ew items.size 0 lo)).take (Ew items.size items.size hi - Ew items.size 0 lo)).toArray):=by
  show((items.toList.drop (Ew items.size 0 lo)).take (Ew items.size items.size hi - Ew items.size 0 lo)).toArray.size<=sizeLine
  rw[List.size_toArray,List.length_take,List.length_drop,Array.length_toList]
  omega
 have hj:Ew items.size items.size hi<=items.size:=yg _ _ (Nat.le_refl _) hi
 obtain⟨os,hos,hcs,hds⟩:=id hs
 have Kj:s.TypeIs (.ref sl) "slice":=⟨os,hos,hcs⟩
 unfold getItem
 try with_reducible refine wpAny_holding ?_
 first|refine wpAny_bind (wpAny_pure ?_)|skip
 refine wpAny_bind (wpAny_sequenceKey ht.typeIs (by decide) ?_)
 refine wpAny_bind (wpAny_callSpecial?_slot (name:=Str.ofString "__getitem__") ht.typeIs PyProof.Rows.slot_tuple_getitem
  (wpAny_call_entry PyProof.Rows.slot_tuple_getitem ht.typeIs entry_tuple_getitem ?_ (args_tuple_getitem _ _)))
 show wpAny _ _ (Builtin.Tuple.tupleItemsOf (.ref t) >>= _) _ _ s
 refine wpAny_bind (tupleItemsOf_ ht ?_)
 refine wpAny_bind (wpAny_typeOf Kj ?_)
 rw[if_pos (by decide)]
 refine wpAny_bind (dU hs pl pu ?_)
 have hno:¬((((Ew items.size 0 lo:Nat):Int) == 0&&(1:Int) == 1&&(Ew items.size items.size hi - Ew items.size 0 lo) == items.size)=true):=by
  intro q
  rw[Bool.and_eq_true,Bool.and_eq_true]at q
  have q1:((Ew items.size 0 lo:Nat):Int)=0:=eq_of_beq q.1.1
  have q2:Ew items.size items.size hi - Ew items.size 0 lo=items.size:=eq_of_beq q.2
  exact hw ⟨by omega,by omega⟩
 show wpAny _ _ (if (((Ew items.size 0 lo:Nat):Int) == 0&&(1:Int) == 1&&(Ew items.size items.size hi - Ew items.size 0 lo) == items.size)=true then _ else _) _ _ s
 rw[if_neg hno,rT]
 first
  |exact wpAny_bind (m:=Builtin.Tuple.tupleExact _) (wpAny_newObj_type (wpAny_pure ⟨_,rfl,wpAny_pure h⟩) Ha)
  |exact wpAny_bind (m:=Builtin.Tuple.tupleExact _) (wpAny_newObj_type (wpAny_bind (wpAny_pure (wpAny_pure ⟨_,rfl,wpAny_pure h⟩))) Ha)
  |exact wpAny_bind (wpAny_bind (m:=Builtin.Tuple.tupleExact _) (wpAny_newObj_type (wpAny_pure (wpAny_pure ⟨_,rfl,wpAny_pure h⟩)) Ha))
  |exact wpAny_bind (wpAny_bind (m:=Builtin.Tuple.tupleExact _) (wpAny_newObj_type (wpAny_pure ⟨_,rfl,wpAny_pure h⟩) Ha))
end
end HT
namespace L2
open PySem PySem.Spec PyProof.Rows
abbrev TO:=St->Hp->(Option Int->Hp->Prop)->Prop
def PO(X:Cx)(e:Option Expr)(t:TO):Prop:=
 ∀(pins:Va) (s:Shared) (σ:St) (H:Hp) (Q:Option Int->Hp->Prop),Inv X pins σ H s->t σ H Q->
  wpAny (model X.prog X.w) X.A (evalPart e X.env) (fun u s'=>∃o H',Inv X pins σ H' s'/\IsPart u o/\Q o H') X.xe s
noncomputable def vi:TO:=fun _ H Q=>Q none H
noncomputable def AB(t:TE):TO:=fun σ H Q=>t σ H fun x H1=>∃i,x = .int i/\Q (some i) H1
def ee{ns:Vu}:∀{us:Vv},Vals (ns.map V.int) us->IntsAre us ns:=by
 induction ns with
 |nil=>intro us r;rw[List.map_nil]at r;cases r;exact .nil
 |cons n ns ih=>
  intro us r
  rw[List.map_cons]at r
  cases r with
  |cons r1 r2=>
   obtain⟨t,e⟩:=r1
   subst e
   exact .cons n t (ih r2)
section
variable {X:Cx} {e:Expr} {te:TE} {lo hi:Option Expr} {tl th:TO} {pos p2:Pos}
def vj:PO X none vi:=by
 intro pins s σ H Q I h
 rw[evalPart_none]
 exact wpAny_pure ⟨none,H,I,.none,h⟩
def vk(h:PE X e te):PO X (some e) (AB te):=by
 intro pins s σ H Q I hw
 rw[evalPart_some]
 refine bA (h pins s σ H _ I hw) fun u s1 ⟨x,H1,I1,r1,q1⟩=>?_
 obtain⟨i,rfl,q⟩:=q1
 obtain⟨t,rfl⟩:=r1
 exact⟨some i,H1,I1,.int i t,q⟩
def zQ(X:Cx)(r:V->Option Int->Option Int->Hp->VK->Prop):Prop:=
 ∀(pins:Va) (s:Shared) (σ:St) (H:Hp) (x:V) (v vl vu:Value) (lo hi:Option Int) (sl:Addr) (Q:VK),Inv X pins σ H s->RelV x v->s.heap.IsSliceOf sl vl vu .none->IsPart vl lo->IsPart vu hi->r x lo hi H Q->
  ∃T id,typeLookup (.type T) "__getitem__" = pure (some (.builtin id))/\s.TypeIs v T/\wpAny (model X.prog X.w) X.A (getItem v (.ref sl)) (EP X pins σ Q) X.xe s
def DM(r:V->Option Int->Option Int->Hp->VK->Prop)(te:TE)(tl th:TO):TE:=fun σ H Q=>te σ H fun x H1=>tl σ H1 fun l H2=>th σ H2 fun u H3=>r x l u H3 Q
def rV{r:V->Option Int->Option Int->Hp->VK->Prop}(hr:zQ X r)(he:PE X e te)(hl:PO X lo tl)(hu:PO X hi th):PE X (.Subscript e (.Slice lo hi none p2) pos) (DM r te tl th):=by
 intro pins s σ H Q I h
 refine Subscript_ (bA (he pins s σ H _ I h) fun v s1 ⟨x,H1,I1,r1,q1⟩=>?_)
 refine wpAny_Slice (bA (hl pins s1 σ H1 _ I1 q1) fun vl s2 ⟨l,H2,I2,pl,q2⟩=>bA (hu pins s2 σ H2 _ I2 q2) fun vu s3 ⟨u,H3,I3,pu,q3⟩=>?_)
 rw[evalPart_none]
 refine wpAny_pure ?_
 have I4:Inv X pins σ H3 { s3 with heap:=s3.heap.push { cls:=.type "slice",data:=.fields #[vl,vu,.none] } }:=I3.kept (t':=s3.toks) fun b ob q=>Heap.get?_push_of_some _ q
 obtain⟨T,id,hT,ht,hg⟩:=hr pins { s3 with heap:=s3.heap.push { cls:=.type "slice",data:=.fields #[vl,vu,.none] } } σ H3 x v vl vu l u s3.heap.objs.size Q I4 r1 (Heap.IsSliceOf.new ..) pl pu q3
 show wpAny (model X.prog X.w) X.A (subscriptTail e (.Slice lo hi none p2) v (.ref s3.heap.objs.size)) (EP X pins σ Q) X.xe { s3 with heap:=s3.heap.push { cls:=.type "slice",data:=.fields #[vl,vu,.none] } }
 exact tail_any (ops:=[.ref s3.heap.objs.size,v]) ht hT hg (by with_unfolding_all rfl)
noncomputable def jo(xs:List V)(lo hi:Option Int):List V:=(xs.drop (HT.Ew xs.length 0 lo)).take (HT.Ew xs.length xs.length hi - HT.Ew xs.length 0 lo)
def iV(xs:List V)(lo hi:Option Int):(jo xs lo hi).length<=xs.length:=by
 unfold jo
 rw[List.length_take,List.length_drop]
 omega
noncomputable def Cw(K:Vo):V->Option Int->Option Int->Hp->VK->Prop:=fun x lo hi H Q=>∃a xs,x = .ref a/\SqT K H a xs/\
 ¬(HT.Ew xs.length 0 lo=0/\HT.Ew xs.length xs.length hi=xs.length)/\∀p,H p=none->Q (.ref p) (upd H p (.tup (jo xs lo hi)))
def yh:zQ X (Cw X.K):=by
 intro pins s σ H x v vl vu lo hi sl Q I rx hs pl pu h
 obtain⟨a,xs,rfl,hx,hw,q⟩:=h
 cases rx
 obtain⟨its,r,ht,hz⟩:=I.tuple hx
 have hlen:its.toArray.size=xs.length:=by rw[List.size_toArray];exact r.length.symm
 refine⟨"tuple",_,PyProof.Rows.slot_tuple_getitem.lookup,ht.typeIs,?_⟩
 refine HT.gR ht hs pl pu (by rw[hlen];exact hw) ?_ (by rw[hlen];exact hz)
 rw[hlen]
 refine⟨.ref s.heap.objs.size,_,I.laid (t':=s.toks) (o:=.tup (jo xs lo hi)) (fun b ob q=>Heap.get?_push_of_some _ q) (Nat.le_refl _) ?_,rfl,q _ (I.hok.fresh (Nat.le_refl _))⟩
 exact⟨Nat.le_trans (iV xs lo hi) hz,_,(r.drop (HT.Ew xs.length 0 lo)).take (HT.Ew xs.length xs.length hi - HT.Ew xs.length 0 lo),ES.new _ _⟩
def AC(K:Vo):R2:=fun x y H Q=>∃a b xs ys,x = .ref a/\y = .ref b/\SqT K H a xs/\SqT K H b ys/\xs≠[]/\xs.length+ys.length<=sizeLine/\
 (ys=[]->Q (.ref a) H)/\(ys≠[]->∀p,H p=none->Q (.ref p) (upd H p (.tup (xs++ys))))
def Vals.Gu{xs:List V}{us:Vv}(r:Vals xs us):us=[]↔xs=[]:=by
 cases r with
 |nil=>simp
 |cons _ _=>simp
def vm:fQ X (binaryOp .Add) (AC X.K):=by
 intro pins s σ H x y v u Q I rx ry h
 obtain⟨a,b,xs,ys,rfl,rfl,ha,hb,hx,hz,q1,q2⟩:=h
 cases rx
 cases ry
 obtain⟨its,r1,p1,_⟩:=I.tuple ha
 obtain⟨its2,r2,p2,_⟩:=I.tuple hb
 refine HT.vh p1 p2 (fun z=>hx (r1.Gu.mp z)) (fun z=>⟨.ref a,H,I,rfl,q1 (r2.Gu.mp z)⟩) (fun z=>?_) (by rw[<-r1.length,<-r2.length];exact hz)
 refine⟨.ref s.heap.objs.size,_,I.laid (t':=s.toks) (o:=.tup (xs++ys)) (fun b ob q=>Heap.get?_push_of_some _ q) (Nat.le_refl _) ?_,rfl,q2 (fun w=>z (r2.Gu.mpr w)) _ (I.hok.fresh (Nat.le_refl _))⟩
 exact⟨by rw[List.length_append];exact hz,_,r1.append r2,ES.new _ _⟩
end
noncomputable def oI(n:Nat)(i:Int):Option Nat:=if 0<=i then (if i < n then some i.toNat else none) else if -(n:Int)<=i then some (i+n).toNat else none
noncomputable def ER{α:Type}(xs:List α)(i:Int):Option α:=(oI xs.length i).bind fun j=>xs[j]?
def oJ{n:Nat}{i:Int}{j:Nat}(h:oI n i=some j):seqIndex? i n=some j/\j < n/\-(n:Int)<=i/\i < n:=by
 unfold oI at h
 by_cases h0:0<=i
 ·rw[if_pos h0]at h
  by_cases h1:i < n
  ·rw[if_pos h1]at h
   have e:i.toNat=j:=Option.some.inj h
   exact⟨by rw[seqIndex_of h0 h1,e],by omega,by omega,h1⟩
  ·rw[if_neg h1]at h;cases h
 ·rw[if_neg h0]at h
  by_cases h1:-(n:Int)<=i
  ·rw[if_pos h1]at h
   have e:(i+n).toNat=j:=Option.some.inj h
   exact⟨by rw[seqIndex_neg (by omega) h1,e],by omega,h1,by omega⟩
  ·rw[if_neg h1]at h;cases h
def kO{α:Type}{xs:List α}{i:Int}{v:α}(h:ER xs i=some v):∃j,seqIndex? i xs.length=some j/\xs[j]?=some v/\j < xs.length/\-(xs.length:Int)<=i/\i < xs.length:=by
 unfold ER at h
 cases e:oI xs.length i with
 |none=>rw[e]at h;cases h
 |some j=>
  rw[e]at h
  obtain⟨h1,h2,h3,h4⟩:=oJ e
  exact⟨j,h1,h,h2,h3,h4⟩
def bB{α:Type}{xs:List α}{j:Nat}{v:α}(h:xs[j]?=some v):ER xs (j:Int)=some v:=by
 have hj:j < xs.length:=(List.getElem?_eq_some_iff.mp h).1
 have e:oI xs.length (j:Int)=some j:=by
  unfold oI
  rw[if_pos (by omega),if_pos (by omega)];simp
 unfold ER;rw[e];exact h
def je(b:Expr):Prop:=∀o i,subscripted b false o i=operate [o,i] (getItem o i)
def zR(X:Cx)(r:R2):Prop:=
 ∀(value slice:Expr) (pins:Va) (s:Shared) (σ:St) (H:Hp) (x y:V) (v u:Value) (Q:VK),Inv X pins σ H s->RelV x v->RelV y u->r x y H Q->
  subscripted slice false v u=operate [v,u] (getItem v u)->wpAny (model X.prog X.w) X.A (subscriptTail value slice v u) (EP X pins σ Q) X.xe s
def BW(X:Cx)(id:String)(r:V->List V->Hp->VK->Prop):Prop:=
 ∀(pins:Va) (s:Shared) (σ:St) (H:Hp) (x:V) (xs:List V) (v:Value) (us:Vv) (Q:VK),Inv X pins σ H s->RelV x v->Vals xs us->r x xs H Q->
  wpAny (model X.prog X.w) X.A (call (.builtin id) (v::us)) (EP X pins σ Q) X.xe s
section
variable {X:Cx} {a b:Expr} {ta tb:TE} {pos:Pos}
def AD{r:R2}(hr:zR X r)(ha:PE X a ta)(hb:PE X b tb)(hs:je b):PE X (.Subscript a b pos) (zP r ta tb):=by
 intro pins s σ H Q I h
 exact Subscript_ (xT ha hb I h fun v u s2 x y H2 I2 rx ry q=>hr a b pins s2 σ H2 x y v u Q I2 rx ry q (hs _ _))
def Cy(K:Vo):R2:=fun x y H Q=>∃p xs i v,x = .ref p/\y = .int i/\SqL K H p xs/\ER xs i=some v/\Q v H
def Cz(K:Vo):R2:=fun x y H Q=>∃p xs i v,x = .ref p/\y = .int i/\SqT K H p xs/\ER xs i=some v/\Q v H
def CA:R2:=fun x y H Q=>∃z i c,x = .str z/\y = .int i/\z.length<=sizeLine/\ER z.cps.toList i=some c/\Q (.str ⟨#[c]⟩) H
def oK:zR X (Cy X.K):=by
 intro value slice pins s σ H x y v u Q I rx ry h hs
 obtain⟨p,xs,i,z,rfl,rfl,hq,he,q⟩:=h
 cases rx
 obtain⟨t,rfl⟩:=ry
 obtain⟨its,r,pl,hz⟩:=I.list hq
 obtain⟨j,h1,h2,h3,h4,h5⟩:=kO he
 obtain⟨w,ew,rw'⟩:=r.get h2
 have hl:=r.length
 have hn:=iq
 have fin:EP X pins σ Q w s:=⟨z,H,I,rw',q⟩
 by_cases h0:0<=i
 ·have hj:i.toNat=j:=by
   rw[seqIndex_of h0 h5]at h1
   exact Option.some.inj h1
  exact item_listR pl.isList h0 (by omega) (by rw[hj];simpa using ew) fin hs
 ·have hj:(i+(its.toArray.size:Int)).toNat=j:=by
   rw[seqIndex_neg (by omega) h4]at h1
   rw[List.size_toArray,<-hl]
   exact Option.some.inj h1
  exact subscriptTail_builtinR (x:=w) pl.isList.typeIs slot_list_getitem.lookup
   (wpAny_getItem_list_neg (Q:=fun r s'=>r=w/\EP X pins σ Q r s') pl.isList (by omega) (by rw[List.size_toArray]<;>omega) (by omega) (by rw[hj];simpa using ew) ⟨rfl,fin⟩) hs
def yi:zR X (Cz X.K):=by
 intro value slice pins s σ H x y v u Q I rx ry h hs
 obtain⟨p,xs,i,z,rfl,rfl,hq,he,q⟩:=h
 cases rx
 obtain⟨t,rfl⟩:=ry
 obtain⟨its,r,pl,hz⟩:=I.tuple hq
 obtain⟨j,h1,h2,h3,h4,h5⟩:=kO he
 obtain⟨w,ew,rw'⟩:=r.get h2
 have hl:=r.length
 have hn:=iq
 have fin:EP X pins σ Q w s:=⟨z,H,I,rw',q⟩
 exact subscriptTail_builtinR (x:=w) pl.typeIs slot_tuple_getitem.lookup
  (getItem_tuple (j:=j) (Q:=fun r s'=>r=w/\EP X pins σ Q r s') pl (by omega) (by omega) (by rw[List.size_toArray,<-hl];exact h1) (by simpa using ew) ⟨rfl,fin⟩) hs
def yj:zR X CA:=by
 intro value slice pins s σ H x y v u Q I rx ry h hs
 obtain⟨z,i,c,rfl,rfl,hz,he,q⟩:=h
 obtain⟨t,rfl⟩:=rx
 obtain⟨t',rfl⟩:=ry
 obtain⟨j,h1,h2,h3,h4,h5⟩:=kO he
 have hl:z.cps.toList.length=z.length:=by simp[Str.length]
 rw[hl]at h1 h4 h5
 have hn:=iq
 exact tail_any (typeIs_str s z t) slot_str_getitem.lookup (getItem_str (c:=c) (by
  have e1:decide (i < -(2 ^ 63:Int))=false:=decide_eq_false (by omega)
  have e2:decide (i>=2 ^ 63)=false:=decide_eq_false (by omega)
  rw[e1,e2,Bool.or_false]) (by rw[h1];simpa using h2) ⟨.str ⟨#[c]⟩,H,I.tok _,⟨_,rfl⟩,q⟩) hs
def m8(its:Vv)(n j:Nat)(u:Value):Obj.mapSeq (·.setIfInBounds j u) { cls:=.type "list",data:=.seq its.toArray n }={ cls:=.type "list",data:=.seq (its.set j u).toArray n }:=by
 simp[Obj.mapSeq]
theorem Inv.lst{pins:Va}{σ:St}{H:Hp}{s:Shared}{p:Addr}{xs:List V}(I:Inv X pins σ H s)(h:H p=some (.lst xs)) :
  ∃(its:Vv) (n:Nat),Vals xs its/\s.heap.get? p=some { cls:=.type "list",data:=.seq its.toArray n }/\xs.length<=sizeLine:=by
 obtain⟨z,its,n,r,e⟩:=I.hok p _ h
 exact⟨its,n,r,e,z⟩
def Inv.IE{pins:Va}{σ:St}{H:Hp}{s:Shared}{p:Addr}{xs ys:List V}{its its':Vv}{n n':Nat}{f:Obj->Obj}(I:Inv X pins σ H s)(h:H p=some (.lst xs))
  (ho:s.heap.get? p=some { cls:=.type "list",data:=.seq its.toArray n }) (hf:f { cls:=.type "list",data:=.seq its.toArray n }={ cls:=.type "list",data:=.seq its'.toArray n' }) (r:Vals ys its') (hz:ys.length<=sizeLine) (t:Nat) :
  Inv X pins σ (upd H p (.lst ys)) { s with heap:=s.heap.update p f,toks:=t }:=by
 have e:(s.heap.update p f).get? p=some { cls:=.type "list",data:=.seq its'.toArray n' }:=by
  rw[Heap.get?_update_self f ho (by rw[hf]<;>rfl),hf]
 refine I.write (x:=p) (e:=p) (by rw[h];trivial) (.inl rfl) (fun b u hb q=>(Heap.get?_update_other _ _ (Ne.symm hb)).trans q) ⟨_,e⟩ ?_
 exact⟨hz,its',n',r,e⟩
noncomputable def AE:V->V->V->Hp->(Hp->Prop)->Prop:=fun o i v H Q=>∃p xs k j,o = .ref p/\i = .int k/\H p=some (.lst xs)/\oI xs.length k=some j/\Q (upd H p (.lst (xs.set j v)))
def rW:uX X AE:=by
 intro pins s σ H o i v ov iv u Q I ro ri rv h
 obtain⟨p,xs,k,j,rfl,rfl,hp,hj,q⟩:=h
 cases ro
 obtain⟨t,rfl⟩:=ri
 obtain⟨its,n,r,ho,hz⟩:=I.lst hp
 obtain⟨h1,h2,h3,h4⟩:=oJ hj
 have hl:=r.length
 have hn:=iq
 have I':Inv X pins σ (upd H p (.lst (xs.set j v))) { s with heap:=s.heap.update p (Obj.mapSeq (·.setIfInBounds j u)) }:=
  I.IE hp ho (m8 its n j u) (r.set rv j) (by rw[List.length_set];exact hz) s.toks
 by_cases h0:0<=k
 ·have hk:k.toNat=j:=by
   rw[seqIndex_of h0 h4]at h1
   exact Option.some.inj h1
  exact PySem.W.ki_setAt ho h0 (by omega) (by rw[List.size_toArray,<-hl];exact h4) (by rw[hk];exact⟨_,I',q⟩)
 ·have hk:(k+(its.toArray.size:Int)).toNat=j:=by
   rw[seqIndex_neg (by omega) h3]at h1
   rw[List.size_toArray,<-hl]
   exact Option.some.inj h1
  exact PySem.W.ki_setBack ho (by omega) (by rw[List.size_toArray,<-hl];exact h3) (by omega) (by rw[hk];exact⟨_,I',q⟩)
def kP(lo hi:Option Int)(n:Nat):(sliceBounds lo hi none n).1=((HT.Ew n 0 lo:Nat):Int)/\(sliceBounds lo hi none n).2.1=((HT.Ew n n hi:Nat):Int)/\(sliceBounds lo hi none n).2.2=1:=by
 refine⟨?_,?_,rfl⟩
 ·cases lo with
  |none=>simp[sliceBounds,HT.Ew]
  |some i=>
   simp only[sliceBounds,HT.Ew,Option.getD_none,show(1:Int) > 0 by decide,if_true]
   by_cases h:i < 0
   ·simp only[h,if_true]<;>omega
   ·simp only[h,if_false]<;>omega
 ·cases hi with
  |none=>simp[sliceBounds,HT.Ew]
  |some i=>
   simp only[sliceBounds,HT.Ew,Option.getD_none,show(1:Int) > 0 by decide,if_true]
   by_cases h:i < 0
   ·simp only[h,if_true]<;>omega
   ·simp only[h,if_false]<;>omega
def jX(its:Vv)(lo hi:Option Int):slicePick its.toArray lo hi none=((its.drop (HT.Ew its.length 0 lo)).take (HT.Ew its.length its.length hi - HT.Ew its.length 0 lo)).toArray:=by
 obtain⟨h1,h2,h3⟩:=kP lo hi its.toArray.size
 unfold slicePick
 rw[h1,h2,h3]
 simp only[sliceRange_one,pick_run,List.size_toArray]<;>rfl
noncomputable def CB(K:Vo):V->Option Int->Option Int->Hp->VK->Prop:=fun x lo hi H Q=>∃a xs,x = .ref a/\SqL K H a xs/\∀p,H p=none->Q (.ref p) (upd H p (.lst (jo xs lo hi)))
def oM:zQ X (CB X.K):=by
 intro pins s σ H x v vl vu lo hi sl Q I rx hs pl pu h
 obtain⟨a,xs,rfl,hx,q⟩:=h
 cases rx
 obtain⟨its,r,ht,hz⟩:=I.list hx
 have hlen:=r.length
 refine⟨"list",_,slot_list_getitem.lookup,ht.isList.typeIs,?_⟩
 refine wpAny_getItem_list_slice ht.isList hs pl pu .none (by simp) ?_ (by rw[List.size_toArray]<;>omega)
 rw[jX,<-hlen]
 refine⟨.ref s.heap.objs.size,_,I.laid (t':=s.toks) (o:=.lst (jo xs lo hi)) (fun b ob q=>Heap.get?_push_of_some _ q) (Nat.le_refl _) ?_,rfl,q _ (I.hok.fresh (Nat.le_refl _))⟩
 exact⟨Nat.le_trans (iV xs lo hi) hz,_,0,(r.drop (HT.Ew xs.length 0 lo)).take (HT.Ew xs.length xs.length hi - HT.Ew xs.length 0 lo),Heap.get?_push_size _ rfl⟩
def eA:eR X (.builtin "len") (fun xs H Q=>∃p ys,xs=[.ref p]/\(SqL X.K H p ys\/SqT X.K H p ys)/\Q (.int ys.length) H):=by
 intro pins s σ H xs us Q I r h
 obtain⟨p,ys,rfl,hq,q⟩:=h
 obtain⟨u,rfl,rx⟩:=fU r
 cases rx
 have hn:=iq
 rcases hq with hq|hq
 ·obtain⟨its,r',pl,hz⟩:=I.list hq
  have hlen:=r'.length
  exact Calls.call_len_list pl.isList (by simp only[List.size_toArray]<;>omega) ⟨.int ys.length,H,I.tok _,⟨s.toks+1,by rw[List.size_toArray,hlen]⟩,q⟩
 ·obtain⟨its,r',pl,hz⟩:=I.tuple hq
  have hlen:=r'.length
  exact len_tuple pl (by simp only[List.size_toArray]<;>omega) ⟨.int ys.length,H,I.tok _,⟨s.toks+1,by rw[List.size_toArray,hlen]⟩,q⟩
def kQ:eR X (.builtin "len") (fun xs H Q=>∃z,xs=[.str z]/\z.length<=sizeLine/\Q (.int z.length) H):=by
 intro pins s σ H xs us Q I r h
 obtain⟨z,rfl,hz,q⟩:=h
 obtain⟨u,rfl,t,rfl⟩:=fU r
 have hn:=iq
 exact len_str (by omega) ⟨.int z.length,H,I.tok _,⟨_,rfl⟩,q⟩
def fW:eR X (.type "tuple") (fun xs H Q=>∃p ys,xs=[.ref p]/\((SqL X.K H p ys/\∀l,H l=none->Q (.ref l) (upd H l (.tup ys)))\/(SqT X.K H p ys/\Q (.ref p) H))):=by
 intro pins s σ H xs us Q I r h
 obtain⟨p,ys,rfl,h⟩:=h
 obtain⟨u,rfl,rx⟩:=fU r
 cases rx
 rcases h with⟨hq,q⟩|⟨hq,q⟩
 ·obtain⟨its,r',pl,hz⟩:=I.list hq
  have hlen:=r'.length
  refine call_tuple_list pl.isList (fun h' kp=>?_) (by simp only[List.size_toArray]<;>omega)
  have I1:Inv X pins σ H { s with heap:=h' }:=I.kept (t':=s.toks) kp
  have I2:Inv X pins σ (upd H h'.objs.size (.tup ys)) { s with heap:=h'.push { cls:=.type "tuple",data:=.seq its.toArray } }:=
   I1.laid (t':=s.toks) (fun b o e=>Heap.get?_push_of_some _ e) (Nat.le_refl _) (show ED X.prog X.w _ _ _ (.tup ys)from ⟨hz,its,r',ES.new _ _⟩)
  exact⟨.ref h'.objs.size,_,I2,rfl,q _ (I1.hok.fresh (Nat.le_refl _))⟩
 ·obtain⟨its,r',pl,hz⟩:=I.tuple hq
  exact call_tuple_same pl ⟨.ref p,H,I,rfl,q⟩
def BX(K:Vo)(T:String)(x:V)(H:Hp):Prop:=match x with
 | .str _=>T = "str"
 | .int _=>T = "int"
 | .ref p=>(T = "list"/\∃xs,SqL K H p xs)\/(T = "tuple"/\∃o,K.lookup p=some o/\o.cls = .type "tuple"/\o.dict=none) \/
   (T = "dict"/\((∃kvs,H p=some (.dK kvs))\/∃kvs,H p=some (.dT kvs)))\/(T = "set"/\∃S n,H p=some (.set S n))
 |_=>False
def rX{pins:Va}{σ:St}{H:Hp}{s:Shared}{T:String}{x:V}{v:Value}(I:Inv X pins σ H s)(r:RelV x v)(ty:BX X.K T x H) :
  s.TypeIs v T/\∀a,v = .ref a->∃ob,s.heap.get? a=some ob/\ob.dict=none:=by
 cases x with
 |str z=>
  obtain⟨t,rfl⟩:=r
  cases (show T = "str" from ty)
  exact⟨typeIs_str s z t,fun _ e=>nomatch e⟩
 |int i=>
  obtain⟨t,rfl⟩:=r
  cases (show T = "int" from ty)
  exact⟨typeIs_int s i t,fun _ e=>nomatch e⟩
 |ref p=>
  cases r
  rcases ty with⟨rfl,xs,hq⟩|⟨rfl,o,hk,hc,hd⟩|⟨rfl,hk⟩|⟨rfl,S,n,hk⟩
  ·obtain⟨its,_,pl,_⟩:=I.list hq
   refine⟨pl.isList.typeIs,fun a e=>?_⟩
   cases e
   obtain⟨o,n,e,c,hd,_⟩:=pl
   exact⟨o,e,hd⟩
  ·refine⟨⟨o,I.G9 p o hk,hc⟩,fun a e=>?_⟩
   cases e
   exact⟨o,I.G9 _ o hk,hd⟩
  ·have z:∃o,s.heap.get? p=some o/\o.ExactDict:=by
    rcases hk with⟨kvs,hk⟩|⟨kvs,hk⟩
    ·obtain⟨_,_,_,_,o,_,_,e,ex,_⟩:=I.hok p _ hk
     exact⟨o,e,ex⟩
    ·obtain⟨_,_,_,_,o,_,_,e,ex,_⟩:=I.hok p _ hk
     exact⟨o,e,ex⟩
   obtain⟨o,e,ex⟩:=z
   refine⟨⟨o,e,ex.1⟩,fun a e2=>?_⟩
   cases e2
   exact⟨o,e,ex.2.1⟩
  ·obtain⟨o,_,_,_,e,ex,_⟩:=I.hok p _ hk
   refine⟨⟨o,e,ex.1⟩,fun a e2=>?_⟩
   cases e2
   exact⟨o,e,ex.2.1⟩
 |_=>exact False.elim ty
def CC(K:Vo)(T:String)(r:V->List V->Hp->VK->Prop)(to:TE):TE:=fun σ H Q=>to σ H fun x H1=>BX K T x H1/\r x [] H1 Q
def DN(K:Vo)(T:String)(r:V->List V->Hp->VK->Prop)(to:TE)(t:TA):TE:=fun σ H Q=>to σ H fun x H1=>BX K T x H1/\t σ H1 fun xs H2=>r x xs H2 Q
variable {o e:Expr} {es:List Expr} {to:TE} {t:TA} {name:Str} {apos cpos:Pos} {T id:String} {r:V->List V->Hp->VK->Prop}
def yk(pa:PlainAttrs T)(slot:Slot T name id)(hty:typeOf (.builtin id)=pure (.type "method_descriptor"))(hm:BW X id r)(ho:PE X o to)
  (hbase:attributeBase o name X.env (eval o X.env)=eval o X.env:=by rfl) (hline:(apos.endLine == cpos.line)=true:=by rfl):PE X (.Call (.Attribute o name apos) [] [] cpos) (CC X.K T r to):=by
 intro pins s σ H Q I h
 refine wpAny_Call_method0_late hbase hline (bA (ho pins s σ H _ I h) fun v s1 ⟨x,H1,I1,r1,ty,q1⟩=>?_)
 obtain⟨h1,h2⟩:=rX I1 r1 ty
 exact⟨T,id,pa,slot,hty,h1,h2,Calls.callWith_builtin rfl (PySem.evalArgs_none (hm pins s1 σ H1 x [] v [] Q I1 r1 .nil q1))⟩
def AF(pa:PlainAttrs T)(slot:Slot T name id)(hty:typeOf (.builtin id)=pure (.type "method_descriptor"))(hm:BW X id r)(ho:PE X o to)(ha:PA X (e::es) t)
  (hbase:attributeBase o name X.env (eval o X.env)=eval o X.env:=by rfl)
  (hfew:((backTo cpos (starEach (e::es) X.env)).all (fun x=>!x.1)&&(backToKw cpos (keywordEach [] X.env)).all (fun x=>x.1.isSome)
   && decide ((e::es).length+([]:List Keyword).length+(if ([]:List Keyword).isEmpty then 0 else 1) < 30))=true:=by rfl)
  (hline:(apos.endLine == cpos.line)=true:=by rfl) (hs:starEach (e::es) X.env=(false,eval e X.env)::starEach es X.env:=by rfl) (hplain:(backTo cpos (starEach es X.env)).any (·.1)=false:=by rfl) :
  PE X (.Call (.Attribute o name apos) (e::es) [] cpos) (DN X.K T r to t):=by
 intro pins s σ H Q I h
 refine wpAny_Call_method_late hbase hfew hline rfl (bA (ho pins s σ H _ I h) fun v s1 ⟨x,H1,I1,r1,ty,q1⟩=>?_)
 obtain⟨h1,h2⟩:=rX I1 r1 ty
 refine⟨T,id,pa,slot,hty,h1,h2,?_⟩
 have hA:=ha cpos pins s1 σ H1 _ I1 q1
 rw[hs]at hA ⊢
 refine Calls.callWith_builtin (by show(false || (backTo cpos (starEach es X.env)).any (·.1))=false;rw[hplain]<;>rfl) (Calls.evalArgs_plain ?_)
 exact bA hA fun us s2 ⟨vs,H2,I2,r2,q2⟩=>hm pins s2 σ H2 x vs v us Q I2 r1 r2 q2
end
def BY(X:Cx)(id:String)(r:V->List V->Hp->VK->Prop):Prop:=
 ∀(pins:Va) (s:Shared) (σ:St) (H:Hp) (x:V) (xs:List V) (v:Value) (us:Vv) (Q:VK),Inv X pins σ H s->RelV x v->Vals xs us->r x xs H Q->
  wpAny (model X.prog X.w) X.A (call (.builtin id) (v::us)) (EP X pins σ Q) X.xe s
theorem Vals.one:∀{x:V} {us:Vv},Vals [x] us->∃u,us=[u]/\RelV x u
 |_,_,.cons r .nil=>⟨_,rfl,r⟩
theorem Vals.zero:∀{us:Vv},Vals [] us->us=[]
 |_,.nil=>rfl
theorem Vals.dropLast{xs:List V}{us:Vv}(h:Vals xs us):Vals xs.dropLast us.dropLast:=by
 induction h with
 |nil=>exact .nil
 |cons r t ih=>
  cases t with
  |nil=>exact .nil
  |cons q t'=>exact .cons r ih
theorem Vals.eraseIdx:∀{xs:List V} {us:Vv} (i:Nat),Vals xs us->Vals (xs.eraseIdx i) (us.eraseIdx i)
 |_,_,_,.nil=>.nil
 |_,_,0,.cons _ t=>t
 |_,_,i+1,.cons r t=>.cons r (Vals.eraseIdx i t)
theorem Vals.reverse{xs:List V}{us:Vv}(h:Vals xs us):Vals xs.reverse us.reverse:=by
 induction h with
 |nil=>exact .nil
 |cons r t ih=>rw[List.reverse_cons,List.reverse_cons];exact Vals.append ih (.cons r .nil)
theorem Vals.rep{xs:List V}{us:Vv}(h:Vals xs us):∀k:Nat,Vals (List.replicate k xs).flatten (List.replicate k us).flatten
 |0=>.nil
 |k+1=>by
  rw[List.replicate_succ,List.replicate_succ,List.flatten_cons,List.flatten_cons]
  exact Vals.append h (Vals.rep h k)
def m9{α:Type}(l:List α):l.eraseIdx (l.length - 1)=l.dropLast:=by
 induction l with
 |nil=>rfl
 |cons a r ih=>
  cases r with
  |nil=>rfl
  |cons b r=>
   have e:(a::b::r).length - 1=((b::r).length - 1)+1:=by
    have h1:(a::b::r).length=r.length+2:=rfl
    have h2:(b::r).length=r.length+1:=rfl
    omega
   rw[e,List.eraseIdx_cons_succ,ih]
   all_goals rfl
theorem kh{α:Type}:∀(l:List α) (i:Nat),(l.eraseIdx i).length<=l.length
 |[],_=>Nat.le_refl _
 |_::_,0=>Nat.le_succ _
 |_::r,i+1=>Nat.succ_le_succ (kh r i)
theorem ki(its:Vv):∀(k:Nat) (acc:Vv),
  List.foldl (fun x1 x2=>x1++x2) acc.toArray (List.replicate k its.toArray)=(acc++(List.replicate k its).flatten).toArray
 |0,acc=>by simp
 |k+1,acc=>by
  have e:acc.toArray++its.toArray=(acc++its).toArray:=by simp
  have e2:(acc++its)++(List.replicate k its).flatten=acc++(List.replicate (k+1) its).flatten:=by
   rw[List.replicate_succ,List.flatten_cons,List.append_assoc]
  rw[<-e2,<-ki its k (acc++its),<-e,List.replicate_succ,List.foldl_cons]
section
variable {X:Cx} {pins:Va} {σ:St} {H:Hp} {s:Shared} {l b:Addr} {xs ys zs:List V}
def Inv.HU{its its':Vv}{n:Nat}{f:Array Value->Array Value}{t':Nat}(I:Inv X pins σ H s)(hH:H l=some (.lst xs))
  (e:s.heap.get? l=some { cls:=.type "list",data:=.seq its.toArray n }) (hf:f its.toArray=its'.toArray) (hv:Vals ys its') (hz:ys.length<=sizeLine) :
  Inv X pins σ (upd H l (.lst ys)) { s with heap:=s.heap.update l (Obj.mapSeq f),toks:=t' }:=by
 have q:=PySem.IsL.update e f
 rw[hf]at q
 refine I.write (x:=l) (e:=l) (by rw[hH];exact trivial) (.inl rfl) (fun b' u hb hu=>(Heap.get?_update_other s.heap (Obj.mapSeq f) (Ne.symm hb)).trans hu) ⟨_,q⟩ ?_
 exact⟨hz,its',_,hv,q⟩
def Inv.Hh{its:Vv}{t':Nat}(I:Inv X pins σ H s)(hv:Vals ys its)(hz:ys.length<=sizeLine) :
  Inv X pins σ (upd H s.heap.objs.size (.lst ys)) { s with heap:=s.heap.push { cls:=.type "list",data:=.seq its.toArray },toks:=t' }:=
 I.laid (fun _ _ q=>Heap.get?_push_of_some _ q) (Nat.le_refl _) ⟨hz,its,0,hv,Heap.get?_push_size _ rfl⟩
theorem Inv.fresh(I:Inv X pins σ H s):H s.heap.objs.size=none:=I.hok.fresh (Nat.le_refl _)
def Inv.Gv(I:Inv X pins σ H s)(hH:H l=some (.lst xs)):xs.length<=sizeLine/\∃(its:Vv) (n:Nat),Vals xs its/\xs.length=its.length/\s.heap.get? l=some { cls:=.type "list",data:=.seq its.toArray n }:=by
 obtain⟨z,its,n,r,e⟩:=I.hok l _ hH
 exact⟨z,its,n,r,r.length,e⟩
def lU{n:Nat}(h:n<=sizeLine):Builtin.List.listTooLong n=false:=by
 unfold Builtin.List.listTooLong
 exact decide_eq_false (by omega)
end
section
variable {X:Cx}
noncomputable def vn:V->List V->Hp->VK->Prop:=fun x vs H Q=>∃l xs y,x = .ref l/\vs=[y]/\H l=some (.lst xs)/\xs.length < sizeLine/\Q .non (upd H l (.lst (xs++[y])))
def qj:BY X "list.append" vn:=by
 intro pins s σ H x vs v us Q I rx rv h
 obtain⟨l,xs,y,rfl,rfl,hH,hz,q⟩:=h
 cases rx
 obtain⟨u,rfl,ru⟩:=rv.one
 obtain⟨z,its,n,r,hl,e⟩:=I.Gv hH
 refine call_meets F.slot_list_append ⟨_,e,rfl⟩ F.entry_list_append (F.args_list_append_2 _ _) (PySem.list_append l its.toArray n u (by rw[List.size_toArray];omega)) ⟨e,?_⟩
 refine⟨.non,_,I.HU (its':=its++[u]) hH e (by simp) (r.append (.cons ru .nil)) ?_,rfl,q⟩
 rw[List.length_append,List.length_singleton]
 omega
noncomputable def vo:V->List V->Hp->VK->Prop:=fun x vs H Q=>∃l b xs zs,x = .ref l/\vs=[.ref b]/\H l=some (.lst xs)/\H b=some (.lst zs)/\xs.length+zs.length<=sizeLine/\Q .non (upd H l (.lst (xs++zs)))
def qk:BY X "list.extend" vo:=by
 intro pins s σ H x vs v us Q I rx rv h
 obtain⟨l,b,xs,zs,rfl,rfl,hH,hB,hz,q⟩:=h
 cases rx
 obtain⟨u,rfl,ru⟩:=rv.one
 cases ru
 obtain⟨z,its,n,r,hl,e⟩:=I.Gv hH
 obtain⟨z2,its2,n2,r2,hl2,e2⟩:=I.Gv hB
 have hsz:its.toArray.size+its2.toArray.size<=sizeLine:=by rw[List.size_toArray,List.size_toArray];omega
 have Hw:¬(!its.toArray.isEmpty&&Builtin.List.listTooLong (its.toArray.size+its2.toArray.size))=true:=by
  rw[lU hsz,Bool.and_false]
  exact Bool.false_ne_true
 refine call_meets F.slot_list_extend ⟨_,e,rfl⟩ F.entry_list_extend (F.args_list_extend_2 _ _)
  (AutoSeq1.list_extend_list_list_0 l its.toArray n b its2.toArray n2 Hw (by rw[List.size_toArray];omega) (by omega)) ⟨e,e2,?_⟩
 refine⟨.non,_,I.HU (its':=its++its2) hH e (by simp) (r.append r2) ?_,rfl,q⟩
 rw[List.length_append]
 omega
noncomputable def CD:V->List V->Hp->VK->Prop:=fun x vs H Q=>∃l xs y,x = .ref l/\vs=[]/\H l=some (.lst xs)/\xs[xs.length - 1]?=some y/\Q y (upd H l (.lst xs.dropLast))
def ym:BY X "list.pop" CD:=by
 intro pins s σ H x vs v us Q I rx rv h
 obtain⟨l,xs,y,rfl,rfl,hH,hy,q⟩:=h
 cases rx
 have L0:=rv.zero
 subst L0
 obtain⟨z,its,n,r,hl,e⟩:=I.Gv hH
 obtain⟨u,hu,ru⟩:=r.get hy
 have hy':its.toArray[its.toArray.size - 1]?=some u:=by
  show its.toArray[its.length - 1]?=some u
  rw[<-Array.getElem?_toList,<-hl]
  exact hu
 refine call_meets F.slot_list_pop ⟨_,e,rfl⟩ F.entry_list_pop (F.args_list_pop_1 _) (MeetsSeq.list_pop_last l its.toArray n u hy' (by rw[List.size_toArray];omega)) ⟨e,?_⟩
 refine⟨y,_,I.HU (its':=its.dropLast) hH e ?_ r.dropLast ?_,ru,q⟩
 ·show its.toArray.eraseIdxIfInBounds (its.toArray.size - 1)=its.dropLast.toArray
  rw[List.size_toArray,List.eraseIdxIfInBounds_toArray,m9]
 ·rw[List.length_dropLast]
  omega
noncomputable def yn:V->List V->Hp->VK->Prop:=fun x vs H Q=>∃l xs i k y,x = .ref l/\vs=[.int i]/\H l=some (.lst xs)/\-(2 ^ 63)<=i/\i < 2 ^ 63/\seqIndex? i xs.length=some k/\xs[k]?=some y/\Q y (upd H l (.lst (xs.eraseIdx k)))
def rY:BY X "list.pop" yn:=by
 intro pins s σ H x vs v us Q I rx rv h
 obtain⟨l,xs,i,k,y,rfl,rfl,hH,h1,h2,hk,hy,q⟩:=h
 cases rx
 obtain⟨u,rfl,ru⟩:=rv.one
 obtain⟨t,rfl⟩:=ru
 obtain⟨z,its,n,r,hl,e⟩:=I.Gv hH
 obtain⟨w,hw,rw'⟩:=r.get hy
 refine call_meets F.slot_list_pop ⟨_,e,rfl⟩ F.entry_list_pop (F.args_list_pop_2 _ _)
  (MeetsSeq.list_pop_at l its.toArray n i t k w (fitsIndex_both h1 h2) (by rw[List.size_toArray,<-hl];exact hk) (by rw[<-Array.getElem?_toList];exact hw) (by rw[List.size_toArray];omega)) ⟨e,?_⟩
 refine⟨y,_,I.HU (its':=its.eraseIdx k) hH e ?_ (r.eraseIdx k) ?_,rw',q⟩
 ·show its.toArray.eraseIdxIfInBounds k=(its.eraseIdx k).toArray
  rw[List.eraseIdxIfInBounds_toArray]
 ·have:=kh xs k
  omega
def CF:R2:=fun x y H Q=>∃l b xs zs,x = .ref l/\y = .ref b/\H l=some (.lst xs)/\H b=some (.lst zs)/\xs.length+zs.length<=sizeLine/\∀p,H p=none->Q (.ref p) (upd H p (.lst (xs++zs)))
def yo:fQ X (binaryOp .Add) CF:=by
 intro pins s σ H x y v u Q I rx ry h
 obtain⟨l,b,xs,zs,rfl,rfl,hH,hB,hz,q⟩:=h
 cases rx
 cases ry
 obtain⟨z,its,n,r,hl,e⟩:=I.Gv hH
 obtain⟨z2,its2,n2,r2,hl2,e2⟩:=I.Gv hB
 refine PySem.P.add_list e e2 ?_ (by rw[List.size_toArray,List.size_toArray];omega)
 have ea:its.toArray++its2.toArray=(its++its2).toArray:=by simp
 rw[ea]
 exact⟨.ref _,_,I.Hh (t':=s.toks) (r.append r2) (by rw[List.length_append];omega),rfl,q _ I.fresh⟩
def CG:R2:=fun x y H Q=>∃l k xs,x = .ref l/\y = .int k/\H l=some (.lst xs)/\-(2 ^ 63)<=k/\k < 2 ^ 63/\xs.length * k.toNat<=sizeLine/\
 ∀p,H p=none->Q (.ref p) (upd H p (.lst (List.replicate k.toNat xs).flatten))
def vp{α:Type}(xs:List α)(k:Nat):(List.replicate k xs).flatten.length=k * xs.length:=by
 induction k with
 |zero=>simp
 |succ k ih=>rw[List.replicate_succ,List.flatten_cons,List.length_append,ih,Nat.succ_mul,Nat.add_comm]
def yp:fQ X (binaryOp .Mult) CG:=by
 intro pins s σ H x y v u Q I rx ry h
 obtain⟨l,k,xs,rfl,rfl,hH,h1,h2,hz,q⟩:=h
 cases rx
 obtain⟨t,rfl⟩:=ry
 obtain⟨z,its,n,r,hl,e⟩:=I.Gv hH
 have hlen:its.toArray.size * k.toNat<=sizeLine:=by rw[List.size_toArray,<-hl];exact hz
 have hcap:¬its.toArray.size * k.toNat > (2 ^ 63 - 1) / 8:=by
  have:(sizeLine:Nat)<=(2 ^ 63 - 1) / 8:=by decide
  omega
 have hfit:¬(!Builtin.List.listFitsIndex k)=true:=by
  rw[fitsIndex_both h1 h2]
  exact Bool.false_ne_true
 have Hw:¬Builtin.List.listTooLong (its.toArray.size * k.toNat)=true:=by
  rw[lU hlen]
  exact Bool.false_ne_true
 have hnew:List.foldl (fun x1 x2=>x1++x2) #[] (List.replicate (if its.toArray.isEmpty=true then 0 else k.toNat) its.toArray)=(List.replicate k.toNat its).flatten.toArray:=by
  have f0:∀m:Nat,List.foldl (fun x1 x2=>x1++x2) #[] (List.replicate m its.toArray)=(List.replicate m its).flatten.toArray:=fun m=>by
   have:=ki its m []
   rw[List.nil_append]at this
   exact this
  rw[f0]
  cases its with
  |nil=>simp
  |cons a r'=>rw[if_neg (by simp)]
 refine wpAny_binaryOp_repeat_ref (T:="list") (U:="int") (by decide) ⟨_,e,rfl⟩ (fun s'=>typeIs_int s' k t) noFill_list_mul F.fills_int_mul F.slot_int_rmul repeat_list F.slot_int_index.lookup
  (call_meets F.slot_int_rmul (typeIs_int s k t) F.entry_int_rmul (F.args_int_rmul_2 _ _) (int___rmul___int_list k t l its.toArray n)
   ⟨e,rfl,⟨_,e,rfl⟩,call_meets F.slot_list_mul ⟨_,e,rfl⟩ F.entry_list_mul (F.args_list_mul_2 _ _) (AutoListH.list___mul___list_int_3 l its.toArray n k t hfit hcap Hw) ⟨e,?_⟩⟩)
 rw[hnew]
 exact⟨.ref _,_,I.Hh (t':=s.toks) (r.rep k.toNat) (by rw[vp,Nat.mul_comm];exact hz),rfl,q _ I.fresh⟩
end
section
variable {κ:Type} [DecidableEq κ]
noncomputable def iw(kvs:List (κ×V))(k:κ):Option V:=(kvs.find? fun kv=>decide (kv.1=k)).map (·.2)
noncomputable def fh(kvs:List (κ×V))(k:κ)(v:V):List (κ×V):=
 if (kvs.any fun kv=>decide (kv.1=k))=true then kvs.map (fun kv=>if kv.1=k then (kv.1,v) else kv) else kvs++[(k,v)]
def Fw{p:κ×V}{r:List (κ×V)}{k:κ}(e:p.1=k):iw (p::r) k=some p.2:=by simp[iw,List.find?_cons,e]
def Fx{p:κ×V}{r:List (κ×V)}{k:κ}(e:¬p.1=k):iw (p::r) k=iw r k:=by simp[iw,List.find?_cons,e]
theorem jp(k:κ):∀kvs:List (κ×V),(kvs.any fun kv=>decide (kv.1=k))=(iw kvs k).isSome
 |[]=>rfl
 |p::r=>by
  rw[List.any_cons]
  by_cases e:p.1=k
  ·simp only[Fw e,decide_eq_true e,Bool.true_or,Option.isSome_some]
  ·rw[Fx e,decide_eq_false e,Bool.false_or];exact jp k r
def fi(kvs:List (κ×V))(k:κ)(v:V):(fh kvs k v).length<=kvs.length+1:=by
 unfold fh
 split
 ·rw[List.length_map];omega
 ·rw[List.length_append,List.length_cons,List.length_nil];omega
def Ft.Hi{o:Option V}{u:Option Value}(r:Ft o u):o.isSome=u.isSome:=by
 cases o with
 |none=>cases u with
  |none=>rfl
  |some _=>exact(show False from r).elim
 |some _=>cases u with
  |none=>exact(show False from r).elim
  |some _=>rfl
def KV.val{kvs:List (κ×V)}{vs:List (κ×Value)}(r:KV kvs vs)(k:κ):Ft (iw kvs k) (valueAt vs k):=by
 unfold KV at r
 induction r with
 |nil=>exact True.intro
 |@cons p q ps qs h t ih=>
  obtain⟨h1,h2⟩:=h
  by_cases e:p.1=k
  ·have e':q.1=k:=h1.symm.trans e
   have b:valueAt (q::qs) k=some q.2:=by simp[valueAt,List.find?_cons,e']
   rw[Fw e,b];exact h2
  ·have e':¬q.1=k:=fun z=>e (h1.trans z)
   have b:valueAt (q::qs) k=valueAt qs k:=by simp[valueAt,List.find?_cons,e']
   rw[Fx e,b];exact ih
theorem KV.any{kvs:List (κ×V)}{vs:List (κ×Value)}(r:KV kvs vs)(k:κ):(kvs.any fun kv=>decide (kv.1=k))=vs.any fun kv=>decide (kv.1=k):=by
 unfold KV at r
 induction r with
 |nil=>rfl
 |cons h t ih=>rw[List.any_cons,List.any_cons,ih,h.1]
def KV.repl{kvs:List (κ×V)}{vs:List (κ×Value)}(r:KV kvs vs)(k:κ){y:V}{u:Value}(ry:RelV y u) :
  KV (kvs.map fun kv=>if kv.1=k then (kv.1,y) else kv) (vs.map fun kv=>if kv.1=k then (kv.1,u) else kv):=by
 unfold KV at r ⊢
 induction r with
 |nil=>exact .nil
 |@cons p q ps qs h t ih=>
  rw[List.map_cons,List.map_cons]
  refine .cons ?_ ih
  obtain⟨h1,h2⟩:=h
  by_cases e:p.1=k
  ·rw[if_pos e,if_pos (h1.symm.trans e)];exact⟨h1,ry⟩
  ·rw[if_neg e,if_neg (fun z=>e (h1.trans z))];exact⟨h1,h2⟩
def KV.put{kvs:List (κ×V)}{vs:List (κ×Value)}(r:KV kvs vs)(k:κ){y:V}{u:Value}(ry:RelV y u):KV (fh kvs k y) (stored vs k u):=by
 unfold fh stored
 rw[r.any k]
 by_cases e:(vs.any fun kv=>decide (kv.1=k))=true
 ·rw[if_pos e,if_pos e];exact r.repl k ry
 ·rw[if_neg e,if_neg e];exact Paired.snoc r ⟨rfl,ry⟩
theorem KV.length{kvs:List (κ×V)}{vs:List (κ×Value)}(r:KV kvs vs):kvs.length=vs.length:=Paired.length r
end
def oN{P:Program}{w:World}{k:bZ}{u:Value}(r:RelV (kV k) u):(bz P w).is k u=true:=by
 cases k with
 |inl i=>obtain⟨t,e⟩:=(show ∃t,u=Value.int i t from r);subst e;exact lO P w i t
 |inr x=>obtain⟨t,e⟩:=(show ∃t,u=Value.str x t from r);subst e;exact lP P w x t
theorem kj{P:Program}{w:World}:∀{ks:List bZ} {us:Vv},Vals (ks.map kV) us->ItemsAre (bz P w) ks us
 |[],_,r=>by rw[List.map_nil]at r;cases r;exact .nil
 |k::ks,_,r=>by
  rw[List.map_cons]at r
  cases r with
  |cons h t=>exact .cons (oN h) (kj t)
noncomputable abbrev KT(H:Hp):List (List bZ×V)->List (List bZ×Addr×Value)->Prop:=Paired fun p q=>p.1=q.1/\H q.2.1=some (.tup (p.1.map kV))/\RelV p.2 q.2.2
def KT.val{H:Hp}{kvs:List (List bZ×V)}{xs:List (List bZ×Addr×Value)}(r:KT H kvs xs)(k:List bZ):Ft (iw kvs k) ((atKey xs k).map (·.2)):=by
 induction r with
 |nil=>exact True.intro
 |@cons p q ps qs h t ih=>
  obtain⟨h1,_,h2⟩:=h
  by_cases e:p.1=k
  ·have e':q.1=k:=h1.symm.trans e
   have b:atKey (q::qs) k=some q.2:=by simp[atKey,List.find?_cons,e']
   rw[Fw e,b];exact h2
  ·have e':¬q.1=k:=fun z=>e (h1.trans z)
   have b:atKey (q::qs) k=atKey qs k:=by simp[atKey,List.find?_cons,e']
   rw[Fx e,b];exact ih
def KT.repl{H:Hp}{kvs:List (List bZ×V)}{xs:List (List bZ×Addr×Value)}(r:KT H kvs xs)(k:List bZ){y:V}{u:Value}(ry:RelV y u) :
  KT H (kvs.map fun kv=>if kv.1=k then (kv.1,y) else kv) (xs.map (putAt k u)):=by
 induction r with
 |nil=>exact .nil
 |@cons p q ps qs h t ih=>
  rw[List.map_cons,List.map_cons]
  refine .cons ?_ ih
  obtain⟨h1,h2,h3⟩:=h
  unfold putAt
  by_cases e:p.1=k
  ·rw[if_pos e,if_pos (h1.symm.trans e)];exact⟨h1,h2,ry⟩
  ·rw[if_neg e,if_neg (fun z=>e (h1.trans z))];exact⟨h1,h2,h3⟩
def KT.put{H:Hp}{kvs:List (List bZ×V)}{xs:List (List bZ×Addr×Value)}(r:KT H kvs xs)(k:List bZ){b:Addr}{y:V}{u:Value}(hb:H b=some (.tup (k.map kV)))(ry:RelV y u) :
  KT H (fh kvs k y) (storedH xs k b u):=by
 have e:(kvs.any fun kv=>decide (kv.1=k))=(atKey xs k).isSome:=by
  rw[jp,(r.val k).Hi,Option.isSome_map]
 unfold fh storedH
 rw[e]
 by_cases q:(atKey xs k).isSome=true
 ·rw[if_pos q,if_pos q];exact r.repl k ry
 ·rw[if_neg q,if_neg q];exact Paired.snoc r ⟨rfl,hb,ry⟩
def KT.keeps{H H':Hp}{kvs:List (List bZ×V)}{xs:List (List bZ×Addr×Value)}(r:KT H kvs xs)(ht:∀b ys,H b=some (.tup ys)->H' b=some (.tup ys)):KT H' kvs xs:=
 Paired.Iz r fun _ _ z=>⟨z.1,ht _ _ z.2.1,z.2.2⟩
section
variable {P:Program} {w:World} {H:Hp} {h:Heap} {a:Addr}
def wL{u:HO}(ok:FL P w H h)(e:Rd H a u):ED P w H h a u:=e.ok ok
def oO{kvs:List (bZ×V)}(ok:FL P w H h)(e:Rd H a (.dK kvs)):kvs.length<=sizeLine/\(a == sysModules)=false/\∃vs,KV kvs vs/\h.DictOf (bz P w) a vs:=
 show ED P w H h a (.dK kvs)from wL ok e
def wM{kvs:List (bZ×V)}(ok:FL P w H h)(e:H a=some (.dK kvs)):kvs.length<=sizeLine/\(a == sysModules)=false/\∃vs,KV kvs vs/\h.DictOf (bz P w) a vs:=oO ok (.inl e)
def gr{ks:List bZ}(ok:FL P w H h)(e:H a=some (.tup (ks.map kV))):(tupleKind (bz P w)).is h ks a:=by
 obtain⟨_,its,r,o,h1,_,h2,n,h3⟩:=(show ED P w H h a (.tup (ks.map kV))from ok a _ e)
 exact⟨o,its.toArray,n,h1,h2,h3,by simpa using kj r⟩
def rZ{kvs:List (List bZ×V)}(ok:FL P w H h)(e:Rd H a (.dT kvs)):kvs.length<=sizeLine/\(a == sysModules)=false/\
  ∃xs,KT H kvs xs/\h.DictOfH (tupleKind (bz P w)) a xs:=by
 obtain⟨z,y,xs,r,o,es,ep,h1,h2,h3,h4,h5⟩:=(show ED P w H h a (.dT kvs)from wL ok e)
 refine⟨z,y,xs,r,o,es,ep,h1,h2,h3,h4,fun x hx=>?_,h5⟩
 have all:∀{l:List (List bZ×V)} {m:List (List bZ×Addr×Value)},KT H l m->∀x∈m,(tupleKind (bz P w)).is h x.1 x.2.1:=by
  intro l m q
  induction q with
  |nil=>intro x hx;exact nomatch hx
  |@cons p q ps qs hq t ih=>
   intro x hx
   rcases List.mem_cons.mp hx with e|hx
   ·subst e
    exact gr ok (by rw[<-hq.1];exact hq.2.1)
   ·exact ih x hx
 exact all r x hx
def AG{kvs:List (List bZ×V)}(ok:FL P w H h)(e:H a=some (.dT kvs)):kvs.length<=sizeLine/\(a == sysModules)=false/\
  ∃xs,KT H kvs xs/\h.DictOfH (tupleKind (bz P w)) a xs:=rZ ok (.inl e)
end
def DGet(H:Hp)(a:Addr)(y:V)(r:Option V):Prop:=
 (∃kvs k,Rd H a (.dK kvs)/\y=kV k/\r=iw kvs k)\/∃kvs k b,Rd H a (.dT kvs)/\y = .ref b/\H b=some (.tup (k.map kV))/\r=iw kvs k
def Hx(H:Hp)(a:Addr)(y v:V)(H':Hp):Prop:=
 (∃kvs k,H a=some (.dK kvs)/\y=kV k/\kvs.length < sizeLine/\H'=upd H a (.dK (fh kvs k v))) \/
 ∃kvs k b,H a=some (.dT kvs)/\y = .ref b/\H b=some (.tup (k.map kV))/\kvs.length < sizeLine/\H'=upd H a (.dT (fh kvs k v))
theorem DGet.k{H:Hp}{a:Addr}{kvs:List (bZ×V)}{k:bZ}(e:H a=some (.dK kvs)):DGet H a (kV k) (iw kvs k):=.inl ⟨kvs,k,.inl e,rfl,rfl⟩
theorem Hx.k{H:Hp}{a:Addr}{kvs:List (bZ×V)}{k:bZ}{v:V}(e:H a=some (.dK kvs))(hl:kvs.length < sizeLine):Hx H a (kV k) v (upd H a (.dK (fh kvs k v))):=.inl ⟨kvs,k,e,rfl,hl,rfl⟩
section
variable {X:Cx} {pins:Va} {σ:St} {H:Hp} {s:Shared} {a:Addr} {y v:V} {u r:Value} {o:Option V} {A:Around} {E:Vq}
def Inv.big(I:Inv X pins σ H s):sysModules < s.heap.objs.size:=by
 have h:mainGlobals < s.heap.objs.size:=(I.mod.glob.keeps I.bk).lt
 exact Nat.lt_trans (by decide) h
def ql{Q:Vq}(hu:A.units+1 < cLine)(I:Inv X pins σ H s)(g:DGet H a y (some v))(ry:RelV y u)(h:∀w' s',Inv X pins σ H s'->RelV v w'->Q w' s') :
  wpAny (model X.prog X.w) A (getItem (.ref a) u) Q E s:=by
 rcases g with⟨kvs,k,e,ey,l⟩|⟨kvs,k,b,e,ey,eb,l⟩
 ·subst ey
  obtain⟨z,hd,vs,rel,dd⟩:=oO I.hok e
  obtain⟨w',hw,rw'⟩:=Ft.some_of (v:=v) (o:=valueAt vs k) (by rw[l];exact rel.val k)
  exact wpAny_getItem_of (oN ry) dd.mapOf hw (h w' _ (I.tok _) rw')
 ·subst ey
  cases (show u=Value.ref b from ry)
  obtain⟨z,hd,xs,rel,dd⟩:=rZ I.hok e
  obtain⟨w',hw,rw'⟩:=Ft.some_of (v:=v) (o:=(atKey xs k).map (·.2)) (by rw[l];exact rel.val k)
  obtain⟨p,hp,hp2⟩:=Option.map_eq_some_iff.mp hw
  refine wpAny_getItem_heap (tupleKind_room_in1 hu) (gr I.hok eb) dd hp ?_
  rw[hp2]
  exact h w' _ (I.tok _) rw'
def kR{h':Heap}{t':Nat}{ob:HO}(I:Inv X pins σ H s)(mu:Ae (H a))(hs:Heap.SameBut a s.heap h')(he:∃q,h'.get? a=some q)(new:ED X.prog X.w (upd H a ob) h' a ob) :
  Inv X pins σ (upd H a ob) { s with heap:=h',toks:=t' }:=
 I.write (x:=a) (e:=a) mu (.inl rfl) (fun b q hb z=>(hs.2 b hb).trans z) he new
def r6{P:Program}{w:World}{H':Hp}{h':Heap}{kvs:List (bZ×V)}{vs:List (bZ×Value)}(z:kvs.length<=sizeLine)(hd:(a == sysModules)=false)(rel:KV kvs vs)(dd:h'.DictOf (bz P w) a vs) :
  ED P w H' h' a (.dK kvs):=⟨z,hd,vs,rel,dd⟩
def qm{H':Hp}{Q:Unit->Shared->Prop}(hu:A.units+1 < cLine)(I:Inv X pins σ H s)(g:Hx H a y v H')(ry:RelV y u)(rv:RelV v r)(h:∀s',Inv X pins σ H' s'->Q () s') :
  wpAny (model X.prog X.w) A (setItem (.ref a) u r) Q E s:=by
 rcases g with⟨kvs,k,e,ey,l,eH⟩|⟨kvs,k,b,e,ey,eb,l,eH⟩
 ·subst ey eH
  obtain⟨z,hd,vs,rel,dd⟩:=wM I.hok e
  have hz:vs.length<=sizeLine:=by rw[<-rel.length];exact z
  have hl:(fh kvs k v).length<=sizeLine:=by have:=fi kvs k v;omega
  refine wpAny_setItem_pairs (hsz:=hz) (oN ry) dd fun h' IF hs=>h _ ?_
  have he:∃q,h'.get? a=some q:=let ⟨q,_,_,hq,_⟩:=IF;⟨q,hq⟩
  exact kR I (by rw[e];exact True.intro) hs he (r6 hl hd (rel.put k rv) IF)
 ·subst ey eH
  cases (show u=Value.ref b from ry)
  obtain⟨z,hd,xs,rel,dd⟩:=AG I.hok e
  have hz:xs.length<=sizeLine:=by rw[<-Paired.length rel];exact z
  have hl:(fh kvs k v).length<=sizeLine:=by have:=fi kvs k v;omega
  refine wpAny_setItem_heap (hsz:=hz) (tupleKind_room_in1 hu) (gr I.hok eb) dd fun h' IF hs=>h _ ?_
  obtain⟨q,es,ep,hq,h2,h3,h4,_,h5⟩:=IF
  refine kR I (by rw[e];exact True.intro) hs ⟨q,hq⟩ ⟨hl,hd,_,(rel.put k eb rv).keeps fun c ys ec=>?_,q,es,ep,hq,h2,h3,h4,h5⟩
  rw[aA (Ad ec e (fun z=>nomatch z))]
  exact ec
end
section
variable {X:Cx} {pins:Va} {σ:St} {H:Hp} {s:Shared} {a:Addr} {kvs:List (bZ×V)} {k:bZ} {u:Value} {A:Around} {E:Vq}
def AH{Q:Vq}(I:Inv X pins σ H s)(e:Rd H a (.dK kvs))(h:∀t s',Inv X pins σ H s'->Q (.int kvs.length t) s'):wpAny (model X.prog X.w) A (call (.builtin "len") [.ref a]) Q E s:=by
 obtain⟨z,hd,vs,rel,dd⟩:=oO I.hok e
 refine call_len_dict hd dd (by rw[<-rel.length];rw[sizeLine_eq]at z;omega) ?_
 rw[<-rel.length]
 exact h _ _ (I.tok _)
end
def lV{X:Cx}{pins:Va}{σ:St}{H:Hp}{s:Shared}{a:Addr}{y:V}{o:Option V}(I:Inv X pins σ H s)(g:DGet H a y o):s.TypeIs (.ref a) "dict":=by
 rcases g with⟨kvs,k,e,_,_⟩|⟨kvs,k,b,e,_,_,_⟩
 ·obtain⟨_,_,vs,_,dd⟩:=oO I.hok e
  exact dd.typeIs
 ·obtain⟨_,_,xs,_,dd⟩:=rZ I.hok e
  exact dd.typeIs
def r9{P:Program}{w:World}{H:Hp}(h:Heap)(hb:sysModules < h.objs.size):ED P w H (h.push { cls:=.type "dict",data:=.dict #[] }) h.objs.size (.dK []):=
 ⟨Nat.zero_le _,beq_eq_false_iff_ne.mpr (Ne.symm (Nat.ne_of_lt hb)),[],.nil,Heap.DictOf.new h⟩
noncomputable def kS:List (TE×TE)->St->Hp->(List (V×V)->Hp->Prop)->Prop
 |[],_,H,Q=>Q [] H
 |(tk,tv)::r,σ,H,Q=>tk σ H fun x H1=>tv σ H1 fun y H2=>kS r σ H2 fun ps H3=>Q ((x,y)::ps) H3
noncomputable abbrev VV:List (V×V)->List (Value×Value)->Prop:=Paired fun p q=>RelV p.1 q.1/\RelV p.2 q.2
def AI(X:Cx)(pos:Pos)(keys:List (Option Expr))(values:List Expr)(Gb:List (TE×TE)):Prop:=
 ∀(pins:Va) (s:Shared) (σ:St) (H:Hp) (Q:List (V×V)->Hp->Prop),Inv X pins σ H s->kS Gb σ H Q->
  wpAny (model X.prog X.w) X.A (evalPairs (pairTrees keys values X.env pos)) (fun vs s'=>∃ps H',Inv X pins σ H' s'/\VV ps vs/\Q ps H') X.xe s
def vq{X:Cx}{pos:Pos}:AI X pos [] [] []:=fun pins s σ H Q I h=>pairTrees_nil_walk ⟨[],H,I,.nil,h⟩
def r_{X:Cx}{pos:Pos}{k v:Expr}{ks:List (Option Expr)}{vs:List Expr}{tk tv:TE}{Gb:List (TE×TE)}(hk:PE X k tk)(hv:PE X v tv)(hr:AI X pos ks vs Gb) :
  AI X pos (some k::ks) (v::vs) ((tk,tv)::Gb):=fun pins s σ H Q I h=>
 pairTrees_cons_walk (bA (hk pins s σ H _ I h) fun u s1 ⟨x,H1,I1,rx,q1⟩=>bA (hv pins s1 σ H1 _ I1 q1) fun w2 s2 ⟨y,H2,I2,ry,q2⟩=>
  bA (hr pins s2 σ H2 _ I2 q2) fun ws s3 ⟨ps,H3,I3,rel,q3⟩=>⟨(x,y)::ps,H3,I3,.cons ⟨rx,ry⟩ rel,q3⟩)
noncomputable def ix(kvs more:List (bZ×V)):List (bZ×V):=more.foldl (fun acc kv=>fh acc kv.1 kv.2) kvs
def KV.merge:∀{more:List (bZ×V)} {rs:List (bZ×Value)} {kvs:List (bZ×V)} {vs:List (bZ×Value)},KV more rs->KV kvs vs->KV (ix kvs more) (merged vs rs):=by
 intro more rs kvs vs r
 unfold KV at r
 induction r generalizing kvs vs with
 |nil=>intro q;exact q
 |@cons p q ps qs h t ih=>
  intro r0
  have e:KV (fh kvs p.1 p.2) (stored vs q.1 q.2):=by
   have:=r0.put p.1 h.2
   rw[<-h.1];exact this
  exact ih e
theorem fX:∀(more kvs:List (bZ×V)),(ix kvs more).length<=kvs.length+more.length
 |[],kvs=>by show kvs.length<=kvs.length+0;omega
 |p::r,kvs=>by
  have h1:=fX r (fh kvs p.1 p.2)
  have h2:=fi kvs p.1 p.2
  show(ix (fh kvs p.1 p.2) r).length<=_
  rw[List.length_cons];omega
theorem jq{P:Program}{w:World}:∀{kvs:List (bZ×V)} {ws:List (Value×Value)},VV (kvs.map fun kv=>(kV kv.1,kv.2)) ws->∃rs,Carries (bz P w) ws rs/\KV kvs rs
 |[],_,r=>by rw[List.map_nil]at r;cases r;exact⟨[],True.intro,.nil⟩
 |p::kvs,_,r=>by
  rw[List.map_cons]at r
  cases r with
  |@cons a b as bs h t=>
   obtain⟨rs,c,q⟩:=jq (P:=P) (w:=w) t
   obtain⟨b1,b2⟩:=b
   exact⟨(p.1,b2)::rs,⟨oN h.1,rfl,c⟩,.cons ⟨rfl,h.2⟩ q⟩
def AJ(Gb:List (TE×TE)):TE:=fun σ H Q=>∀p,H p=none->kS Gb σ (upd H p (.dK [])) fun ps H2=>H2 p=some (.dK [])/\∃kvs:List (bZ×V),ps=kvs.map (fun kv=>(kV kv.1,kv.2))/\kvs.length<=15/\Q (.ref p) (upd H2 p (.dK (ix [] kvs)))
def vt{X:Cx}{pos:Pos}{keys:List (Option Expr)}{values:List Expr}{Gb:List (TE×TE)}(h:AI X pos keys values Gb)(hall:keys.all (·.isSome)=true)(hl:keys.length=values.length)(h0:keys≠[])
  (Kk:keys.length<=15):PE X (.Dict keys values pos) (AJ Gb):=by
 intro pins s σ H Q I q
 have hn:=I.hok.fresh (Nat.le_refl s.heap.objs.size)
 have I1:=I.laid (a:=s.heap.objs.size) (o:=.dK []) (h':=s.heap.push { cls:=.type "dict",data:=.dict #[] }) (t':=s.toks) (fun _ _ q=>Heap.get?_push_of_some _ q) (Nat.le_refl _) (r9 s.heap I.big)
 refine wpAny_Dict_walk (knd:=bz X.prog X.w) hall hl h0 Kk (bA (h pins _ σ _ _ I1 (q _ hn)) fun ws s2 ⟨ps,H2,I2,rel,e,kvs,ep,lk,q2⟩=>?_)
 subst ep
 obtain⟨rs,c,rk⟩:=jq (P:=X.prog) (w:=X.w) rel
 obtain⟨z,hd,vs0,r0,dd⟩:=wM I2.hok e
 cases r0
 refine⟨rs,c,dd,fun h' IF hs=>⟨.ref s.heap.objs.size,_,?_,rfl,q2⟩⟩
 have hz:(ix [] kvs).length<=sizeLine:=by
  have h1:=fX kvs []
  rw[List.length_nil]at h1
  rw[sizeLine_eq];omega
 have he:∃q,h'.get? s.heap.objs.size=some q:=let ⟨q,_,_,hq,_⟩:=IF;⟨q,hq⟩
 exact kR I2 (by rw[e];exact True.intro) hs he (r6 hz hd (rk.merge .nil) IF)
end L2
namespace Att
open PySem PySem.W PySem.Calls PyProof.Rows
def i9{P:Params}{h:Heap}:∀(ns:Vu) (vs:Vv),WellAll P h vs (ns.map WData.int)->IntsAre vs ns:=by
 intro ns
 induction ns with
 |nil=>
  intro vs w
  rw[List.map_nil]at w
  cases w
  exact .nil
 |cons n ns ih=>
  intro vs w
  rw[List.map_cons]at w
  cases w with
  |cons a b=>
   cases a
   exact .cons _ _ (ih _ b)
def qo{l:OpenLaw}{n:Nat}(hn:l.most=some n){P:Params}{h:Heap}{args:List WData}{vals:Vv}
  (hpre:l.row.toRowW.claim.pre args=true) (hwl:WellAll P h vals args) :
  ∃a vs ns,vals=[Value.ref a]/\args=[WData.list (ns.map WData.int)]/\h.get? a=some { cls:=.type "list",data:=.seq vs.toArray }/\IntsAre vs ns/\ns.length<=n:=by
 have hsh:WShape.hasAll [] args [.list .int]=true:=(pre_splitW hpre).1
 have hc:l.pre.holds [] { args:=args }=true:=(pre_splitW hpre).2
 obtain⟨d,r,rfl,h1,h2⟩:=hasAllW_cons hsh
 obtain rfl:=hasAllW_nil h2
 obtain⟨xs,rfl,h3⟩:=hasW_list h1
 obtain⟨ns,rfl⟩:=items_int h3
 have hlen:ns.length<=n:=by
  unfold OpenLaw.pre at hc
  have h4:(WTm.not (.lt (.lit (.int (n:Int))) (.len (.arg 0)))).holds [] { args:=[.list (ns.map .int)] }=true:=by
   have h4:=(holds_andW hc).1
   rw[hn]at h4
   exact h4
  have h5:=condW_of h4 (w_not (w_lt w_lit (w_len_list (w_arg rfl))))
  rw[List.length_map]at h5
  refine Nat.le_of_not_lt fun q=>?_
  have q':(n:Int) < ((ns.length:Nat):Int):=by omega
  first
   |(rw[decide_eq_true q']at h5;exact absurd h5 (by decide))
   |(simp at h5;omega)
 cases hwl with
 |cons w1 w2=>
  cases w2
  cases w1 with
  |list ho hall=>exact⟨_,_,ns,rfl,rfl,ho,i9 ns _ hall,hlen⟩
def qp(l:OpenLaw)(args:List WData):l.row.toRowW.claim.post args (.bool true) args=true:=
 postW_of (r:=l.row.toRowW) (X:=(true == true))
  (show WShape.has [] (.bool true) .bool=true by first|rfl|decide|simp[WShape.has,WShape.arms,WShape.armsAll])
  (show(WTm.eq .res (.lit (.bool true))).value [] { args:=args,res:=some (.bool true),after:=args }=some (.bool (true == true))from w_eq_bool (w_res rfl) w_lit) rfl
def lW{l:OpenLaw}{n:Nat}{q:Program}{loose:Vs}{XP:(Vr)->Heap->Prop}{YP:World->Heap->Prop}{d:DefRec}
  (hn:l.most=some n) (hdf:d.params.defaults=[])
  (call:∀(w:World) (s₀ s₁:Shared) (mg mb:Vr) (fa:Addr) (o:Obj) (pm cd doc:Value) (a:Addr) (vs:Vv) (ns:Vu),
   Ground q loose [] XP w s₀ mg mb s₁.heap->YP w s₁.heap->
   s₁.heap.get? fa=some o->o.data = .func (docDef d.name d.params d.body d.scope pm cd doc)->s₁.heap.CodeRec cd d.name->mg d.name=some (.ref fa)->
   s₁.heap.get? a=some { cls:=.type "list",data:=.seq vs.toArray }->IntsAre vs ns->ns.length<=n->s₁.gens=#[]->
   codeAny (model l.prog w) callerA (.call (.ref fa) ⟨[.ref a],[]⟩) (fun r s'=>r = .ok (.ret (.bool true))/\OldK s₁.heap s'.heap/\s'.os=s₁.os/\AllBare s'.gens) s₁) :
  WalkO q loose XP YP l.row.toRowW d [] (fun f vs=>PySem.call f vs):=by
 intro w s₀ s₁ mg mb G Y fa o pm cd doc dV kV ho hd hcd hD hmg hg args vals as hpre hlay hrd hwl hlo
 obtain rfl:dV = .none:=Dflts.none hD hdf
 obtain rfl:kV = .none:=Dflts.noKw hD
 obtain⟨a,vs,ns,rfl,rfl,hobj,hints,hlen⟩:=qo hn hpre hwl
 refine enter_call (codeAny_mono (call w s₀ s₁ mg mb fa o pm cd doc a vs ns G Y ho (fd_plain hd) hcd hmg hobj hints hlen hg) fun r s' hq=>?_)
 obtain⟨rfl,h2,h3,h4⟩:=hq
 exact⟨.inl ⟨.bool true,.bool true,[],rfl,fun _=>rfl,.bool true,qp l _,fun _=>⟨List.Pairwise.nil,fun _ hm=>(nomatch hm)⟩⟩,h2,h3,h4⟩
end Att
namespace L2
open PySem PySem.Spec PyProof.Rows
theorem km:∀{vs:Vv} {ns:Vu},IntsAre vs ns->Vals (ns.map V.int) vs
 |_,_,.nil=>.nil
 |_,_,.cons n t h=>.cons ⟨t,rfl⟩ (km h)
def vv(H:Hp):Prop:=∀b,H b=none\/∃o xs,H b=some (.frz o (.lst xs))
def sd{P:Program}{w:World}{K:Vo}{mg mb:Vr}{CX:rO}{k:Nat}{fa a:Addr}{fd:FuncData}{x:Str}{sp:Sp}{s₁:Shared}{vs:Vv}{ns:Vu}
  (KX:K.In s₁.heap) (hns:s₁.heap.Ns mainGlobals mg) (hb:s₁.heap.Ns builtinsNs mb) (L6:∀x:Str,x ≠ "__name__"->mb x=bootBuiltins x) (hlim:s₁.heap.NoLimit) (hg:s₁.gens=#[])
  (ha:s₁.heap.get? a=some { cls:=.type "list",data:=.seq vs.toArray }) (hi:IntsAre vs ns) (hl:ns.length<=sizeLine) (hr:Room k callerA)
  (F:∀base:Heap,K.In base->base.Ns mainGlobals mg->iu P w K mg base CX k fa fd [x] sp) (hbind:∀(s:Shared) (u:Value),BindsTo s fd ⟨[u],[]⟩ [(x,u)])
  (Im:∀H:Hp,vv H->SqL K H a (ns.map V.int)->sp [.ref a] H (fun v _=>v = .bl true) fun _ _ _=>False)
  (Kl:∀H e s',CX [] H s₁ (fun _ _ _=>False) e s'->False) :
  codeAny (model P w) callerA (.call (.ref fa) ⟨[.ref a],[]⟩) (fun r s'=>r = .ok (.ret (.bool true))/\OldK s₁.heap s'.heap/\s'.os=s₁.os/\AllBare s'.gens) s₁:=by
 have rv:=km hi
 have Km:=hi.length
 -- from an abstract heap in which nothing but the script may be tracked
 have core:∀H:Hp,vv H->SqL K H a (ns.map V.int)->FL P w H s₁.heap->(∀b,H b≠none->b=a)->(H a≠none->K.lookup a=none)->
   codeAny (model P w) callerA (.call (.ref fa) ⟨[.ref a],[]⟩) (fun r s'=>r = .ok (.ret (.bool true))/\OldK s₁.heap s'.heap/\s'.os=s₁.os/\AllBare s'.gens) s₁:=by
  intro H hO hS hok hA hK
  have Hb:∀{b:Addr} {o:Obj},s₁.heap.get? b=some o->H b=none->(kK s₁.heap H).get? b=some o:=fun e n=>rn e n
  have Js:∀{b:Addr} {o:Obj} {es:Array DictEntry} {ep:Nat},s₁.heap.get? b=some o->o.data = .dict es ep->H b=none:=fun{b o es ep} e d=>by
   cases q:H b with
   |none=>rfl
   |some u=>
    have e':b=a:=hA b (by rw[q];simp)
    subst e'
    rw[ha]at e;cases e
    have d':Data.seq vs.toArray _=Data.dict es ep:=d
    cases d'
  have JP:∀{b:Addr} {m:Vr},s₁.heap.Ns b m->(kK s₁.heap H).Ns b m:=fun{b m} ⟨o,es,ep,e,d,r⟩=>⟨o,es,ep,Hb e (Js e d),d,r⟩
  have K7:K.In (kK s₁.heap H):=fun b o e=>Hb (KX b o e) (by
   cases q:H b with
   |none=>rfl
   |some u=>
    have e':b=a:=hA b (by rw[q];simp)
    subst e'
    rw[hK (by rw[q];simp)]at e;cases e)
  have hM:Mod K mg (kK s₁.heap H):=⟨K7,JP hns,⟨mb,JP hb,L6⟩,let ⟨mc,h1,h2⟩:=hlim;⟨mc,JP h1,h2⟩⟩
  have e0:GY P w K mg (kK s₁.heap H) callerA [] s₁ H:=⟨rfl,hM,fun b o e=>uS e,Nat.le_of_eq (p8 _ _),trivial,fun b hb=>absurd (show b∈([]:List Addr)from hb) (by simp),hok,.of_eq hg⟩
  refine codeAny_mono ((F _ K7 (JP hns)).run callerA [] s₁ H ⟨[.ref a],[]⟩ [.ref a] [.ref a] _ _ hr e0 (hbind s₁ (.ref a)) (.cons rfl .nil) (Im H hO hS)) fun r s' h=>?_
  cases r with
  |error e=>exact(Kl H e s' h).elim
  |ok fl=>
   cases fl with
   |next=>exact False.elim h
   |brk=>exact False.elim h
   |cont=>exact False.elim h
   |ret u=>
    obtain⟨v,H',os,bare,un,Kn,r',q⟩:=h
    have q':v = .bl true:=q
    subst q'
    obtain rfl:u=Value.bool true:=r'
    refine⟨rfl,OldK.of_keep fun b o e=>?_,os,bare⟩
    cases q:H b with
    |none=>exact un.keep b o e q (by intro z;exact absurd (show b∈([]:List Addr)from z) (by simp)) (by simp)
    |some u=>
     rcases hO b with z|⟨ob,xs,z⟩
     ·rw[q]at z;cases z
     ·have z2:=un.Gs b ob _ z
      obtain⟨e1,_⟩:=hok b _ z
      obtain⟨e2,_⟩:=Kn b _ z2
      rw[e]at e1;cases e1
      exact e2
 cases hk:K.lookup a with
 |some o=>
  -- the script is one of the module's own objects
  have e:=KX a o hk
  rw[ha]at e
  cases e
  refine core (fun _=>none) (fun _=>.inl rfl) (.inr ⟨_,vs.toArray,_,hk,rfl,rfl,rfl,by rw[List.size_toArray,Km];exact hl,by simpa using rv⟩) (fun b u z=>by have z':(none:Option HO)=some u:=z;cases z') (fun b z=>absurd rfl z) fun z=>absurd rfl z
 |none=>
  refine core (fun b=>if b=a then some (.frz { cls:=.type "list",data:=.seq vs.toArray } (.lst (ns.map V.int))) else none) (fun b=>?_) (.inl (.inr ⟨{ cls:=.type "list",data:=.seq vs.toArray },if_pos rfl⟩)) (fun b u z=>?_) (fun b z=>?_) fun _=>hk
  ·by_cases hb:b=a
   ·exact .inr ⟨_,_,if_pos hb⟩
   ·exact .inl (if_neg hb)
  ·by_cases hb:b=a
   ·have z':=(if_pos hb).symm.trans z
    cases z'
    subst hb
    exact⟨ha,by rw[List.length_map];exact hl,vs,_,rv,ha⟩
   ·have z':=(if_neg hb).symm.trans z
    cases z'
  ·by_cases hb:b=a
   ·exact hb
   ·exact absurd (if_neg hb) z
def vx{l:PySem.W.OpenLaw}{n k:Nat}{q:Program}{loose:Vs}{XP:(Vr)->Heap->Prop}{YP:World->Heap->Prop}{d:DefRec}{K:Params->PySem.W.Frag}{CX:World->rO}{sp:World->Sp}{x:Str}
  (hn:l.most=some n) (hn2:n<=sizeLine) (hdf:d.params.defaults=[]) (hr:Room k callerA)
  (hY:∀(w:World) (h:Heap),YP w h->(K w.params).In h)
  (F:∀(w:World) (mg:Vr) (fa:Addr) (h:Heap),(K w.params).In h->h.Ns mainGlobals mg->mg d.name=some (.ref fa)->
   ∃fd:FuncData,(∀(s:Shared) (u:Value),BindsTo s fd ⟨[u],[]⟩ [(x,u)])/\
    ∀base:Heap,(K w.params).In base->base.Ns mainGlobals mg->iu l.prog w (K w.params) mg base (CX w) k fa fd [x] (sp w))
  (Im:∀(w:World) (H:Hp) (a:Addr) (ns:Vu),ns.length<=n->vv H->SqL (K w.params) H a (ns.map V.int)->sp w [.ref a] H (fun v _=>v = .bl true) fun _ _ _=>False)
  (Kl:∀(w:World) (H:Hp) (s:Shared) (e:Value) (s':Shared),CX w [] H s (fun _ _ _=>False) e s'->False) :
  PySem.W.WalkO q loose XP YP l.row.toRowW d [] (fun f vs=>PySem.call f vs):=by
 refine Att.lW hn hdf fun w s₀ s₁ mg mb fa o pm cd doc a vs ns G Y ho hd hcd hmg hobj hints hlen hg=>?_
 have KX:=hY w _ Y
 obtain⟨fd,hb,hF⟩:=F w mg fa _ KX G.T.g hmg
 exact sd KX G.T.g G.T.b G.T.builtins G.T.nolimit hg hobj hints (Nat.le_trans hlen hn2) hr hF hb (fun H hO hS=>Im w H a ns hlen hO hS) fun H e s'=>Kl w H s₁ e s'
noncomputable def di(s:Stmt):Arguments:=match s with
 | .FunctionDef _ a _ _ _ _ _ _ _ _=>a
 |_=>{ posonlyargs:=[],args:=[],vararg:=none,kwonlyargs:=[],kw_defaults:=[],kwarg:=none,defaults:=[] }
noncomputable def bI(s:Stmt):List Stmt:=match s with
 | .FunctionDef _ _ b _ _ _ _ _ _ _=>b
 |_=>[]
noncomputable def aN(s:Stmt):Scope:=match s with
 | .FunctionDef _ _ _ _ _ _ sc _ _ _=>sc
 |_=>{ kind:=.function,names:=[],isGenerator:=false,isCoroutine:=false }
noncomputable abbrev wN:rO:=fun _ _ _ _ _ _=>False
noncomputable abbrev E0:XK:=fun _ _ _=>False
def oP{X:Cx}:gq wN X E0:=fun _ _ _ _ _ _ _ h=>h.elim
structure HV (K:Vo) (x qual:Str) (st:Stmt) (f:Addr) (fd:FuncData):Prop where
 ex:∃(oc:Value) (od:Option Addr) (kV doc pm:Value) (an:Option Addr) (cdv ct:Value) (osl:Array (Option Value)),
  fd=PySem.W.fnOf x qual (di st) (bI st) (aN st) .none kV doc pm an cdv ct/\K.lookup f=some ⟨oc,od,.func fd,osl⟩/\PySem.W.codeIn K cdv qual=true
 kp:PySem.W.keepIn K (.ref f)=true
section
variable {P:Program} {w:World} {K:Vo} {mg:Vr} {base:Heap}
def HV.ok{x qual:Str}{st:Stmt}{f:Addr}{fd:FuncData}{N ps:Vs}{k:Nat}{sp:Sp}(F:HV K x qual st f fd)(S:d_ N ps (aN st))(len:∀vs H Q E,sp vs H Q E->vs.length=ps.length)
  (hbody:∀(cdv:Value) (A:Around) (outer:List Env) (s:Shared) (H:Hp) (vs:List V) (Q:VK) (E:XK),Room k (A.deeper (envOfC qual (aN st) s.heap.objs.size f cdv))->sp vs H Q E->
   ∃t,GV (m5 wN P w K mg base N qual (aN st) f cdv A outer s H E).Jp (bI st) t/\t { nx:=fun _ H'=>Q .non H',rt:=Q } (fe N vs) H):iu P w K mg base wN (k+1) f fd ps sp:=by
 obtain⟨oc,od,kV,doc,pm,an,cdv,ct,osl,rfl,lk,hcd⟩:=F.ex
 refine AA lk hcd S len fun A outer s H vs Q E hr Im=>?_
 obtain⟨t,h,q⟩:=hbody cdv A outer s H vs Q E hr Im
 exact⟨t,h.Jp,q⟩
def HV.binds{x qual:Str}{st:Stmt}{f:Addr}{fd:FuncData}{ps:Vs}(F:HV K x qual st f fd)
  (h:∀(kV doc pm:Value) (an:Option Addr) (cdv ct:Value) (us:Vv),us.length=ps.length->bindArgs (PySem.W.fnOf x qual (di st) (bI st) (aN st) .none kV doc pm an cdv ct) ⟨us,[]⟩=pure (ps.zip us)):Binds K fd ps []:=by
 obtain⟨oc,od,kV,doc,pm,an,cdv,ct,osl,rfl,lk,hcd⟩:=F.ex
 exact .all (h kV doc pm an cdv ct)
def kT{x qual:Str}{st:Stmt}{f:Addr}{oc:Value}{od an:Option Addr}{osl:Array (Option Value)}{kV doc pm cdv ct:Value}(l:K.lookup f=some ⟨oc,od,.func (PySem.W.fnOf x qual (di st) (bI st) (aN st) .none kV doc pm an cdv ct),osl⟩)
  (c:PySem.W.codeIn K cdv qual=true) (k:PySem.W.keepIn K (.ref f)=true):HV K x qual st f (PySem.W.fnOf x qual (di st) (bI st) (aN st) .none kV doc pm an cdv ct):=⟨⟨oc,od,kV,doc,pm,an,cdv,ct,osl,rfl,l,c⟩,k⟩
end
def fM{n:Nat}(h:n<=1000):n < sizeLine:=Nat.lt_of_le_of_lt h (by decide)
section
variable {X:Cx}
def qq:eR X (.builtin "len") (fun xs H Q=>∃a kvs,xs=[V.ref a]/\H a=some (.dK kvs)/\Q (.int kvs.length) H):=by
 intro pins s σ H xs us Q I r h
 obtain⟨a,kvs,rfl,ha,q⟩:=h
 obtain⟨u,rfl,ru⟩:=fU r
 cases ru
 exact AH I (.inl ha) fun t s' I'=>⟨.int kvs.length,H,I',⟨t,rfl⟩,q⟩
end
end L2
set_option maxHeartbeats 4000000
namespace L2
open PySem PySem.Spec PyProof.Rows
def kU{prog:Program}{w:World}{A:Around}{R:Result->Shared->Prop}{s:Shared}{elt target iter:Expr}{ifs:List Expr}{scope:Scope}{pos:Pos}{it acc:Value}{env:Env}(I:Nat->Shared->Prop)
  (turn:∀n s,I n s->wpAny (model prog w) A (pyNext it) (fun r s₁=>match r with
   |none=>R (.ok .next) s₁
   |some v=>wpAny (model prog w) A (letOwnedTupleGo target it v) (fun _ s₁'=>wpAny (model prog w) A (assign target env v) (fun _ s₂=>
     wpAny (model prog w) A (forIn ifs true fun c r=>if r=true then do let ok <-isTrue c env (eval c env);pure (ForInStep.yield ok) else pure (ForInStep.yield r)) (fun ok s₃=>
      if ok=true then wpAny (model prog w) A (eval elt env) (fun x s₄=>
       wpAny (model prog w) A (call (.builtin "list.append") [acc,x]) (fun _ s₅=>∃m,m < n/\I m s₅) (fun _ _=>False) s₄) (fun _ _=>False) s₃
      else ∃m,m < n/\I m s₃) (fun _ _=>False) s₂) (fun _ _=>False) s₁') (fun _ _=>False) s₁) (fun _ _=>False) s)
  (n:Nat) (h:I n s) :
  codeAny (model prog w) A (.compLoop (.ListComp elt [⟨target,iter,ifs,0⟩] scope pos) 0 it acc env) R s:=by
 refine codeAny_loop rfl I (fun n s hI=>?_) n h
 show wpAny _ A ((compTurn (.ListComp elt [⟨target,iter,ifs,0⟩] scope pos) 0 it acc env).onRaise (fun x=>do noteFrame x env;theTreesLotGoes x)) _ _ s
 refine wpAny_noted ?_
 rw[compTurn_list]
 refine wpAny_bind (wpAny_standAt (wpAny_bind (wpAny_mono (turn n s hI) (fun r s₁ h₁=>?_) fun _ _ h'=>h'.elim)))
 cases r with
 |none=>exact wpAny_pure h₁
 |some v=>
  refine wpAny_bind (wpAny_mono h₁ (fun _ s₁' h₁'=>?_) fun _ _ h'=>h'.elim)
  refine wpAny_bind (wpAny_mono h₁' (fun _ s₂ h₂=>wpAny_bind (wpAny_mono h₂ (fun ok s₃ h₃=>?_) fun _ _ h'=>h'.elim)) fun _ _ h'=>h'.elim)
  cases ok with
  |false=>exact wpAny_pure ⟨rfl,h₃⟩
  |true=>
   exact wpAny_bind (wpAny_bind (wpAny_mono h₃ (fun x s₄ h₄=>wpAny_bind (wpAny_mono h₄ (fun _ s₅ h₅=>wpAny_pure (wpAny_pure ⟨rfl,h₅⟩)) fun _ _ h'=>h'.elim)) fun _ _ h'=>h'.elim))
structure Bk where
 C:Addr
 s:Shared
 H:Hp
 fp:List Addr
 pn:Va
noncomputable def cM(env:Env)(fs:Vs):List (Str×Addr):=fs.map fun x=>(x,(env.cells.lookup x).getD 0)
noncomputable abbrev Cx.FH(X:Cx)(N:Vs)(scope:Scope)(fs:Vs)(B:Bk):Cx:=
 { X with N:=N,s₀:=B.s,H₀:=B.H,env:=compEnvC scope (cM X.env fs) B.C X.env,outer:=X.stack,ex:=B.fp,fn:=fun _=>false,pn:=B.pn,xe:=fun _ _=>False }
noncomputable def cD(env:Env):List Str->Prop
 |[]=>True
 |x::r=>(∃c,env.cells.lookup x=some c)/\cD env r
theorem iW{env:Env}:∀{fs:Vs},cD env fs->∀{x:Str} {c:Addr},(cM env fs).lookup x=some c->env.cells.lookup x=some c
 |[],_,x,c,h=>by cases h
 |y::r,k,x,c,h=>by
  obtain⟨⟨d,hd⟩,k⟩:=k
  have h':List.lookup x ((y,(env.cells.lookup y).getD 0)::cM env r)=some c:=h
  rw[List.lookup_cons]at h'
  cases e:x == y with
  |true=>
   rw[e]at h'
   have e':x=y:=by simpa using e
   subst e'
   rw[hd]at h'
   rw[hd]
   exact h'
  |false=>
   rw[e]at h'
   exact iW k h'
noncomputable def kW(names:List (Str×NameKind))(cl:List (Str×Addr)):Bool:=names.all fun y=>(y.2 != .cell&&y.2 != .free) || (cl.lookup y.1).isSome
def se{names:List (Str×NameKind)}{cl:List (Str×Addr)}{x:Str}{k:NameKind}(h:kW names cl=true)(e:names.lookup x=some k)(hk:k = .cell\/k = .free):∃c,cl.lookup x=some c:=by
 have hm:(x,k)∈names:=PySem.mem_of_lookup e
 have q:=List.all_eq_true.mp h _ hm
 have z:(cl.lookup x).isSome=true:=by
  rcases hk with rfl|rfl
  ·simpa using q
  ·simpa using q
 exact Option.isSome_iff_exists.mp z
noncomputable def EU(env:Env)(scope:Scope)(cl:List (Str×Addr)):List Str->Prop
 |[]=>True
 |x::r=>((env.scope.names.lookup x=some .cell\/env.scope.names.lookup x=some .free)/\((relabel scope env).names.lookup x=some .cell\/(relabel scope env).names.lookup x=some .free)/\cl.lookup x=env.cells.lookup x)/\EU env scope cl r
theorem EU.mem{env:Env}{scope:Scope}{cl:List (Str×Addr)}:∀{l:Vs},EU env scope cl l->∀x∈l,
  (env.scope.names.lookup x=some .cell\/env.scope.names.lookup x=some .free)/\((relabel scope env).names.lookup x=some .cell\/(relabel scope env).names.lookup x=some .free)/\cl.lookup x=env.cells.lookup x
 |[],_,x,h=>nomatch h
 |y::r,k,x,h=>by
  rcases List.mem_cons.mp h with rfl|h
  ·exact k.1
  ·exact EU.mem k.2 x h
noncomputable def dW(own:Nat)(fr:List Nat)(σ:St):St:=List.replicate own none++fr.map fun j=>(σ[j]?).getD none
noncomputable abbrev iy(us:Vv):Obj:={ cls:=.type "list",data:=.seq us.toArray us.length }
def qr(us:Vv)(u:Value):({ cls:=.type "list",data:=.seq (us.toArray.push u) (us.length+1) }:Obj)=iy (us++[u]):=by
 show({ cls:=.type "list",data:=.seq (us.toArray.push u) (us.length+1) }:Obj)={ cls:=.type "list",data:=.seq (us++[u]).toArray (us++[u]).length }
 rw[List.length_append,List.length_singleton,List.push_toArray]
section
variable {X:Cx} {pins:Va} {σ:St} {H:Hp} {s:Shared}
def Inv.Jt{D:Addr}{us:Vv}{n:Nat}{ys:List V}(I:Inv X pins σ H s)(f:e8 X pins H D)(e:s.heap.get? D=some { cls:=.type "list",data:=.seq us.toArray n })(r:Vals ys us)(hz:ys.length<=sizeLine) :
  Inv X pins σ (upd H D (.lst ys)) s:=by
 obtain⟨f0,f1,f2,f3,f4,f5⟩:=f
 have nD:∀b u,H b=some u->b≠D:=fun b u q=>a9 q f0
 have hok:FL X.prog X.w (upd H D (.lst ys)) s.heap:=fun b u q=>by
  by_cases hb:b=D
  ·subst hb
   rw[ay]at q
   cases q
   exact⟨hz,us,n,r,e⟩
  ·rw[aA hb]at q
   exact(I.hok b u q).stay (fun _ _ _ z=>z) (fun c z=>by rw[aA (nD c _ z)];exact z) fun c xs z=>by rw[aA (nD c _ z)];exact z
 exact I.step (H':=upd H D (.lst ys)) (h':=s.heap) (g':=s.gens) (t':=s.toks) (d':=s.drawn) (ch:=[D])
  (fun b hb=>by
   have z:b=D:=by simpa using hb
   subst z
   exact⟨f3,f1,f4,f5⟩)
  (fun _ _ _ _ _ q _=>q) (fun _ o _ _ _ q _=>⟨o.slots,q⟩)
  (fun b o hb _ n=>by rw[aA (fun z=>hb (by simp[z]))];exact n)
  (fun _ o _ q=>⟨o,q⟩) (fun b xs q=>by rw[aA (nD b _ q)];exact q) (fun b o u q=>by rw[aA (nD b _ q)];exact q)
  (fun b ps q=>⟨#[],by rw[aA (nD b _ q),q];simp⟩) (fun _ q=>q) hok I.bare
def yq{N:Vs}{scope:Scope}{fs:Vs}{C:Addr}{fp:List Addr}(I:Inv X pins σ H s)(hkind:scope.kind = .function)(hC:s.heap.objs.size<=C)(hcl:cD X.env fs)
  (hhas:kW (relabel scope X.env).names (cM X.env fs)=true) (hf:∀b∈fp,e8 X pins H b) (hlt:∀b∈fp,b < s.heap.objs.size):(X.FH N scope fs ⟨C,s,H,fp,X.pn++pins⟩).Ok where
 mod:=I.ok.mod
 kind:=hkind
 glob:=I.ok.glob
 blt:=I.ok.blt
 above:=hC
 inj:=fun x y c h1 h2=>I.ok.inj x y c (iW hcl h1) (iW hcl h2)
 has:=fun x hx=>by
  rcases hx with e|e
  ·exact se hhas e (.inl rfl)
  ·exact se hhas e (.inr rfl)
 Ja:=fun x c h=>by cases h
 hd:=I.ok.hd
 frames:=I.ok.frames
 stk:=.inl rfl
 Kc:=fun b hb=>⟨Nat.ne_of_lt (Nat.lt_of_lt_of_le (hlt b hb) hC),fun x c e=>(hf b hb).2.2.2.2.1 x c (iW hcl e)⟩
 bs:=I.bs
 HP:=Nat.le_trans I.ok.HP I.sz
 Hg:=fun b o e hb=>(hf b hb).2.2.2.1.elim (fun z=>I.ok.Hg b o e z) fun z=>absurd (Nat.lt_of_lt_of_le (Heap.lt_size e) (Nat.le_trans I.ok.HP z)) (Nat.lt_irrefl _)
 Hv:=fun b hb z=>(List.mem_cons.mp (I.FV b z)).elim (hf b hb).2.1 (hf b hb).2.2.1
 FU:=I.stack
 Ik:=I.G_
def vy{N:Vs}{scope:Scope}{fs:Vs}{C D:Addr}{fp:List Addr}{own:Nat}{fr:List Nat}{h₁:Heap}{m0:Vr}{t':Nat}(I:Inv X pins σ H s)
  (ok:(X.FH N scope fs ⟨C,s,H,fp,X.pn++pins⟩).Ok) (hC:s.heap.objs.size<=C) (hD:s.heap.objs.size<=D) (hDC:D≠C) (hcl:cD X.env fs)
  (old:∀b o,s.heap.get? b=some o->h₁.get? b=some o) (hns:h₁.Ns C m0) (hacc:h₁.get? D=some (iy [])) (hlen:N.length=own+fr.length) (hN:(N.drop own).map some=fr.map fun j=>X.N[j]?)
  (hF:EU X.env scope (cM X.env fs) (N.drop own)) :
  Inv (X.FH N scope fs ⟨C,s,H,fp,X.pn++pins⟩) [(D,iy [])] (dW own fr σ) H { s with heap:=h₁,toks:=t' }:=by
 refine⟨ok,rfl,I.bare,Un.kept old,⟨m0,hns,fun i x v e1 e2 e3=>?_⟩,fun x c e=>?_,I.hok.fresh hC,fun x c e=>I.Fu x c (iW hcl e),fun p hp=>?_,I.hok.kept old,?_⟩
 ·have e1:N[i]?=some x:=e1
  by_cases hi:i < own
  ·unfold dW at e2
   rw[List.getElem?_append_left (by rw[List.length_replicate];exact hi),List.getElem?_replicate,if_pos hi]at e2
   cases e2
  ·obtain⟨k,rfl⟩:∃k,i=own+k:=⟨i - own,by omega⟩
   have e1':(N.drop own)[k]?=some x:=by rw[List.getElem?_drop];exact e1
   have q:=congrArg (fun l=>l[k]?) hN
   simp only[List.getElem?_map,e1',Option.map_some]at q
   unfold dW at e2
   rw[List.getElem?_append_right (by rw[List.length_replicate];omega),List.length_replicate,Nat.add_sub_cancel_left,List.getElem?_map]at e2
   cases hj:fr[k]? with
   |none=>rw[hj]at e2;cases e2
   |some j=>
    rw[hj]at e2 q
    simp only[Option.map_some,Option.some.injEq]at e2 q
    have hσ:σ[j]?=some (some v):=by
     cases z:σ[j]? with
     |none=>rw[z]at e2;cases e2
     |some w=>rw[z]at e2;simp only[Option.getD_some]at e2;rw[e2]
    obtain⟨k1,k2,k3⟩:=hF.mem x (List.mem_of_getElem? e1')
    obtain⟨m,hn,hl⟩:=I.loc
    have vis:BQ X.env.scope x:=by
     rcases k1 with z|z
     ·exact .inr (.inl z)
     ·exact .inr (.inr z)
    obtain⟨u,ru,l⟩:=hl j x v q.symm hσ vis
    rcases l with⟨hk,_⟩|⟨_,c,hc,o,ho,hd⟩
    ·have hk':X.env.scope.names.lookup x=some .local:=hk
     rcases k1 with z|z
     ·rw[z]at hk';cases hk'
     ·rw[z]at hk';cases hk'
    ·exact⟨u,ru,.inr ⟨k2,c,k3.trans hc,o,old _ _ ho,hd⟩⟩
 ·obtain⟨v,o,ho,hd⟩:=I.cell x c (iW hcl e)
  exact⟨v,o,old _ _ ho,hd⟩
 ·rcases List.mem_append.mp hp with z|z
  ·obtain⟨e,n,ne,nf,d⟩:=I.pin p z
   exact⟨old _ _ e,n,Nat.ne_of_lt (Nat.lt_of_lt_of_le (Heap.lt_size e) hC),fun q=>(List.mem_cons.mp (I.FV _ q)).elim ne nf,d⟩
  ·have z':p=(D,iy []):=by simpa using z
   subst z'
   exact⟨hacc,I.hok.fresh hD,hDC,fun q=>(List.mem_cons.mp (I.FV _ q)).elim (fun e=>absurd e (Nat.ne_of_gt (Nat.lt_of_lt_of_le I.lt hD))) (I.Jl hD),fun v z=>by cases z⟩
 ·show(dW own fr σ).length=N.length
  unfold dW
  rw[List.length_append,List.length_replicate,List.length_map,hlen]
end
def PF(X:Cx)(ifs:List Expr)(t:TT):Prop:=
 ∀(pins:Va) (s:Shared) (σ:St) (H:Hp) (Q:Bool->Hp->Prop),Inv X pins σ H s->t σ H Q->
  wpAny (model X.prog X.w) X.A (forIn ifs true fun c r=>if r=true then do let ok <-isTrue c X.env (eval c X.env);pure (ForInStep.yield ok) else pure (ForInStep.yield r)) (TP X pins σ Q) X.xe s
def CH:TT:=fun _ H Q=>Q true H
def yr{X:Cx}:PF X [] CH:=fun _ _ _ H _ I h=>wpAny_tests_nil ⟨H,I,h⟩
def yt{X:Cx}{c:Expr}{t:TT}(h:PT X c t):PF X [c] t:=fun pins s σ H Q I q=>wpAny_tests_one (h pins s σ H Q I q)
def wO(J:It)(g:TG)(tc:TT)(te:TE)(own:Nat)(σ':St)(fin:List V->Hp->Prop)(H1:Hp):Prop:=
 ∃W:Nat->Nat->List V->Hp->Prop,(∃m,W 0 m [] H1)/\∀i m ys H,W i m ys H->
  (J.stop i H/\ys.length<=sizeLine/\fin ys H) \/
  (J.go i H/\ys.length<=sizeLine/\∃Nx:List V->Hp->Prop,(∀ys' H',Nx ys' H'->∃m',m' < m/\W (i+1) m' ys' H')/\∀x H',J.JO i H x H'->g x σ' H' fun σ2 H2=>σ2.drop own=σ'.drop own/\tc σ2 H2 fun b H3=>
   if b=true then te σ2 H3 fun y H4=>Nx (ys++[y]) H4 else Nx ys H3)
section
variable {X:Cx} {pins:Va} {σ:St} {H:Hp} {s:Shared}
variable {elt iter tg:Expr} {ifs:List Expr} {scope:Scope} {pos:Pos} {N:Vs} {own:Nat} {fr:List Nat} {fs:Vs} {g:TG} {tc:TT} {te:TE}
def jr{J:It}{fp:List Addr}{it:Addr}{tn:Nat->Heap->Prop}{fin:List V->Hp->Prop}{E:Vq}{RR:Value->Addr->Result->Shared->Prop}
  (hc:X.calm=true) (hcell:∀y∈scope.names,y.2 ≠ .cell) (hkind:scope.kind = .function) (hcl:cD X.env fs) (hhas:kW (relabel scope X.env).names (cM X.env fs)=true)
  (hlen:N.length=own+fr.length) (hN:(N.drop own).map some=fr.map fun j=>X.N[j]?) (hF:EU X.env scope (cM X.env fs) (N.drop own))
  (hg:∀B,PG (X.FH N scope fs B) tg g) (hf:∀B,PF (X.FH N scope fs B) ifs tc) (he:∀B,PE (X.FH N scope fs B) elt te)
  (I:Inv X pins σ H s) (T:kM X.prog X.w X.K tg J fp it tn) (st:tn 0 s.heap) (f:∀b∈fp,e8 X pins H b) (W:wO J g tc te own (dW own fr σ) fin H)
  (hRR:∀D C s' ys H' m',Inv X pins σ (upd H' D (.lst ys)) s'->H' D=none->s'.heap.Ns C m'->e8 X pins (upd H' D (.lst ys)) C->fin ys H'->RR (.ref D) C (.ok .next) s') :
  wpAny (model X.prog X.w) X.A (newList []) (fun acc s₃=>wpAny (model X.prog X.w) X.A (newFunctionEnv scope X.env.globals (cM X.env fs) [] X.env.qual none .none (some X.env)) (fun cenv s₄=>
   codeAny (model X.prog X.w) X.A (.compStart (.ListComp elt [⟨tg,iter,ifs,0⟩] scope pos) 0 (.ref it) acc { cenv with scope:=relabel scope X.env }) (RR acc cenv.locals) s₄) E s₃) E s:=by
 refine wpAny_newObj_type (wpAny_newFunctionEnv hcell (by intro y hy;simp at hy) (fun h₁ IG HW=>?_) hkind)
 dsimp only at IG HW ⊢
 generalize Ko:s.heap.push { cls:=.type "list",dict:=none,data:=.seq ([]:Vv).toArray }=H2 at IG HW ⊢
 have hC:H2.objs.size=s.heap.objs.size+1:=by rw[<-Ko,Heap.size_push]
 have IH:s.heap.objs.size<=H2.objs.size:=by rw[hC];exact Nat.le_succ _
 have hDC:s.heap.objs.size≠H2.objs.size:=by rw[hC];exact Nat.ne_of_lt (Nat.lt_succ_self _)
 have below:∀b,b < s.heap.objs.size->b≠H2.objs.size/\b≠s.heap.objs.size:=fun b hb=>⟨by rw[hC];exact Nat.ne_of_lt (Nat.lt_succ_of_lt hb),Nat.ne_of_lt hb⟩
 have old:∀b o,s.heap.get? b=some o->h₁.get? b=some o:=fun b o e=>HW.extBut b o (below b (Heap.lt_size e)).1 (Heap.get?_push_of_some _ (Ko▸Heap.get?_push_of_some _ e))
 have hacc:h₁.get? s.heap.objs.size=some (iy []):=HW.extBut _ _ hDC (Heap.get?_push_of_some _ (Ko▸Heap.get?_push_size _ rfl))
 have hlt:∀b∈fp,b < s.heap.objs.size:=fun b hb=>by
  obtain⟨o,e,_⟩:=T.obj 0 _ st b hb
  exact Heap.lt_size e
 obtain⟨Wv,⟨m0,w0⟩,turn⟩:=W
 have ok:=yq (N:=N) I hkind IH hcl hhas f hlt
 have loop:∀s₃:Shared,s₃={ s with heap:=h₁,toks:=s.toks+([]:List (Str×Value)).length }->
   codeAny (model X.prog X.w) X.A (.compLoop (.ListComp elt [⟨tg,iter,ifs,0⟩] scope pos) 0 (.ref it) (.ref s.heap.objs.size) (compEnvC scope (cM X.env fs) H2.objs.size X.env))
    (RR (.ref s.heap.objs.size) H2.objs.size) s₃:=by
  rintro s₃ rfl
  have I0:=vy (own:=own) (fr:=fr) (t':=s.toks+([]:List (Str×Value)).length) I ok IH (Nat.le_refl _) hDC hcl old IG hacc hlen hN hF
  have L7:tn 0 h₁:=T.keep 0 _ _ st fun b _ o e=>old b o e
  have stat:∀{us:Vv} {H':Hp},(∀b∈fp,H' b=none)->∀b∈fp,e8 (X.FH N scope fs ⟨H2.objs.size,s,H,fp,X.pn++pins⟩) [(s.heap.objs.size,iy us)] H' b:=fun{us H'} hn b hb=>by
   obtain⟨f0,f1,f2,f3,f4,f5⟩:=f b hb
   refine⟨hn b hb,(below b (hlt b hb)).1,fun z=>(List.mem_cons.mp (I.FV b z)).elim f1 f2,.inl hb,fun x c e=>f4 x c (iW hcl e),fun p hp=>?_⟩
   rcases List.mem_append.mp hp with z|z
   ·exact f5 p z
   ·have z':p=(s.heap.objs.size,iy us):=by simpa using z
    subst z'
    exact Ne.symm (below b (hlt b hb)).2
  have Kp:∀p∈X.pn++pins,p.1 < s.heap.objs.size:=fun p hp=>Heap.lt_size (I.pin p hp).1
  refine kU (fun k s'=>∃i ys us H',Inv (X.FH N scope fs ⟨H2.objs.size,s,H,fp,X.pn++pins⟩) [(s.heap.objs.size,iy us)] (dW own fr σ) H' s'/\Vals ys us/\tn i s'.heap/\(∀b∈fp,H' b=none)/\Wv i k ys H') ?_ m0
   ⟨0,[],[],H,I0,.nil,L7,fun b hb=>(f b hb).1,w0⟩
  rintro n s' ⟨i,ys,us,H',I',rv,st',K8,w'⟩
  rcases turn i n ys H' w' with⟨stop,hz,Kr⟩|⟨go,hz,Nx,K9,step⟩
  ·refine bA (T.done (X.FH N scope fs ⟨H2.objs.size,s,H,fp,X.pn++pins⟩) rfl rfl rfl hc i _ s' _ H' (fun _ _=>False) I' (stat K8) st' stop) (fun r s1 ⟨hr,I1⟩=>?_)
   subst hr
   show RR _ _ (.ok .next) s1
   have IX:Inv X pins σ H' s1:=I.Jo I1.os I1.base I1.hok I1.bare fun b hb=>by
    obtain⟨f0,f1,f2,f3,f4,f5⟩:=f b hb
    exact⟨f3,f1,f4,f5⟩
   obtain⟨eD,nD,_⟩:=I1.pin (s.heap.objs.size,iy us) (by simp)
   have IT:=IX.Jt (I.F8 (H':=H') (Nat.le_refl _) nD) eD rv hz
   obtain⟨m',hn',_⟩:=I1.loc
   exact hRR _ _ s1 ys H' m' IT nD hn' (I.F8 IH (by rw[aA (Ne.symm hDC)];exact I1.free)) Kr
  ·refine bA (T.item (X.FH N scope fs ⟨H2.objs.size,s,H,fp,X.pn++pins⟩) rfl rfl rfl hc i _ s' _ H' (fun _ _=>False) I' (stat K8) st' go) (fun r s1 ⟨u,hr,h1⟩=>?_)
   subst hr
   show wpAny _ _ (letOwnedTupleGo tg (.ref it) u) _ _ s1
   refine bA h1 (fun _ s5 ⟨x,H5,I5,r5,y5,HR,Kg⟩=>?_)
   have Kh:=I5.pinned (stat Kg) (T.obj _ _ HR)
   refine bA (hg _ _ s5 _ H5 x u _ Kh r5 (step x H5 y5)) (fun _ s6 ⟨σ6,H6,I6,L8,q6⟩=>?_)
   refine bA (hf _ _ s6 σ6 H6 _ I6 q6) (fun b s7 ⟨H7,I7,q7⟩=>?_)
   -- II the turn's own names
   have forget:∀{H8:Hp} {s8:Shared} {pl:Va},Inv (X.FH N scope fs ⟨H2.objs.size,s,H,fp,X.pn++pins⟩) pl σ6 H8 s8->Inv (X.FH N scope fs ⟨H2.objs.size,s,H,fp,X.pn++pins⟩) pl (dW own fr σ) H8 s8:=fun{H8 s8 pl} I8=>by
    refine I8.weak (I0.len.trans I8.len.symm) fun j v e=>?_
    by_cases hj:j < own
    ·unfold dW at e
     rw[List.getElem?_append_left (by rw[List.length_replicate];exact hj),List.getElem?_replicate,if_pos hj]at e
     cases e
    ·obtain⟨k,rfl⟩:∃k,j=own+k:=⟨j - own,by omega⟩
     rw[<-List.getElem?_drop]at e ⊢
     rw[L8]
     exact e
   have IJ:∀{H8:Hp} {s8:Shared},Inv (X.FH N scope fs ⟨H2.objs.size,s,H,fp,X.pn++pins⟩) ([(s.heap.objs.size,iy us)]++jj fp s5.heap) σ6 H8 s8->∀b∈fp,∀o,s5.heap.get? b=some o->s8.heap.get? b=some o/\H8 b=none:=fun I8 b hb o e=>
    let z:=I8.pin (b,o) (List.mem_append_right _ (List.mem_append_right _ (gk hb e)))
    ⟨z.1,z.2.1⟩
   cases b with
   |false=>
    show ∃m,m < n/\_
    obtain⟨m',hm,w7⟩:=K9 _ _ (show Nx ys H7 from q7)
    refine⟨m',hm,i+1,ys,us,H7,(forget I7).FQ,rv,T.keep _ _ _ HR fun b hb o e=>(IJ I7 b hb o e).1,fun b hb=>?_,w7⟩
    obtain⟨o,e,_⟩:=T.obj _ _ HR b hb
    exact(IJ I7 b hb o e).2
   |true=>
    show wpAny _ _ (eval elt _) _ _ s7
    have L9:te σ6 H7 fun y H4=>Nx (ys++[y]) H4:=q7
    refine bA (he _ _ s7 σ6 H7 _ I7 L9) (fun v s8 ⟨y,H8,I8,r8,n8⟩=>?_)
    obtain⟨m',hm,w8⟩:=K9 _ _ n8
    obtain⟨eD,nD,K_,L_,_⟩:=I8.pin (s.heap.objs.size,iy us) (List.mem_append_right _ (List.mem_append_left _ (by simp)))
    refine append_at (hsz:=by show us.toArray.size<=sizeLine;rw[List.size_toArray,<-rv.length];exact hz) eD fun h9 La Ma=>?_
    have J0:Inv (X.FH N scope fs ⟨H2.objs.size,s,H,fp,X.pn++pins⟩) [] σ6 H8 s8:=I8.Ga fun p hp=>nomatch hp
    have J1:Inv (X.FH N scope fs ⟨H2.objs.size,s,H,fp,X.pn++pins⟩) [] σ6 H8 { s8 with heap:=h9 }:=J0.turned (t':=s8.toks) (it:=s.heap.objs.size) (fun b o hb e=>(La.2 b hb).trans e) nD K_ (.inr (Nat.le_refl _))
     (fun x c e z=>by
      obtain⟨v',q⟩:=I.cell x c (iW hcl e)
      exact absurd (Nat.lt_of_lt_of_le q.lt (by rw[z];exact Nat.le_refl _)) (Nat.lt_irrefl _))
     (fun p hp=>by
      rw[List.append_nil]at hp
      exact Nat.ne_of_lt (Kp p hp))
    have J2:Inv (X.FH N scope fs ⟨H2.objs.size,s,H,fp,X.pn++pins⟩) [(s.heap.objs.size,iy (us++[v]))] σ6 H8 { s8 with heap:=h9 }:=J1.Ga fun p hp=>by
     have z':p=(s.heap.objs.size,iy (us++[v])):=by simpa using hp
     subst z'
     exact⟨Ma.trans (congrArg some (qr us v)),nD,K_,L_,fun v z=>by cases z⟩
    refine⟨m',hm,i+1,ys++[y],us++[v],H8,forget J2,Vals.append rv (.cons r8 .nil),T.keep _ _ _ HR fun b hb o e=>(La.2 b (below b (hlt b hb)).2).trans (IJ I8 b hb o e).1,fun b hb=>?_,w8⟩
    obtain⟨o,e,_⟩:=T.obj _ _ HR b hb
    exact(IJ I8 b hb o e).2
 exact codeAny_compStart_list (loop _ rfl) (T.self _ 0 _ _ _ (T.keep 0 _ _ st fun b _ o e=>old b o e) (loop _ rfl))
def sf(wi:TI)(g:TG)(tc:TT)(te:TE)(own:Nat)(fr:List Nat):TE:=fun σ H Q=>wi σ H fun J H1=>
 wO J g tc te own (dW own fr σ) (fun ys H2=>∀D,H2 D=none->Q (.ref D) (upd H2 D (.lst ys))) H1
def vz(fs:Vs)(own:Nat)(fr:List Nat)(N:Vs){wi:TI}(hc:X.calm=true)(hclos:closureFor scope X.env=pure (cM X.env fs))(hcell:∀y∈scope.names,y.2 ≠ .cell)(hkind:scope.kind = .function)
  (hnames:∀x∈scope.names,x.2 = .local->scope.names.lookup x.1=some .local) (hcl:cD X.env fs) (hhas:kW (relabel scope X.env).names (cM X.env fs)=true)
  (hlen:N.length=own+fr.length) (hN:(N.drop own).map some=fr.map fun j=>X.N[j]?) (hF:EU X.env scope (cM X.env fs) (N.drop own))
  (hi:PI X tg iter wi) (hg:∀B,PG (X.FH N scope fs B) tg g) (hf:∀B,PF (X.FH N scope fs B) ifs tc) (he:∀B,PE (X.FH N scope fs B) elt te)
  (hs:∀x,foldedSetIterable iter X.env x=pure x:=by intro _;rfl):PE X (.ListComp elt [⟨tg,iter,ifs,0⟩] scope pos) (sf wi g tc te own fr):=by
 intro pins s σ H Q I h
 rw[eval_ListComp]
 refine wpAny_comprehension_free (use:=none) (g:=⟨tg,iter,ifs,0⟩) (gs:=[]) rfl hs hclos hkind hnames (bA (hi pins s σ H _ I h) fun v s1 h1=>bA h1 fun itv s2 h2=>?_)
 obtain⟨it,fp,tn,J,H2,e,I2,T,st2,f2,W⟩:=h2
 subst e
 refine jr (RR:=fun acc C=>compPost (model X.prog X.w) X.A X.xe none (EP X pins σ Q) acc C) hc hcell hkind hcl hhas hlen hN hF hg hf he I2 T st2 f2 W ?_
 intro D C s' ys H' m' I' nD hn fC fin
 exact⟨m',hn,fun h' hs'=>⟨.ref D,_,I'.turned (t':=s'.toks) (fun b o hb e=>(hs'.2 b hb).trans e) fC.1 fC.2.1 fC.2.2.2.1 fC.2.2.2.2.1 fC.2.2.2.2.2,rfl,fin D nD⟩⟩
def vA(fs:Vs)(own:Nat)(fr:List Nat)(N:Vs){wi:TI}{i:Nat}{y:Str}{py spos:Pos}(hX:X.N.Nodup)(hix:X.N[i]?=some y)(hy:X.env.scope.names.lookup y=some .local)
  (hsw:swapsWith (.ListComp elt [⟨tg,iter,ifs,0⟩] scope pos) (some (.Name y py)) spos.line X.env=pure true)
  (hc:X.calm=true) (hclos:closureFor scope X.env=pure (cM X.env fs)) (hcell:∀y∈scope.names,y.2 ≠ .cell) (hkind:scope.kind = .function)
  (hnames:∀x∈scope.names,x.2 = .local->scope.names.lookup x.1=some .local) (hcl:cD X.env fs) (hhas:kW (relabel scope X.env).names (cM X.env fs)=true)
  (hlen:N.length=own+fr.length) (hN:(N.drop own).map some=fr.map fun j=>X.N[j]?) (hF:EU X.env scope (cM X.env fs) (N.drop own))
  (hi:PI X tg iter wi) (hg:∀B,PG (X.FH N scope fs B) tg g) (hf:∀B,PF (X.FH N scope fs B) ifs tc) (he:∀B,PE (X.FH N scope fs B) elt te)
  (hs:∀x,foldedSetIterable iter X.env x=pure x:=by intro _;rfl):PS X (.Assign [.Name y py] (.ListComp elt [⟨tg,iter,ifs,0⟩] scope pos) spos) (u3 (sf wi g tc te own fr) (lR i)):=by
 intro pins s σ H D I h
 rw[exec_Assign_Name_used _ _ _ _ hsw]
 refine wpAny_bind (wpAny_standAt (wpAny_bind ?_))
 show wpAny _ X.A (do let _ <-comprehension (.ListComp elt [⟨tg,iter,ifs,0⟩] scope pos) scope X.env _ (newList []) false (eval iter X.env) (some (assign (.Name y py) X.env))) _ _ s
 refine wpAny_bind (wpAny_mono (wpAny_comprehension_free (use:=some (assign (.Name y py) X.env)) (Q:=fun _ s'=>SP X pins D .next s') (g:=⟨tg,iter,ifs,0⟩) (gs:=[]) rfl hs hclos hkind hnames
  (bA (hi pins s σ H _ I h) fun v s1 h1=>bA h1 fun itv s2 h2=>?_)) (fun _ s' hq=>wpAny_pure (wpAny_pure hq)) fun _ _ e=>e)
 obtain⟨it,fp,tn,J,H2,e,I2,T,st2,f2,W⟩:=h2
 subst e
 refine jr (RR:=fun acc C=>compPost (model X.prog X.w) X.A X.xe (some (assign (.Name y py) X.env)) (fun _ s'=>SP X pins D .next s') acc C) hc hcell hkind hcl hhas hlen hN hF hg hf he I2 T st2 f2 W ?_
 intro Da C s' ys H' m' I' nD hn fC fin
 show wpAny _ X.A (assign (.Name y py) X.env (.ref Da)) _ _ s'
 refine wpAny_assign_Name (j9 (v:=.ref Da) I' hX hix (.inl hy) rfl (fun s2 I3 ⟨a,sb,ha⟩=>?_) (.inr hy))
 have ca:C≠a:=by
  rcases ha with z|z
  ·rw[z];exact fC.2.1
  ·exact Ne.symm (fC.2.2.2.2.1 _ _ z)
 exact⟨m',hn.sameBut sb ca,fun h' hs'=>⟨_,_,I3.turned (t':=s2.toks) (fun b o hb e=>(hs'.2 b hb).trans e) fC.1 fC.2.1 fC.2.2.2.1 fC.2.2.2.2.1 fC.2.2.2.2.2,fin Da nD⟩⟩
end
end L2
namespace PySem
open Sem (wp)
namespace F
def qt:typeLookup (.type "list_reverseiterator") "__len__" = pure none:=by rw[typeLookup_type,builtinLookup_eq_fast];kernel_rfl
def si:typeLookup (.type "list_reverseiterator") "__length_hint__" = pure (some (.builtin "list_reverseiterator.__length_hint__")):=by rw[typeLookup_type,builtinLookup_eq_fast];kernel_rfl
end F
section
variable {prog:Program} {w:World} {A:Around} {s:Shared} {R:Result->Shared->Prop}
variable {I:Addr} {fp wr:List Addr} {G:Array GenState->Array GenState->Prop} {n:Nat} {P:Nat->Value->Prop} {St:Nat->Shared->Prop}
def m_(W:WalksS prog w A.in1 I fp wr G n P St)(hT:∀i s,St i s->s.TypeIs (.ref I) "list_reverseiterator")(S:Addr)(res:Value)(c₀:Nat)(hst:St 0 s)(hSf:S ∉ fp)(hI:I∈fp)
  (hS:s.heap.get? S=some { cls:=.type "list",data:=.seq #[] c₀ })
  (hR:∀s' acc' c',Moved (S::wr) G s s'->s'.heap.get? S=some { cls:=.type "list",dict:=none,data:=.seq acc' c',slots:=#[] }->ItemsOf P acc' n->R (.ok (.ret res)) s') (hn:n<=sizeLine) :
  wpAny (model prog w) A.in1 (Builtin.List.listExtendWith (.ref S) (.ref I) res)
   (fun fin s'=>match fin with | .done f=>R (.ok f) s' | .again c'=>c'.quiet=true/\codeAny (model prog w) A c' R s') (fun e s'=>R (.error e) s') s:=by
 have hSI:S≠I:=fun e=>hSf (e▸hI)
 have h1:Builtin.List.listSameRef (.ref S) (.ref I)=false:=by simp[Builtin.List.listSameRef,hSI]
 unfold Builtin.List.listExtendWith
 refine wpAny_bind (wpAny_typeOf (hT 0 _ hst) ?_)
 rw[if_neg (by rw[h1];decide)]
 refine wpAny_bind (W.self 0 _ _ _ hst ?_)
 refine wpAny_bind (wpAny_holding ?_)
 unfold Builtin.List.listLengthHint
 refine wpAny_bind (wpAny_specialOf (hT 0 _ hst) F.qt ?_)
 show wpAny _ A.in1 (specialOf (Value.ref I) (Str.ofString "__length_hint__") >>= _) _ _ _
 refine wpAny_bind (wpAny_specialOf (hT 0 _ hst) F.si ?_)
 (generalize hid:("list_reverseiterator.__length_hint__":String)=Mb;wp_delta;rw[show splitId Mb=some ("list_reverseiterator","__length_hint__")from by subst hid;decide +kernel];subst hid)
 refine wpAny_bind (wpAny_isInstance (b:=true) (hT 0 _ hst) (by rw[isSubtype_type];kernel_rfl) ?_)
 refine wpAny_pure ?_
 rw[if_neg (by decide)]
 exact wpAny_pure ⟨plainId_quiet F.plain_extend_loop _,codeAny_extend_loopS W hn _ hSf _ n 0 _ _ _ rfl (Nat.zero_le _) hst hS (ItemsOf.nil P) fun s' acc' c' hm hS' hacc=>hR s' acc' c' hm hS' hacc⟩
def jY(W:WalksS prog w A.in1 I fp wr G n P St)(hT:∀i s,St i s->s.TypeIs (.ref I) "list_reverseiterator")(S:Addr)(hst:St 0 s)(hSf:S ∉ fp)(hI:I∈fp)
  (hS:s.heap.get? S=some { cls:=.type "list",data:=.seq #[] })
  (hR:∀s' acc' c',Moved (S::wr) G s s'->s'.heap.get? S=some { cls:=.type "list",dict:=none,data:=.seq acc' c',slots:=#[] }->ItemsOf P acc' n->R (.ok (.ret .none)) s') (hn:n<=sizeLine) :
  wpAny (model prog w) A.in1 (Builtin.«list.__init__» ⟨[.ref S,.ref I],[]⟩)
   (fun fin s'=>match fin with | .done f=>R (.ok f) s' | .again c'=>c'.quiet=true/\codeAny (model prog w) A c' R s') (fun e s'=>R (.error e) s') s:=by
 show wpAny _ A.in1 (do let old <-Builtin.List.listItems (.ref S);Builtin.List.listUpdate (.ref S) (fun _=>#[]);letGo old.toList.reverse;Builtin.List.listExtendWith (.ref S) (.ref I) .none) _ _ s
 refine wpAny_bind ?_
 unfold Builtin.List.listItems
 refine wpAny_bind (wpAny_seqItems hS rfl (wpAny_pure ?_))
 show wpAny _ A.in1 (updateSeq S (fun _=>#[]) >>= fun _=>letGo (#[]:Vw).toList.reverse >>= fun _=>Builtin.List.listExtendWith (.ref S) (.ref I) .none) _ _ s
 refine wpAny_bind (wpAny_updateSeq hS rfl ?_)
 have Mc:=Heap.get?_update_self (Obj.mapSeq (fun _=>(#[]:Vw))) hS rfl
 have Gc:∀b o,b≠S->s.heap.get? b=some o->(s.heap.update S (Obj.mapSeq (fun _=>(#[]:Vw)))).get? b=some o:=
  fun b o hb e=>(Heap.get?_update_other _ _ (Ne.symm hb)).trans e
 refine wpAny_bind (wpAny_letGo ?_)
 refine m_ (hn:=hn) W hT S .none _ (W.frame 0 s _ s.toks hst (Nat.le_refl _) fun b hb o e=>Gc b o (fun h=>hSf (h▸hb)) e) hSf hI Mc fun s' acc' c' hm hS' hacc=>?_
 exact hR s' acc' c' (Moved.trans W.gtrans ((Moved.refl W.grefl).then_heap (Nat.le_refl _) fun b o hb e=>Gc b o (fun h=>hb (h▸List.mem_cons_self)) e) hm) hS' hacc
end
section
variable {prog:Program} {w:World} {A:Around} {E:Vq} {s:Shared}
def jZ{I l:Addr}{items:Vw}{Q:Vq}(hh:A.handled=none)(hl:s.heap.IsList l items)(hit:s.heap.IsRevIter I l ((items.size:Int) - 1))(hne:l≠I)(hn:items.size<=sizeLine)
  (hQ:∀h' tk acc' c',(∀b o,b≠I->s.heap.get? b=some o->h'.get? b=some o)->h'.get? s.heap.objs.size=some { cls:=.type "list",dict:=none,data:=.seq acc' c',slots:=#[] }->
   acc'.toList=items.toList.reverse->Q (.ref s.heap.objs.size) { s with heap:=h',toks:=tk }) :
  wpAny (model prog w) A (call (.type "list") [.ref I]) Q E s:=by
 have W:=(Walks.listRev (prog:=prog) (w:=w) (A:=A.in1.in1) hh I l hne items).toS
 have Ks:I < s.heap.objs.size:=by obtain⟨o,ho,_⟩:=hit;exact Heap.lt_size ho
 have Kt:l < s.heap.objs.size:=by obtain⟨o,ho,_⟩:=hl;exact Heap.lt_size ho
 have hfp:∀b∈[I,l],b < s.heap.objs.size:=fun b hb=>by
  rcases List.mem_cons.mp hb with rfl|hb
  ·exact Ks
  ·rw[List.mem_singleton.mp hb];exact Kt
 have hSf:s.heap.objs.size ∉ [I,l]:=fun hm=>Nat.lt_irrefl _ (hfp _ hm)
 have hst:(fun i (s:Shared)=>i<=items.size/\s.heap.IsRevIter I l ((items.size:Int) - 1 - (i:Int))/\s.heap.IsList l items) 0 s:=⟨Nat.zero_le _,by simpa using hit,hl⟩
 refine callType_codes (Q₁:=fun obj s₁=>obj = .ref s.heap.objs.size/\s₁={ s with heap:=s.heap.push { cls:=.type "list",data:=.seq #[] } }) F.called_list (F.typeCall_list_1 _) F.entry_list_init
  (code_list_new _ ⟨rfl,rfl⟩) fun obj s₁ h₁=>?_
 obtain⟨rfl,rfl⟩:=h₁
 have hS:(s.heap.push { cls:=.type "list",data:=.seq #[] }).get? s.heap.objs.size=some { cls:=.type "list",data:=.seq #[] }:=Heap.get?_push_size _ rfl
 refine⟨⟨_,hS,rfl⟩,F.args_list_init_2 _ _,jY (hn:=hn) W (fun i s st=>st.2.1.typeIs) _ (W.frame 0 s _ s.toks hst (Nat.le_refl _) fun b _ o e=>Heap.get?_push_of_some _ e) hSf (List.mem_cons_self ..) hS fun s' acc' c' hm hS' hacc=>?_⟩
 refine⟨rfl,?_⟩
 rw[hm.eq_with]
 refine hQ s'.heap s'.toks acc' c' (fun b o hb e=>hm.heap b o (fun z=>?_) (Heap.get?_push_of_some _ e)) hS' ?_
 ·rcases List.mem_cons.mp z with z|z
  ·exact absurd (Heap.lt_size e) (by rw[z];exact Nat.lt_irrefl _)
  ·exact hb (List.mem_singleton.mp z)
 ·obtain⟨hsz,hP⟩:=hacc
  apply List.ext_getElem?
  intro j
  by_cases hj:j < items.size
  ·have hj':j < acc'.size:=by rw[hsz];exact hj
   have q:=hP j acc'[j] (by simp[hj'])
   have e1:acc'.toList[j]?=some acc'[j]:=by simp[hj']
   rw[e1,List.getElem?_reverse (by simpa using hj)]
   simpa using q.symm
  ·rw[List.getElem?_eq_none (by simpa [hsz]using hj),List.getElem?_eq_none (by simpa using hj)]
end
end PySem
namespace L2
open PySem PySem.Spec PyProof.Rows
section
variable {X:Cx}
def sj(K:Vo)(te:TE):TE:=fun σ H Q=>te σ H fun x H1=>∃a xs,x = .ref a/\SqL K H1 a xs/\∀q,H1 q=none->Q (.ref q) (upd H1 q (.lst xs.reverse))
def ni{e:Expr}{te:TE}{p1 p2 q1 q2:Pos}(hc:X.calm=true)(he:PE X e te)(IK:Gl X "list")(hm1:X.mg "list" = none)(IL:Gl X "reversed")(hm2:X.mg "reversed" = none)
  (hs:starEach [e] X.env=[(false,eval e X.env)]:=by rfl) (hs2:starEach [.Call (.Name "reversed" p2) [e] [] q2] X.env=[(false,eval (.Call (.Name "reversed" p2) [e] [] q2) X.env)]:=by rfl) :
  PE X (.Call (.Name "list" p1) [.Call (.Name "reversed" p2) [e] [] q2] [] q1) (sj X.K te):=by
 intro pins s σ H Q I h
 refine wpAny_Call_Name_kw (dM I IK hm1 (u:=.type "list") (by decide +kernel) ?_)
 refine PyProof.Rows.callWith_type1 ?_ hs2 rfl
 rw[hs2]
 show wpAny _ _ (spliced ((false,eval (.Call (.Name "reversed" p2) [e] [] q2) X.env)::backTo q1 [])) _ _ s
 refine Calls.spliced_cons ?_
 refine wpAny_Call_Name_kw (dM I IL hm2 (u:=.type "reversed") boot_reversed ?_)
 refine PyProof.Rows.callWith_type1 ?_ hs rfl
 rw[hs]
 show wpAny _ _ (spliced ((false,eval e X.env)::backTo q2 [])) _ _ s
 refine Calls.spliced_cons (bA (he pins s σ H _ I h) fun u s1 ⟨x,H1,I1,r1,a,xs,ex,hx,q⟩=>?_)
 subst ex
 cases r1
 obtain⟨its,rv,p,hz⟩:=I1.list hx
 have hl:=rv.length
 have hal:a < s1.heap.objs.size:=by obtain⟨o,ho,_⟩:=p.isList;exact Heap.lt_size ho
 refine Calls.spliced_nil (call_reversed_list p.isList ?_)
 refine Calls.spliced_nil ?_
 refine jZ (I.ok.hd hc) (p.isList.push _) ⟨_,Heap.get?_push_size _ rfl,rfl,rfl⟩ (Nat.ne_of_lt hal) (by rw[List.size_toArray,<-hl];exact hz) fun h' tk acc c hk hS ha=>?_
 have hsz:(s1.heap.push (revObj a ((its.toArray.size:Int) - 1))).objs.size=s1.heap.objs.size+1:=Heap.size_push _ _
 have hle:s1.heap.objs.size<=(s1.heap.push (revObj a ((its.toArray.size:Int) - 1))).objs.size:=by rw[hsz];exact Nat.le_succ _
 refine⟨.ref _,_,I1.laid (a:=(s1.heap.push (revObj a ((its.toArray.size:Int) - 1))).objs.size) (o:=.lst xs.reverse) (h':=h') (t':=tk) (fun b u e=>hk b u (Nat.ne_of_lt (Heap.lt_size e)) (Heap.get?_push_of_some _ e)) hle ?_,rfl,q _ (I1.hok.fresh hle)⟩
 refine⟨by rw[List.length_reverse];exact hz,its.reverse,c,Vals.reverse rv,?_⟩
 rw[hS]
 have e:acc=its.reverse.toArray:=by
  apply Array.toList_inj.mp
  rw[ha]
 rw[e]
end
section
variable {X:Cx}
noncomputable abbrev sgn(c:Nat):Str:=⟨#[c]⟩
noncomputable def CI(z:Str):It:=⟨fun i _=>i < z.cps.size,fun i H x H'=>H'=H/\∃c,z.cps[i]?=some c/\x = .str (sgn c),fun i _=>z.cps.size<=i⟩
def sr{P:Program}{w:World}{K:Vo}{tg:Expr}{ty:String}(hty:ty = "str_ascii_iterator" \/ ty = "str_iterator")(it:Addr)(z:Str)(t:Tok):kM P w K tg (CI z) [it] it (fun i h=>i<=z.cps.size/\h.IsStrIter it ty z t i):=by
 have W:∀A':Around,A'.handled=none->Walks P w A' it [it] [it] z.cps.size (SignAt z) (fun i h=>h.IsStrIter it ty z t i):=fun A' hA=>by
  rcases hty with rfl|rfl
  ·exact Walks.strAscii hA it z t
  ·exact Walks.strWide hA it z t
 have nt:(["enumerate","zip","dict_itemiterator","dict_reverseitemiterator","odict_iterator","itertools.zip_longest","itertools.pairwise"].contains ty)=false:=by
  rcases hty with rfl|rfl<;>decide
 refine⟨by simp,fun i h st b hb=>?_,fun i h h' st k=>?_,?_,?_,?_⟩
 ·have e:b=it:=by simpa using hb
  subst e
  obtain⟨_,o,e,c,d⟩:=st
  exact⟨o,e,fun v q=>by rw[d]at q;cases q⟩
 ·obtain⟨hi,o,e,r⟩:=st
  exact⟨hi,o,k it (by simp) o e,r⟩
 ·intro X hP hw hK hc i pins s σ H E I hf st hg
  subst hP hw hK
  obtain⟨f0,f1,f2,f3,f4,f5⟩:=hf it (by simp)
  refine(W X.A (I.ok.hd hc)).item i s _ _ hg st.2 fun v h' tk hv st' kk=>?_
  obtain⟨c,u,hcp,rfl⟩:=hv
  have I1:Inv X pins σ H { s with heap:=h',toks:=tk }:=I.turned (fun b o hb e=>kk b o (by simpa using hb) e) f0 f1 f3 f4 f5
  obtain⟨o,e,co,d⟩:=id st'
  exact⟨_,rfl,oC (s:={ s with heap:=h',toks:=tk }) e co d nt ⟨.str (sgn c),H,I1,⟨u,rfl⟩,⟨rfl,c,hcp,rfl⟩,⟨hg,st'⟩,fun b hb=>(hf b hb).1⟩⟩
 ·intro X hP hw hK hc i pins s σ H E I hf st hg
  subst hP hw hK
  obtain⟨f0,f1,f2,f3,f4,f5⟩:=hf it (by simp)
  have e:i=z.cps.size:=Nat.le_antisymm st.1 hg
  subst e
  exact(W X.A (I.ok.hd hc)).done s _ _ st.2 fun h' tk kk=>⟨rfl,I.turned (fun b o hb e=>kk b o (by simpa using hb) e) f0 f1 f3 f4 f5⟩
 ·intro A i s Q E st h
  rcases hty with rfl|rfl
  ·exact wpAny_pyIter_striter_ascii st.2 h
  ·exact wpAny_pyIter_striter_wide st.2 h
end
section
variable {X:Cx}
noncomputable def CJ:V->Option Int->Option Int->Hp->VK->Prop:=fun x lo hi H Q=>∃z,x = .str z/\z.length<=sizeLine/\Q (.str (Txt.slice z lo hi)) H
def yu:zQ X CJ:=by
 intro pins s σ H x v vl vu lo hi sl Q I rx hs pl pu h
 obtain⟨z,rfl,hz,q⟩:=h
 obtain⟨t,rfl⟩:=rx
 refine⟨"str",_,F.slot_str_getitem.lookup,typeIs_str _ _ _,?_⟩
 obtain⟨o,e,c,d⟩:=hs
 have fin:∀l u:Option (Int×Tok),(vl=partValue l/\lo=l.map (·.1))->(vu=partValue u/\hi=u.map (·.1))->wpAny (model X.prog X.w) X.A (getItem (.str z t) (.ref sl)) (EP X pins σ Q) X.xe s:=by
  rintro l u ⟨rfl,rfl⟩ ⟨rfl,rfl⟩
  exact wpAny_getItem_str_slice (l:=l) (u:=u) (st:=none) ⟨o,e,c,d⟩ rfl (post_val_or_str ⟨Nat.le_trans (Txt.slice_le z _ _) hz,fun t' k=>⟨.str _,H,I.tok k,⟨t',rfl⟩,q⟩⟩)
 cases pl with
 |none=>
  cases pu with
  |none=>exact fin none none ⟨rfl,rfl⟩ ⟨rfl,rfl⟩
  |int j uj=>exact fin none (some (j,uj)) ⟨rfl,rfl⟩ ⟨rfl,rfl⟩
 |int i ui=>
  cases pu with
  |none=>exact fin (some (i,ui)) none ⟨rfl,rfl⟩ ⟨rfl,rfl⟩
  |int j uj=>exact fin (some (i,ui)) (some (j,uj)) ⟨rfl,rfl⟩ ⟨rfl,rfl⟩
end
end L2
namespace Zt
open PySem
open Sem (wp)
def Si(kd:Bool)(h:Heap)(a t:Addr)(i:Nat):Prop:=cond kd (h.IsListIter a t i) (h.IsTupleIter a t i)
def Sq(kd:Bool)(h:Heap)(a:Addr)(xs:Vw):Prop:=cond kd (h.IsList a xs) (h.IsTuple a xs)
theorem Si.at{kd:Bool}{h h':Heap}{a t:Addr}{i:Nat}(x:Si kd h a t i)(e:∀o,h.get? a=some o->h'.get? a=some o):Si kd h' a t i:=match kd,x with|true,x=>Heap.IsListIter.at x e|false,x=>Heap.IsTupleIter.at x e
theorem Sq.at{kd:Bool}{h h':Heap}{a:Addr}{xs:Vw}(x:Sq kd h a xs)(e:∀o,h.get? a=some o->h'.get? a=some o):Sq kd h' a xs:=match kd,x with|true,x=>Heap.IsList.at x e|false,x=>Heap.IsTuple.at x e
def Sq.lt{kd:Bool}{h:Heap}{a:Addr}{xs:Vw}(x:Sq kd h a xs):a < h.objs.size:=match kd,x with|true,⟨_,e,_⟩=>Heap.lt_size e|false,⟨_,e,_⟩=>Heap.lt_size e
def Si.ob{kd:Bool}{h:Heap}{a t:Addr}{i:Nat}(x:Si kd h a t i):∃o f,h.get? a=some o/\o.data = .fields f:=match kd,x with|true,⟨o,e,_,d⟩=>⟨o,_,e,d⟩|false,⟨o,e,_,d⟩=>⟨o,_,e,d⟩
def Si.extBut{kd:Bool}{h h':Heap}{a c t:Addr}{i:Nat}(x:Si kd h a t i)(e:Heap.ExtBut c h h')(n:a≠c):Si kd h' a t i:=x.at fun _ q=>e _ _ n q
def Sq.extBut{kd:Bool}{h h':Heap}{a c:Addr}{xs:Vw}(x:Sq kd h a xs)(e:Heap.ExtBut c h h')(n:a≠c):Sq kd h' a xs:=x.at fun _ q=>e _ _ n q
section
variable {prog:Program} {w:World} {A:Around} {E:Vq} {s:Shared}
def nx{j t:Addr}{i:Nat}{its:Vw}{x:Value}{Q:Vq}(hj:s.heap.IsTupleIter j t i)(ht:s.heap.IsTuple t its)(hx:its[i]?=some x)
  (k:∀g:Heap,g.IsTupleIter j t (i+1)->Heap.SameBut j s.heap g->Q x { s with heap:=g }):wpAny (model prog w) A (Builtin.SmallTypes.nextOf (.ref j)) Q E s:=by
 obtain⟨ob,eb,kb,db⟩:=id hj
 obtain⟨oc,ec,_,nc,dc⟩:=ht
 unfold Builtin.SmallTypes.nextOf
 refine wpAny_bind (wpAny_callSpecial?_slot (name:=Str.ofString "__next__") hj.typeIs F.slot_tuple_iterator_next (wpAny_call_entry F.slot_tuple_iterator_next hj.typeIs F.entry_tuple_iterator_next ?_ (F.args_tuple_iterator_next_1 _)))
 show wpAny _ _ (field (.ref j) 0 >>= _) _ _ s;refine wpAny_bind (wpAny_field eb db (x:=.ref t) rfl ?_)
 show wpAny _ _ (if (Value.ref t == Value.none)=true then _ else _) _ _ s;rw[if_neg (show ¬((Value.ref t == Value.none)=true)from Bool.false_ne_true)]
 show wpAny _ _ (field (.ref j) 1 >>= _) _ _ s;refine wpAny_bind (wpAny_field eb db (x:=.int i 0) rfl ?_)
 show wpAny _ _ (seqItems? (.ref t) >>= _) _ _ s;refine wpAny_bind (wpAny_seqItems ec dc ?_)
 simp only[Int.toNat_natCast,hx];refine wpAny_bind (wpAny_setField eb db (by simp) (wpAny_pure ⟨x,rfl,wpAny_pure (k _ ?_ (Heap.SameBut.update ..))⟩))
 exact⟨_,Heap.get?_update_self _ eb (Obj.isFreed_of_fields (Obj.data_mapFields db _)),(Obj.cls_mapFields ..).trans kb,by rw[Obj.data_mapFields db];simp[rawInt]⟩
def Do{j t:Addr}{i:Nat}{its:Vw}{Q:Vq}(hh:A.handled=none)(hj:s.heap.IsTupleIter j t i)(ht:s.heap.IsTuple t its)(hx:its[i]?=none)
  (k:∀(g:Heap) (e:Addr),Heap.ExtBut j s.heap g->(∃o,g.get? e=some o/\o.cls = .type "StopIteration")->E (.ref e) { s with heap:=g }):wpAny (model prog w) A (Builtin.SmallTypes.nextOf (.ref j)) Q E s:=by
 obtain⟨ob,eb,kb,db⟩:=id hj
 obtain⟨oc,ec,_,nc,dc⟩:=ht
 unfold Builtin.SmallTypes.nextOf
 refine wpAny_bind (wpAny_callSpecial?_slot (name:=Str.ofString "__next__") hj.typeIs F.slot_tuple_iterator_next (wpAny_call_entry F.slot_tuple_iterator_next hj.typeIs F.entry_tuple_iterator_next ?_ (F.args_tuple_iterator_next_1 _)))
 show wpAny _ _ (field (.ref j) 0 >>= _) _ _ s;refine wpAny_bind (wpAny_field eb db (x:=.ref t) rfl ?_)
 show wpAny _ _ (if (Value.ref t == Value.none)=true then _ else _) _ _ s;rw[if_neg (show ¬((Value.ref t == Value.none)=true)from Bool.false_ne_true)]
 show wpAny _ _ (field (.ref j) 1 >>= _) _ _ s;refine wpAny_bind (wpAny_field eb db (x:=.int i 0) rfl ?_)
 show wpAny _ _ (seqItems? (.ref t) >>= _) _ _ s;refine wpAny_bind (wpAny_seqItems ec dc ?_)
 simp only[Int.toNat_natCast,hx];refine wpAny_bind (wpAny_rule (wpAny_bind (wpAny_setField eb db (by simp) ?_)))
 show wpAny _ _ (newExc (.type "StopIteration") [] >>= _) _ _ _;refine wpAny_bind ?_
 simp only[newExc,newTuple];refine wpAny_bind (wpAny_newObj_type ?_ (by size_fits))
 refine wpAny_bind (m:=firstArgMember _ _) (wpAny_of_eq (a:=Value.none) (by first|rfl|(simp only[firstArgMember];rfl)) ?_);refine wpAny_newObj_type ?_ (by size_fits)
 simp only[raiseNew];refine wpAny_bind (wpAny_handled ?_)
 first|(rw[hh])|(rw[show A.in1.handled=none from hh])
 exact wpAny_bind (wpAny_pure (wpAny_throw (k _ _ (((Heap.SameBut.update ..).extBut.push _).push _) ⟨_,Heap.get?_push_size _ rfl,rfl⟩)))
def CK{kd:Bool}{j t:Addr}{i:Nat}{its:Vw}{x:Value}{Q:Vq}(hj:Si kd s.heap j t i)(ht:Sq kd s.heap t its)(hx:its[i]?=some x)
  (k:∀g:Heap,Si kd g j t (i+1)->Heap.SameBut j s.heap g->Q x { s with heap:=g }):wpAny (model prog w) A (Builtin.SmallTypes.nextOf (.ref j)) Q E s:=by
 cases kd with
 |true=>exact wpAny_nextOf_list_item hj ht hx k
 |false=>exact nx hj ht hx k
def AK{kd:Bool}{j t:Addr}{i:Nat}{its:Vw}{Q:Vq}(hh:A.handled=none)(hj:Si kd s.heap j t i)(ht:Sq kd s.heap t its)(hx:its[i]?=none)
  (k:∀(g:Heap) (e:Addr),Heap.ExtBut j s.heap g->(∃o,g.get? e=some o/\o.cls = .type "StopIteration")->E (.ref e) { s with heap:=g }):wpAny (model prog w) A (Builtin.SmallTypes.nextOf (.ref j)) Q E s:=by
 cases kd with
 |true=>exact wpAny_nextOf_list_end hh hj ht hx k
 |false=>exact Do hh hj ht hx k
variable {ka kb:Bool} {z TI TO i1 i2 l1 l2:Addr} {k1 k2:Nat} {xs ys:Vw} {x y a b:Value}
def vB{Q:Vq}(D:ZipApart z TI TO i1 i2 l1 l2)(gz:IsZip s.heap z TI TO .none)(gI:IsPair s.heap TI (.ref i1) (.ref i2))(gO:IsPair s.heap TO a b)
  (g1:Si ka s.heap i1 l1 k1) (g2:Si kb s.heap i2 l2 k2) (t1:Sq ka s.heap l1 xs) (t2:Sq kb s.heap l2 ys) (hx:xs[k1]?=some x) (hy:ys[k2]?=some y)
  (k:∀g,IsZip g z TI TO (rawInt s.heap.objs.size)->IsPair g TO x y->Si ka g i1 l1 (k1+1)->Si kb g i2 l2 (k2+1)->IsPair g s.heap.objs.size x y->
   (∀c o,c≠z->c≠TO->c≠i1->c≠i2->s.heap.get? c=some o->g.get? c=some o)->Q (.ref s.heap.objs.size) { s with heap:=g }) :
  wpAny (model prog w) A (Builtin.«zip.__next__» ⟨[.ref z],[]⟩) (fun fin s'=>∃v,fin = .done (.ret v)/\Q v s') E s:=by
 show wpAny _ _ (field (.ref z) 2 >>= _) _ _ _;refine wpAny_bind (wpAny_field gz rfl (x:=.bool false) rfl ?_)
 show wpAny _ _ (field (.ref z) 3 >>= _) _ _ _;refine wpAny_bind (wpAny_field gz rfl (x:=.ref TI) rfl (wpAny_bind (wpAny_seqItems gI rfl ?_)))
 show wpAny _ _ (Builtin.SmallTypes.ownedTupleIsFree (.ref z) >>= _) _ _ _;refine wpAny_bind ?_;unfold Builtin.SmallTypes.ownedTupleIsFree
 refine wpAny_bind (wpAny_field gz rfl (x:=.none) rfl (wpAny_pure ?_));simp only[if_true]
 refine wpAny_bind (wpAny_rule (wpAny_bind (wpAny_field gz rfl (x:=.ref TO) rfl (wpAny_bind (wpAny_setField_rec gz (by simp) fun h₁ z1 q1=>?_)))))
 replace z1:IsZip h₁ z TI TO .ellipsis:=z1
 refine wpAny_bind ?_;simp only[List.zipIdx_cons,List.zipIdx_nil,List.forIn_cons,List.forIn_nil]
 refine wpAny_bind (wpAny_bind (wpAny_onRaise ?_));show wpAny _ _ (Builtin.SmallTypes.nextOf (.ref i1) >>= _) _ _ _
 refine wpAny_bind (CK (g1.extBut q1.extBut D.i1z) (t1.extBut q1.extBut D.l1z) hx fun h₂ n1 q2=>wpAny_pure ?_)
 have o2:IsPair h₂ TO a b:=q2.extBut _ _ D.TOi1 (q1.extBut _ _ D.TOz gO)
 refine wpAny_bind (wpAny_seqItems o2 rfl (wpAny_bind (wpAny_updateSeq_pair o2 fun h₃ o3 q3=>?_)))
 replace o3:IsPair h₃ TO x b:=o3
 refine wpAny_bind (wpAny_letGo (wpAny_pure ?_));refine wpAny_bind (wpAny_bind (wpAny_onRaise ?_));show wpAny _ _ (Builtin.SmallTypes.nextOf (.ref i2) >>= _) _ _ _
 refine wpAny_bind (CK (((g2.extBut q1.extBut D.i2z).extBut q2.extBut D.i12.symm).extBut q3.extBut D.TOi2.symm) (((t2.extBut q1.extBut D.l2z).extBut q2.extBut D.l2i1).extBut q3.extBut D.l2TO) hy fun h₄ n2 q4=>wpAny_pure ?_)
 have o4:IsPair h₄ TO x b:=q4.extBut _ _ D.TOi2 o3
 refine wpAny_bind (wpAny_seqItems o4 rfl (wpAny_bind (wpAny_updateSeq_pair o4 fun h₅ o5 q5=>?_)))
 replace o5:IsPair h₅ TO x y:=o5
 refine wpAny_bind (wpAny_letGo (wpAny_pure (wpAny_pure ?_)));refine wpAny_bind (wpAny_seqItems o5 rfl (wpAny_bind (wpAny_newTuple ?_)))
 have sz:h₅.objs.size=s.heap.objs.size:=by rw[q5.1,q4.1,q3.1,q2.1,q1.1]
 have z5:IsZip h₅ z TI TO .ellipsis:=q5.extBut _ _ D.TOz.symm (q4.extBut _ _ D.i2z.symm (q3.extBut _ _ D.TOz.symm (q2.extBut _ _ D.i1z.symm z1)))
 have kk:∀c o,c≠z->c≠TO->c≠i1->c≠i2->s.heap.get? c=some o->h₅.get? c=some o:=fun c o c1 c2 c3 c4 e=>q5.extBut _ _ c2 (q4.extBut _ _ c4 (q3.extBut _ _ c2 (q2.extBut _ _ c3 (q1.extBut _ _ c1 e))))
 have m1:Si ka h₅ i1 l1 (k1+1):=((n1.extBut q3.extBut D.TOi1.symm).extBut q4.extBut D.i12).extBut q5.extBut D.TOi1.symm
 have m2:Si kb h₅ i2 l2 (k2+1):=n2.extBut q5.extBut D.TOi2.symm
 have zl:z < h₅.objs.size:=Heap.lt_size z5
 show wpAny _ _ (Builtin.SmallTypes.ownedTupleHandOut (.ref z) (.ref h₅.objs.size) >>= _) _ _ _;refine wpAny_bind ?_;unfold Builtin.SmallTypes.ownedTupleHandOut
 have z6:IsZip (h₅.push { cls:=.type "tuple",data:=.seq #[x,y] }) z TI TO .ellipsis:=Heap.get?_push_of_some _ z5
 refine wpAny_bind (wpAny_setField_rec z6 (by simp) fun h₇ z7 q7=>?_)
 replace z7:IsZip h₇ z TI TO (rawInt h₅.objs.size):=z7
 refine wpAny_setField_rec z7 (by simp) fun h₈ z8 q8=>?_
 replace z8:IsZip h₈ z TI TO (rawInt h₅.objs.size):=z8
 have up:∀c o,c≠z->h₅.get? c=some o->h₈.get? c=some o:=fun c o c1 e=>q8.extBut _ _ c1 (q7.extBut _ _ c1 (Heap.get?_push_of_some _ e))
 have T8:IsPair h₈ h₅.objs.size x y:=q8.extBut _ _ (Nat.ne_of_gt zl) (q7.extBut _ _ (Nat.ne_of_gt zl) (Heap.get?_push_size _ rfl))
 rw[sz]at z8 T8
 refine wpAny_pure ⟨_,rfl,?_⟩
 show Q (.ref h₅.objs.size) _
 rw[sz]
 exact k h₈ z8 (up _ _ D.TOz o5) (m1.at fun o e=>up _ o D.i1z e) (m2.at fun o e=>up _ o D.i2z e) T8 fun c o c1 c2 c3 c4 e=>up c o c1 (kk c o c1 c2 c3 c4 e)
def yv{Q:Fin->Shared->Prop}(hh:A.handled=none)(D:ZipApart z TI TO i1 i2 l1 l2)(gz:IsZip s.heap z TI TO .none)(gI:IsPair s.heap TI (.ref i1) (.ref i2))(gO:IsPair s.heap TO a b)
  (g1:Si ka s.heap i1 l1 k1) (g2:Si kb s.heap i2 l2 k2) (t1:Sq ka s.heap l1 xs) (t2:Sq kb s.heap l2 ys) (he:xs[k1]?=none\/ys[k2]?=none)
  (k:∀(g:Heap) (e:Addr),(∀c o,c≠z->c≠TO->c≠i1->c≠i2->s.heap.get? c=some o->g.get? c=some o)->(∃o,g.get? e=some o/\o.cls = .type "StopIteration")->E (.ref e) { s with heap:=g }) :
  wpAny (model prog w) A (Builtin.«zip.__next__» ⟨[.ref z],[]⟩) Q E s:=by
 show wpAny _ _ (field (.ref z) 2 >>= _) _ _ _;refine wpAny_bind (wpAny_field gz rfl (x:=.bool false) rfl ?_)
 show wpAny _ _ (field (.ref z) 3 >>= _) _ _ _;refine wpAny_bind (wpAny_field gz rfl (x:=.ref TI) rfl (wpAny_bind (wpAny_seqItems gI rfl ?_)))
 show wpAny _ _ (Builtin.SmallTypes.ownedTupleIsFree (.ref z) >>= _) _ _ _;refine wpAny_bind ?_;unfold Builtin.SmallTypes.ownedTupleIsFree
 refine wpAny_bind (wpAny_field gz rfl (x:=.none) rfl (wpAny_pure ?_));simp only[if_true]
 refine wpAny_bind (wpAny_rule (wpAny_bind (wpAny_field gz rfl (x:=.ref TO) rfl (wpAny_bind (wpAny_setField_rec gz (by simp) fun h₁ z1 q1=>?_)))))
 replace z1:IsZip h₁ z TI TO .ellipsis:=z1
 refine wpAny_bind ?_;simp only[List.zipIdx_cons,List.zipIdx_nil,List.forIn_cons,List.forIn_nil]
 refine wpAny_bind (wpAny_bind (wpAny_onRaise ?_));show wpAny _ _ (Builtin.SmallTypes.nextOf (.ref i1) >>= _) _ _ _
 cases hx:xs[k1]? with
 |none=>
  refine wpAny_bind (AK hh (g1.extBut q1.extBut D.i1z) (t1.extBut q1.extBut D.l1z) hx fun h₂ e q2 ⟨oe,ge,ce⟩=>?_)
  have z2:IsZip h₂ z TI TO .ellipsis:=q2 _ _ D.i1z.symm z1
  have ez:e≠z:=fun u=>by subst u;rw[z2]at ge;cases ge;simp at ce
  exact wpAny_setField_rec z2 (by simp) fun h₃ _ q3=>k h₃ e (fun c o c1 _ c3 _ u=>q3.extBut _ _ c1 (q2 _ _ c3 (q1.extBut _ _ c1 u))) ⟨oe,q3.extBut _ _ ez ge,ce⟩
 |some x=>
  have hy:ys[k2]?=none:=he.elim (fun q=>by rw[hx]at q;cases q) id
  refine wpAny_bind (CK (g1.extBut q1.extBut D.i1z) (t1.extBut q1.extBut D.l1z) hx fun h₂ n1 q2=>wpAny_pure ?_)
  have o2:IsPair h₂ TO a b:=q2.extBut _ _ D.TOi1 (q1.extBut _ _ D.TOz gO)
  refine wpAny_bind (wpAny_seqItems o2 rfl (wpAny_bind (wpAny_updateSeq_pair o2 fun h₃ o3 q3=>?_)))
  refine wpAny_bind (wpAny_letGo (wpAny_pure ?_));refine wpAny_bind (wpAny_bind (wpAny_onRaise ?_));show wpAny _ _ (Builtin.SmallTypes.nextOf (.ref i2) >>= _) _ _ _
  refine wpAny_bind (AK hh (((g2.extBut q1.extBut D.i2z).extBut q2.extBut D.i12.symm).extBut q3.extBut D.TOi2.symm) (((t2.extBut q1.extBut D.l2z).extBut q2.extBut D.l2i1).extBut q3.extBut D.l2TO) hy fun h₄ e q4 ⟨oe,ge,ce⟩=>?_)
  have z4:IsZip h₄ z TI TO .ellipsis:=q4 _ _ D.i2z.symm (q3.extBut _ _ D.TOz.symm (q2.extBut _ _ D.i1z.symm z1))
  have ez:e≠z:=fun u=>by subst u;rw[z4]at ge;cases ge;simp at ce
  exact wpAny_setField_rec z4 (by simp) fun h₅ _ q5=>k h₅ e (fun c o c1 c2 c3 c4 u=>q5.extBut _ _ c1 (q4 _ _ c4 (q3.extBut _ _ c2 (q2.extBut _ _ c3 (q1.extBut _ _ c1 u))))) ⟨oe,q5.extBut _ _ ez ge,ce⟩
def qu{Q:Option Value->Shared->Prop}(D:ZipApart z TI TO i1 i2 l1 l2)(gz:IsZip s.heap z TI TO .none)(gI:IsPair s.heap TI (.ref i1) (.ref i2))(gO:IsPair s.heap TO a b)
  (g1:Si ka s.heap i1 l1 k1) (g2:Si kb s.heap i2 l2 k2) (t1:Sq ka s.heap l1 xs) (t2:Sq kb s.heap l2 ys) (hx:xs[k1]?=some x) (hy:ys[k2]?=some y)
  (k:∀g,IsZip g z TI TO (rawInt s.heap.objs.size)->IsPair g TO x y->Si ka g i1 l1 (k1+1)->Si kb g i2 l2 (k2+1)->IsPair g s.heap.objs.size x y->
   (∀c o,c≠z->c≠TO->c≠i1->c≠i2->s.heap.get? c=some o->g.get? c=some o)->Q (some (.ref s.heap.objs.size)) { s with heap:=g }):wpAny (model prog w) A (pyNext (.ref z)) Q E s:=by
 have ty:s.TypeIs (.ref z) "zip":=⟨_,gz,rfl⟩
 unfold pyNext
 exact wpAny_bind (wpAny_attempt (wpAny_callSpecial?_slot (name:=Str.ofString "__next__") ty F.slot_zip_next (wpAny_call_entry F.slot_zip_next ty F.entry_zip_next
  (vB D gz gI gO g1 g2 t1 t2 hx hy fun g a1 a2 a3 a4 a5 a6=>wpAny_pure (k g a1 a2 a3 a4 a5 a6)) (F.args_zip_next_1 _))))
def ss{Q:Option Value->Shared->Prop}(hh:A.handled=none)(D:ZipApart z TI TO i1 i2 l1 l2)(gz:IsZip s.heap z TI TO .none)(gI:IsPair s.heap TI (.ref i1) (.ref i2))(gO:IsPair s.heap TO a b)
  (g1:Si ka s.heap i1 l1 k1) (g2:Si kb s.heap i2 l2 k2) (t1:Sq ka s.heap l1 xs) (t2:Sq kb s.heap l2 ys) (he:xs[k1]?=none\/ys[k2]?=none)
  (k:∀g:Heap,(∀c o,c≠z->c≠TO->c≠i1->c≠i2->s.heap.get? c=some o->g.get? c=some o)->Q none { s with heap:=g }):wpAny (model prog w) A (pyNext (.ref z)) Q E s:=by
 have ty:s.TypeIs (.ref z) "zip":=⟨_,gz,rfl⟩
 unfold pyNext
 refine wpAny_bind (wpAny_attempt (wpAny_callSpecial?_slot (name:=Str.ofString "__next__") ty F.slot_zip_next (wpAny_call_entry F.slot_zip_next ty F.entry_zip_next (yv hh D gz gI gO g1 g2 t1 t2 he fun g e kk ⟨o,ho,hc⟩=>?_) (F.args_zip_next_1 _))))
 exact wpAny_bind (wpAny_isInstance (T:="StopIteration") (b:=true) ⟨o,ho,hc⟩ isSubtype_stop (wpAny_pure (k _ kk)))
end
noncomputable abbrev it(kd:Bool)(l:Addr):Obj:={ cls:=.type (cond kd "list_iterator" "tuple_iterator"),data:=.fields #[.ref l,.int 0 0] }
def Si.mk{kd:Bool}{h:Heap}{a l:Addr}(e:h.get? a=some (it kd l)):Si kd h a l 0:=match kd,e with|true,e=>⟨_,e,rfl,rfl⟩|false,e=>⟨_,e,rfl,rfl⟩
noncomputable abbrev H1(ka:Bool)(h:Heap)(l1:Addr):Heap:=h.push (it ka l1)
noncomputable abbrev H2(ka kb:Bool)(h:Heap)(l1 l2:Addr):Heap:=(H1 ka h l1).push (it kb l2)
noncomputable abbrev H3(ka kb:Bool)(h:Heap)(l1 l2:Addr):Heap:=(H2 ka kb h l1 l2).push { cls:=.type "tuple",data:=.seq #[.ref h.objs.size,.ref (H1 ka h l1).objs.size] }
noncomputable abbrev H4(ka kb:Bool)(h:Heap)(l1 l2:Addr):Heap:=(H3 ka kb h l1 l2).push { cls:=.type "tuple",data:=.seq #[.none,.none] }
noncomputable abbrev H5(ka kb:Bool)(h:Heap)(l1 l2:Addr):Heap:=(H4 ka kb h l1 l2).push { cls:=.type "zip",data:=.fields #[.none,.bool false,.bool false,.ref (H2 ka kb h l1 l2).objs.size,.ref (H3 ka kb h l1 l2).objs.size] }
def iz(ka kb:Bool)(l1 l2:Addr)(xs ys:Vw) :
  Meets (Builtin.«zip.__new__» ⟨[.type "zip",.ref l1,.ref l2],[]⟩) (fun _ R s=>Sq ka s.heap l1 xs/\Sq kb s.heap l2 ys/\R (.ok (.ret (.ref (H4 ka kb s.heap l1 l2).objs.size))) { s with heap:=H5 ka kb s.heap l1 l2 }):=
 .of_wp fun prog w A R s h=>by
  obtain⟨hp,g,d,tk,os⟩:=s;obtain⟨e1,e2,h⟩:=h
  have hsub:=sub_zip
  match ka,kb,e1,e2,h with
  |false,false,e1,e2,h=>
   have L1:Heap.IsTuple (Shared.heap ⟨hp,g,d,tk,os⟩) l1 xs:=e1
   have L2:Heap.IsTuple (Shared.heap ⟨hp.push { cls:=.type "tuple_iterator",data:=.fields #[.ref l1,.int 0 0] },g,d,tk,os⟩) l2 ys:=Heap.IsTuple.push e2 _
   wp_walk using wpAny_pyIter_tuple L1,wpAny_pyIter_tuple L2
   exact⟨_,rfl,h⟩
  |false,true,e1,e2,h=>
   have L1:Heap.IsTuple (Shared.heap ⟨hp,g,d,tk,os⟩) l1 xs:=e1
   have L2:Heap.IsList (Shared.heap ⟨hp.push { cls:=.type "tuple_iterator",data:=.fields #[.ref l1,.int 0 0] },g,d,tk,os⟩) l2 ys:=Heap.IsList.push e2 _
   wp_walk using wpAny_pyIter_tuple L1,wpAny_pyIter_list L2
   exact⟨_,rfl,h⟩
  |true,false,e1,e2,h=>
   have L1:Heap.IsList (Shared.heap ⟨hp,g,d,tk,os⟩) l1 xs:=e1
   have L2:Heap.IsTuple (Shared.heap ⟨hp.push { cls:=.type "list_iterator",data:=.fields #[.ref l1,.int 0 0] },g,d,tk,os⟩) l2 ys:=Heap.IsTuple.push e2 _
   wp_walk using wpAny_pyIter_list L1,wpAny_pyIter_tuple L2
   exact⟨_,rfl,h⟩
  |true,true,e1,e2,h=>
   have L1:Heap.IsList (Shared.heap ⟨hp,g,d,tk,os⟩) l1 xs:=e1
   have L2:Heap.IsList (Shared.heap ⟨hp.push { cls:=.type "list_iterator",data:=.fields #[.ref l1,.int 0 0] },g,d,tk,os⟩) l2 ys:=Heap.IsList.push e2 _
   wp_walk using wpAny_pyIter_list L1,wpAny_pyIter_list L2
   exact⟨_,rfl,h⟩
section
variable {ka kb:Bool} {prog:Program} {w:World} {A:Around} {E:Vq} {s:Shared}
def jt{l1 l2:Addr}{xs ys:Vw}{Q:Vq}(e1:Sq ka s.heap l1 xs)(e2:Sq kb s.heap l2 ys)
  (k:∀g,IsZip g (s.heap.objs.size+4) (s.heap.objs.size+2) (s.heap.objs.size+3) .none->IsPair g (s.heap.objs.size+2) (.ref s.heap.objs.size) (.ref (s.heap.objs.size+1))->
   IsPair g (s.heap.objs.size+3) .none .none->Si ka g s.heap.objs.size l1 0->Si kb g (s.heap.objs.size+1) l2 0->
   (∀c o,s.heap.get? c=some o->g.get? c=some o)->Q (.ref (s.heap.objs.size+4)) { s with heap:=g }) :
  wpAny (model prog w) A (call (.type "zip") [.ref l1,.ref l2]) Q E s:=by
 refine callType_new F.called_zip (by decide) (F.typeCall_zip_2 _ _) (F.newCall_zip_2 _ _) (fun obj=>F.args_object_init_3 obj _ _) F.entry_zip_new (iz ka kb l1 l2 xs ys) ⟨e1,e2,?_⟩
 have z1:(H1 ka s.heap l1).objs.size=s.heap.objs.size+1:=Heap.size_push ..
 have z2:(H2 ka kb s.heap l1 l2).objs.size=s.heap.objs.size+2:=by rw[Heap.size_push,z1]
 have z3:(H3 ka kb s.heap l1 l2).objs.size=s.heap.objs.size+3:=by rw[Heap.size_push,z2]
 have z4:(H4 ka kb s.heap l1 l2).objs.size=s.heap.objs.size+4:=by rw[Heap.size_push,z3]
 have g5:(H5 ka kb s.heap l1 l2).get? (H4 ka kb s.heap l1 l2).objs.size=some _:=Heap.get?_push_size _ rfl
 have g4:(H5 ka kb s.heap l1 l2).get? (H3 ka kb s.heap l1 l2).objs.size=some _:=Heap.get?_push_of_some _ (Heap.get?_push_size _ rfl)
 have g3:(H5 ka kb s.heap l1 l2).get? (H2 ka kb s.heap l1 l2).objs.size=some _:=Heap.get?_push_of_some _ (Heap.get?_push_of_some _ (Heap.get?_push_size _ rfl))
 have g2:(H5 ka kb s.heap l1 l2).get? (H1 ka s.heap l1).objs.size=some _:=Heap.get?_push_of_some _ (Heap.get?_push_of_some _ (Heap.get?_push_of_some _ (Heap.get?_push_size _ rfl)))
 have g1:(H5 ka kb s.heap l1 l2).get? s.heap.objs.size=some _:=Heap.get?_push_of_some _ (Heap.get?_push_of_some _ (Heap.get?_push_of_some _ (Heap.get?_push_of_some _ (Heap.get?_push_size _ rfl))))
 show _/\_
 rw[z2,z3,z4]at g5
 rw[z1,z2]at g3
 rw[z3]at g4
 rw[z1]at g2
 rw[z4]
 exact⟨⟨_,g5,rfl⟩,k _ g5 g3 g4 (.mk g1) (.mk g2) fun c o e=>Heap.get?_push_of_some _ (Heap.get?_push_of_some _ (Heap.get?_push_of_some _ (Heap.get?_push_of_some _ (Heap.get?_push_of_some _ e))))⟩
end
end Zt
namespace L2
open PySem PySem.Spec PyProof.Rows
section
variable {X:Cx} {pins:Va} {σ:St} {H:Hp} {s:Shared} {h':Heap}
def Inv.FI{t':Nat}{fp:List Addr}(I:Inv X pins σ H s)(k:∀b o,b ∉ fp->s.heap.get? b=some o->h'.get? b=some o)(hf:∀b∈fp,e8 X pins H b):Inv X pins σ H { s with heap:=h',toks:=t' }:=by
 have Jn:∀b u,H b=some u->b ∉ fp:=fun b u e z=>by rw[(hf b z).1]at e;cases e
 refine I.step (g':=s.gens) (d':=s.drawn) (ch:=fp) (fun b hb=>?_) (fun b o _ _ hc e _=>k b o hc e) (fun b o _ _ hc e _=>⟨o.slots,k b o hc e⟩) (fun _ _ _ _ n=>n)
  (fun b o hc e=>⟨o,k b o hc e⟩) (fun _ _ e=>e) (fun _ _ _ e=>e) (fun b ps e=>⟨#[],by rw[e];simp⟩) (fun m hm=>?_) (fun b u e=>?_) I.bare
 ·obtain⟨f0,f1,f2,f3,f4,f5⟩:=hf b hb
  exact⟨f3,f1,f4,f5⟩
 ·obtain⟨o,es,ep,ho,r⟩:=hm
  exact⟨o,es,ep,k _ o (fun z=>(hf _ z).2.1 rfl) ho,r⟩
 ·refine(I.hok b u e).stay (fun c v hc q=>k c v ?_ q) (fun _ q=>q) fun _ _ q=>q
  rcases hc with z|z
  ·rw[z];exact Jn b u e
  ·exact Jn c _ z
def Inv.GZ{D:Addr}{us:Vv}{ys:List V}(I:Inv X pins σ H s)(f:e8 X pins H D)(e:ES s.heap D us.toArray)(r:Vals ys us)(hz:ys.length<=sizeLine) :
  Inv X pins σ (upd H D (.tup ys)) s:=by
 obtain⟨f0,f1,f2,f3,f4,f5⟩:=f
 have nD:∀b u,H b=some u->b≠D:=fun b u q=>a9 q f0
 have hok:FL X.prog X.w (upd H D (.tup ys)) s.heap:=fun b u q=>by
  by_cases hb:b=D
  ·subst hb
   rw[ay]at q
   cases q
   exact⟨hz,us,r,e⟩
  ·rw[aA hb]at q
   exact(I.hok b u q).stay (fun _ _ _ z=>z) (fun c z=>by rw[aA (nD c _ z)];exact z) fun c xs z=>by rw[aA (nD c _ z)];exact z
 exact I.step (H':=upd H D (.tup ys)) (h':=s.heap) (g':=s.gens) (t':=s.toks) (d':=s.drawn) (ch:=[D])
  (fun b hb=>by
   have z:b=D:=by simpa using hb
   subst z
   exact⟨f3,f1,f4,f5⟩)
  (fun _ _ _ _ _ q _=>q) (fun _ o _ _ _ q _=>⟨o.slots,q⟩)
  (fun b o hb _ n=>by rw[aA (fun z=>hb (by simp[z]))];exact n)
  (fun _ o _ q=>⟨o,q⟩) (fun b xs q=>by rw[aA (nD b _ q)];exact q) (fun b o u q=>by rw[aA (nD b _ q)];exact q)
  (fun b ps q=>⟨#[],by rw[aA (nD b _ q),q];simp⟩) (fun _ q=>q) hok I.bare
end
def qv(kd:Bool)(K:Vo)(H:Hp)(a:Addr)(xs:List V):Prop:=cond kd (SqL K H a xs) (SqT K H a xs)
def Inv.Hj{X:Cx}{pins:Va}{σ:St}{H:Hp}{s:Shared}{kd:Bool}{a:Addr}{xs:List V}(I:Inv X pins σ H s)(h:qv kd X.K H a xs):∃its:List Value,Vals xs its/\Zt.Sq kd s.heap a its.toArray:=by
 cases kd with
 |true=>obtain⟨i,r,p,z⟩:=I.list h;exact⟨i,r,p.isList⟩
 |false=>obtain⟨i,r,p,z⟩:=I.tuple h;exact⟨i,r,p⟩
def Inv.GO{X:Cx}{pins:Va}{σ:St}{H:Hp}{s:Shared}{kd:Bool}{a:Addr}{xs ys:List V}(I:Inv X pins σ H s)(h:qv kd X.K H a xs)(g:qv kd X.K H a ys):xs=ys:=by
 cases kd with
 |true=>exact I.Gd h g
 |false=>exact I.FW h g
noncomputable def CL(ka kb:Bool)(K:Vo)(a b:Addr):It:=
  ⟨fun i H=>∃xs ys x y,qv ka K H a xs/\qv kb K H b ys/\xs[i]?=some x/\ys[i]?=some y,
   fun i H v H'=>∃p x y,v = .ref p/\H p=none/\H'=upd H p (.tup [x,y])/\∀xs ys,qv ka K H a xs->qv kb K H b ys->xs[i]?=some x/\ys[i]?=some y,
   fun i H=>∃xs ys,qv ka K H a xs/\qv kb K H b ys/\(xs.length<=i\/ys.length<=i)⟩
def su{ka kb:Bool}{P:Program}{w:World}{K:Vo}{elts:List Expr}{k0:Nat}{FN:Pos}{z TI TO i1 i2 a b:Addr}(D:ZipApart z TI TO i1 i2 a b) :
  kM P w K (.Tuple elts k0 FN) (CL ka kb K a b) [z,TI,TO,i1,i2] z (fun i h=>IsZip h z TI TO .none/\IsPair h TI (.ref i1) (.ref i2)/\(∃x y,IsPair h TO x y)/\Zt.Si ka h i1 a i/\Zt.Si kb h i2 b i) where
 mem:=by simp
 obj:=fun i h st c hc=>by
  obtain⟨gz,gI,⟨x,y,gO⟩,g1,g2⟩:=st
  obtain⟨o1,_,e1,d1⟩:=g1.ob;obtain⟨o2,_,e2,d2⟩:=g2.ob
  simp only[List.mem_cons,List.not_mem_nil,or_false]at hc
  rcases hc with rfl|rfl|rfl|rfl|rfl
  ·exact⟨_,gz,fun v q=>by cases q⟩
  ·exact⟨_,gI,fun v q=>by cases q⟩
  ·exact⟨_,gO,fun v q=>by cases q⟩
  ·exact⟨_,e1,fun v q=>by rw[d1]at q;cases q⟩
  ·exact⟨_,e2,fun v q=>by rw[d2]at q;cases q⟩
 keep:=fun i h h' st k=>by
  obtain⟨gz,gI,⟨x,y,gO⟩,g1,g2⟩:=st
  exact⟨k z (by simp) _ gz,k TI (by simp) _ gI,⟨x,y,k TO (by simp) _ gO⟩,g1.at fun o e=>k i1 (by simp) o e,g2.at fun o e=>k i2 (by simp) o e⟩
 item:=by
  intro X hP hw hK hc i pins s σ H E I hf st hg
  subst hP hw hK
  obtain⟨gz,gI,⟨ta,tb,gO⟩,g1,g2⟩:=st
  obtain⟨xs,ys,x,y,Hc,JQ,hx,hy⟩:=hg
  obtain⟨ia,ra,pa⟩:=I.Hj Hc
  obtain⟨ib,rb,pb⟩:=I.Hj JQ
  obtain⟨u,hu,ru⟩:=ra.get hx
  obtain⟨v,hv,rv⟩:=rb.get hy
  refine Zt.qu D gz gI gO g1 g2 pa pb (x:=u) (y:=v) (by simpa using hu) (by simpa using hv) fun g a1 a2 a3 a4 a5 a6=>?_
  refine⟨_,rfl,wpAny_letOwnedTupleGo_zip (s:={ s with heap:=g }) a1 fun g' z' q'=>?_⟩
  have kk:∀c o,c ∉ [z,TI,TO,i1,i2]->s.heap.get? c=some o->g'.get? c=some o:=fun c o hc e=>by
   simp only[List.mem_cons,List.not_mem_nil,or_false,not_or]at hc
   exact q'.extBut _ _ hc.1 (a6 c o hc.1 hc.2.2.1 hc.2.2.2.1 hc.2.2.2.2 e)
  have I1:Inv X pins σ H { s with heap:=g' }:=I.FI (t':=s.toks) kk hf
  have f0:e8 X pins H s.heap.objs.size:=I.F8 (Nat.le_refl _) (I.hok.fresh (Nat.le_refl _))
  have eT:ES g' s.heap.objs.size [u,v].toArray:=⟨_,q'.extBut _ _ (Nat.ne_of_gt (Heap.lt_size gz)) a5,rfl,rfl,_,rfl⟩
  have I2:=I1.GZ f0 eT (.cons ru (.cons rv .nil)) (by show 2<=sizeLine;decide)
  refine⟨.ref s.heap.objs.size,_,I2,rfl,⟨s.heap.objs.size,x,y,rfl,f0.1,rfl,fun xs' ys' h1 h2=>by rw[I.GO h1 Hc,I.GO h2 JQ];exact⟨hx,hy⟩⟩,
   ⟨z',q'.extBut _ _ D.TIz (a6 TI _ D.TIz D.TITO D.TIi1 D.TIi2 gI),⟨_,_,q'.extBut _ _ D.TOz a2⟩,a3.extBut q'.extBut D.i1z,a4.extBut q'.extBut D.i2z⟩,fun c hc=>?_⟩
  have hlt:c < s.heap.objs.size:=by
   obtain⟨_,_,e1,_⟩:=g1.ob
   obtain⟨_,_,e2,_⟩:=g2.ob
   simp only[List.mem_cons,List.not_mem_nil,or_false]at hc
   rcases hc with rfl|rfl|rfl|rfl|rfl
   ·exact Heap.lt_size gz
   ·exact Heap.lt_size gI
   ·exact Heap.lt_size gO
   ·exact Heap.lt_size e1
   ·exact Heap.lt_size e2
  rw[aA (Nat.ne_of_lt hlt)]
  exact(hf c hc).1
 done:=by
  intro X hP hw hK hc i pins s σ H E I hf st hg
  subst hP hw hK
  obtain⟨gz,gI,⟨ta,tb,gO⟩,g1,g2⟩:=st
  obtain⟨xs,ys,Hc,JQ,hl⟩:=hg
  obtain⟨ia,ra,pa⟩:=I.Hj Hc
  obtain⟨ib,rb,pb⟩:=I.Hj JQ
  have la:=ra.length
  have lb:=rb.length
  refine Zt.ss (I.ok.hd hc) D gz gI gO g1 g2 pa pb ?_ fun g kk=>⟨rfl,I.FI (t':=s.toks) (fun c o hc e=>?_) hf⟩
  ·rcases hl with q|q
   ·exact .inl (by simp;omega)
   ·exact .inr (by simp;omega)
  ·simp only[List.mem_cons,List.not_mem_nil,or_false,not_or]at hc
   exact kk c o hc.1 hc.2.2.1 hc.2.2.2.1 hc.2.2.2.2 e
 self:=fun _ _ _ _ _ st h=>wpAny_pyIter_zip st.1 h
section
variable {X:Cx}
def CM(K:Vo)(ta:TA):TI:=fun σ H R=>ta σ H fun vs H1=>∃ka kb a b,vs=[.ref a,.ref b]/\(∃xs,qv ka K H1 a xs)/\(∃ys,qv kb K H1 b ys)/\R (CL ka kb K a b) H1
def sv{elts:List Expr}{k0:Nat}{FN:Pos}{a b:Expr}{ta:TA}{p pos:Pos}(hg:Gl X "zip")(hm:X.mg "zip" = none)(hv:bootBuiltins "zip" = some (.type "zip"))(ha:PA X [a,b] ta)
  (hs:starEach [a,b] X.env=[(false,eval a X.env),(false,eval b X.env)]:=by rfl) (hs2:starEach [b] X.env=[(false,eval b X.env)]:=by rfl):PI X (.Tuple elts k0 FN) (.Call (.Name "zip" p) [a,b] [] pos) (CM X.K ta):=by
 intro pins s σ H R I h
 refine Call_ (dM I hg hm hv (PyProof.Rows.callWith_type1 (bA (ha pos pins s σ H _ I h) fun us s1 ⟨vs,H1,I1,r1,q1⟩=>?_) (by rw[hs,hs2]) (by rw[hs2];rfl)))
 obtain⟨ka,kb,a,b,e,⟨xs,qa⟩,⟨ys,qb⟩,q⟩:=q1
 subst e
 obtain⟨u,v,rfl,ru,rv⟩:=wJ r1
 cases ru
 cases rv
 obtain⟨ia,ra,pa⟩:=I1.Hj qa
 obtain⟨ib,rb,pb⟩:=I1.Hj qb
 have la:a < s1.heap.objs.size:=pa.lt
 have lb:b < s1.heap.objs.size:=pb.lt
 refine Zt.jt pa pb fun g gz gI gO g1 g2 kk=>?_
 refine wpAny_pyIter_zip (s:={ s1 with heap:=g }) gz ?_
 refine⟨_,[s1.heap.objs.size+4,s1.heap.objs.size+2,s1.heap.objs.size+3,s1.heap.objs.size,s1.heap.objs.size+1],_,_,H1,rfl,I1.kept (t':=s1.toks) kk,su (zipApart_new la lb),⟨gz,gI,⟨_,_,gO⟩,g1,g2⟩,fun c hc=>?_,q⟩
 have hle:s1.heap.objs.size<=c:=by
  simp only[List.mem_cons,List.not_mem_nil,or_false]at hc
  rcases hc with rfl|rfl|rfl|rfl|rfl
  ·exact Nat.le_add_right _ _
  ·exact Nat.le_add_right _ _
  ·exact Nat.le_add_right _ _
  ·exact Nat.le_refl _
  ·exact Nat.le_add_right _ _
 exact I1.F8 hle (I1.hok.fresh hle)
end
section
variable {env:Env} {rest:List Expr} {pos:Pos}
def vC{x:Str}:starEach (.Name x pos::rest) env=(false,eval (.Name x pos) env)::starEach rest env:=rfl
def qw{a:Expr}{gs:List Comprehension}{sc:Scope}:starEach (.ListComp a gs sc pos::rest) env=(false,eval (.ListComp a gs sc pos) env)::starEach rest env:=rfl
end
noncomputable def CN(K:Vo)(a:Addr):It:=
  ⟨fun i H=>∃xs x,SqL K H a xs/\xs[i]?=some x,
   fun i H v H'=>∃p x,v = .ref p/\H p=none/\H'=upd H p (.tup [.int (i:Nat),x])/\∀xs,SqL K H a xs->xs[i]?=some x,
   fun i H=>∃xs,SqL K H a xs/\xs.length<=i⟩
def qx{P:Program}{w:World}{K:Vo}{elts:List Expr}{k0:Nat}{FN:Pos}{e it a:Addr}(hei:e≠it) :
  kM P w K (.Tuple elts k0 FN) (CN K a) [e,it] e (fun i h=>(∃old,IsEnum h e it i old)/\h.IsListIter it a i) where
 mem:=by simp
 obj:=fun i h st c hc=>by
  obtain⟨⟨old,ge⟩,⟨o1,e1,_,d1⟩⟩:=st
  simp only[List.mem_cons,List.not_mem_nil,or_false]at hc
  rcases hc with rfl|rfl
  ·exact⟨_,ge,fun v q=>by cases q⟩
  ·exact⟨_,e1,fun v q=>by rw[d1]at q;cases q⟩
 keep:=fun i h h' st k=>by
  obtain⟨⟨old,ge⟩,g1⟩:=st
  exact⟨⟨old,k e (by simp) _ ge⟩,g1.at fun o q=>k it (by simp) o q⟩
 item:=by
  intro X hP hw hK hc i pins s σ H E I hf st hg
  subst hP hw hK
  obtain⟨⟨old,ge⟩,g1⟩:=st
  obtain⟨xs,x,Hc,hx⟩:=hg
  obtain⟨ia,ra,pa,za⟩:=I.list Hc
  obtain⟨u,hu,ru⟩:=ra.get hx
  refine wpAny_pyNext_enum_item ge g1 pa.isList (x:=u) (by simpa using hu) hei fun g a1 a2 a3 a4 a5=>?_
  refine⟨_,rfl,wpAny_letOwnedTupleGo_enum (s:={ s with heap:=g,toks:=s.toks+1 }) a1 fun g' z' q'=>?_⟩
  have kk:∀c o,c ∉ [e,it]->s.heap.get? c=some o->g'.get? c=some o:=fun c o hc q=>by
   simp only[List.mem_cons,List.not_mem_nil,or_false,not_or]at hc
   exact(q'.2 c hc.1).trans (a5 c o hc.1 hc.2 q)
  have I1:Inv X pins σ H { s with heap:=g',toks:=s.toks+1 }:=I.FI kk hf
  have f0:e8 X pins H s.heap.objs.size:=I.F8 (Nat.le_refl _) (I.hok.fresh (Nat.le_refl _))
  have Ku:s.heap.objs.size≠e:=Nat.ne_of_gt (Heap.lt_size ge)
  have eT:ES g' s.heap.objs.size [Value.int i s.toks,u].toArray:=⟨_,(q'.2 _ Ku).trans a3,rfl,rfl,_,rfl⟩
  have I2:=I1.GZ (ys:=[.int i,x]) f0 eT (.cons ⟨_,rfl⟩ (.cons ru .nil)) (by show 2<=sizeLine;decide)
  refine⟨.ref s.heap.objs.size,_,I2,rfl,⟨s.heap.objs.size,x,rfl,f0.1,rfl,fun xs' h1=>by rw[I.Gd h1 Hc];exact hx⟩,⟨⟨u,by simpa using z'⟩,a2.at fun o q=>(q'.2 it hei.symm).trans q⟩,fun c hc=>?_⟩
  have hlt:c < s.heap.objs.size:=by
   obtain⟨o1,e1,_⟩:=g1
   simp only[List.mem_cons,List.not_mem_nil,or_false]at hc
   rcases hc with rfl|rfl
   ·exact Heap.lt_size ge
   ·exact Heap.lt_size e1
  rw[aA (Nat.ne_of_lt hlt)]
  exact(hf c hc).1
 done:=by
  intro X hP hw hK hc i pins s σ H E I hf st hg
  subst hP hw hK
  obtain⟨⟨old,ge⟩,g1⟩:=st
  obtain⟨xs,Hc,hl⟩:=hg
  obtain⟨ia,ra,pa,za⟩:=I.list Hc
  have la:=ra.length
  refine wpAny_pyNext_enum_end (I.ok.hd hc) ge g1 pa.isList (by simp;omega) fun g kk=>⟨rfl,I.FI (t':=s.toks) (fun c o hc q=>?_) hf⟩
  simp only[List.mem_cons,List.not_mem_nil,or_false,not_or]at hc
  exact kk c o hc.2 q
 self:=fun _ _ _ _ _ st h=>by
  obtain⟨⟨old,ge⟩,_⟩:=st
  exact wpAny_pyIter_enum ge h
end L2
namespace Et
open PySem
open Sem (wp)
open AutoSeq1 (wpAny_loadPart')
def wP{P:Program}{w:World}{A:Around}(hh:A.handled=none)(it t:Addr)(hne:t≠it)(its:Vw) :
  Draws P w A it [it,t] its.size (fun i v=>its[i]?=some v) (fun i h=>h.IsTupleIter it t i/\h.IsTuple t its) where
 live:=fun i h st=>let ⟨⟨o,e,_⟩,_⟩:=st;⟨o,e⟩
 frame:=fun i h h' st k=>⟨st.1.at fun o e=>k it (by simp) o e,let ⟨o,e,r⟩:=st.2;⟨o,k t (by simp) o e,r⟩⟩
 item:=fun i s Q E hi st hQ=>Zt.nx st.1 st.2 (Array.getElem?_eq_getElem hi) fun g a b=>hQ _ g s.toks (Array.getElem?_eq_getElem hi) ⟨a,st.2.extBut b.extBut hne⟩ b
 done:=fun s Q E st hE=>Zt.Do hh st.1 st.2 (Array.getElem?_eq_none (Nat.le_refl _)) hE
noncomputable abbrev E1(h:Heap)(l:Addr):Heap:=h.push { cls:=.type "tuple_iterator",data:=.fields #[.ref l,.int 0 0] }
noncomputable abbrev E2(h:Heap)(l:Addr):Heap:=(E1 h l).push { cls:=.type "enumerate",data:=.fields #[.none,.bool false,.ref h.objs.size,rawInt 0,.none,.none] }
def iz(l:Addr)(its:Vw)(n:Nat)(dct:Option Addr)(sl:Array (Option Value)) :
  Meets (Builtin.«enumerate.__new__» ⟨[.type "enumerate",.ref l],[]⟩) (fun _ R s=>s.heap.get? l=some { cls:=.type "tuple",dict:=dct,data:=.seq its n,slots:=sl }/\R (.ok (.ret (.ref (E1 s.heap l).objs.size))) { s with heap:=E2 s.heap l }):=
 .of_wp fun prog w A R s h=>by
  obtain⟨hp,g,d,tk,os⟩:=s;obtain⟨hl,h⟩:=h
  have hsub:=sub_enumerate
  have T:Heap.IsTuple (Shared.heap ⟨hp,g,d,tk,os⟩) l its:=⟨_,hl,rfl,n,rfl⟩
  wp_walk using wpAny_loadPart' hl
  refine wpAny_stack_any fun st=>wpAny_pure ?_
  split
  ·rename_i c _ _ _ _ _
   cases (c == Value.type "enumerate")
   ·wp_walk using wpAny_loadPart' hl,wpAny_pyIter_tuple T
    exact⟨_,rfl,h⟩
   ·wp_walk using wpAny_loadPart' hl,wpAny_pyIter_tuple T
    exact⟨_,rfl,h⟩
  ·wp_walk using wpAny_loadPart' hl,wpAny_pyIter_tuple T
   exact⟨_,rfl,h⟩
def jt{P:Program}{w:World}{A:Around}{E:Vq}{s:Shared}{l:Addr}{its:Vw}{Q:Vq}(hT:s.heap.IsTuple l its)
  (k:∀g,IsEnum g (s.heap.objs.size+1) s.heap.objs.size 0 .none->g.IsTupleIter s.heap.objs.size l 0->(∀b o,s.heap.get? b=some o->g.get? b=some o)->Q (.ref (s.heap.objs.size+1)) { s with heap:=g }) :
  wpAny (model P w) A (call (.type "enumerate") [.ref l]) Q E s:=by
 obtain⟨⟨c,dct,dt,sl⟩,hl,hc,n,hd⟩:=hT
 replace hc:c = .type "tuple":=hc
 replace hd:dt = .seq its n:=hd
 subst hc hd
 refine callType_new F.called_enumerate (by decide) (F.typeCall_enumerate_1 _) (F.newCall_enumerate_1 _) (fun obj=>F.args_object_init_2 obj _) F.entry_enumerate_new (iz l its n dct sl) ⟨hl,?_⟩
 have hz:(E1 s.heap l).objs.size=s.heap.objs.size+1:=Heap.size_push ..
 show _/\_
 rw[hz]
 have he:IsEnum (E2 s.heap l) (s.heap.objs.size+1) s.heap.objs.size 0 .none:=by
  have q:=Heap.get?_push_size (E1 s.heap l) (o:={ cls:=.type "enumerate",data:=.fields #[.none,.bool false,.ref s.heap.objs.size,rawInt 0,.none,.none] }) rfl
  rw[hz]at q
  exact q
 exact⟨⟨_,he,rfl⟩,k _ he ⟨_,Heap.get?_push_of_some _ (Heap.get?_push_size _ rfl),rfl,rfl⟩ fun b o x=>Heap.get?_push_of_some _ (Heap.get?_push_of_some _ x)⟩
end Et
namespace L2
open PySem PySem.Spec PyProof.Rows
noncomputable def CO(K:Vo)(a:Addr):It:=
  ⟨fun i H=>∃xs x,SqT K H a xs/\xs[i]?=some x,
   fun i H v H'=>∃p x,v = .ref p/\H p=none/\H'=upd H p (.tup [.int (i:Nat),x])/\∀xs,SqT K H a xs->xs[i]?=some x,
   fun i H=>∃xs,SqT K H a xs/\xs.length=i⟩
def nu{P:Program}{w:World}{K:Vo}{elts:List Expr}{k0:Nat}{FN:Pos}{e it a:Addr}(hei:e≠it)(Me:a≠e)(hai:a≠it) :
  kM P w K (.Tuple elts k0 FN) (CO K a) [e,it] e (fun i h=>(∃old,IsEnum h e it i old)/\h.IsTupleIter it a i) where
 mem:=by simp
 obj:=fun i h st c hc=>by
  obtain⟨⟨old,ge⟩,⟨o1,e1,_,d1⟩⟩:=st
  simp only[List.mem_cons,List.not_mem_nil,or_false]at hc
  rcases hc with rfl|rfl
  ·exact⟨_,ge,fun v q=>by cases q⟩
  ·exact⟨_,e1,fun v q=>by rw[d1]at q;cases q⟩
 keep:=fun i h h' st k=>by
  obtain⟨⟨old,ge⟩,g1⟩:=st
  exact⟨⟨old,k e (by simp) _ ge⟩,g1.at fun o q=>k it (by simp) o q⟩
 item:=by
  intro X hP hw hK hc i pins s σ H E I hf st hg
  subst hP hw hK
  obtain⟨⟨old,ge⟩,g1⟩:=st
  obtain⟨xs,x,Hc,hx⟩:=hg
  obtain⟨ia,ra,pa,za⟩:=I.tuple Hc
  obtain⟨u,hu,ru⟩:=ra.get hx
  have hil:i < ia.toArray.size:=by
   rcases Nat.lt_or_ge i ia.length with q|q
   ·simpa using q
   ·rw[List.getElem?_eq_none q]at hu;cases hu
  refine wpAny_pyNext_enum_itemD (Et.wP (P:=X.prog) (w:=X.w) (A:=X.A.in1) (I.ok.hd hc) it a hai ia.toArray) ge ⟨g1,(show s.heap.IsTuple a ia.toArray from pa)⟩ hil hei (by simp[hei,Ne.symm Me]) fun v g tk hv a1 a2 a3 a4 a5=>?_
  have ev:v=u:=by
   have q:ia[i]?=some v:=by simpa using hv
   rw[q]at hu
   exact Option.some.inj hu
  subst ev
  refine⟨_,rfl,wpAny_letOwnedTupleGo_enum (s:={ s with heap:=g,toks:=tk+1 }) a1 fun g' z' q'=>?_⟩
  have kk:∀c o,c ∉ [e,it]->s.heap.get? c=some o->g'.get? c=some o:=fun c o hc q=>by
   simp only[List.mem_cons,List.not_mem_nil,or_false,not_or]at hc
   exact(q'.2 c hc.1).trans (a5 c o hc.1 hc.2 q)
  have I1:Inv X pins σ H { s with heap:=g',toks:=tk+1 }:=I.FI kk hf
  have f0:e8 X pins H s.heap.objs.size:=I.F8 (Nat.le_refl _) (I.hok.fresh (Nat.le_refl _))
  have Ku:s.heap.objs.size≠e:=Nat.ne_of_gt (Heap.lt_size ge)
  have eT:ES g' s.heap.objs.size [Value.int i tk,v].toArray:=⟨_,(q'.2 _ Ku).trans a3,rfl,rfl,_,rfl⟩
  have I2:=I1.GZ (ys:=[.int i,x]) f0 eT (.cons ⟨_,rfl⟩ (.cons ru .nil)) (by show 2<=sizeLine;decide)
  refine⟨.ref s.heap.objs.size,_,I2,rfl,⟨s.heap.objs.size,x,rfl,f0.1,rfl,fun xs' h1=>by rw[I.FW h1 Hc];exact hx⟩,⟨⟨v,by simpa using z'⟩,a2.1.at fun o q=>(q'.2 it hei.symm).trans q⟩,fun c hc=>?_⟩
  have hlt:c < s.heap.objs.size:=by
   obtain⟨o1,e1,_⟩:=g1
   simp only[List.mem_cons,List.not_mem_nil,or_false]at hc
   rcases hc with rfl|rfl
   ·exact Heap.lt_size ge
   ·exact Heap.lt_size e1
  rw[aA (Nat.ne_of_lt hlt)]
  exact(hf c hc).1
 done:=by
  intro X hP hw hK hc i pins s σ H E I hf st hg
  subst hP hw hK
  obtain⟨⟨old,ge⟩,g1⟩:=st
  obtain⟨xs,Hc,hl⟩:=hg
  obtain⟨ia,ra,pa,za⟩:=I.tuple Hc
  have la:=ra.length
  have ei:i=ia.toArray.size:=by simp;omega
  subst ei
  refine wpAny_pyNext_enum_endD (Et.wP (P:=X.prog) (w:=X.w) (A:=X.A.in1) (I.ok.hd hc) it a hai ia.toArray) ge ⟨g1,(show s.heap.IsTuple a ia.toArray from pa)⟩ fun g kk=>⟨rfl,I.FI (t':=s.toks) (fun c o hc q=>?_) hf⟩
  simp only[List.mem_cons,List.not_mem_nil,or_false,not_or]at hc
  exact kk c o hc.2 q
 self:=fun _ _ _ _ _ st h=>by
  obtain⟨⟨old,ge⟩,_⟩:=st
  exact wpAny_pyIter_enum ge h
section
variable {X:Cx}
def yw:fQ X (compareOp .Is) (fun x y H Q=>x = .bl true/\y = .bl true/\Q (.bl true) H):=by
 intro pins s σ H x y v u Q I rx ry h
 obtain⟨rfl,rfl,q⟩:=h
 cases (show v=Value.bool true from rx)
 cases (show u=Value.bool true from ry)
 exact wpAny_is_self rfl ⟨.bl true,H,I,rfl,q⟩
def qz:fQ X (compareOp .IsNot) (fun x y H Q=>x = .bl true/\y = .bl true/\Q (.bl false) H):=by
 intro pins s σ H x y v u Q I rx ry h
 obtain⟨rfl,rfl,q⟩:=h
 cases (show v=Value.bool true from rx)
 cases (show u=Value.bool true from ry)
 exact wpAny_isNot_self rfl ⟨.bl false,H,I,rfl,q⟩
end
end L2
namespace Wd
open PySem L2 PyProof.Rows
end Wd
namespace M3
noncomputable def aK(t b:Int):Int:=(if b < 0 then -t else t) / (Int.gcd t b:Int)
noncomputable def aB(t b:Int):Int:=(if b < 0 then -b else b) / (Int.gcd t b:Int)
def eB{t b:Int}(h:b≠0):0 < Int.gcd t b:=Nat.gcd_pos_of_pos_right _ (by omega)
def nv{t b:Int}(h:b≠0):(Int.gcd t b:Int)<=b.natAbs:=by
 have q:Nat.gcd t.natAbs b.natAbs<=b.natAbs:=Nat.gcd_le_right _ (by omega)
 have e:Int.gcd t b=Nat.gcd t.natAbs b.natAbs:=rfl
 omega
def sx(t b:Int):Int.gcd (-t) (-b)=Int.gcd t b:=by rw[Int.gcd_neg,Int.neg_gcd]
def wQ(t b:Int):∃x y:Int,t=(Int.gcd t b:Int) * x/\b=(Int.gcd t b:Int) * y:=by
 obtain⟨x,hx⟩:=Int.gcd_dvd_left t b
 obtain⟨y,hy⟩:=Int.gcd_dvd_right t b
 exact⟨x,y,hx,hy⟩
def ny{t b x y g:Int}(hg:g=(Int.gcd t b:Int))(h:b≠0)(ht:t=g * x)(hb:b=g * y):aK t b=(if y < 0 then -x else x)/\aB t b=(if y < 0 then -y else y):=by
 have gp:0 < g:=by rw[hg];exact Int.natCast_pos.mpr (eB h)
 have hy:b < 0↔y < 0:=by
  rw[hb]
  constructor
  ·intro q
   by_cases z:y < 0
   ·exact z
   ·have:=Int.mul_nonneg (Int.le_of_lt gp) (Int.not_lt.mp z)
    omega
  ·intro q
   exact Int.mul_neg_of_pos_of_neg gp q
 unfold aK aB
 rw[<-hg]
 by_cases z:y < 0
 ·rw[if_pos (hy.mpr z),if_pos (hy.mpr z),if_pos z,if_pos z]
  constructor
  ·rw[ht,<-Int.mul_neg,Int.mul_ediv_cancel_left _ (by omega)]
  ·rw[hb,<-Int.mul_neg,Int.mul_ediv_cancel_left _ (by omega)]
 ·rw[if_neg (fun q=>z (hy.mp q)),if_neg (fun q=>z (hy.mp q)),if_neg z,if_neg z]
  constructor
  ·rw[ht,Int.mul_ediv_cancel_left _ (by omega)]
  ·rw[hb,Int.mul_ediv_cancel_left _ (by omega)]
def vD{t b x y:Int}(h:b≠0)(ht:t=(Int.gcd t b:Int) * x)(hb:b=(Int.gcd t b:Int) * y):Int.gcd x y=1:=by
 have gp:=eB (t:=t) h
 have q:Int.gcd ((Int.gcd t b:Int) * x) ((Int.gcd t b:Int) * y)=(Int.gcd t b:Int).natAbs * Int.gcd x y:=Int.gcd_mul_left _ _ _
 rw[<-ht,<-hb,Int.natAbs_natCast]at q
 have q2:Int.gcd t b * 1=Int.gcd t b * Int.gcd x y:=by omega
 exact(Nat.eq_of_mul_eq_mul_left gp q2).symm
structure yx (a b:Int):Prop where
 pos:0 < b
 one:Int.gcd a b=1
def cj{t b:Int}(h:b≠0):yx (aK t b) (aB t b):=by
 obtain⟨x,y,ht,hb⟩:=wQ t b
 have c:=vD h ht hb
 obtain⟨e1,e2⟩:=ny rfl h ht hb
 have y0:y≠0:=fun z=>h (by rw[hb,z,Int.mul_zero])
 rw[e1,e2]
 by_cases z:y < 0
 ·rw[if_pos z,if_pos z]
  exact⟨by omega,by rw[sx];exact c⟩
 ·rw[if_neg z,if_neg z]
  exact⟨by omega,c⟩
def ju{a b x y:Int}(L:yx a b)(hy:0 < y)(e:x * b=a * y):aK x y=a/\aB x y=b:=by
 have b0:=L.pos
 have d1:b.natAbs ∣ a.natAbs * y.natAbs:=by
  rw[<-Int.natAbs_mul,<-e,Int.natAbs_mul]
  exact Nat.dvd_mul_left _ _
 have c:Nat.Coprime b.natAbs a.natAbs:=by
  show Nat.gcd b.natAbs a.natAbs=1
  rw[Nat.gcd_comm]
  exact L.one
 obtain⟨k,hk⟩:=Int.natAbs_dvd_natAbs.mp (c.dvd_of_dvd_mul_left d1)
 have k0:0 < k:=by
  by_cases z:0 < k
  ·exact z
  ·have:=Int.mul_nonneg (Int.le_of_lt b0) (show 0 <= -k by omega)
   rw[Int.mul_neg]at this
   omega
 have hx:x=a * k:=by
  have q:x * b=a * k * b:=by rw[e,hk,Int.mul_assoc,Int.mul_comm k b]
  exact Int.eq_of_mul_eq_mul_right (by omega) q
 have g:(Int.gcd x y:Int)=k:=by
  rw[hx,hk,Int.gcd_mul_right,L.one,Nat.one_mul]
  omega
 have q:=ny (g:=k) (x:=a) (y:=b) (t:=x) (b:=y) g.symm (by omega) (by rw[hx,Int.mul_comm]) (by rw[hk,Int.mul_comm])
 rw[if_neg (by omega),if_neg (by omega)]at q
 exact q
def sy{a b:Int}(L:yx a b):aK a b=a/\aB a b=b:=ju L L.pos rfl
def aY{t b:Int}(h:b≠0):aK t b * b=t * aB t b:=by
 obtain⟨x,y,ht,hb⟩:=wQ t b
 obtain⟨e1,e2⟩:=ny rfl h ht hb
 rw[e1,e2]
 have q:x * b=t * y:=by
  have e3:x * ((Int.gcd t b:Int) * y)=(Int.gcd t b:Int) * x * y:=by rw[<-Int.mul_assoc,Int.mul_comm x]
  rw[<-ht,<-hb]at e3
  exact e3
 by_cases z:y < 0
 ·rw[if_pos z,if_pos z,Int.neg_mul,Int.mul_neg,q]
 ·rw[if_neg z,if_neg z]
  exact q
def yy{g x y:Int}(h:g≠0)(e:x * g=y * g):x=y:=Int.eq_of_mul_eq_mul_right h e
def lX{t b:Int}(h:b≠0):t.fdiv (if b < 0 then -(Int.gcd t b:Int) else (Int.gcd t b:Int))=aK t b/\b.fdiv (if b < 0 then -(Int.gcd t b:Int) else (Int.gcd t b:Int))=aB t b:=by
 have gp:(0:Int) < (Int.gcd t b:Int):=Int.natCast_pos.mpr (eB h)
 have d1:=Int.gcd_dvd_left t b
 have d2:=Int.gcd_dvd_right t b
 unfold aK aB
 by_cases z:b < 0
 ·rw[if_pos z,if_pos z,if_pos z,Int.fdiv_neg (by omega),if_pos d1,Int.fdiv_neg (by omega),if_pos d2,Int.fdiv_eq_ediv_of_dvd d1,Int.fdiv_eq_ediv_of_dvd d2,Int.neg_ediv_of_dvd d1,Int.neg_ediv_of_dvd d2]
  exact⟨rfl,rfl⟩
 ·rw[if_neg z,if_neg z,if_neg z,Int.fdiv_eq_ediv_of_dvd d1,Int.fdiv_eq_ediv_of_dvd d2]
  exact⟨rfl,rfl⟩
def lZ(x y:Int):Int.gcd y (x.fmod y)=Int.gcd x y:=by
 have q:=Int.mul_fdiv_add_fmod x y
 have e:Int.gcd y (x.fmod y+x.fdiv y * y)=Int.gcd y (x.fmod y):=Int.gcd_add_mul_right_right _ _ _
 rw[<-e,Int.mul_comm (x.fdiv y) y,Int.add_comm,q,Int.gcd_comm]
def gS{t b T B:Int}(h:b≠0)(h1:-T<=t)(h2:t<=T)(h3:-B<=b)(h4:b<=B)(hT:0<=T)(hB:0<=B):-T<=aK t b/\aK t b<=T/\0 < aB t b/\aB t b<=B:=by
 have gp:(0:Int) < (Int.gcd t b:Int):=Int.natCast_pos.mpr (eB h)
 have L:=(cj (t:=t) h).pos
 have key:∀z M:Int,0<=M->-M<=z->z<=M->-M<=z / (Int.gcd t b:Int)/\z / (Int.gcd t b:Int)<=M:=fun z M hM z1 z2=>by
  generalize (Int.gcd t b:Int)=g at gp
  have m2:M * 1<=M * g:=Int.mul_le_mul_of_nonneg_left (by omega) hM
  have m3:-M * g = -(M * g):=Int.neg_mul M g
  exact⟨Int.le_ediv_of_mul_le gp (by omega),Int.ediv_le_of_le_mul gp (by omega)⟩
 have k1:=key (if b < 0 then -t else t) T hT (by split<;>omega) (by split<;>omega)
 have k2:=key (if b < 0 then -b else b) B hB (by split<;>omega) (by split<;>omega)
 exact⟨k1.1,k1.2,L,k2.2⟩
end M3
namespace Xc
open PySem PySem.W PySem.Calls PyProof.Rows Builtin Builtin.ObjectAttr
structure CP (h:Heap) (e:Addr) (oe:Obj) (vs:Vw):Prop where
 at_:h.get? e=some oe
 dat:oe.data = .fields vs
 tb:vs[1]?=some .none\/∃T oT ts,vs[1]?=some (.ref T)/\T≠e/\h.get? T=some oT/\oT.data = .fields ts/\ts[3]?=some .none
end Xc
namespace L2
open PySem PySem.Spec PyProof.Rows Xc
def DO(X:Cx)(pins:Va)(H:Hp)(h:Heap)(a C dx:Addr):Prop:=
 ∃oe vs,CP h a oe vs/\oe.cls = .ref C/\oe.dict=some dx/\e8 X pins H a/\∀T,vs[1]?=some (.ref T)->e8 X pins H T
def XD(dx:Addr)(fs:List (Str×V))(h:Heap):Prop:=∃mA,h.Ns1 dx mA/\(∀f,Ft (fs.lookup f) (mA f))/\PySem.Within mA (fs.map (·.1))
end L2
namespace L3
open PySem L2
inductive PV where
 |non|bl (b:Bool)|int (i:Int)|str (x:Str)|tup (xs:List PV)|cl (xs:List PV)|ref (a:Addr)|ty (n:String)|exc (c:Str) (ks:Vs) (ps:List PV)|cls (c:Str)
def Jb(K:Vo)(H:Hp)(a:Addr)(xs:List V):Prop:=
 (∃o,H a=some (.frz o (.lst xs))) \/
  ∃(o:Obj) (its:Vw) (n:Nat),K.lookup a=some o/\o.cls = .type "list"/\o.dict=none/\o.data = .seq its n/\its.size<=sizeLine/\Vals xs its.toList
def Jb.sq{K:Vo}{H:Hp}{a:Addr}{xs:List V}(h:Jb K H a xs):SqL K H a xs:=h.elim (fun z=>.inl (.inr z)) .inr
def JR(H:Hp)(a C:Addr)(ks:Vs)(vs:List V):Prop:=
 ∃oe dx od,H a=some (.frz oe (.ext fun _=>True))/\oe.cls = .ref C/\oe.dict=some dx/\(∀c,oe.data ≠ .cls c)/\H dx=some (.frz od (.ext (XD dx (ks.zip vs))))
def F9(K:Vo)(c:Str)(C:Addr):Prop:=PySem.W.nsIn K mainGlobals c=some (some (.ref C))
mutual
inductive Rep (K:Vo) (H:Hp):V->PV->Prop
 |non:Rep K H .non .non
 |bl (b:Bool):Rep K H (.bl b) (.bl b)
 |int (i:Int):Rep K H (.int i) (.int i)
 |str (x:Str):Rep K H (.str x) (.str x)
 |ty (n:String):Rep K H (.ty n) (.ty n)
 |ref (a:Addr):Rep K H (.ref a) (.ref a)
 |tup {a:Addr} {vs:List V} {ps:List PV}:SqT K H a vs->Reps K H vs ps->Rep K H (.ref a) (.tup ps)
 |cl {a:Addr} {vs:List V} {ps:List PV}:Jb K H a vs->Reps K H vs ps->Rep K H (.ref a) (.cl ps)
 |exc {a C:Addr} {c:Str} {ks:Vs} {vs:List V} {ps:List PV}:F9 K c C->JR H a C ks vs->Reps K H vs ps->Rep K H (.ref a) (.exc c ks ps)
 |cls {C:Addr} {c:Str}:F9 K c C->Rep K H (.ref C) (.cls c)
inductive Reps (K:Vo) (H:Hp):List V->List PV->Prop
 |nil:Reps K H [] []
 |cons {v:V} {p:PV} {vs:List V} {ps:List PV}:Rep K H v p->Reps K H vs ps->Reps K H (v::vs) (p::ps)
end
structure Grow (K:Vo) (H H':Hp):Prop where
 t:∀a vs,SqT K H a vs->SqT K H' a vs
 c:∀a vs,Jb K H a vs->Jb K H' a vs
 x:∀a o u,H a=some (.frz o u)->H' a=some (.frz o u)
def Grow.refl{K:Vo}{H:Hp}:Grow K H H:=⟨fun _ _ h=>h,fun _ _ h=>h,fun _ _ _ h=>h⟩
def Grow.trans{K:Vo}{H H1 H2:Hp}(a:Grow K H H1)(b:Grow K H1 H2):Grow K H H2:=⟨fun x vs h=>b.t x vs (a.t x vs h),fun x vs h=>b.c x vs (a.c x vs h),fun x o u h=>b.x x o u (a.x x o u h)⟩
def JR.mono{K:Vo}{H H':Hp}(g:Grow K H H'){a C:Addr}{ks:Vs}{vs:List V}(h:JR H a C ks vs):JR H' a C ks vs:=let ⟨oe,dx,od,h1,h2,h3,h4,h5⟩:=h;⟨oe,dx,od,g.x _ _ _ h1,h2,h3,h4,g.x _ _ _ h5⟩
def Grow.of{K:Vo}{H H':Hp}(h:∀a xs,H a=some (.tup xs)->H' a=some (.tup xs))(h2:∀a o u,H a=some (.frz o u)->H' a=some (.frz o u)):Grow K H H':=by
 refine⟨fun a vs q=>?_,fun a vs q=>?_,h2⟩
 ·rcases q with(q|⟨o,q⟩)|q
  ·exact .inl (.inl (h a vs q))
  ·exact .inl (.inr ⟨o,h2 a o _ q⟩)
  ·exact .inr q
 ·rcases q with⟨o,q⟩|q
  ·exact .inl ⟨o,h2 a o _ q⟩
  ·exact .inr q
def Grow.same{K:Vo}{H H':Hp}(h:∀c o,H c=some o->H' c=some o):Grow K H H':=.of (fun a _ q=>h a _ q) (fun a _ _ q=>h a _ q)
def Grow.new{K:Vo}{H:Hp}{p:Addr}{o:HO}(h:H p=none):Grow K H (upd H p o):=.same fun c u q=>by rw[aA (a9 q h)];exact q
noncomputable def Mu:HO->Prop
 | .tup _=>False
 | .frz _ _=>False
 |_=>True
def Grow.mut{K:Vo}{H:Hp}{p:Addr}{o u:HO}(h:H p=some u)(m:Mu u):Grow K H (upd H p o):=
 .of (fun a xs q=>by rw[aA (fun e=>by subst e;rw[h]at q;cases q;exact m)];exact q) (fun a _ _ q=>by rw[aA (fun e=>by subst e;rw[h]at q;cases q;exact m)];exact q)
mutual
theorem Rep.mono{K:Vo}{H H':Hp}(g:Grow K H H'):∀{v:V} {p:PV},Rep K H v p->Rep K H' v p
 |_,_,.non=>.non
 |_,_,.bl b=>.bl b
 |_,_,.int i=>.int i
 |_,_,.str x=>.str x
 |_,_,.ty n=>.ty n
 |_,_,.ref a=>.ref a
 |_,_,.tup h r=>.tup (g.t _ _ h) (Reps.mono g r)
 |_,_,.cl h r=>.cl (g.c _ _ h) (Reps.mono g r)
 |_,_,.exc n h r=>.exc n (h.mono g) (Reps.mono g r)
 |_,_,.cls n=>.cls n
theorem Reps.mono{K:Vo}{H H':Hp}(g:Grow K H H'):∀{vs:List V} {ps:List PV},Reps K H vs ps->Reps K H' vs ps
 |_,_,.nil=>.nil
 |_,_,.cons a r=>.cons (Rep.mono g a) (Reps.mono g r)
end
theorem Reps.length{K:Vo}{H:Hp}:∀{vs:List V} {ps:List PV},Reps K H vs ps->vs.length=ps.length
 |_,_,.nil=>rfl
 |_,_,.cons _ r=>by rw[List.length_cons,List.length_cons,Reps.length r]
theorem Reps.append{K:Vo}{H:Hp}:∀{vs us:List V} {ps qs:List PV},Reps K H vs ps->Reps K H us qs->Reps K H (vs++us) (ps++qs)
 |_,_,_,_,.nil,s=>s
 |_,_,_,_,.cons a r,s=>.cons a (Reps.append r s)
theorem Reps.get{K:Vo}{H:Hp}:∀{vs:List V} {ps:List PV} {i:Nat} {p:PV},Reps K H vs ps->ps[i]?=some p->∃v,vs[i]?=some v/\Rep K H v p
 |_,_,_,_,.nil,e=>by simp at e
 |_,_,0,_,.cons a r,e=>by simp at e;subst e;exact⟨_,rfl,a⟩
 |_,_,i+1,p,.cons a r,e=>by
  obtain⟨v,h1,h2⟩:=Reps.get (i:=i) (p:=p) r (by simpa using e)
  exact⟨v,by simpa using h1,h2⟩
theorem Reps.take{K:Vo}{H:Hp}:∀{vs:List V} {ps:List PV} (n:Nat),Reps K H vs ps->Reps K H (vs.take n) (ps.take n)
 |_,_,0,_=>.nil
 |_,_,_+1,.nil=>.nil
 |_,_,n+1,.cons a r=>.cons a (Reps.take n r)
theorem Reps.drop{K:Vo}{H:Hp}:∀{vs:List V} {ps:List PV} (n:Nat),Reps K H vs ps->Reps K H (vs.drop n) (ps.drop n)
 |_,_,0,r=>r
 |_,_,_+1,.nil=>.nil
 |_,_,n+1,.cons _ r=>Reps.drop n r
theorem Reps.set{K:Vo}{H:Hp}{v:V}{p:PV}(q:Rep K H v p):∀{vs:List V} {ps:List PV} (n:Nat),Reps K H vs ps->Reps K H (vs.set n v) (ps.set n p)
 |_,_,_,.nil=>.nil
 |_,_,0,.cons _ r=>.cons q r
 |_,_,n+1,.cons a r=>.cons a (Reps.set q n r)
theorem Reps.eraseIdx{K:Vo}{H:Hp}:∀{vs:List V} {ps:List PV} (n:Nat),Reps K H vs ps->Reps K H (vs.eraseIdx n) (ps.eraseIdx n)
 |_,_,_,.nil=>.nil
 |_,_,0,.cons _ r=>r
 |_,_,n+1,.cons a r=>.cons a (Reps.eraseIdx n r)
theorem Reps.reverse{K:Vo}{H:Hp}:∀{vs:List V} {ps:List PV},Reps K H vs ps->Reps K H vs.reverse ps.reverse
 |_,_,.nil=>.nil
 |_,_,.cons a r=>by rw[List.reverse_cons,List.reverse_cons];exact(Reps.reverse r).append (.cons a .nil)
theorem Reps.dropLast{K:Vo}{H:Hp}{vs:List V}{ps:List PV}(r:Reps K H vs ps):Reps K H vs.dropLast ps.dropLast:=by
 rw[List.dropLast_eq_take,List.dropLast_eq_take,r.length]
 exact r.take _
inductive SO where
 |lst (xs:List PV)
 |dct (kvs:List (bZ×PV))
 |ins (c:Str) (fs:List (Str×PV))
abbrev av:=Addr->Option SO
noncomputable def Ee(S:av)(a:Addr)(o:SO):av:=fun b=>if b=a then some o else S b
def aa{S:av}{a:Addr}{o:SO}:Ee S a o a=some o:=by unfold Ee;rw[if_pos rfl]
def al{S:av}{a b:Addr}{o:SO}(h:b≠a):Ee S a o b=S b:=by unfold Ee;rw[if_neg h]
inductive Eo (K:Vo) (H:Hp) {κ:Type}:List (κ×V)->List (κ×PV)->Prop
 |nil:Eo K H [] []
 |cons {k:κ} {v:V} {p:PV} {vs:List (κ×V)} {ps:List (κ×PV)}:Rep K H v p->Eo K H vs ps->Eo K H ((k,v)::vs) ((k,p)::ps)
theorem Eo.mono{K:Vo}{H H':Hp}(g:Grow K H H'){κ:Type}:∀{vs:List (κ×V)} {ps:List (κ×PV)},Eo K H vs ps->Eo K H' vs ps
 |_,_,.nil=>.nil
 |_,_,.cons a r=>.cons (a.mono g) (Eo.mono g r)
theorem Eo.length{K:Vo}{H:Hp}{κ:Type}:∀{vs:List (κ×V)} {ps:List (κ×PV)},Eo K H vs ps->vs.length=ps.length
 |_,_,.nil=>rfl
 |_,_,.cons _ r=>by rw[List.length_cons,List.length_cons,Eo.length r]
noncomputable def Gw(K:Vo)(H:Hp)(a:Addr):SO->Prop
 | .lst xs=>∃vs,H a=some (.lst vs)/\Reps K H vs xs
 | .dct kvs=>∃kv,H a=some (.dK kv)/\Eo K H kv kvs
 | .ins c fs=>∃C dx f',F9 K c C/\H a=some (.ins C dx f')/\Eo K H f' fs
theorem Gw.stay{K:Vo}{H H':Hp}(g:Grow K H H'){a:Addr}(e:H' a=H a):∀{o:SO},Gw K H a o->Gw K H' a o
 | .lst _,⟨vs,h,r⟩=>⟨vs,e.trans h,r.mono g⟩
 | .dct _,⟨vs,h,r⟩=>⟨vs,e.trans h,r.mono g⟩
 | .ins _ _,⟨C,dx,vs,n,h,r⟩=>⟨C,dx,vs,n,e.trans h,r.mono g⟩
theorem Gw.some{K:Vo}{H:Hp}{a:Addr}:∀{o:SO},Gw K H a o->∃u,H a=Option.some u/\Mu u
 | .lst _,⟨_,h,_⟩=>⟨_,h,trivial⟩
 | .dct _,⟨_,h,_⟩=>⟨_,h,trivial⟩
 | .ins _ _,⟨_,_,_,_,h,_⟩=>⟨_,h,trivial⟩
def Ej(K:Vo)(H:Hp)(S:av):Prop:=∀a o,S a=some o->Gw K H a o
def Ej.free{K:Vo}{H:Hp}{S:av}(r:Ej K H S){p:Addr}(h:H p=none):S p=none:=by
 cases e:S p with
 |none=>rfl
 |some o=>
  obtain⟨u,q,_⟩:=(r p o e).some
  rw[h]at q;cases q
def Ej.grow{K:Vo}{H H':Hp}{S:av}(r:Ej K H S)(h:∀c o,H c=some o->H' c=some o):Ej K H' S:=fun a o e=>by
 obtain⟨u,q,_⟩:=(r a o e).some
 exact(r a o e).stay (.same h) ((h a u q).trans q.symm)
def Ej.other{K:Vo}{H:Hp}{S:av}(r:Ej K H S){p:Addr}{o:HO}(h:H p=none):Ej K (upd H p o) S:=r.grow fun c u q=>by rw[aA (a9 q h)];exact q
theorem Ej.new{K:Vo}{H:Hp}{S:av}(r:Ej K H S){p:Addr}{u:HO}{o:SO}(h:H p=none)(q:Gw K (upd H p u) p o):Ej K (upd H p u) (Ee S p o):=fun a x e=>by
 by_cases z:a=p
 ·subst z;rw[aa]at e;cases e;exact q
 ·rw[al z]at e;exact(r a x e).stay (.new h) (aA z)
def Ej.put{K:Vo}{H:Hp}{S:av}(r:Ej K H S){p:Addr}{u0 u:HO}{o:SO}(h:H p=some u0)(m:Mu u0)(q:Gw K (upd H p u) p o):Ej K (upd H p u) (Ee S p o):=fun a x e=>by
 by_cases z:a=p
 ·subst z;rw[aa]at e;cases e;exact q
 ·rw[al z]at e;exact(r a x e).stay (.mut h m) (aA z)
abbrev cK:=List (Option PV)
noncomputable def lk:cK->Nat->Option PV
 |[],_=>none
 |x::_,0=>x
 |_::r,i+1=>lk r i
def sA{σ:cK}{i:Nat}{p:PV}(h:lk σ i=some p):σ[i]?=some (some p):=by
 induction σ generalizing i with
 |nil=>cases h
 |cons x r ih=>
  cases i with
  |zero=>exact congrArg some h
  |succ i=>exact ih h
structure Ep (K:Vo) (H:Hp) (σ:St) (σ3:cK):Prop where
 len:σ.length=σ3.length
 at':∀(i:Nat) (p:PV),σ3[i]?=some (some p)->∃v,σ[i]?=some (some v)/\Rep K H v p
theorem Ep.mono{K:Vo}{H H':Hp}{σ:St}{σ3:cK}(r:Ep K H σ σ3)(g:Grow K H H'):Ep K H' σ σ3:=⟨r.len,fun i p e=>let ⟨v,h,q⟩:=r.at' i p e;⟨v,h,q.mono g⟩⟩
theorem Ep.set{K:Vo}{H:Hp}{σ:St}{σ3:cK}(r:Ep K H σ σ3){v:V}{p:PV}(q:Rep K H v p)(i:Nat):Ep K H (σ.set i (some v)) (σ3.set i (some p)):=by
 refine⟨by rw[List.length_set,List.length_set,r.len],fun j x e=>?_⟩
 rw[List.getElem?_set]at e ⊢
 split at e
 ·rename_i hij
  rw[if_pos hij]
  subst hij
  split at e
  ·rename_i hl
   cases e
   rw[if_pos (by rw[r.len];exact hl)]
   exact⟨v,rfl,q⟩
  ·cases e
 ·rename_i hij
  rw[if_neg hij]
  exact r.at' j x e
abbrev bH:=PV->av->Prop
abbrev b9:=PV->cK->av->Prop
abbrev aT:=cK->av->bH->b9->Prop
abbrev iX:=cK->av->(Bool->av->Prop)->b9->Prop
abbrev DP:=cK->av->(List PV->av->Prop)->b9->Prop
structure jv where
 nx:cK->av->Prop
 rt:bH
 ex:b9
 bk:cK->av->Prop:=fun _ _=>False
 ct:cK->av->Prop:=fun _ _=>False
abbrev bO:=jv->cK->av->Prop
def Ht(X:Cx)(H:Hp)(E:b9):Prop:=∀(c:Str) (ks:Vs) (ps:List PV) (σ3:cK) (S':av) (H':Hp) (pins:Va) (σ:St) (s':Shared) (a C dx:Addr) (od:Obj) (vs:List V),E (.exc c ks ps) σ3 S'->F9 X.K c C->vs.length=ks.length->
 H' dx=some (.frz od (.ext (XD dx (ks.zip vs))))->Reps X.K H' vs ps->Ej X.K H' S'->Ep X.K H' σ σ3->Grow X.K H H'->Inv X pins σ H' s'->DO X pins H' s'.heap a C dx->X.xe (.ref a) s'
def Ht.mono{X:Cx}{H H':Hp}{E:b9}(x:Ht X H E)(g:Grow X.K H H'):Ht X H' E:=fun c ks ps σ3 S' H2 pins σ s' a C dx od vs h1 h2 h3 h4 h5 h6 h7 h8 h9 Mf=>x c ks ps σ3 S' H2 pins σ s' a C dx od vs h1 h2 h3 h4 h5 h6 h7 (g.trans h8) h9 Mf
def Hu(K:Vo)(H:Hp)(Q3:bH)(Q:VK):Prop:=∀p S' v H',Q3 p S'->Rep K H' v p->Ej K H' S'->Grow K H H'->Q v H'
def Hu.mono{K:Vo}{H H':Hp}{Q3:bH}{Q:VK}(r:Hu K H Q3 Q)(g:Grow K H H'):Hu K H' Q3 Q:=fun p S' v H2 h1 h2 h3 h4=>r p S' v H2 h1 h2 h3 (g.trans h4)
def Jc(K:Vo)(H:Hp)(N3:cK->av->Prop)(N:St->Hp->Prop):Prop:=∀σ3 S' σ H',N3 σ3 S'->Ep K H' σ σ3->Ej K H' S'->Grow K H H'->N σ H'
def Jc.mono{K:Vo}{H H':Hp}{Q3:cK->av->Prop}{Q:St->Hp->Prop}(r:Jc K H Q3 Q)(g:Grow K H H'):Jc K H' Q3 Q:=fun p S' v H2 h1 h2 h3 h4=>r p S' v H2 h1 h2 h3 (g.trans h4)
def LE(X:Cx)(t:aT):TE:=fun σ H Q=>∃σ3 S Q3 E3,Ep X.K H σ σ3/\Ej X.K H S/\t σ3 S Q3 E3/\Ht X H E3/\Hu X.K H Q3 Q
def LT(X:Cx)(t:iX):TT:=fun σ H Q=>∃σ3 S Q3 E3,Ep X.K H σ σ3/\Ej X.K H S/\t σ3 S Q3 E3/\Ht X H E3/\∀b S' H',Q3 b S'->Ej X.K H' S'->Grow X.K H H'->Q b H'
def LS(X:Cx)(t:bO):TS:=fun D σ H=>∃σ3 S D3,Ep X.K H σ σ3/\Ej X.K H S/\t D3 σ3 S/\Ht X H D3.ex/\Jc X.K H D3.nx D.nx/\Hu X.K H D3.rt D.rt/\Jc X.K H D3.bk D.bk/\Jc X.K H D3.ct D.ct
structure bj (X:Cx) (e:Expr) (t:aT):Prop where
 ok:PE X e (LE X t)
structure nz (X:Cx) (e:Expr) (t:iX):Prop where
 ok:PT X e (LT X t)
structure yz (X:Cx) (e:Expr) (t:iX):Prop where
 ok:PW X e (LT X t)
structure nA (X:Cx) (st:Stmt) (t:bO):Prop where
 ok:PS X st (LS X t)
structure i_ (X:Cx) (st:List Stmt) (t:bO):Prop where
 ok:GV X st (LS X t)
def aR{X:Cx}{e:Expr}{t t':TE}(h:PE X e t)(k:∀σ H Q,t' σ H Q->t σ H Q):PE X e t':=fun pins s σ H Q I q=>h pins s σ H Q I (k σ H Q q)
def nB{X:Cx}{e:Expr}{t t':TT}(h:PT X e t)(k:∀σ H Q,t' σ H Q->t σ H Q):PT X e t':=fun pins s σ H Q I q=>h pins s σ H Q I (k σ H Q q)
def sB{X:Cx}{e:Expr}{t t':TT}(h:PW X e t)(k:∀σ H Q,t' σ H Q->t σ H Q):PW X e t':=fun wh pins s σ H Q I q=>h wh pins s σ H Q I (k σ H Q q)
def dk{X:Cx}{e:Stmt}{t t':TS}(h:PS X e t)(k:∀D σ H,t' D σ H->t D σ H):PS X e t':=fun pins s σ H D I q=>h pins s σ H D I (k D σ H q)
def oQ{X:Cx}{e:List Stmt}{t t':TS}(h:GV X e t)(k:∀D σ H,t' D σ H->t D σ H):GV X e t':=fun pins s σ H D I q=>h pins s σ H D I (k D σ H q)
section
variable {X:Cx} {a b c e o:Expr} {es:List Expr} {ta tb tc te:aT} {pos:Pos}
def v3(i:Nat):aT:=fun σ S Q _=>match lk σ i with|some p=>Q p S|none=>False
def ab(i:Nat){x:Str}(hN:X.N[i]?=some x:=by rfl)(hv:BQ X.env.scope x:=by first|exact Or.inl rfl|exact Or.inr (Or.inl rfl)|exact Or.inr (Or.inr rfl))(hd:(x == ("__debug__":Str))=false:=by decide)
  (hcd:(x == ("__classdict__":Str))=false:=by decide):bj X (.Name x pos) (v3 i):=
 ⟨aR (xD hN hv hd hcd) fun σ H Q ⟨σ3,S,Q3,E3,rσ,rS,h,xo,k⟩=>by
  unfold v3 at h
  split at h
  ·rename_i p e
   obtain⟨v,ev,rv⟩:=rσ.at' i p (sA e)
   exact⟨v,ev,k p S v H h rv rS .refl⟩
  ·exact h.elim⟩
def c3(p:PV):aT:=fun _ S Q _=>Q p S
def ae{i:Int}{j:Nat}:bj X (.Constant (.int i) j pos) (c3 (.int i)):=⟨aR xE fun σ H Q ⟨σ3,S,Q3,E3,rσ,rS,h,xo,k⟩=>k _ S _ H h (.int i) rS .refl⟩
def l3{i:Bool}{j:Nat}:bj X (.Constant (.bool i) j pos) (c3 (.bl i)):=⟨aR Af fun σ H Q ⟨σ3,S,Q3,E3,rσ,rS,h,xo,k⟩=>k _ S _ H h (.bl i) rS .refl⟩
def dh{i:Str}{j:Nat}:bj X (.Constant (.str i) j pos) (c3 (.str i)):=⟨aR xG fun σ H Q ⟨σ3,S,Q3,E3,rσ,rS,h,xo,k⟩=>k _ S _ H h (.str i) rS .refl⟩
def dX{j:Nat}:bj X (.Constant .none j pos) (c3 .non):=⟨aR xF fun σ H Q ⟨σ3,S,Q3,E3,rσ,rS,h,xo,k⟩=>k _ S _ H h .non rS .refl⟩
noncomputable def ag:List aT->DP
 |[],_,S,Q,_=>Q [] S
 |t::ts,σ,S,Q,E=>t σ S (fun x S1=>ag ts σ S1 (fun xs S2=>Q (x::xs) S2) E) E
noncomputable def BZ:List TE->TA
 |[]=>vb
 |t::ts=>rN t (BZ ts)
structure jw (X:Cx) (es:List Expr) (ts:List aT):Prop where
 ok:PA X es (BZ (ts.map (LE X)))
def oR:jw X [] []:=⟨yb⟩
def sC{ts:List aT}(hs:starEach (e::es) X.env=(false,eval e X.env)::starEach es X.env)(ha:bj X e te)(hr:jw X es ts):jw X (e::es) (te::ts):=⟨vc ha.ok hr.ok hs⟩
theorem cA:∀{ts:List aT} {σ:L2.St} {H:Hp} {Q:List V->Hp->Prop} {σ3:cK} {S:av} {Q3:List PV->av->Prop} {E3:b9},Ep X.K H σ σ3->Ej X.K H S->ag ts σ3 S Q3 E3->Ht X H E3->
  (∀ps S' vs H',ps.length=ts.length->Q3 ps S'->Reps X.K H' vs ps->Ej X.K H' S'->Grow X.K H H'->Q vs H')->BZ (ts.map (LE X)) σ H Q
 |[],σ,H,Q,σ3,S,Q3,E3,rσ,rS,h,xo,k=>k [] S [] H rfl h .nil rS .refl
 |t::ts,σ,H,Q,σ3,S,Q3,E3,rσ,rS,h,xo,k=>
  ⟨σ3,S,_,E3,rσ,rS,h,xo,fun p S1 v H1 h1 rv Er g1=>cA (rσ.mono g1) Er h1 (xo.mono g1) fun ps S2 vs H2 hl h2 Kv FM g2=>k (p::ps) S2 (v::vs) H2 (by rw[List.length_cons,List.length_cons,hl]) h2 (.cons (rv.mono g2) Kv) FM (g1.trans g2)⟩
def aV(ts:List aT):aT:=fun σ S Q E=>ag ts σ S (fun xs S1=>Q (.tup xs) S1) E
def bm{ts:List aT}{x1:Nat}(h:jw X es ts)(hn:ts.length<=1000:=by exact Nat.le_of_ble_eq_true rfl):bj X (.Tuple es x1 pos) (aV ts):=
 ⟨aR (yc h.ok) fun σ H Q ⟨σ3,S,Q3,E3,rσ,rS,hq,xo,k⟩=>cA rσ rS hq xo fun ps S' vs H' hl q rv Fy g=>
  ⟨Nat.le_of_lt (fM (by rw[rv.length,hl];exact hn)),fun p hp=>k _ S' _ _ q (.tup (SqT.of ay) (rv.mono (.new hp))) (Fy.other hp) (g.trans (.new hp))⟩⟩
def bV(ts:List aT):aT:=fun σ S Q E=>ag ts σ S (fun xs S1=>∀p,S1 p=none->Q (.ref p) (Ee S1 p (.lst xs))) E
def dD{ts:List aT}(h:jw X es ts)(hn:ts.length<=1000:=by exact Nat.le_of_ble_eq_true rfl):bj X (.List es pos) (bV ts):=
 ⟨aR (ye h.ok) fun σ H Q ⟨σ3,S,Q3,E3,rσ,rS,hq,xo,k⟩=>cA rσ rS hq xo fun ps S' vs H' hl q rv Fy g=>
  ⟨Nat.le_of_lt (fM (by rw[rv.length,hl];exact hn)),fun p hp=>k _ _ _ _ (q p (Fy.free hp)) (.ref p) (Fy.new hp ⟨vs,ay,rv.mono (.new hp)⟩) (g.trans (.new hp))⟩⟩
abbrev R3:=PV->PV->av->bH->Prop
def LR(X:Cx)(r:R3):R2:=fun x y H Q=>∃px py S Q3,Rep X.K H x px/\Rep X.K H y py/\Ej X.K H S/\r px py S Q3/\Hu X.K H Q3 Q
structure gv (X:Cx) (f:Value->Value->Sem Value) (r:R3):Prop where
 ok:fQ X f (LR X r)
def af(r:R3)(ta tb:aT):aT:=fun σ S Q E=>ta σ S (fun x S1=>tb σ S1 (fun y S2=>r x y S2 Q) E) E
def gT{r:R3}{σ:L2.St}{H:Hp}{Q:VK}:LE X (af r ta tb) σ H Q->zP (LR X r) (LE X ta) (LE X tb) σ H Q:=fun⟨σ3,S,Q3,E3,rσ,rS,h,xo,k⟩=>
 ⟨σ3,S,_,E3,rσ,rS,h,xo,fun x S1 v H1 h1 rx Er g1=>⟨σ3,S1,_,E3,rσ.mono g1,Er,h1,xo.mono g1,fun y S2 u H2 h2 ry FM g2=>⟨x,y,S2,Q3,rx.mono g2,ry,FM,h2,k.mono (g1.trans g2)⟩⟩⟩
def au{op:Operator}{r:R3}(ho:gv X (binaryOp op) r)(ha:bj X a ta)(hb:bj X b tb):bj X (.BinOp a op b pos) (af r ta tb):=⟨aR (Ap ho.ok ha.ok hb.ok) fun _ _ _=>gT⟩
def l4{op:CmpOp}{r:R3}(ho:gv X (compareOp op) r)(ha:bj X a ta)(hb:bj X b tb)(hm:behindInMarks op b=false):bj X (.Compare a [op] [b] pos) (af r ta tb):=⟨aR (u7 ho.ok ha.ok hb.ok hm) fun _ _ _=>gT⟩
def br(t:aT):iX:=fun σ S Q E=>t σ S (fun v S'=>match v with | .bl k=>Q k S'|_=>False) E
def sD{σ:L2.St}{H:Hp}{Q:Bool->Hp->Prop}:LT X (br te) σ H Q->LE X te σ H (fun x H'=>∃k,x = .bl k/\Q k H'):=fun⟨σ3,S,Q3,E3,rσ,rS,h,xo,k⟩=>
 ⟨σ3,S,_,E3,rσ,rS,h,xo,fun p S' v H' h1 rv Fy g=>by
  cases p with
  |bl z=>cases rv;exact⟨z,rfl,k z S' H' h1 Fy g⟩
  |_=>exact h1.elim⟩
def bv{op:CmpOp}{r:R3}(ho:gv X (compareOp op) r)(ha:bj X a ta)(hb:bj X b tb)(hm:behindInMarks op b=false):nz X (.Compare a [op] [b] pos) (br (af r ta tb)):=
 ⟨nB (u8 ho.ok ha.ok hb.ok hm) fun σ H Q ⟨σ3,S,Q3,E3,rσ,rS,h,xo,k⟩=>gT ⟨σ3,S,_,E3,rσ,rS,h,xo,fun p S' v H' h1 rv Fy g=>by
  cases p with
  |bl z=>cases rv;exact⟨z,rfl,k z S' H' h1 Fy g⟩
  |_=>exact h1.elim⟩⟩
def oS(h:bj X e te)(he:∀whole,isTrue e X.env whole=(do let v <-whole;standAt e.pos;holding [v] (truthy v)):=by intro _;rfl):nz X e (br te):=
 ⟨nB (xH h.ok he) fun σ H Q q=>sD q⟩
end
section
variable {X:Cx} {a b c:Expr} {rest:List Expr} {ta tb te:aT} {tA tB:iX} {pos:Pos}
def gU(t u:iX):iX:=fun σ S Q E=>t σ S (fun c S1=>if c=true then u σ S1 Q E else Q false S1) E
def sE(t u:iX):iX:=fun σ S Q E=>t σ S (fun c S1=>if c=true then Q true S1 else u σ S1 Q E) E
def l6(t:iX):iX:=fun σ S Q E=>t σ S (fun c S1=>Q (!c) S1) E
def jx(ha:nz X a tA):yz X (.BoolOp .And [a] pos) tA:=⟨uT ha.ok⟩
def sF(ha:nz X a tA):yz X (.BoolOp .Or [a] pos) tA:=⟨xI ha.ok⟩
def kn(ha:nz X a tA)(hb:yz X (.BoolOp .And (b::rest) pos) tB):yz X (.BoolOp .And (a::b::rest) pos) (gU tA tB):=
 ⟨sB (xJ ha.ok hb.ok) fun σ H Q ⟨σ3,S,Q3,E3,rσ,rS,h,xo,k⟩=>⟨σ3,S,_,E3,rσ,rS,h,xo,fun c S1 H1 h1 Er g1=>by
  cases c with
  |true=>rw[if_pos rfl]at h1 ⊢;exact⟨σ3,S1,Q3,E3,rσ.mono g1,Er,h1,xo.mono g1,fun b S2 H2 h2 FM g2=>k b S2 H2 h2 FM (g1.trans g2)⟩
  |false=>rw[if_neg (by decide)]at h1 ⊢;exact k false S1 H1 h1 Er g1⟩⟩
def yA(ha:nz X a tA)(hb:yz X (.BoolOp .Or (b::rest) pos) tB):yz X (.BoolOp .Or (a::b::rest) pos) (sE tA tB):=
 ⟨sB (Ag ha.ok hb.ok) fun σ H Q ⟨σ3,S,Q3,E3,rσ,rS,h,xo,k⟩=>⟨σ3,S,_,E3,rσ,rS,h,xo,fun c S1 H1 h1 Er g1=>by
  cases c with
  |true=>rw[if_pos rfl]at h1 ⊢;exact k true S1 H1 h1 Er g1
  |false=>rw[if_neg (by decide)]at h1 ⊢;exact⟨σ3,S1,Q3,E3,rσ.mono g1,Er,h1,xo.mono g1,fun b S2 H2 h2 FM g2=>k b S2 H2 h2 FM (g1.trans g2)⟩⟩⟩
def wR(h:yz X a tA):nz X a tA:=⟨h.ok.pt⟩
def wS(ha:nz X a tA):nz X (.UnaryOp .Not a pos) (l6 tA):=
 ⟨nB (xK ha.ok) fun σ H Q ⟨σ3,S,Q3,E3,rσ,rS,h,xo,k⟩=>⟨σ3,S,_,E3,rσ,rS,h,xo,fun c S1 H1 h1 Er g1=>k (!c) S1 H1 h1 Er g1⟩⟩
def l7(t:iX)(ta tb:aT):aT:=fun σ S Q E=>t σ S (fun c S1=>if c=true then ta σ S1 Q E else tb σ S1 Q E) E
def wT(hc:nz X c tA)(ha:bj X a ta)(hb:bj X b tb):bj X (.IfExp c a b pos) (l7 tA ta tb):=
 ⟨aR (rq hc.ok ha.ok hb.ok) fun σ H Q ⟨σ3,S,Q3,E3,rσ,rS,h,xo,k⟩=>⟨σ3,S,_,E3,rσ,rS,h,xo,fun c S1 H1 h1 Er g1=>by
  cases c with
  |true=>rw[if_pos rfl]at h1 ⊢;exact⟨σ3,S1,Q3,E3,rσ.mono g1,Er,h1,xo.mono g1,k.mono g1⟩
  |false=>rw[if_neg (by decide)]at h1 ⊢;exact⟨σ3,S1,Q3,E3,rσ.mono g1,Er,h1,xo.mono g1,k.mono g1⟩⟩⟩
abbrev AL:=PV->av->bH->Prop
noncomputable def DQ(X:Cx)(r:AL):V->Hp->VK->Prop:=fun x H Q=>∃px S Q3,Rep X.K H x px/\Ej X.K H S/\r px S Q3/\Hu X.K H Q3 Q
structure Dp (X:Cx) (f:Value->Sem Value) (r:AL):Prop where
 ok:BU X f (DQ X r)
def iY(r:AL)(ta:aT):aT:=fun σ S Q E=>ta σ S (fun x S1=>r x S1 Q) E
def ja{op:UnaryOp}{r:AL}(ho:Dp X (unaryOp op) r)(ha:bj X a ta):bj X (.UnaryOp op a pos) (iY r ta):=
 ⟨aR (Aq ho.ok ha.ok) fun σ H Q ⟨σ3,S,Q3,E3,rσ,rS,h,xo,k⟩=>⟨σ3,S,_,E3,rσ,rS,h,xo,fun p S1 v H1 h1 rv Er g1=>⟨p,S1,Q3,rv,Er,h1,k.mono g1⟩⟩⟩
noncomputable def cX:AL:=fun x S Q=>match x with | .int i=>Q (.int (-i)) S|_=>False
def c_:Dp X (unaryOp .USub) cX:=⟨fun pins s σ H x v Q I rx ⟨px,S,Q3,r1,rS,h,k⟩=>by
 cases px with
 |int i=>cases r1;exact xY pins s σ H _ v Q I rx ⟨i,rfl,k _ S _ H h (.int _) rS .refl⟩
 |_=>exact h.elim⟩
end
section
variable {X:Cx}
def bN(g:Int->Int->PV):R3:=fun x y S Q=>match x,y with | .int i,.int j=>Q (g i j) S|_,_=>False
def eU(C:Int->Int->Prop)(g:Int->Int->PV):R3:=fun x y S Q=>match x,y with | .int i,.int j=>C i j/\Q (g i j) S|_,_=>False
def yB{f:Value->Value->Sem Value}{g:Int->Int->Int}(h:fQ X f (uL fun i j=>.int (g i j))):gv X f (bN fun i j=>.int (g i j)):=⟨fun pins s σ H x y v u Q I rx ry ⟨px,py,S,Q3,r1,r2,rS,q,k⟩=>by
 cases px with
 |int i=>
  cases py with
  |int j=>cases r1;cases r2;exact h pins s σ H _ _ v u Q I rx ry ⟨i,j,rfl,rfl,k _ S _ H q (.int _) rS .refl⟩
  |_=>exact q.elim
 |_=>exact q.elim⟩
def jf{f:Value->Value->Sem Value}{g:Int->Int->Bool}(h:fQ X f (uL fun i j=>.bl (g i j))):gv X f (bN fun i j=>.bl (g i j)):=⟨fun pins s σ H x y v u Q I rx ry ⟨px,py,S,Q3,r1,r2,rS,q,k⟩=>by
 cases px with
 |int i=>
  cases py with
  |int j=>cases r1;cases r2;exact h pins s σ H _ _ v u Q I rx ry ⟨i,j,rfl,rfl,k _ S _ H q (.bl _) rS .refl⟩
  |_=>exact q.elim
 |_=>exact q.elim⟩
def kX{f:Value->Value->Sem Value}{C:Int->Int->Prop}{g:Int->Int->Int}(h:fQ X f (rI C fun i j=>.int (g i j))):gv X f (eU C fun i j=>.int (g i j)):=⟨fun pins s σ H x y v u Q I rx ry ⟨px,py,S,Q3,r1,r2,rS,q,k⟩=>by
 cases px with
 |int i=>
  cases py with
  |int j=>cases r1;cases r2;exact h pins s σ H _ _ v u Q I rx ry ⟨i,j,rfl,rfl,q.1,k _ S _ H q.2 (.int _) rS .refl⟩
  |_=>exact q.elim
 |_=>exact q.elim⟩
def jy(i j:Int):Prop:=j≠0/\j.natAbs < 2 ^ 8000
def nC{n:Nat}(h:n < 2 ^ 8000):n.log2 < 9000:=by
 by_cases z:n=0
 ·rw[z];decide +kernel
 ·exact Nat.lt_trans ((Nat.log2_lt z).mpr h) (by decide)
def yC:gv X (binaryOp .Sub) (bN fun i j=>.int (i - j)):=yB xW
def yD:gv X (binaryOp .Mod) (eU (fun _ j=>j≠0) fun i j=>.int (i.fmod j)):=kX u5
def vE:gv X (binaryOp .FloorDiv) (eU jy fun i j=>.int (i.fdiv j)):=kX (BV fun _ _ _ _ _ _ _ hc q=>PyProof.Rows.floordiv_int hc.1 q (.inl (PyProof.noPylong_of_log2 (nC hc.2))))
def yE:gv X (binaryOp .Pow) (eU xU fun i j=>.int (i ^ j.toNat)):=kX xX
def AM:gv X (compareOp .Lt) (bN fun i j=>.bl (decide (i < j))):=jf At
def AN:gv X (compareOp .LtE) (bN fun i j=>.bl (decide (i<=j))):=jf Au
def AO:gv X (compareOp .Gt) (bN fun i j=>.bl (decide (j < i))):=jf Av
def AQ:gv X (compareOp .GtE) (bN fun i j=>.bl (decide (j<=i))):=jf Aw
end
end L3
namespace L2
open PySem PySem.Spec PyProof.Rows
section
variable {X:Cx}
def AR(K:Vo):R2:=fun x y H Q=>∃a b xs ys,x = .ref a/\y = .ref b/\SqT K H a xs/\SqT K H b ys/\xs.length+ys.length<=sizeLine/\∀r H',(∀c o,H c=some o->H' c=some o)->SqT K H' r (xs++ys)->Q (.ref r) H'
def vF:fQ X (binaryOp .Add) (AR X.K):=by
 intro pins s σ H x y v u Q I rx ry h
 obtain⟨a,b,xs,ys,rfl,rfl,ha,hb,hz,q⟩:=h
 by_cases hx:xs=[]
 ·subst hx
  cases rx
  cases ry
  obtain⟨its,r1,p1,_⟩:=I.tuple ha
  obtain⟨its2,r2,p2,_⟩:=I.tuple hb
  cases r1
  obtain⟨⟨cls,dd,data,sl⟩,ho,hc,n,hd⟩:=id p1
  obtain⟨⟨Ki,dd2,data2,sl2⟩,ho2,hc2,n2,hd2⟩:=id p2
  simp only at hc hd hc2 hd2
  subst hc hd hc2 hd2
  exact concat_meets ⟨_,ho,rfl⟩ ⟨_,ho2,rfl⟩ noFill_tuple_add seq_tuple_add PySem.F.slot_tuple_add PySem.F.entry_tuple_add (PySem.F.args_tuple_add_2 _ _)
   (tuple_addW0 a b _ its2.toArray n n2 dd dd2 sl sl2 rfl) ⟨ho,ho2,⟨.ref b,H,I,rfl,q b H (fun _ _ e=>e) hb⟩⟩
 ·exact vm pins s σ H _ _ v u Q I rx ry ⟨a,b,xs,ys,rfl,rfl,ha,hb,hx,hz,fun e=>q a H (fun _ _ e=>e) (by rw[e,List.append_nil];exact ha),
   fun _ p hp=>q p _ (fun c o e=>by rw[aA (a9 e hp)];exact e) (SqT.of ay)⟩
end
end L2
namespace L3
open PySem L2
section
variable {X:Cx}
def aL:R3:=fun x y S Q=>match x,y with
 | .int i,.int j=>Q (.int (i+j)) S
 | .str i,.str j=>i.length+j.length<=sizeLine/\Q (.str (i++j)) S
 | .tup i,.tup j=>i.length+j.length<=sizeLine/\Q (.tup (i++j)) S
 | .ref i,.ref j=>match S i,S j with
  |some (.lst xs),some (.lst ys)=>xs.length+ys.length<=sizeLine/\∀p,S p=none->Q (.ref p) (Ee S p (.lst (xs++ys)))
  |_,_=>False
 |_,_=>False
def aI:gv X (binaryOp .Add) aL:=⟨fun pins s σ H x y v u Q I rx ry ⟨px,py,S,Q3,r1,r2,rS,q,k⟩=>by
 unfold aL at q
 split at q
 ·cases r1;cases r2
  exact xV pins s σ H _ _ v u Q I rx ry ⟨_,_,rfl,rfl,k _ S _ H q (.int _) rS .refl⟩
 ·cases r1;cases r2
  exact mV pins s σ H _ _ v u Q I rx ry ⟨_,_,rfl,rfl,q.1,k _ S _ H q.2 (.str _) rS .refl⟩
 ·cases r1 with
  |tup h1 s1=>
   cases r2 with
   |tup h2 s2=>
    refine vF pins s σ H _ _ v u Q I rx ry ⟨_,_,_,_,rfl,rfl,h1,h2,by rw[s1.length,s2.length];exact q.1,fun r H' hs hr=>?_⟩
    exact k _ S _ H' q.2 (.tup hr ((s1.mono (.same hs)).append (s2.mono (.same hs)))) (rS.grow hs) (.same hs)
 ·cases r1;cases r2
  split at q
  ·rename_i i j xs ys e1 e2
   obtain⟨vs,h1,s1⟩:=rS _ _ e1
   obtain⟨us,h2,s2⟩:=rS _ _ e2
   exact yo pins s σ H _ _ v u Q I rx ry ⟨_,_,_,_,rfl,rfl,h1,h2,by rw[s1.length,s2.length];exact q.1,fun p hp=>k _ _ _ _ (q.2 p (rS.free hp)) (.ref p) (rS.new hp ⟨_,ay,(s1.append s2).mono (.new hp)⟩) (.new hp)⟩
  ·exact q.elim
 ·exact q.elim⟩
end
mutual
inductive Dat (S:av):PV->PyData->Prop
 |non:Dat S .non .none
 |bl (b:Bool):Dat S (.bl b) (.bool b)
 |int (i:Int):Dat S (.int i) (.int i)
 |str (x:Str):Dat S (.str x) (.str x)
 |tup {ps:List PV} {ds:List PyData}:F_ S ps ds->Dat S (.tup ps) (.tuple ds)
 |cl {ps:List PV} {ds:List PyData}:F_ S ps ds->Dat S (.cl ps) (.list ds)
 |ref {a:Addr} {ps:List PV} {ds:List PyData}:S a=some (.lst ps)->F_ S ps ds->Dat S (.ref a) (.list ds)
inductive F_ (S:av):List PV->List PyData->Prop
 |nil:F_ S [] []
 |cons {p:PV} {d:PyData} {ps:List PV} {ds:List PyData}:Dat S p d->F_ S ps ds->F_ S (p::ps) (d::ds)
end
section
variable {X:Cx} {pins:Va} {σ:L2.St} {H:Hp} {s:Shared} {S:av}
def nE(I:Inv X pins σ H s)(rS:Ej X.K H S):(∀{p:PV} {d:PyData},Dat S p d->∀{v:V} {u:Value},Rep X.K H v p->RelV v u->∃as,Reads s.heap u d as)/\∀{ps:List PV} {ds:List PyData},F_ S ps ds->∀{vs:List V} {us:Vv},Reps X.K H vs ps->Vals vs us->∃as,ReadsAll s.heap us ds as:=by
 have one:=@Dat.rec S (motive_1:=fun p d _=>∀{v:V} {u:Value},Rep X.K H v p->RelV v u->∃as,Reads s.heap u d as) (motive_2:=fun ps ds _=>∀{vs:List V} {us:Vv},Reps X.K H vs ps->Vals vs us->∃as,ReadsAll s.heap us ds as)
 have two:=@F_.rec S (motive_1:=fun p d _=>∀{v:V} {u:Value},Rep X.K H v p->RelV v u->∃as,Reads s.heap u d as) (motive_2:=fun ps ds _=>∀{vs:List V} {us:Vv},Reps X.K H vs ps->Vals vs us->∃as,ReadsAll s.heap us ds as)
 have c1:∀{v:V} {u:Value},Rep X.K H v .non->RelV v u->∃as,Reads s.heap u .none as:=fun h r=>by cases h;cases r;exact⟨_,.none⟩
 have c2:∀(b:Bool) {v:V} {u:Value},Rep X.K H v (.bl b)->RelV v u->∃as,Reads s.heap u (.bool b) as:=fun b _ _ h r=>by cases h;cases r;exact⟨_,.bool b⟩
 have c3:∀(i:Int) {v:V} {u:Value},Rep X.K H v (.int i)->RelV v u->∃as,Reads s.heap u (.int i) as:=fun i _ _ h r=>by cases h;obtain⟨t,rfl⟩:=r;exact⟨_,.int i t⟩
 have c4:∀(x:Str) {v:V} {u:Value},Rep X.K H v (.str x)->RelV v u->∃as,Reads s.heap u (.str x) as:=fun x _ _ h r=>by cases h;obtain⟨t,rfl⟩:=r;exact⟨_,.str x t⟩
 have c5:∀{ps:List PV} {ds:List PyData},F_ S ps ds->(∀{vs:List V} {us:Vv},Reps X.K H vs ps->Vals vs us->∃as,ReadsAll s.heap us ds as)->∀{v:V} {u:Value},Rep X.K H v (.tup ps)->RelV v u->∃as,Reads s.heap u (.tuple ds) as:=fun _ ih _ _ h r=>by
  cases h with
  |tup h rs=>
   cases r
   obtain⟨its,rv,⟨o,ho,hc,n,hd⟩,hz⟩:=I.tuple h
   obtain⟨as,q⟩:=ih rs rv
   exact⟨as,.tuple ho hc hd (by simpa using q)⟩
 have c6:∀{ps:List PV} {ds:List PyData},F_ S ps ds->(∀{vs:List V} {us:Vv},Reps X.K H vs ps->Vals vs us->∃as,ReadsAll s.heap us ds as)->∀{v:V} {u:Value},Rep X.K H v (.cl ps)->RelV v u->∃as,Reads s.heap u (.list ds) as:=fun _ ih _ _ h r=>by
  cases h with
  |cl h rs=>
   cases r
   obtain⟨its,rv,⟨o,n,ho,hc,_,hd⟩,hz⟩:=I.list h.sq
   obtain⟨as,q⟩:=ih rs rv
   exact⟨_,.list ho hc hd (by simpa using q)⟩
 have c7:∀{a:Addr} {ps:List PV} {ds:List PyData},S a=some (.lst ps)->F_ S ps ds->(∀{vs:List V} {us:Vv},Reps X.K H vs ps->Vals vs us->∃as,ReadsAll s.heap us ds as)->∀{v:V} {u:Value},Rep X.K H v (.ref a)->RelV v u->∃as,Reads s.heap u (.list ds) as:=fun e _ ih _ _ h r=>by
  cases h
  cases r
  obtain⟨vs,hv,rs⟩:=rS _ _ e
  obtain⟨its,rv,⟨o,n,ho,hc,_,hd⟩,hz⟩:=I.list (SqL.of hv)
  obtain⟨as,q⟩:=ih rs rv
  exact⟨_,.list ho hc hd (by simpa using q)⟩
 have c8:∀{vs:List V} {us:Vv},Reps X.K H vs []->Vals vs us->∃as,ReadsAll s.heap us [] as:=fun h r=>by cases h;cases r;exact⟨_,.nil⟩
 have c9:∀{p:PV} {d:PyData} {ps:List PV} {ds:List PyData},Dat S p d->F_ S ps ds->(∀{v:V} {u:Value},Rep X.K H v p->RelV v u->∃as,Reads s.heap u d as)->(∀{vs:List V} {us:Vv},Reps X.K H vs ps->Vals vs us->∃as,ReadsAll s.heap us ds as)->∀{vs:List V} {us:Vv},Reps X.K H vs (p::ps)->Vals vs us->∃as,ReadsAll s.heap us (d::ds) as:=fun _ _ i1 i2 _ _ h r=>by
  cases h with
  |cons a rs=>
   cases r with
   |cons r1 r2=>
    obtain⟨as,q⟩:=i1 a r1
    obtain⟨bs,q2⟩:=i2 rs r2
    exact⟨_,.cons q q2⟩
 exact⟨fun h=>one c1 c2 c3 c4 c5 c6 c7 c8 c9 h,fun h=>two c1 c2 c3 c4 c5 c6 c7 c8 c9 h⟩
def Dat.reads(I:Inv X pins σ H s)(rS:Ej X.K H S){p:PV}{d:PyData}{v:V}{u:Value}(h:Dat S p d)(r:Rep X.K H v p)(r2:RelV v u):∃as,Reads s.heap u d as:=(nE I rS).1 h r r2
end
section
variable {X:Cx}
def e9(neg:Bool):R3:=fun x y S Q=>match x,y with
 | .int i,.int j=>Q (.bl (neg != decide (i=j))) S
 | .str i,.str j=>Q (.bl (neg != decide (i=j))) S
 | .bl i,.bl j=>Q (.bl (neg != decide (i=j))) S
 |x,y=>∃d d',Dat S x d/\Dat S y d'/\d.canLay0=true/\d'.canLay0=true/\min d.depth d'.depth<=150/\Q (.bl (neg != PyData.eqv d d')) S
def AS(hu:X.A.units+150 < cLine):gv X (compareOp .Eq) (e9 false):=⟨fun pins s σ H x y v u Q I rx ry ⟨px,py,S,Q3,r1,r2,rS,q,k⟩=>by
 unfold e9 at q
 split at q
 ·cases r1;cases r2
  exact rG pins s σ H _ _ v u Q I rx ry ⟨rfl,k _ S _ H (by simpa using q) (.bl _) rS .refl⟩
 ·cases r1;cases r2
  exact rG pins s σ H _ _ v u Q I rx ry ⟨rfl,k _ S _ H (by simpa using q) (.bl _) rS .refl⟩
 ·cases r1;cases r2
  exact rG pins s σ H _ _ v u Q I rx ry ⟨rfl,k _ S _ H (by simpa using q) (.bl _) rS .refl⟩
 ·obtain⟨d,d',h1,h2,c1,c2,hd,q⟩:=q
  obtain⟨as,a1⟩:=h1.reads I rS r1 rx
  obtain⟨bs,a2⟩:=h2.reads I rS r2 ry
  exact SeqAt.compareEq_reads a1 a2 c1 c2 (by omega) ⟨.bl _,H,I,rfl,k _ S _ H (by simpa using q) (.bl _) rS .refl⟩⟩
def AT(hu:X.A.units+150 < cLine):gv X (compareOp .NotEq) (e9 true):=⟨fun pins s σ H x y v u Q I rx ry ⟨px,py,S,Q3,r1,r2,rS,q,k⟩=>by
 unfold e9 at q
 split at q
 ·cases r1;cases r2
  exact rH pins s σ H _ _ v u Q I rx ry ⟨rfl,k _ S _ H (by simpa using q) (.bl _) rS .refl⟩
 ·cases r1;cases r2
  exact rH pins s σ H _ _ v u Q I rx ry ⟨rfl,k _ S _ H (by simpa using q) (.bl _) rS .refl⟩
 ·cases r1;cases r2
  exact rH pins s σ H _ _ v u Q I rx ry ⟨rfl,k _ S _ H (by simpa using q) (.bl _) rS .refl⟩
 ·obtain⟨d,d',h1,h2,c1,c2,hd,q⟩:=q
  obtain⟨as,a1⟩:=h1.reads I rS r1 rx
  obtain⟨bs,a2⟩:=h2.reads I rS r2 ry
  exact SeqAt.compareNe_reads a1 a2 c1 c2 (by omega) ⟨.bl _,H,I,rfl,k _ S _ H (by simpa using q) (.bl _) rS .refl⟩⟩
def iA(neg:Bool):R3:=fun x y S Q=>match y with
 | .non=>Q (.bl (neg != match x with | .non=>true|_=>false)) S
 | .bl true=>match x with | .bl true=>Q (.bl (neg != true)) S|_=>False
 |_=>False
def ko:gv X (compareOp .Is) (iA false):=⟨fun pins s σ H x y v u Q I rx ry ⟨px,py,S,Q3,r1,r2,rS,q,k⟩=>by
 unfold iA at q
 split at q
 ·cases r2
  refine xZ pins s σ H _ _ v u Q I rx ry ⟨rfl,?_⟩
  cases r1<;>exact k _ S _ H (by simpa using q) (.bl _) rS .refl
 ·cases r2
  split at q
  ·cases r1
   exact yw pins s σ H _ _ v u Q I rx ry ⟨rfl,rfl,k _ S _ H (by simpa using q) (.bl _) rS .refl⟩
  ·exact q.elim
 ·exact q.elim⟩
def l8:gv X (compareOp .IsNot) (iA true):=⟨fun pins s σ H x y v u Q I rx ry ⟨px,py,S,Q3,r1,r2,rS,q,k⟩=>by
 unfold iA at q
 split at q
 ·cases r2
  refine u6 pins s σ H _ _ v u Q I rx ry ⟨rfl,?_⟩
  cases r1<;>exact k _ S _ H (by simpa using q) (.bl _) rS .refl
 ·cases r2
  split at q
  ·cases r1
   exact qz pins s σ H _ _ v u Q I rx ry ⟨rfl,rfl,k _ S _ H (by simpa using q) (.bl _) rS .refl⟩
  ·exact q.elim
 ·exact q.elim⟩
noncomputable def e_(S:av):PV->Option (List PV)
 | .tup xs=>some xs
 | .cl xs=>some xs
 | .ref a=>match S a with|some (.lst xs)=>some xs|_=>none
 |_=>none
def yF{H:Hp}{S:av}{v:V}{p:PV}{xs:List PV}(rS:Ej X.K H S)(r:Rep X.K H v p)(h:e_ S p=some xs):∃a vs,v = .ref a/\(SqL X.K H a vs\/SqT X.K H a vs)/\Reps X.K H vs xs:=by
 unfold e_ at h
 split at h
 ·cases h;cases r with|tup h1 rs=>exact⟨_,_,rfl,.inr h1,rs⟩
 ·cases h;cases r with|cl h1 rs=>exact⟨_,_,rfl,.inl h1.sq,rs⟩
 ·cases r
  split at h
  ·rename_i e
   cases h
   obtain⟨vs,hv,rs⟩:=rS _ _ e
   exact⟨_,vs,rfl,.inl (SqL.of hv),rs⟩
  ·cases h
 ·cases h
theorem Eo.any{K:Vo}{H:Hp}{κ:Type} [DecidableEq κ](k:κ):∀{vs:List (κ×V)} {ps:List (κ×PV)},Eo K H vs ps->(iw vs k).isSome=ps.any fun kv=>decide (kv.1=k)
 |_,_,.nil=>rfl
 |_,_,.cons (k:=k') a r=>by
  rw[List.any_cons,<-Eo.any k r]
  by_cases e:k'=k
  ·rw[Fw e];simp[e]
  ·rw[Fx e];simp[e]
end
end L3
namespace HT
open PySem PySem.Spec PyProof.Rows
section
variable {prog:Program} {w:World} {A:Around} {E:Vq} {s:Shared}
def gW{t sl:Addr}{items:Vw}{vl vu:Value}{lo hi:Option Int}{Q:Vq}(ht:IsTup s.heap t items)(hs:s.heap.IsSliceOf sl vl vu .none)(pl:IsPart vl lo)(pu:IsPart vu hi)
  (hw:Ew items.size 0 lo=0/\Ew items.size items.size hi=items.size)
  (h:Q (.ref t) s):wpAny (model prog w) A (getItem (.ref t) (.ref sl)) Q E s:=by
 obtain⟨os,hos,hcs,hds⟩:=id hs
 have Kj:s.TypeIs (.ref sl) "slice":=⟨os,hos,hcs⟩
 unfold getItem
 try with_reducible refine wpAny_holding ?_
 first|refine wpAny_bind (wpAny_pure ?_)|skip
 refine wpAny_bind (wpAny_sequenceKey ht.typeIs (by decide) ?_)
 refine wpAny_bind (wpAny_callSpecial?_slot (name:=Str.ofString "__getitem__") ht.typeIs PyProof.Rows.slot_tuple_getitem
  (wpAny_call_entry PyProof.Rows.slot_tuple_getitem ht.typeIs entry_tuple_getitem ?_ (args_tuple_getitem _ _)))
 show wpAny _ _ (Builtin.Tuple.tupleItemsOf (.ref t) >>= _) _ _ s
 refine wpAny_bind (tupleItemsOf_ ht ?_)
 refine wpAny_bind (wpAny_typeOf Kj ?_)
 rw[if_pos (by decide)]
 refine wpAny_bind (dU hs pl pu ?_)
 have hyes:(((Ew items.size 0 lo:Nat):Int) == 0&&(1:Int) == 1&&(Ew items.size items.size hi - Ew items.size 0 lo) == items.size)=true:=by
  rw[hw.1,hw.2];simp
 show wpAny _ _ (if (((Ew items.size 0 lo:Nat):Int) == 0&&(1:Int) == 1&&(Ew items.size items.size hi - Ew items.size 0 lo) == items.size)=true then _ else _) _ _ s
 rw[if_pos hyes]
 unfold Builtin.Tuple.tupleIsExact
 refine wpAny_bind (wpAny_bind (wpAny_typeOf ht.typeIs (wpAny_pure ?_)))
 rw[if_pos (by decide)]
 first
  |exact wpAny_bind (wpAny_rule (wpAny_pure ⟨_,rfl,wpAny_pure h⟩))
  |exact wpAny_bind (wpAny_rule (wpAny_bind (wpAny_pure (wpAny_pure ⟨_,rfl,wpAny_pure h⟩))))
  |exact wpAny_bind (wpAny_rule (wpAny_bind (wpAny_pure ⟨_,rfl,wpAny_pure h⟩)))
end
end HT
namespace L2
open PySem PySem.Spec PyProof.Rows
section
variable {X:Cx}
noncomputable def AU(K:Vo):V->Option Int->Option Int->Hp->VK->Prop:=fun x lo hi H Q=>∃a xs,x = .ref a/\SqT K H a xs/\∀r H',(∀c o,H c=some o->H' c=some o)->SqT K H' r (jo xs lo hi)->Q (.ref r) H'
def vG:zQ X (AU X.K):=by
 intro pins s σ H x v vl vu lo hi sl Q I rx hs pl pu h
 obtain⟨a,xs,rfl,hx,q⟩:=h
 by_cases hw:HT.Ew xs.length 0 lo=0/\HT.Ew xs.length xs.length hi=xs.length
 ·cases rx
  obtain⟨its,r,ht,hz⟩:=I.tuple hx
  have hlen:its.toArray.size=xs.length:=by rw[List.size_toArray];exact r.length.symm
  refine⟨"tuple",_,PyProof.Rows.slot_tuple_getitem.lookup,ht.typeIs,HT.gW ht hs pl pu (by rw[hlen];exact hw) ⟨.ref a,H,I,rfl,q a H (fun _ _ e=>e) ?_⟩⟩
  have e:jo xs lo hi=xs:=by unfold jo;rw[hw.1,hw.2];simp
  rw[e];exact hx
 ·exact yh pins s σ H _ v vl vu lo hi sl Q I rx hs pl pu ⟨a,xs,rfl,hx,hw,fun p hp=>q p _ (fun c o e=>by rw[aA (a9 e hp)];exact e) (SqT.of ay)⟩
def vH(hu:X.A.units+1 < cLine):zR X (fun x y H Q=>∃a v,x = .ref a/\DGet H a y (some v)/\Q v H):=by
 intro value slice pins s σ H x y v u Q I rx ry h hs
 obtain⟨a,z,rfl,g,q⟩:=h
 cases rx
 exact tail_any (lV I g) PySem.F.slot_dict_getitem.lookup (ql hu I g ry fun w' s3 I3 rw'=>⟨z,H,I3,rw',q⟩) hs
def sG(hu:X.A.units+1 < cLine):uX X (fun o i v H Q=>∃a H',o = .ref a/\Hx H a i v H'/\Q H'):=by
 intro pins s σ H o i v ov iv u Q I ro ri rv h
 obtain⟨a,H',rfl,g,q⟩:=h
 cases ro
 exact qm hu I g ri rv fun s' I'=>⟨H',I',q⟩
end
end L2
namespace L3
open PySem L2
theorem Reps.ER{K:Vo}{H:Hp}{vs:List V}{ps:List PV}{i:Int}{p:PV}(r:Reps K H vs ps)(h:L2.ER ps i=some p):∃v,L2.ER vs i=some v/\Rep K H v p:=by
 unfold L2.ER at h ⊢
 rw[r.length]
 cases e:oI ps.length i with
 |none=>rw[e]at h;cases h
 |some j=>
  rw[e]at h
  obtain⟨v,h1,h2⟩:=r.get h
  exact⟨v,h1,h2⟩
noncomputable def nF:PV->Option bZ
 | .int i=>some (.inl i)
 | .str x=>some (.inr x)
 |_=>none
def gr{K:Vo}{H:Hp}{v:V}{p:PV}{k:bZ}(r:Rep K H v p)(h:nF p=some k):v=kV k:=by
 cases p with
 |int i=>cases h;cases r;rfl
 |str i=>cases h;cases r;rfl
 |_=>cases h
noncomputable def j0{κ:Type} [DecidableEq κ]:List (κ×PV)->κ->Option PV
 |[],_=>none
 |(k',v)::r,k=>if k'=k then some v else j0 r k
theorem Eo.val{K:Vo}{H:Hp}{κ:Type} [DecidableEq κ]{k:κ}{p:PV}:∀{vs:List (κ×V)} {ps:List (κ×PV)},Eo K H vs ps->j0 ps k=some p->∃v,iw vs k=some v/\Rep K H v p
 |_,_,.nil,h=>by cases h
 |_,_,.cons (k:=k') a r,h=>by
  unfold j0 at h
  split at h
  ·rename_i e;cases h;exact⟨_,Fw e,a⟩
  ·rename_i e;rw[Fx e];exact Eo.val r h
section
variable {X:Cx} {a b e lo hi:Expr} {ta tb te:aT} {pos p2:Pos}
structure Dq (X:Cx) (r:R3):Prop where
 ok:zR X (LR X r)
def AV{r:R3}(hr:Dq X r)(ha:bj X a ta)(hb:bj X b tb)(hs:je b):bj X (.Subscript a b pos) (af r ta tb):=⟨aR (AD hr.ok ha.ok hb.ok hs) fun _ _ _=>gT⟩
def ak:R3:=fun x y S Q=>match x with
 | .tup xs=>match y with | .int i=>(match ER xs i with|some v=>Q v S|none=>False)|_=>False
 | .cl xs=>match y with | .int i=>(match ER xs i with|some v=>Q v S|none=>False)|_=>False
 | .str z=>match y with | .int i=>z.length<=sizeLine/\(match ER z.cps.toList i with|some c=>Q (.str ⟨#[c]⟩) S|none=>False)|_=>False
 | .ref a=>match S a with
  |some (.lst xs)=>(match y with | .int i=>(match ER xs i with|some v=>Q v S|none=>False)|_=>False)
  |some (.dct kvs)=>(match nF y with|some k=>(match j0 kvs k with|some v=>Q v S|none=>False)|none=>False)
  |_=>False
 |_=>False
def Dr(hu:X.A.units+1 < cLine):Dq X ak:=⟨fun value slice pins s σ H x y v u Q I rx ry ⟨px,py,S,Q3,r1,r2,rS,q,k⟩ hs=>by
 unfold ak at q
 split at q
 ·split at q
  ·split at q
   ·rename_i e
    cases r2
    cases r1 with
    |tup h1 rs=>
     obtain⟨w,hw,rw'⟩:=rs.ER e
     exact yi value slice pins s σ H _ _ v u Q I rx ry ⟨_,_,_,w,rfl,rfl,h1,hw,k _ S _ H q rw' rS .refl⟩ hs
   ·exact q.elim
  ·exact q.elim
 ·split at q
  ·split at q
   ·rename_i e
    cases r2
    cases r1 with
    |cl h1 rs=>
     obtain⟨w,hw,rw'⟩:=rs.ER e
     exact oK value slice pins s σ H _ _ v u Q I rx ry ⟨_,_,_,w,rfl,rfl,h1.sq,hw,k _ S _ H q rw' rS .refl⟩ hs
   ·exact q.elim
  ·exact q.elim
 ·split at q
  ·obtain⟨hz,q⟩:=q
   split at q
   ·rename_i e
    cases r1;cases r2
    exact yj value slice pins s σ H _ _ v u Q I rx ry ⟨_,_,_,rfl,rfl,hz,e,k _ S _ H q (.str _) rS .refl⟩ hs
   ·exact q.elim
  ·exact q.elim
 ·split at q
  ·rename_i e0
   split at q
   ·split at q
    ·rename_i e
     cases r1;cases r2
     obtain⟨vs,hv,rs⟩:=rS _ _ e0
     obtain⟨w,hw,rw'⟩:=rs.ER e
     exact oK value slice pins s σ H _ _ v u Q I rx ry ⟨_,_,_,w,rfl,rfl,SqL.of hv,hw,k _ S _ H q rw' rS .refl⟩ hs
    ·exact q.elim
   ·exact q.elim
  ·rename_i e0
   split at q
   ·rename_i ek
    split at q
    ·rename_i ev
     cases r1
     have e1:=gr r2 ek
     subst e1
     obtain⟨kv,hv,rk⟩:=rS _ _ e0
     obtain⟨w,hw,rw'⟩:=rk.val ev
     refine vH hu value slice pins s σ H _ _ v u Q I rx ry ⟨_,w,rfl,?_,k _ S _ H q rw' rS .refl⟩ hs
     rw[<-hw]
     exact DGet.k hv
    ·exact q.elim
   ·exact q.elim
  ·exact q.elim
 ·exact q.elim⟩
abbrev zS:=cK->av->(Option Int->av->Prop)->b9->Prop
noncomputable def LO(X:Cx)(t:zS):TO:=fun σ H Q=>∃σ3 S Q3 E3,Ep X.K H σ σ3/\Ej X.K H S/\t σ3 S Q3 E3/\Ht X H E3/\∀o S' H',Q3 o S'->Ej X.K H' S'->Grow X.K H H'->Q o H'
structure B5 (X:Cx) (e:Option Expr) (t:zS):Prop where
 ok:PO X e (LO X t)
noncomputable def jU:zS:=fun _ S Q _=>Q none S
noncomputable def fY(t:aT):zS:=fun σ S Q E=>t σ S (fun v S'=>match v with | .int i=>Q (some i) S'|_=>False) E
def sH{e:Option Expr}{t t':TO}(h:PO X e t)(k:∀σ H Q,t' σ H Q->t σ H Q):PO X e t':=fun pins s σ H Q I q=>h pins s σ H Q I (k σ H Q q)
def eC:B5 X none jU:=⟨sH vj fun σ H Q ⟨σ3,S,Q3,E3,rσ,rS,h,xo,k⟩=>k none S H h rS .refl⟩
def cw(h:bj X e te):B5 X (some e) (fY te):=⟨sH (vk h.ok) fun σ H Q ⟨σ3,S,Q3,E3,rσ,rS,h,xo,k⟩=>⟨σ3,S,_,E3,rσ,rS,h,xo,fun p S' v H' h1 rv Fy g=>by
 cases p with
 |int i=>cases rv;exact⟨i,rfl,k _ S' H' h1 Fy g⟩
 |_=>exact h1.elim⟩⟩
noncomputable def dB{α:Type}(xs:List α)(lo hi:Option Int):List α:=(xs.drop (HT.Ew xs.length 0 lo)).take (HT.Ew xs.length xs.length hi - HT.Ew xs.length 0 lo)
def Reps.cut{K:Vo}{H:Hp}{vs:List V}{ps:List PV}(r:Reps K H vs ps)(lo hi:Option Int):Reps K H (jo vs lo hi) (dB ps lo hi):=by
 unfold jo dB
 rw[r.length]
 exact(r.drop _).take _
def fm(x:PV)(lo hi:Option Int)(S:av)(Q:bH):Prop:=match x with
 | .tup xs=>Q (.tup (dB xs lo hi)) S
 | .cl xs=>∀p,S p=none->Q (.ref p) (Ee S p (.lst (dB xs lo hi)))
 | .str z=>z.length<=sizeLine/\Q (.str (Txt.slice z lo hi)) S
 | .ref a=>match S a with|some (.lst xs)=>∀p,S p=none->Q (.ref p) (Ee S p (.lst (dB xs lo hi)))|_=>False
 |_=>False
noncomputable def DR(X:Cx):V->Option Int->Option Int->Hp->VK->Prop:=fun x lo hi H Q=>∃px S Q3,Rep X.K H x px/\Ej X.K H S/\fm px lo hi S Q3/\Hu X.K H Q3 Q
def DS:zQ X (DR X):=by
 intro pins s σ H x v vl vu lo hi sl Q I rx hs pl pu ⟨px,S,Q3,r1,rS,q,k⟩
 unfold fm at q
 split at q
 ·cases r1 with
  |tup h1 rs=>exact vG pins s σ H _ v vl vu lo hi sl Q I rx hs pl pu ⟨_,_,rfl,h1,fun r H' hh hr=>k _ S _ H' q (.tup hr ((rs.cut lo hi).mono (.same hh))) (rS.grow hh) (.same hh)⟩
 ·cases r1 with
  |cl h1 rs=>exact oM pins s σ H _ v vl vu lo hi sl Q I rx hs pl pu ⟨_,_,rfl,h1.sq,fun p hp=>k _ _ _ _ (q p (rS.free hp)) (.ref p) (rS.new hp ⟨_,ay,(rs.cut lo hi).mono (.new hp)⟩) (.new hp)⟩
 ·cases r1
  exact yu pins s σ H _ v vl vu lo hi sl Q I rx hs pl pu ⟨_,rfl,q.1,k _ S _ H q.2 (.str _) rS .refl⟩
 ·split at q
  ·rename_i e
   cases r1
   obtain⟨vs,hv,rs⟩:=rS _ _ e
   exact oM pins s σ H _ v vl vu lo hi sl Q I rx hs pl pu ⟨_,_,rfl,SqL.of hv,fun p hp=>k _ _ _ _ (q p (rS.free hp)) (.ref p) (rS.new hp ⟨_,ay,(rs.cut lo hi).mono (.new hp)⟩) (.new hp)⟩
  ·exact q.elim
 ·exact q.elim
def aU(te:aT)(tl th:zS):aT:=fun σ S Q E=>te σ S (fun x S1=>tl σ S1 (fun l S2=>th σ S2 (fun u S3=>fm x l u S3 Q) E) E) E
def ck{lo hi:Option Expr}{tl th:zS}(he:bj X e te)(hl:B5 X lo tl)(hu:B5 X hi th):bj X (.Subscript e (.Slice lo hi none p2) pos) (aU te tl th):=
 ⟨aR (rV DS he.ok hl.ok hu.ok) fun σ H Q ⟨σ3,S,Q3,E3,rσ,rS,h,xo,k⟩=>⟨σ3,S,_,E3,rσ,rS,h,xo,fun x S1 v H1 h1 rx Er g1=>⟨σ3,S1,_,E3,rσ.mono g1,Er,h1,xo.mono g1,fun l S2 H2 h2 FM g2=>
  ⟨σ3,S2,_,E3,rσ.mono (g1.trans g2),FM,h2,xo.mono (g1.trans g2),fun u S3 H3 h3 Ju g3=>⟨x,S3,Q3,rx.mono (g2.trans g3),Ju,h3,k.mono (g1.trans (g2.trans g3))⟩⟩⟩⟩⟩
def vI:fQ X (binaryOp .Mult) (rI IntMulOk fun i j=>.int (i * j)):=BV fun _ _ _ _ _ _ _ hc q=>PyProof.Rows.mul_int q hc
def aO:R3:=fun x y S Q=>match x,y with
 | .int i,.int j=>IntMulOk i j/\Q (.int (i * j)) S
 | .ref a,.int j=>(match S a with|some (.lst xs)=>-(2 ^ 63)<=j/\j < 2 ^ 63/\xs.length * j.toNat<=sizeLine/\∀p,S p=none->Q (.ref p) (Ee S p (.lst (List.replicate j.toNat xs).flatten))|_=>False)
 |_,_=>False
theorem Reps.rep{K:Vo}{H:Hp}{vs:List V}{ps:List PV}(r:Reps K H vs ps):∀n:Nat,Reps K H (List.replicate n vs).flatten (List.replicate n ps).flatten
 |0=>.nil
 |n+1=>by
  rw[List.replicate_succ,List.replicate_succ,List.flatten_cons,List.flatten_cons]
  exact r.append (Reps.rep r n)
def aJ:gv X (binaryOp .Mult) aO:=⟨fun pins s σ H x y v u Q I rx ry ⟨px,py,S,Q3,r1,r2,rS,q,k⟩=>by
 unfold aO at q
 split at q
 ·cases r1;cases r2
  exact vI pins s σ H _ _ v u Q I rx ry ⟨_,_,rfl,rfl,q.1,k _ S _ H q.2 (.int _) rS .refl⟩
 ·split at q
  ·rename_i e
   cases r1;cases r2
   obtain⟨vs,hv,rs⟩:=rS _ _ e
   exact yp pins s σ H _ _ v u Q I rx ry ⟨_,_,_,rfl,rfl,hv,q.1,q.2.1,by rw[rs.length];exact q.2.2.1,fun p hp=>k _ _ _ _ (q.2.2.2 p (rS.free hp)) (.ref p) (rS.new hp ⟨_,ay,(rs.rep _).mono (.new hp)⟩) (.new hp)⟩
  ·exact q.elim
 ·exact q.elim⟩
end
end L3
namespace L2
open PySem PySem.Spec PyProof.Rows
end L2
namespace L3
open PySem L2
abbrev mP:=List PV->av->bH->Prop
section
variable {X:Cx} {e o:Expr} {es:List Expr} {te to:aT} {ts:List aT} {x:Str} {p pos apos cpos:Pos}
noncomputable def LC(X:Cx)(r:mP):List V->Hp->VK->Prop:=fun xs H Q=>∃ps S Q3,Reps X.K H xs ps/\Ej X.K H S/\r ps S Q3/\Hu X.K H Q3 Q
structure eV (X:Cx) (f:Value) (r:mP):Prop where
 ok:eR X f (LC X r)
def aj(r:mP)(ts:List aT):aT:=fun σ S Q E=>ag ts σ S (fun ps S1=>r ps S1 Q) E
def oU{r:mP}{σ:L2.St}{H:Hp}{Q:VK}:LE X (aj r ts) σ H Q->BZ (ts.map (LE X)) σ H fun vs H1=>LC X r vs H1 Q:=fun⟨σ3,S,Q3,E3,rσ,rS,h,xo,k⟩=>
 cA rσ rS h xo fun ps S' vs H' hl q rv Fy g=>⟨ps,S',Q3,rv,Fy,q,k.mono g⟩
def vJ{id:String}{r:mP}(hc:eV X (.builtin id) r)(hg:Gl X x)(hm:X.mg x=none)(hv:bootBuiltins x=some (.builtin id))(he:starEach (e::es) X.env=(false,eval e X.env)::starEach es X.env)(ha:jw X (e::es) ts)
  (hn:x ≠ "__name__":=by decide) (hdb:(x == ("__debug__":Str))=false:=by decide) (hpl:(backTo pos (starEach es X.env)).any (·.1)=false:=by rfl):bj X (.Call (.Name x p) (e::es) [] pos) (aj r ts):=
 ⟨aR (rR hc.ok hg hm hv ha.ok hn hdb he hpl) fun _ _ _=>oU⟩
def vK{id:String}{r:mP}(hc:eV X (.type id) r)(hg:Gl X x)(hm:X.mg x=none)(hv:bootBuiltins x=some (.type id))(he:starEach (e::es) X.env=(false,eval e X.env)::starEach es X.env)(ha:jw X (e::es) ts)
  (hn:x ≠ "__name__":=by decide) (hdb:(x == ("__debug__":Str))=false:=by decide) (hpl:(backTo pos (starEach es X.env)).any (·.1)=false:=by rfl):bj X (.Call (.Name x p) (e::es) [] pos) (aj r ts):=
 ⟨aR (qi hc.ok hg hm hv ha.ok hn hdb he hpl) fun _ _ _=>oU⟩
def bg:mP:=fun ps S Q=>match ps with
 |[.tup xs]=>Q (.int xs.length) S
 |[.cl xs]=>Q (.int xs.length) S
 |[.str z]=>z.length<=sizeLine/\Q (.int z.length) S
 |[.ref a]=>(match S a with|some (.lst xs)=>Q (.int xs.length) S|some (.dct kvs)=>Q (.int kvs.length) S|_=>False)
 |_=>False
def b6:eV X (.builtin "len") bg:=⟨fun pins s σ H xs us Q I r ⟨ps,S,Q3,rp,rS,q,k⟩=>by
 unfold bg at q
 split at q
 ·cases rp with|cons a rr=>cases rr;cases a with|tup h rs=>exact eA pins s σ H _ us Q I r ⟨_,_,rfl,.inr h,by rw[rs.length];exact k _ S _ H q (.int _) rS .refl⟩
 ·cases rp with|cons a rr=>cases rr;cases a with|cl h rs=>exact eA pins s σ H _ us Q I r ⟨_,_,rfl,.inl h.sq,by rw[rs.length];exact k _ S _ H q (.int _) rS .refl⟩
 ·cases rp with|cons a rr=>cases rr;cases a;exact kQ pins s σ H _ us Q I r ⟨_,rfl,q.1,k _ S _ H q.2 (.int _) rS .refl⟩
 ·cases rp with
  |cons a rr=>
   cases rr;cases a
   split at q
   ·rename_i e
    obtain⟨vs,hv,rs⟩:=rS _ _ e
    exact eA pins s σ H _ us Q I r ⟨_,_,rfl,.inl (SqL.of hv),by rw[rs.length];exact k _ S _ H q (.int _) rS .refl⟩
   ·rename_i e
    obtain⟨vs,hv,rs⟩:=rS _ _ e
    exact qq pins s σ H _ us Q I r ⟨_,_,rfl,hv,by rw[rs.length];exact k _ S _ H q (.int _) rS .refl⟩
   ·exact q.elim
 ·exact q.elim⟩
def qA:mP:=fun ps S Q=>match ps with|[.int i]=>Q (.int (if i < 0 then -i else i)) S|_=>False
def AW:eV X (.builtin "abs") qA:=⟨fun pins s σ H xs us Q I r ⟨ps,S,Q3,rp,rS,q,k⟩=>by
 unfold qA at q
 split at q
 ·cases rp with|cons a rr=>cases rr;cases a;exact rJ pins s σ H _ us Q I r ⟨_,rfl,k _ S _ H q (.int _) rS .refl⟩
 ·exact q.elim⟩
def jz:mP:=fun ps S Q=>match ps with|[.int i,.int j]=>Q (.int (if j > i then j else i)) S|_=>False
def sI(hc:X.calm=true):eV X (.builtin "max") jz:=⟨fun pins s σ H xs us Q I r ⟨ps,S,Q3,rp,rS,q,k⟩=>by
 unfold jz at q
 split at q
 ·cases rp with|cons a rr=>cases rr with|cons b r3=>cases r3;cases a;cases b;exact qe hc pins s σ H _ us Q I r ⟨_,_,rfl,k _ S _ H q (.int _) rS .refl⟩
 ·exact q.elim⟩
def jA:mP:=fun ps S Q=>match ps with|[.int i]=>Q (.int i) S|[.bl b]=>Q (.int (if b then 1 else 0)) S|_=>False
def AX:eV X (.type "int") jA:=⟨fun pins s σ H xs us Q I r ⟨ps,S,Q3,rp,rS,q,k⟩=>by
 unfold jA at q
 split at q
 ·cases rp with|cons a rr=>cases rr;cases a;exact j_ pins s σ H _ us Q I r (.inl ⟨_,rfl,k _ S _ H q (.int _) rS .refl⟩)
 ·cases rp with|cons a rr=>cases rr;cases a;exact j_ pins s σ H _ us Q I r (.inr ⟨_,rfl,k _ S _ H q (.int _) rS .refl⟩)
 ·exact q.elim⟩
def aD:mP:=fun ps S Q=>match ps with
 |[v]=>(match e_ S v with|some xs=>Q (.tup xs) S|none=>False)
 |_=>False
def cr:eV X (.type "tuple") aD:=⟨fun pins s σ H xs us Q I r ⟨ps,S,Q3,rp,rS,q,k⟩=>by
 unfold aD at q
 split at q
 ·cases rp with
  |cons a rr=>
   cases rr
   split at q
   ·rename_i e
    obtain⟨b,vs,rfl,hs,rs⟩:=yF rS a e
    rcases hs with hs|hs
    ·exact fW pins s σ H _ us Q I r ⟨_,_,rfl,.inl ⟨hs,fun p hp=>k _ S _ _ q (.tup (SqT.of ay) (rs.mono (.new hp))) (rS.other hp) (.new hp)⟩⟩
    ·exact fW pins s σ H _ us Q I r ⟨_,_,rfl,.inr ⟨hs,k _ S _ _ q (.tup hs rs) rS .refl⟩⟩
   ·exact q.elim
 ·exact q.elim⟩
end
abbrev uM:=PV->List PV->av->bH->Prop
section
variable {X:Cx} {e o:Expr} {es:List Expr} {te to:aT} {ts:List aT} {name:Str} {p pos apos cpos:Pos} {T id:String}
noncomputable def LM(X:Cx)(r:uM):V->List V->Hp->VK->Prop:=fun x xs H Q=>∃px ps S Q3,Rep X.K H x px/\Reps X.K H xs ps/\Ej X.K H S/\r px ps S Q3/\Hu X.K H Q3 Q
structure wU (X:Cx) (id:String) (r:uM):Prop where
 ok:BW X id (LM X r)
def rh(T:String)(x:PV)(S:av):Prop:=match x with
 | .str _=>T = "str"
 | .ref a=>(match S a with|some (.lst _)=>T = "list" | some (.dct _)=>T = "dict" | _=>False)
 | .cl _=>T = "list"
 |_=>False
def sJ{H:Hp}{S:av}{v:V}{p:PV}(rS:Ej X.K H S)(r:Rep X.K H v p)(h:rh T p S):BX X.K T v H:=by
 cases r with
 |str x=>exact h
 |ref a=>
  unfold rh at h
  simp only at h
  split at h
  ·rename_i e
   obtain⟨vs,hv,_⟩:=rS _ _ e
   exact .inl ⟨h,_,SqL.of hv⟩
  ·rename_i e
   obtain⟨vs,hv,_⟩:=rS _ _ e
   exact .inr (.inr (.inl ⟨h,.inl ⟨_,hv⟩⟩))
  ·exact h.elim
 |cl h1 _=>exact .inl ⟨h,_,h1.sq⟩
 |_=>exact h.elim
def jV(T:String)(r:uM)(to:aT)(ts:List aT):aT:=fun σ S Q E=>to σ S (fun x S1=>rh T x S1/\ag ts σ S1 (fun ps S2=>r x ps S2 Q) E) E
def CQ{r:uM}(pa:PlainAttrs T)(slot:Slot T name id)(hty:typeOf (.builtin id)=pure (.type "method_descriptor"))(hm:wU X id r)(hs:starEach (e::es) X.env=(false,eval e X.env)::starEach es X.env)(ho:bj X o to)(ha:jw X (e::es) ts)
  (hbase:attributeBase o name X.env (eval o X.env)=eval o X.env:=by rfl)
  (hfew:((backTo cpos (starEach (e::es) X.env)).all (fun x=>!x.1)&&(backToKw cpos (keywordEach [] X.env)).all (fun x=>x.1.isSome)
   && decide ((e::es).length+([]:List Keyword).length+(if ([]:List Keyword).isEmpty then 0 else 1) < 30))=true:=by rfl)
  (hline:(apos.endLine == cpos.line)=true:=by rfl) (hplain:(backTo cpos (starEach es X.env)).any (·.1)=false:=by rfl):bj X (.Call (.Attribute o name apos) (e::es) [] cpos) (jV T r to ts):=
 ⟨aR (AF pa slot hty hm.ok ho.ok ha.ok hbase hfew hline hs hplain) fun σ H Q ⟨σ3,S,Q3,E3,rσ,rS,h,xo,k⟩=>⟨σ3,S,_,E3,rσ,rS,h,xo,fun x S1 v H1 h1 rx Er g1=>
  ⟨sJ Er rx h1.1,cA (rσ.mono g1) Er h1.2 (xo.mono g1) fun ps S2 vs H2 hl q rv FM g2=>⟨x,ps,S2,Q3,rx.mono g2,rv,FM,q,k.mono (g1.trans g2)⟩⟩⟩⟩
def AY{r:uM}(pa:PlainAttrs T)(slot:Slot T name id)(hty:typeOf (.builtin id)=pure (.type "method_descriptor"))(hm:wU X id r)(ho:bj X o to)
  (hbase:attributeBase o name X.env (eval o X.env)=eval o X.env:=by rfl) (hline:(apos.endLine == cpos.line)=true:=by rfl):bj X (.Call (.Attribute o name apos) [] [] cpos) (jV T r to []):=
 ⟨aR (yk pa slot hty hm.ok ho.ok hbase hline) fun σ H Q ⟨σ3,S,Q3,E3,rσ,rS,h,xo,k⟩=>⟨σ3,S,_,E3,rσ,rS,h,xo,fun x S1 v H1 h1 rx Er g1=>
  ⟨sJ Er rx h1.1,⟨x,[],S1,Q3,rx,.nil,Er,h1.2,k.mono g1⟩⟩⟩⟩
def bJ:uM:=fun x ps S Q=>match x,ps with
 | .ref a,[y]=>(match S a with|some (.lst xs)=>xs.length < sizeLine/\Q .non (Ee S a (.lst (xs++[y])))|_=>False)
 |_,_=>False
def gX:wU X "list.append" bJ:=⟨fun pins s σ H x xs v us Q I rx rs ⟨px,ps,S,Q3,r1,rp,rS,q,k⟩=>by
 unfold bJ at q
 split at q
 ·split at q
  ·rename_i e
   cases r1
   cases rp with
   |cons b rr=>
    cases rr
    obtain⟨vs,hv,rl⟩:=rS _ _ e
    exact qj pins s σ H _ _ v us Q I rx rs ⟨_,_,_,rfl,rfl,hv,by rw[rl.length];exact q.1,k _ _ _ _ q.2 .non (rS.put hv trivial ⟨_,ay,(rl.append (.cons b .nil)).mono (.mut hv trivial)⟩) (.mut hv trivial)⟩
  ·exact q.elim
 ·exact q.elim⟩
def eE:uM:=fun x ps S Q=>match x,ps with
 | .ref a,[.ref b]=>(match S a,S b with|some (.lst xs),some (.lst ys)=>xs.length+ys.length<=sizeLine/\Q .non (Ee S a (.lst (xs++ys)))|_,_=>False)
 |_,_=>False
def sK:wU X "list.extend" eE:=⟨fun pins s σ H x xs v us Q I rx rs ⟨px,ps,S,Q3,r1,rp,rS,q,k⟩=>by
 unfold eE at q
 split at q
 ·split at q
  ·rename_i e e2
   cases r1
   cases rp with
   |cons b rr=>
    cases rr
    cases b
    obtain⟨vs,hv,rl⟩:=rS _ _ e
    obtain⟨us',hu,ru⟩:=rS _ _ e2
    exact qk pins s σ H _ _ v us Q I rx rs ⟨_,_,_,_,rfl,rfl,hv,hu,by rw[rl.length,ru.length];exact q.1,k _ _ _ _ q.2 .non (rS.put hv trivial ⟨_,ay,(rl.append ru).mono (.mut hv trivial)⟩) (.mut hv trivial)⟩
  ·exact q.elim
 ·exact q.elim⟩
def l9:uM:=fun x ps S Q=>match x,ps with
 | .ref a,[]=>(match S a with|some (.lst xs)=>(match xs[xs.length - 1]? with|some y=>Q y (Ee S a (.lst xs.dropLast))|none=>False)|_=>False)
 | .ref a,[.int i]=>(match S a with|some (.lst xs)=>-(2 ^ 63)<=i/\i < 2 ^ 63/\(match seqIndex? i xs.length with|some j=>(match xs[j]? with|some y=>Q y (Ee S a (.lst (xs.eraseIdx j)))|none=>False)|none=>False)|_=>False)
 |_,_=>False
def wV:wU X "list.pop" l9:=⟨fun pins s σ H x xs v us Q I rx rs ⟨px,ps,S,Q3,r1,rp,rS,q,k⟩=>by
 unfold l9 at q
 split at q
 ·split at q
  ·rename_i e
   split at q
   ·rename_i ey
    cases r1
    cases rp
    obtain⟨vs,hv,rl⟩:=rS _ _ e
    rw[<-rl.length]at ey
    obtain⟨y',Kw,ry⟩:=rl.get ey
    exact ym pins s σ H _ _ v us Q I rx rs ⟨_,_,_,rfl,rfl,hv,Kw,k _ _ _ _ q (ry.mono (.mut hv trivial)) (rS.put hv trivial ⟨_,ay,rl.dropLast.mono (.mut hv trivial)⟩) (.mut hv trivial)⟩
   ·exact q.elim
  ·exact q.elim
 ·split at q
  ·rename_i e
   obtain⟨h1,h2,q⟩:=q
   split at q
   ·rename_i ej
    split at q
    ·rename_i ey
     cases r1
     cases rp with
     |cons b rr=>
      cases rr;cases b
      obtain⟨vs,hv,rl⟩:=rS _ _ e
      obtain⟨y',Kw,ry⟩:=rl.get ey
      rw[<-rl.length]at ej
      exact rY pins s σ H _ _ v us Q I rx rs ⟨_,_,_,_,_,rfl,rfl,hv,h1,h2,ej,Kw,k _ _ _ _ q (ry.mono (.mut hv trivial)) (rS.put hv trivial ⟨_,ay,(rl.eraseIdx _).mono (.mut hv trivial)⟩) (.mut hv trivial)⟩
    ·exact q.elim
   ·exact q.elim
  ·exact q.elim
 ·exact q.elim⟩
end
section
variable {X:Cx} {e c:Expr} {te:aT} {st:Stmt} {rest a b:List Stmt} {t u:bO} {tc:iX} {pos:Pos}
def bd:bO:=fun D σ S=>D.nx σ S
def ah(t u:bO):bO:=fun D σ S=>t { D with nx:=u D } σ S
def bD:i_ X [] bd:=⟨oQ uU fun D σ H ⟨σ3,S,D3,rσ,rS,h,xo,n,r,bk,ct⟩=>n σ3 S σ H h rσ rS .refl⟩
def ad(h1:nA X st t)(h2:i_ X rest u):i_ X (st::rest) (ah t u):=
 ⟨oQ (rA h1.ok h2.ok) fun D σ H ⟨σ3,S,D3,rσ,rS,h,xo,n,r,bk,ct⟩=>⟨σ3,S,{ D3 with nx:=u D3 },rσ,rS,h,xo,fun σ4 S' σ' H' h' HQ Fy g=>⟨σ4,S',D3,HQ,Fy,h',xo.mono g,n.mono g,r.mono g,bk.mono g,ct.mono g⟩,r,bk,ct⟩⟩
def ap(h1:nA X st t):i_ X [st] t:=⟨uV h1.ok⟩
def cE(te:aT):bO:=fun D σ S=>te σ S (fun _ S1=>D.nx σ S1) D.ex
def gx(he:bj X e te)(hs:swapsWith e none pos.line X.env=pure false:=by rfl):nA X (.Expr e pos) (cE te):=
 ⟨dk (uW he.ok hs) fun D σ H ⟨σ3,S,D3,rσ,rS,h,xo,n,r,bk,ct⟩=>⟨σ3,S,_,D3.ex,rσ,rS,h,xo,fun p S1 v H1 h1 rv Er g1=>n σ3 S1 σ H1 h1 (rσ.mono g1) Er g1⟩⟩
def aw(te:aT):bO:=fun D σ S=>te σ S D.rt D.ex
def aE(he:bj X e te):nA X (.Return (some e) pos) (aw te):=
 ⟨dk (xL he.ok) fun D σ H ⟨σ3,S,D3,rσ,rS,h,xo,n,r,bk,ct⟩=>⟨σ3,S,D3.rt,D3.ex,rσ,rS,h,xo,r⟩⟩
def cN(c:iX)(t u:bO):bO:=fun D σ S=>c σ S (fun b S1=>if b=true then t D σ S1 else u D σ S1) D.ex
def da(hc:nz X c tc)(ha:i_ X a t)(hb:i_ X b u):nA X (.If c a b pos) (cN tc t u):=
 ⟨dk (Aj hc.ok ha.ok hb.ok) fun D σ H ⟨σ3,S,D3,rσ,rS,h,xo,n,r,bk,ct⟩=>⟨σ3,S,_,D3.ex,rσ,rS,h,xo,fun z S1 H1 h1 Er g1=>by
  cases z with
  |true=>rw[if_pos rfl]at h1 ⊢;exact⟨σ3,S1,D3,rσ.mono g1,Er,h1,xo.mono g1,n.mono g1,r.mono g1,bk.mono g1,ct.mono g1⟩
  |false=>rw[if_neg (by decide)]at h1 ⊢;exact⟨σ3,S1,D3,rσ.mono g1,Er,h1,xo.mono g1,n.mono g1,r.mono g1,bk.mono g1,ct.mono g1⟩⟩⟩
def aq(i:Nat)(te:aT):bO:=fun D σ S=>te σ S (fun v S1=>D.nx (σ.set i (some v)) S1) D.ex
def sL{i:Nat}{D:kL}{σ:L2.St}{H:Hp}:LS X (aq i te) D σ H->u3 (LE X te) (lR i) D σ H:=fun⟨σ3,S,D3,rσ,rS,h,xo,n,r,bk,ct⟩=>
 ⟨σ3,S,_,D3.ex,rσ,rS,h,xo,fun p S1 v H1 h1 rv Er g1=>n _ S1 _ H1 h1 ((rσ.mono g1).set rv i) Er g1⟩
def AZ{i:Nat}{x:Str}{pos':Pos}(hN:X.N.Nodup)(hi:X.N[i]?=some x)(hx:wG X.env.scope x)(he:bj X e te)(hs:swapsWith e (some (.Name x pos')) pos.line X.env=pure false:=by rfl)
  (hf:X.fn x=true\/X.env.scope.names.lookup x=some .local:=by first|exact .inl rfl|exact .inr rfl|assumption):nA X (.Assign [.Name x pos'] e pos) (aq i te):=⟨dk (xP hN hi hx he.ok hs hf) fun _ _ _=>sL⟩
def j1(i j:Nat)(ta tb:aT):bO:=fun D σ S=>ta σ S (fun v S1=>tb σ S1 (fun w S2=>D.nx ((σ.set i (some v)).set j (some w)) S2) D.ex) D.ex
def oV{i j:Nat}{x y:Str}{a b:Expr}{ta tb:aT}{px py pt:Pos}{kt k2 IC}(hc:X.calm=true)(hN:X.N.Nodup)(hi:X.N[i]?=some x)(hj:X.N[j]?=some y)(hij:i≠j)
  (hx:X.env.scope.names.lookup x=some .local) (hy:X.env.scope.names.lookup y=some .local) (ha:jw X [a,b] [ta,tb])
  (hw:swappedStores [.Tuple [.Name x px,.Name y py] kt pt] (.Tuple [a,b] k2 IC) X.env=pure (some [x,y]):=by rfl)
  (hs:swapsWithSole [.Tuple [.Name x px,.Name y py] kt pt] (.Tuple [a,b] k2 IC) pos.line X.env=pure false:=by rfl) :
  nA X (.Assign [.Tuple [.Name x px,.Name y py] kt pt] (.Tuple [a,b] k2 IC) pos) (j1 i j ta tb):=
 ⟨dk (xQ hc hN hi hj hij hx hy ha.ok hw hs) fun D σ H ⟨σ3,S,D3,rσ,rS,h,xo,n,r,bk,ct⟩=>
  ⟨σ3,S,_,D3.ex,rσ,rS,h,xo,fun v S1 v' H1 h1 rv Er g1=>⟨σ3,S1,_,D3.ex,rσ.mono g1,Er,h1,xo.mono g1,fun w S2 w' H2 h2 rw' FM g2=>
   ⟨v',w',rfl,n _ S2 _ H2 h2 (((rσ.mono (g1.trans g2)).set (rv.mono g2) i).set rw' j) FM (g1.trans g2)⟩⟩⟩⟩
inductive Tg where
 |n (i:Nat)|tp (l:Tg)|nil|cons (a r:Tg)
mutual
noncomputable def Tg.put:Tg->PV->cK->Option cK
 | .n i,p,σ=>some (σ.set i (some p))
 | .tp l,.tup xs,σ=>l.EQ xs σ
 |_,_,_=>none
noncomputable def Tg.EQ:Tg->List PV->cK->Option cK
 | .nil,[],σ=>some σ
 | .cons a r,x::xs,σ=>(match a.put x σ with|some σ'=>r.EQ xs σ'|none=>none)
 |_,_,_=>none
end
noncomputable def Tg.len:Tg->Nat
 | .cons _ r=>r.len+1
 |_=>0
mutual
noncomputable def Tg.g2(K:Vo):Tg->TG
 | .n i=>lR i
 | .tp l=>Am K l.len (l.Io K)
 |_=>fun _ _ _ _=>False
noncomputable def Tg.Io(K:Vo):Tg->wH
 | .nil=>Al
 | .cons a r=>wI (a.g2 K) (r.Io K)
 |_=>fun _ _ _ _=>False
end
noncomputable def Tg.under(own:Nat):Tg->Bool
 | .n i=>decide (i < own)
 | .tp l=>l.under own
 | .nil=>true
 | .cons a r=>a.under own&&r.under own
theorem Tg.GP:∀(g:Tg) {ps:List PV} {σ3 σ4:cK},g.EQ ps σ3=some σ4->ps.length=g.len
 | .nil,ps,σ3,σ4,h=>by
  cases ps with
  |nil=>rfl
  |cons _ _=>unfold Tg.EQ at h;cases h
 | .cons a r,ps,σ3,σ4,h=>by
  cases ps with
  |nil=>unfold Tg.EQ at h;cases h
  |cons x xs=>
   unfold Tg.EQ at h
   split at h
   ·rw[List.length_cons,Tg.GP r h];rfl
   ·cases h
 | .n _,ps,σ3,σ4,h=>by unfold Tg.EQ at h;cases h
 | .tp _,ps,σ3,σ4,h=>by unfold Tg.EQ at h;cases h
mutual
theorem Tg.Gx{K:Vo}{H:Hp}{own:Nat}:∀(g:Tg) {v:V} {p:PV} {σ:L2.St} {σ3 σ4:cK} {Q:L2.St->Hp->Prop},Rep K H v p->Ep K H σ σ3->g.put p σ3=some σ4->(∀σ',Ep K H σ' σ4->(g.under own=true->σ'.drop own=σ.drop own)->Q σ' H)->g.g2 K v σ H Q
 | .n i,v,p,σ,σ3,σ4,Q,r,rσ,h,k=>by
  unfold Tg.put at h
  cases h
  unfold Tg.g2
  refine k _ (rσ.set r i) fun hb=>?_
  have hi:i < own:=of_decide_eq_true hb
  rw[List.drop_set]
  rw[if_pos hi]
 | .tp l,v,p,σ,σ3,σ4,Q,r,rσ,h,k=>by
  cases p with
  |tup xs=>
   unfold Tg.put at h
   cases r with
   |tup hq rs=>
    have hg:=Tg.Hd (own:=own) l rs rσ h k
    unfold Tg.g2
    exact⟨_,_,rfl,hq,rs.length.trans (Tg.GP l h),hg⟩
  |_=>unfold Tg.put at h;cases h
 | .nil,v,p,σ,σ3,σ4,Q,r,rσ,h,k=>by unfold Tg.put at h;cases h
 | .cons _ _,v,p,σ,σ3,σ4,Q,r,rσ,h,k=>by unfold Tg.put at h;cases h
theorem Tg.Hd{K:Vo}{H:Hp}{own:Nat}:∀(g:Tg) {vs:List V} {ps:List PV} {σ:L2.St} {σ3 σ4:cK} {Q:L2.St->Hp->Prop},Reps K H vs ps->Ep K H σ σ3->g.EQ ps σ3=some σ4->(∀σ',Ep K H σ' σ4->(g.under own=true->σ'.drop own=σ.drop own)->Q σ' H)->g.Io K vs σ H Q
 | .nil,vs,ps,σ,σ3,σ4,Q,r,rσ,h,k=>by
  cases ps with
  |nil=>
   unfold Tg.EQ at h
   cases h
   cases r
   unfold Tg.Io
   exact⟨rfl,k _ rσ fun _=>rfl⟩
  |cons _ _=>unfold Tg.EQ at h;cases h
 | .cons a r',vs,ps,σ,σ3,σ4,Q,r,rσ,h,k=>by
  cases ps with
  |nil=>unfold Tg.EQ at h;cases h
  |cons x xs=>
   unfold Tg.EQ at h
   split at h
   ·rename_i σ5 e5
    cases r with
    |cons r1 r2=>
     unfold Tg.Io
     refine⟨_,_,rfl,Tg.Gx (own:=own) a r1 rσ e5 fun σ' HQ d1=>Tg.Hd (own:=own) r' r2 HQ h fun Mg Kx d2=>k Mg Kx fun hb=>?_⟩
     have hb':a.under own=true/\r'.under own=true:=by simpa [Tg.under]using hb
     rw[d2 hb'.2,d1 hb'.1]
   ·cases h
 | .n _,vs,ps,σ,σ3,σ4,Q,r,rσ,h,k=>by unfold Tg.EQ at h;cases h
 | .tp _,vs,ps,σ,σ3,σ4,Q,r,rσ,h,k=>by unfold Tg.EQ at h;cases h
end
structure uN (X:Cx) (e:Expr) (g:Tg):Prop where
 ok:PG X e (g.g2 X.K)
structure vL (X:Cx) (es:List Expr) (g:Tg):Prop where
 ok:Ak X es (g.Io X.K)
 len:(assignEach es X.env).length=g.len
def DT(i:Nat){x:Str}(hN:X.N.Nodup)(hi:X.N[i]?=some x)(hx:wG X.env.scope x)(hf:X.fn x=true\/X.env.scope.names.lookup x=some .local:=by first|exact .inl rfl|exact .inr rfl|assumption):uN X (.Name x pos) (.n i):=⟨by
 have h:=uY (pos:=pos) hN hi hx hf
 unfold Tg.g2
 exact h⟩
def eW:vL X [] .nil:=⟨by unfold Tg.Io;exact uZ,rfl⟩
def aS{es:List Expr}{a r:Tg}(h1:uN X e a)(h2:vL X es r)(hs:(assignEach (e::es) X.env).map (·.2)=assign e X.env::(assignEach es X.env).map (·.2):=by rfl)(hl:(assignEach (e::es) X.env).length=(assignEach es X.env).length+1:=by rfl):vL X (e::es) (.cons a r):=
 ⟨by unfold Tg.Io;exact rB h1.ok h2.ok hs,by rw[hl,h2.len];rfl⟩
def rj{es:List Expr}{k:Nat}{l:Tg}(hc:X.calm=true)(h:vL X es l)(hst:(assignEach es X.env).findIdx? (·.1)=none:=by rfl):uN X (.Tuple es k pos) (.tp l):=⟨by
 have h:=xN (pos:=pos) (k:=k) hc h.ok h.len hst
 unfold Tg.g2
 exact h⟩
def gY(te:aT)(g:Tg):bO:=fun D σ S=>te σ S (fun v S1=>match g.put v σ with|some σ'=>D.nx σ' S1|none=>False) D.ex
def l_{tg:Expr}{g:Tg}(he:bj X e te)(hg:uN X tg g)(hs:swapsWithSole [tg] e pos.line X.env=pure false:=by rfl)(hw:swappedStores [tg] e X.env=pure none:=by rfl)
  (h1:(assignEach [tg] X.env).map (·.2)=[assign tg X.env]:=by rfl):nA X (.Assign [tg] e pos) (gY te g):=
 ⟨dk (rC he.ok hg.ok hs hw h1) fun D σ H ⟨σ3,S,D3,rσ,rS,h,xo,n,r,bk,ct⟩=>⟨σ3,S,_,D3.ex,rσ,rS,h,xo,fun p S1 v H1 h1 rv Er g1=>by
  dsimp only at h1
  split at h1
  ·rename_i σ' e'
   exact Tg.Gx (own:=0) g rv (rσ.mono g1) e' fun σ2 Mh _=>n _ S1 _ H1 h1 Mh Er g1
  ·exact h1.elim⟩⟩
end
noncomputable def kY{κ:Type} [DecidableEq κ](kvs:List (κ×PV))(k:κ)(v:PV):List (κ×PV):=
 if (kvs.any fun kv=>decide (kv.1=k))=true then kvs.map (fun kv=>if kv.1=k then (kv.1,v) else kv) else kvs++[(k,v)]
theorem Eo.append{K:Vo}{H:Hp}{κ:Type}:∀{vs us:List (κ×V)} {ps qs:List (κ×PV)},Eo K H vs ps->Eo K H us qs->Eo K H (vs++us) (ps++qs)
 |_,_,_,_,.nil,s=>s
 |_,_,_,_,.cons a r,s=>.cons a (Eo.append r s)
def Eo.put{K:Vo}{H:Hp}{κ:Type} [DecidableEq κ]{k:κ}{v:V}{p:PV}(q:Rep K H v p){vs:List (κ×V)}{ps:List (κ×PV)}(r:Eo K H vs ps):Eo K H (fh vs k v) (kY ps k p):=by
 have e:(vs.any fun kv=>decide (kv.1=k))=(ps.any fun kv=>decide (kv.1=k)):=by rw[jp,r.any]
 unfold fh kY
 rw[e]
 split
 ·clear e
  rename_i h
  clear h
  induction r with
  |nil=>exact .nil
  |@cons k' v' p' vs' ps' a r ih=>
   rw[List.map_cons,List.map_cons]
   by_cases z:k'=k
   ·rw[if_pos z,if_pos z];exact .cons q ih
   ·rw[if_neg z,if_neg z];exact .cons a ih
 ·exact r.append (.cons q .nil)
def eF(o i v:PV)(S:av)(Q:av->Prop):Prop:=match o with
 | .ref a=>(match S a with
  |some (.lst xs)=>(match i with | .int k=>(match oI xs.length k with|some j=>Q (Ee S a (.lst (xs.set j v)))|none=>False)|_=>False)
  |some (.dct kvs)=>(match nF i with|some k=>kvs.length < sizeLine/\Q (Ee S a (.dct (kY kvs k v)))|none=>False)
  |_=>False)
 |_=>False
section
variable {X:Cx} {e o i:Expr} {te to ti:aT} {pos pos':Pos}
noncomputable def CS(X:Cx):V->V->V->Hp->(Hp->Prop)->Prop:=fun o i v H Q=>∃po pi pv S Q3,Rep X.K H o po/\Rep X.K H i pi/\Rep X.K H v pv/\Ej X.K H S/\eF po pi pv S Q3/\∀S' H',Q3 S'->Ej X.K H' S'->Grow X.K H H'->Q H'
def yG(hu:X.A.units+1 < cLine):uX X (CS X):=by
 intro pins s σ H o i v ov iv u Q I ro ri rv ⟨po,pi,pv,S,Q3,r1,r2,r3,rS,q,k⟩
 unfold eF at q
 split at q
 ·split at q
  ·rename_i e
   split at q
   ·split at q
    ·rename_i ej
     cases r1;cases r2
     obtain⟨vs,hv,rl⟩:=rS _ _ e
     rw[<-rl.length]at ej
     exact rW pins s σ H _ _ _ ov iv u Q I ro ri rv ⟨_,_,_,_,rfl,rfl,hv,ej,k _ _ q (rS.put hv trivial ⟨_,ay,((rl.set r3 _).mono (.mut hv trivial))⟩) (.mut hv trivial)⟩
    ·exact q.elim
   ·exact q.elim
  ·rename_i e
   split at q
   ·rename_i ek
    cases r1
    have e1:=gr r2 ek
    subst e1
    obtain⟨kv,hv,rk⟩:=rS _ _ e
    exact sG hu pins s σ H _ _ _ ov iv u Q I ro ri rv ⟨_,_,rfl,Hx.k hv (by rw[rk.length];exact q.1),k _ _ q.2 (rS.put hv trivial ⟨_,ay,(rk.put r3).mono (.mut hv trivial)⟩) (.mut hv trivial)⟩
   ·exact q.elim
  ·exact q.elim
 ·exact q.elim
def iB(te to ti:aT):bO:=fun D σ S=>te σ S (fun v S1=>to σ S1 (fun o S2=>ti σ S2 (fun i S3=>eF o i v S3 (fun S4=>D.nx σ S4)) D.ex) D.ex) D.ex
def kq(hu:X.A.units+1 < cLine)(he:bj X e te)(ho:bj X o to)(hi:bj X i ti)
  (ha:∀v,assign (.Subscript o i pos') X.env v=(do
   let ov <-holding [v] (eval o X.env)
   let iv <-holding [v,ov] (eval i X.env)
   standAt pos'
   holding [v,ov,iv] (setItem ov iv v)
   release [v,ov,iv] []):=by intro _;rfl)
  (hs:swapsWithSole [.Subscript o i pos'] e pos.line X.env=pure false:=by rfl) (hw:swappedStores [.Subscript o i pos'] e X.env=pure none:=by rfl)
  (h1:(assignEach [.Subscript o i pos'] X.env).map (·.2)=[assign (.Subscript o i pos') X.env]:=by rfl):nA X (.Assign [.Subscript o i pos'] e pos) (iB te to ti):=
 ⟨dk (rC he.ok (xO ho.ok hi.ok (yG hu) ha) hs hw h1) fun D σ H ⟨σ3,S,D3,rσ,rS,h,xo,n,r,bk,ct⟩=>⟨σ3,S,_,D3.ex,rσ,rS,h,xo,fun v S1 v' H1 h1 rv Er g1=>
  ⟨σ3,S1,_,D3.ex,rσ.mono g1,Er,h1,xo.mono g1,fun o S2 o' H2 h2 ro FM g2=>⟨σ3,S2,_,D3.ex,rσ.mono (g1.trans g2),FM,h2,xo.mono (g1.trans g2),fun i S3 i' H3 h3 ri Ju g3=>
   ⟨o,i,v,S3,_,ro.mono g3,ri,rv.mono (g2.trans g3),Ju,h3,fun S4 H4 h4 Mi g4=>n _ S4 _ H4 h4 (rσ.mono (g1.trans (g2.trans (g3.trans g4)))) Mi (g1.trans (g2.trans (g3.trans g4)))⟩⟩⟩⟩⟩
end
end L3
namespace L2
open PySem PySem.Spec PyProof.Rows
section
variable {X:Cx} {tg:Expr}
def CT(K:Vo)(tl:TE):TI:=fun σ H R=>tl σ H fun x H1=>(∃a,x = .ref a/\(∃xs,SqL K H1 a xs)/\R (BR K a) H1)\/(∃a,x = .ref a/\(∃xs,SqT K H1 a xs)/\R (Cq K a) H1)\/∃z,x = .str z/\R (CI z) H1
def yH{l:Expr}{tl:TE}(hl:PE X l tl):PI X tg l (CT X.K tl):=by
 intro pins s σ H R I h
 refine bA (hl pins s σ H _ I h) fun v s1 ⟨x,H1,I1,r1,q1⟩=>?_
 rcases q1 with⟨a,e,⟨xs,hq⟩,q⟩|⟨a,e,⟨xs,hq⟩,q⟩|⟨z,e,q⟩
 ·subst e
  cases r1
  obtain⟨its,rv,p,hz⟩:=I1.list hq
  refine wpAny_pyIter_list p.isList ?_
  refine⟨s1.heap.objs.size,[s1.heap.objs.size],_,_,H1,rfl,I1.kept (t':=s1.toks) fun b o e=>Heap.get?_push_of_some _ e,p_ a _,⟨_,Heap.get?_push_size _ rfl,rfl,rfl⟩,fun b hb=>?_,q⟩
  have e:b=s1.heap.objs.size:=by simpa using hb
  subst e
  exact I1.F8 (Nat.le_refl _) (I1.hok.fresh (Nat.le_refl _))
 ·subst e
  cases r1
  obtain⟨its,rv,p,hz⟩:=I1.tuple hq
  refine wpAny_pyIter_tuple (show s1.heap.IsTuple a its.toArray from p) ?_
  refine⟨s1.heap.objs.size,[s1.heap.objs.size],_,_,H1,rfl,I1.kept (t':=s1.toks) fun b o e=>Heap.get?_push_of_some _ e,mT a _,⟨_,Heap.get?_push_size _ rfl,rfl,rfl⟩,fun b hb=>?_,q⟩
  have e:b=s1.heap.objs.size:=by simpa using hb
  subst e
  exact I1.F8 (Nat.le_refl _) (I1.hok.fresh (Nat.le_refl _))
 ·subst e
  obtain⟨t,rfl⟩:=r1
  have fin:∀ty,(ty = "str_ascii_iterator" \/ ty = "str_iterator")->Co X pins σ tg R (.ref s1.heap.objs.size) { s1 with heap:=s1.heap.push { cls:=.type ty,data:=.fields #[.str z t,.int 0 0] } }:=fun ty hty=>by
   refine⟨s1.heap.objs.size,[s1.heap.objs.size],_,_,H1,rfl,I1.kept (t':=s1.toks) fun b o e=>Heap.get?_push_of_some _ e,sr hty _ z t,⟨Nat.zero_le _,_,Heap.get?_push_size _ rfl,rfl,rfl⟩,fun b hb=>?_,q⟩
   have e:b=s1.heap.objs.size:=by simpa using hb
   subst e
   exact I1.F8 (Nat.le_refl _) (I1.hok.fresh (Nat.le_refl _))
  cases ha:z.cps.all (· < 128)
  ·exact wpAny_pyIter_wide ha (fin _ (.inr rfl))
  ·exact wpAny_pyIter_ascii ha (fin _ (.inl rfl))
def yI(K:Vo)(ta:TA):TI:=fun σ H R=>ta σ H fun vs H1=>∃a,vs=[.ref a]/\(((∃xs,SqL K H1 a xs)/\R (CN K a) H1)\/((∃xs,SqT K H1 a xs)/\R (CO K a) H1))
def sM{elts:List Expr}{k0:Nat}{FN:Pos}{a:Expr}{ta:TA}{p pos:Pos}(hg:Gl X "enumerate")(hm:X.mg "enumerate" = none)(hv:bootBuiltins "enumerate" = some (.type "enumerate"))(ha:PA X [a] ta)
  (hs:starEach [a] X.env=[(false,eval a X.env)]:=by rfl):PI X (.Tuple elts k0 FN) (.Call (.Name "enumerate" p) [a] [] pos) (yI X.K ta):=by
 intro pins s σ H R I h
 refine Call_ (dM I hg hm hv (PyProof.Rows.callWith_type1 (bA (ha pos pins s σ H _ I h) fun us s1 ⟨vs,H1,I1,r1,q1⟩=>?_) hs rfl))
 obtain⟨a,e,q⟩:=q1
 subst e
 obtain⟨u,rfl,ru⟩:=fU r1
 cases ru
 rcases q with⟨⟨xs,qa⟩,q⟩|⟨⟨xs,qa⟩,q⟩
 ·obtain⟨ia,ra,pa,za⟩:=I1.list qa
  refine call_enumerate_list pa.isList fun g ge g1 gz kk=>?_
  refine wpAny_pyIter_enum (s:={ s1 with heap:=g }) ge ?_
  refine⟨_,[s1.heap.objs.size+1,s1.heap.objs.size],_,_,H1,rfl,I1.kept (t':=s1.toks) kk,qx (Nat.succ_ne_self _),⟨⟨_,ge⟩,g1⟩,fun c hc=>?_,q⟩
  have hle:s1.heap.objs.size<=c:=by
   simp only[List.mem_cons,List.not_mem_nil,or_false]at hc
   rcases hc with rfl|rfl
   ·exact Nat.le_add_right _ _
   ·exact Nat.le_refl _
  exact I1.F8 hle (I1.hok.fresh hle)
 ·obtain⟨ia,ra,pa,za⟩:=I1.tuple qa
  have la:a < s1.heap.objs.size:=by obtain⟨o,e,_⟩:=pa;exact Heap.lt_size e
  refine Et.jt (show s1.heap.IsTuple a ia.toArray from pa) fun g ge g1 kk=>?_
  refine wpAny_pyIter_enum (s:={ s1 with heap:=g }) ge ?_
  refine⟨_,[s1.heap.objs.size+1,s1.heap.objs.size],_,_,H1,rfl,I1.kept (t':=s1.toks) kk,nu (Nat.succ_ne_self _) (Nat.ne_of_lt (Nat.lt_succ_of_lt la)) (Nat.ne_of_lt la),⟨⟨_,ge⟩,g1⟩,fun c hc=>?_,q⟩
  have hle:s1.heap.objs.size<=c:=by
   simp only[List.mem_cons,List.not_mem_nil,or_false]at hc
   rcases hc with rfl|rfl
   ·exact Nat.le_add_right _ _
   ·exact Nat.le_refl _
  exact I1.F8 hle (I1.hok.fresh hle)
end
end L2
namespace L3
open PySem L2
structure CU where
 items:List PV
 keep:av->Prop
def gZ(K:Vo)(H0:Hp)(J:It)(src:CU):Prop:=∀(i:Nat) (S:av) (H:Hp),Grow K H0 H->Ej K H S->src.keep S->
 (∀p,src.items[i]?=some p->J.go i H/\∀x H',J.JO i H x H'->Rep K H' x p/\Ej K H' S/\Grow K H H')/\(i=src.items.length->J.stop i H)
abbrev qB:=cK->av->(CU->av->Prop)->b9->Prop
def LI(X:Cx)(t:qB):TI:=fun σ H R=>∃σ3 S R3 E3,Ep X.K H σ σ3/\Ej X.K H S/\t σ3 S R3 E3/\Ht X H E3/\∀src S' J H',R3 src S'->gZ X.K H' J src->Ej X.K H' S'->Grow X.K H H'->R J H'
structure uO (X:Cx) (tg iter:Expr) (t:qB):Prop where
 ok:PI X tg iter (LI X t)
def jB{X:Cx}{tg iter:Expr}{t t':TI}(h:PI X tg iter t)(k:∀σ H R,t' σ H R->t σ H R):PI X tg iter t':=fun pins s σ H R I q=>h pins s σ H R I (k σ H R q)
section
variable {X:Cx} {e tg:Expr} {es:List Expr} {te:aT} {ts:List aT} {p pos:Pos}
noncomputable def bE(S:av):PV->Option CU
 | .tup xs=>some ⟨xs,fun _=>True⟩
 | .cl xs=>some ⟨xs,fun _=>True⟩
 | .str z=>some ⟨z.cps.toList.map fun c=>.str (sgn c),fun _=>True⟩
 | .ref a=>(match S a with|some (.lst xs)=>some ⟨xs,fun S'=>S' a=some (.lst xs)⟩|_=>none)
 |_=>none
def aF(te:aT):qB:=fun σ S R E=>te σ S (fun v S1=>match bE S1 v with|some src=>R src S1|none=>False) E
end
section
variable {X:Cx} {e tg a b:Expr} {es:List Expr} {te ta tb:aT} {ts:List aT} {p pos:Pos}
def sN{K:Vo}{H0:Hp}{a:Addr}{xs:List PV}:gZ K H0 (BR K a) ⟨xs,fun S'=>S' a=some (.lst xs)⟩:=by
 intro i S H g rS hk
 obtain⟨vs,hv,rs⟩:=rS a _ hk
 refine⟨fun p hp=>?_,fun hi=>⟨vs,SqL.of hv,by rw[rs.length,hi];exact Nat.le_refl _⟩⟩
 obtain⟨v,hx,rv⟩:=rs.get hp
 refine⟨⟨vs,v,SqL.of hv,hx⟩,fun x H' ⟨e,h⟩=>?_⟩
 subst e
 have:=h vs (SqL.of hv)
 rw[hx]at this
 cases this
 exact⟨rv,rS,.refl⟩
def vM{K:Vo}{H0:Hp}{a:Addr}{vs:List V}{xs:List PV}(h:SqT K H0 a vs)(rs:Reps K H0 vs xs):gZ K H0 (Cq K a) ⟨xs,fun _=>True⟩:=by
 intro i S H g rS _
 have hv:=g.t _ _ h
 refine⟨fun p hp=>?_,fun hi=>⟨vs,hv,by rw[rs.length,hi];exact Nat.le_refl _⟩⟩
 obtain⟨v,hx,rv⟩:=rs.get hp
 refine⟨⟨vs,v,hv,hx⟩,fun x H' ⟨e,h⟩=>?_⟩
 subst e
 have:=h vs hv
 rw[hx]at this
 cases this
 exact⟨rv.mono g,rS,.refl⟩
def yJ{K:Vo}{H0:Hp}{a:Addr}{vs:List V}{xs:List PV}(h:Jb K H0 a vs)(rs:Reps K H0 vs xs):gZ K H0 (BR K a) ⟨xs,fun _=>True⟩:=by
 intro i S H g rS _
 have hv:=(g.c _ _ h).sq
 refine⟨fun p hp=>?_,fun hi=>⟨vs,hv,by rw[rs.length,hi];exact Nat.le_refl _⟩⟩
 obtain⟨v,hx,rv⟩:=rs.get hp
 refine⟨⟨vs,v,hv,hx⟩,fun x H' ⟨e,h⟩=>?_⟩
 subst e
 have:=h vs hv
 rw[hx]at this
 cases this
 exact⟨rv.mono g,rS,.refl⟩
def vN{K:Vo}{H0:Hp}{z:Str}:gZ K H0 (CI z) ⟨z.cps.toList.map fun c=>.str (sgn c),fun _=>True⟩:=by
 intro i S H g rS _
 refine⟨fun p hp=>?_,fun hi=>by show z.cps.size<=i;rw[hi,List.length_map,Array.length_toList];exact Nat.le_refl _⟩
 rw[List.getElem?_map]at hp
 cases hc:z.cps.toList[i]? with
 |none=>rw[hc]at hp;cases hp
 |some c=>
  rw[hc]at hp
  cases hp
  have hc':z.cps[i]?=some c:=by simpa using hc
  refine⟨?_,fun x H' ⟨e,c',h1,h2⟩=>?_⟩
  ·show i < z.cps.size
   by_cases hi:i < z.cps.size
   ·exact hi
   ·rw[Array.getElem?_eq_none (by omega)]at hc';cases hc'
  ·subst e
   rw[hc']at h1
   cases h1
   subst h2
   exact⟨.str _,rS,.refl⟩
def bP(he:bj X e te):uO X tg e (aF te):=⟨jB (yH he.ok) fun σ H R ⟨σ3,S,R3,E3,rσ,rS,h,xo,k⟩=>⟨σ3,S,_,E3,rσ,rS,h,xo,fun v S1 v' H1 h1 rv Er g1=>by
 dsimp only at h1
 split at h1
 ·rename_i src hs
  unfold bE at hs
  split at hs
  ·cases hs
   cases rv with
   |tup hq rs=>exact .inr (.inl ⟨_,rfl,⟨_,hq⟩,k _ S1 _ H1 h1 (vM hq rs) Er g1⟩)
  ·cases hs
   cases rv with
   |cl hq rs=>exact .inl ⟨_,rfl,⟨_,hq.sq⟩,k _ S1 _ H1 h1 (yJ hq rs) Er g1⟩
  ·cases hs
   cases rv
   exact .inr (.inr ⟨_,rfl,k _ S1 _ H1 h1 vN Er g1⟩)
  ·cases rv
   split at hs
   ·rename_i ea
    cases hs
    obtain⟨vs,hv,rs⟩:=Er _ _ ea
    exact .inl ⟨_,rfl,⟨_,SqL.of hv⟩,k _ S1 _ H1 h1 sN Er g1⟩
   ·cases hs
  ·cases hs
 ·exact h1.elim⟩⟩
noncomputable def a_(lo:Int)(n:Nat):List PV:=(List.range n).map fun(i:Nat)=>PV.int (lo+i)
def qC{K:Vo}{H0:Hp}{lo:Int}{n:Nat}:gZ K H0 (BS lo n) ⟨a_ lo n,fun _=>True⟩:=by
 intro i S H g rS _
 refine⟨fun p hp=>?_,fun hi=>by show n<=i;rw[hi];simp[a_]⟩
 unfold a_ at hp
 rw[List.getElem?_map]at hp
 by_cases hi:i < n
 ·rw[List.getElem?_range hi]at hp
  cases hp
  refine⟨hi,fun x H' ⟨e,h⟩=>?_⟩
  subst e h
  exact⟨.int _,rS,.refl⟩
 ·rw[List.getElem?_eq_none (by simpa using hi)]at hp
  cases hp
def cC(ta:aT):qB:=fun σ S R E=>ta σ S (fun v S1=>match v with | .int j=>-(2 ^ 62)<=j/\j < 2 ^ 62/\R ⟨a_ 0 j.toNat,fun _=>True⟩ S1|_=>False) E
def bn(hs:starEach [a] X.env=[(false,eval a X.env)])(hg:Gl X "range")(hm:X.mg "range" = none)(ha:jw X [a] [ta]):uO X tg (.Call (.Name "range" p) [a] [] pos) (cC ta):=
 ⟨jB (qc hg hm ha.ok hs) fun σ H R ⟨σ3,S,R3,E3,rσ,rS,h,xo,k⟩=>⟨σ3,S,_,E3,rσ,rS,h,xo,fun v S1 v' H1 h1 rv Er g1=>by
  dsimp only at h1
  split at h1
  ·cases rv
   exact⟨_,rfl,h1.1,h1.2.1,k _ S1 _ H1 h1.2.2 qC Er g1⟩
  ·exact h1.elim⟩⟩
noncomputable def ba(xs:List PV):List PV:=xs.mapIdx fun i x=>.tup [.int i,x]
def qD{K:Vo}{H0:Hp}{a:Addr}{xs:List PV}:gZ K H0 (CN K a) ⟨ba xs,fun S'=>S' a=some (.lst xs)⟩:=by
 intro i S H g rS hk
 obtain⟨vs,hv,rs⟩:=rS a _ hk
 refine⟨fun p hp=>?_,fun hi=>⟨vs,SqL.of hv,by rw[rs.length,hi];simp[ba]⟩⟩
 unfold ba at hp
 rw[List.getElem?_mapIdx]at hp
 cases hx:xs[i]? with
 |none=>rw[hx]at hp;cases hp
 |some y=>
  rw[hx]at hp
  cases hp
  obtain⟨v,hx',rv⟩:=rs.get hx
  refine⟨⟨vs,v,SqL.of hv,hx'⟩,fun x H' ⟨q,x2,e1,hq,e2,h⟩=>?_⟩
  subst e1 e2
  have:=h vs (SqL.of hv)
  rw[hx']at this
  cases this
  exact⟨.tup (SqT.of ay) (.cons (.int _) (.cons (rv.mono (.new hq)) .nil)),rS.other hq,.new hq⟩
def qE{K:Vo}{H0:Hp}{a:Addr}{vs:List V}{xs:List PV}(h0:SqT K H0 a vs)(rs:Reps K H0 vs xs):gZ K H0 (CO K a) ⟨ba xs,fun _=>True⟩:=by
 intro i S H g rS _
 have hv:=g.t _ _ h0
 refine⟨fun p hp=>?_,fun hi=>⟨vs,hv,by rw[rs.length,hi];simp[ba]⟩⟩
 unfold ba at hp
 rw[List.getElem?_mapIdx]at hp
 cases hx:xs[i]? with
 |none=>rw[hx]at hp;cases hp
 |some y=>
  rw[hx]at hp
  cases hp
  obtain⟨v,hx',rv⟩:=rs.get hx
  refine⟨⟨vs,v,hv,hx'⟩,fun x H' ⟨q,x2,e1,hq,e2,h⟩=>?_⟩
  subst e1 e2
  have:=h vs hv
  rw[hx']at this
  cases this
  exact⟨.tup (SqT.of ay) (.cons (.int _) (.cons ((rv.mono g).mono (.new hq)) .nil)),rS.other hq,.new hq⟩
def iZ(ta:aT):qB:=fun σ S R E=>ta σ S (fun v S1=>match v with
 | .tup xs=>R ⟨ba xs,fun _=>True⟩ S1
 | .ref a=>(match S1 a with|some (.lst xs)=>R ⟨ba xs,fun S'=>S' a=some (.lst xs)⟩ S1|_=>False)
 |_=>False) E
def sO{elts:List Expr}{k0:Nat}{FN:Pos}(hs:starEach [a] X.env=[(false,eval a X.env)])(hg:Gl X "enumerate")(hm:X.mg "enumerate" = none)(hv:bootBuiltins "enumerate" = some (.type "enumerate"))(ha:jw X [a] [ta]):uO X (.Tuple elts k0 FN) (.Call (.Name "enumerate" p) [a] [] pos) (iZ ta):=
 ⟨jB (sM hg hm hv ha.ok hs) fun σ H R ⟨σ3,S,R3,E3,rσ,rS,h,xo,k⟩=>⟨σ3,S,_,E3,rσ,rS,h,xo,fun v S1 v' H1 h1 rv Er g1=>by
  dsimp only at h1
  split at h1
  ·cases rv with
   |tup hq rs=>exact⟨_,rfl,.inr ⟨⟨_,hq⟩,k _ S1 _ H1 h1 (qE hq rs) Er g1⟩⟩
  ·cases rv
   split at h1
   ·rename_i ea
    obtain⟨vs,hv,rs⟩:=Er _ _ ea
    exact⟨_,rfl,.inl ⟨⟨_,SqL.of hv⟩,k _ S1 _ H1 h1 qD Er g1⟩⟩
   ·exact h1.elim
  ·exact h1.elim⟩⟩
noncomputable def bC(xs ys:List PV):List PV:=(xs.zip ys).map fun z=>.tup [z.1,z.2]
def Hk(K:Vo)(H0:Hp)(ka:Bool)(a:Addr)(xs:List PV)(keep:av->Prop):Prop:=∀S H,Grow K H0 H->Ej K H S->keep S->∃vs,qv ka K H a vs/\Reps K H vs xs
def Hk.tup{K:Vo}{H0:Hp}{a:Addr}{vs:List V}{xs:List PV}{keep:av->Prop}(h:SqT K H0 a vs)(r:Reps K H0 vs xs):Hk K H0 false a xs keep:=fun _ _ g _ _=>⟨vs,g.t _ _ h,r.mono g⟩
theorem Hk.lst{K:Vo}{H0:Hp}{a:Addr}{xs:List PV}{keep:av->Prop}(h:∀S,keep S->S a=some (.lst xs)):Hk K H0 true a xs keep:=fun S _ _ rS k=>let ⟨vs,hv,r⟩:=rS _ _ (h S k);⟨vs,SqL.of hv,r⟩
def g6{K:Vo}{H0:Hp}{ka kb:Bool}{a b:Addr}{xs ys:List PV}{keep:av->Prop}(h1:Hk K H0 ka a xs keep)(h2:Hk K H0 kb b ys keep):gZ K H0 (CL ka kb K a b) ⟨bC xs ys,keep⟩:=by
 intro i S H g rS kp
 obtain⟨vs,hv,r1⟩:=h1 S H g rS kp
 obtain⟨us,hu,r2⟩:=h2 S H g rS kp
 have l1:=r1.length
 have l2:=r2.length
 refine⟨fun p hp=>?_,fun hi=>⟨vs,us,hv,hu,?_⟩⟩
 ·unfold bC at hp
  rw[List.getElem?_map]at hp
  cases hz:(xs.zip ys)[i]? with
  |none=>rw[hz]at hp;cases hp
  |some z=>
   rw[hz]at hp
   cases hp
   obtain⟨e1,e2⟩:=List.getElem?_zip_eq_some.mp hz
   obtain⟨v,hx',rv⟩:=r1.get e1
   obtain⟨u,hy',ru⟩:=r2.get e2
   refine⟨⟨vs,us,v,u,hv,hu,hx',hy'⟩,fun x H' ⟨q,x2,y2,e3,hq,e4,h⟩=>?_⟩
   subst e3 e4
   obtain⟨k1,k2⟩:=h vs us hv hu
   rw[hx']at k1
   rw[hy']at k2
   cases k1;cases k2
   exact⟨.tup (SqT.of ay) (.cons (rv.mono (.new hq)) (.cons (ru.mono (.new hq)) .nil)),rS.other hq,.new hq⟩
 ·have e:(bC xs ys).length=min xs.length ys.length:=by simp[bC]
  rw[e]at hi
  by_cases hle:xs.length<=ys.length
  ·exact .inl (by omega)
  ·exact .inr (by omega)
def qF(ta tb:aT):qB:=fun σ S R E=>ta σ S (fun v S1=>tb σ S1 (fun w S2=>match v,w with
 | .tup xs,.tup ys=>R ⟨bC xs ys,fun _=>True⟩ S2
 |_,_=>False) E) E
def A0{elts:List Expr}{k0:Nat}{FN:Pos}(hs:starEach [a,b] X.env=[(false,eval a X.env),(false,eval b X.env)])(hs2:starEach [b] X.env=[(false,eval b X.env)])(hg:Gl X "zip")(hm:X.mg "zip" = none)(hv:bootBuiltins "zip" = some (.type "zip"))(ha:jw X [a,b] [ta,tb]) :
  uO X (.Tuple elts k0 FN) (.Call (.Name "zip" p) [a,b] [] pos) (qF ta tb):=
 ⟨jB (sv hg hm hv ha.ok hs hs2) fun σ H R ⟨σ3,S,R3,E3,rσ,rS,h,xo,k⟩=>⟨σ3,S,_,E3,rσ,rS,h,xo,fun v S1 v' H1 h1 rv Er g1=>⟨σ3,S1,_,E3,rσ.mono g1,Er,h1,xo.mono g1,fun w S2 w' H2 h2 rw' FM g2=>by
  dsimp only at h2
  split at h2
  ·cases rv with
   |tup hq rs=>
    cases rw' with
    |tup hq2 IM=>exact⟨false,false,_,_,rfl,⟨_,g2.t _ _ hq⟩,⟨_,hq2⟩,k _ S2 _ H2 h2 (g6 (.tup (g2.t _ _ hq) (rs.mono g2)) (.tup hq2 IM)) FM (g1.trans g2)⟩
  ·exact h2.elim⟩⟩⟩
end
section
variable {X:Cx} {iter tg c:Expr} {body:List Stmt} {ti:qB} {g:Tg} {tb:bO} {tc:iX} {pos:Pos}
noncomputable def kZ(g:Tg)(tb:bO)(D:jv)(keep:av->Prop):List PV->cK->av->Prop
 |[],σ,S=>keep S/\D.nx σ S
 |x::r,σ,S=>keep S/\match g.put x σ with|some σ'=>tb { D with nx:=kZ g tb D keep r,ct:=kZ g tb D keep r,bk:=D.nx } σ' S|none=>False
def cO(ti:qB)(g:Tg)(tb:bO):bO:=fun D σ S=>ti σ S (fun src S1=>kZ g tb D src.keep src.items σ S1) D.ex
def eX(hp:PassesOwn (model X.prog X.w) X.A X.env X.xe)(hc:X.calm=true)(hi:uO X tg iter ti)(hg:uN X tg g)(hb:i_ X body tb)(hs:∀x,foldedSetIterable iter X.env x=pure x:=by intro _;rfl):nA X (.For tg iter body [] pos) (cO ti g tb):=
 ⟨dk (xS hp hc hi.ok hg.ok hb.ok hs) fun D σ H ⟨σ3,S,D3,rσ,rS,h,xo,n,r,bk,ct⟩=>⟨σ3,S,_,D3.ex,rσ,rS,h,xo,fun src S1 J H1 h1 sim Er g1=>by
  refine⟨fun i m σ' H'=>i+m=src.items.length/\∃σ4 S',Ep X.K H' σ' σ4/\Ej X.K H' S'/\Grow X.K H1 H'/\kZ g tb D3 src.keep (src.items.drop i) σ4 S',⟨src.items.length,Nat.zero_add _,σ3,S1,rσ.mono g1,Er,.refl,by simpa using h1⟩,?_⟩
  rintro i m σ' H' ⟨hm,σ4,S',HQ,Fy,g',hw⟩
  cases hd:src.items.drop i with
  |nil=>
   rw[hd]at hw
   have hi:i=src.items.length:=by
    have:=congrArg List.length hd
    rw[List.length_drop,List.length_nil]at this
    omega
   exact .inl ⟨(sim i S' H' g' Fy hw.1).2 hi,n _ S' _ H' hw.2 HQ Fy (g1.trans g')⟩
  |cons x rest=>
   rw[hd]at hw
   have hx:src.items[i]?=some x:=by
    have:=congrArg (fun l=>l[0]?) hd
    simpa using this
   have hrest:src.items.drop (i+1)=rest:=by
    have:=congrArg List.tail hd
    simpa [List.tail_drop]using this
   have hlt:i < src.items.length:=by
    by_cases z:i < src.items.length
    ·exact z
    ·rw[List.getElem?_eq_none (by omega)]at hx;cases hx
   obtain⟨go,yl⟩:=(sim i S' H' g' Fy hw.1).1 x hx
   refine .inr ⟨go,fun σ5 H5=>∃σ6 S6,Ep X.K H5 σ5 σ6/\Ej X.K H5 S6/\Grow X.K H1 H5/\kZ g tb D3 src.keep rest σ6 S6,?_,fun v H5 hv=>?_⟩
   ·rintro σ5 H5 ⟨σ6,S6,q1,q2,q3,q4⟩
    exact⟨m - 1,by omega,by omega,σ6,S6,q1,q2,q3,by rw[hrest];exact q4⟩
   ·obtain⟨rv,Ky,g5⟩:=yl v H5 hv
    obtain⟨_,hw⟩:=hw
    split at hw
    ·rename_i σ6 e6
     refine Tg.Gx (own:=0) g rv (HQ.mono g5) e6 fun σ7 JS _=>?_
     exact⟨σ6,S',_,JS,Ky,hw,xo.mono (g1.trans (g'.trans g5)),fun σ8 S8 σ9 H9 q1 q2 q3 q4=>⟨σ8,S8,q2,q3,g'.trans (g5.trans q4),q1⟩,r.mono (g1.trans (g'.trans g5)),n.mono (g1.trans (g'.trans g5)),
      fun σ8 S8 σ9 H9 q1 q2 q3 q4=>⟨σ8,S8,q2,q3,g'.trans (g5.trans q4),q1⟩⟩
    ·exact hw.elim⟩⟩
def iC(tc:iX)(tb:bO):bO:=fun D σ S=>∃W:Nat->cK->av->Prop,(∃m,W m σ S)/\∀m σ S,W m σ S->
 tc σ S (fun b S1=>if b=true then ∃N:cK->av->Prop,(∀σ' S',N σ' S'->∃m',m' < m/\W m' σ' S')/\tb { D with nx:=N,ct:=N,bk:=D.nx } σ S1 else D.nx σ S1) D.ex
def g7(hp:PassesOwn (model X.prog X.w) X.A X.env X.xe)(hc:nz X c tc)(hb:i_ X body tb):nA X (.While c body [] pos) (iC tc tb):=
 ⟨dk (rD hp hc.ok hb.ok) fun D σ H ⟨σ3,S,D3,rσ,rS,⟨W,⟨m0,w0⟩,turn⟩,xo,n,r,bk,ct⟩=>by
  refine⟨fun m σ' H'=>∃σ4 S',Ep X.K H' σ' σ4/\Ej X.K H' S'/\Grow X.K H H'/\W m σ4 S',⟨m0,σ3,S,rσ,rS,.refl,w0⟩,?_⟩
  rintro m σ' H' ⟨σ4,S',HQ,Fy,g',w'⟩
  refine⟨σ4,S',_,D3.ex,HQ,Fy,turn m σ4 S' w',xo.mono g',fun b S1 H1 h1 Er g1=>?_⟩
  cases b with
  |true=>
   rw[if_pos rfl]at h1 ⊢
   obtain⟨N,hN,h1⟩:=h1
   refine⟨fun σ5 H5=>∃σ6 S6,Ep X.K H5 σ5 σ6/\Ej X.K H5 S6/\Grow X.K H H5/\N σ6 S6,?_,?_⟩
   ·rintro σ5 H5 ⟨σ6,S6,q1,q2,q3,q4⟩
    obtain⟨m',hm,w6⟩:=hN σ6 S6 q4
    exact⟨m',hm,σ6,S6,q1,q2,q3,w6⟩
   ·exact⟨σ4,S1,_,HQ.mono g1,Er,h1,xo.mono (g'.trans g1),fun σ8 S8 σ9 H9 q1 q2 q3 q4=>⟨σ8,S8,q2,q3,g'.trans (g1.trans q4),q1⟩,r.mono (g'.trans g1),n.mono (g'.trans g1),
     fun σ8 S8 σ9 H9 q1 q2 q3 q4=>⟨σ8,S8,q2,q3,g'.trans (g1.trans q4),q1⟩⟩
  |false=>
   rw[if_neg (by decide)]at h1 ⊢
   exact n _ S1 _ H1 h1 (HQ.mono g1) Er (g'.trans g1)⟩
end
noncomputable def fZ:b9:=fun _ _ _=>False
def Ht.no{X:Cx}{H:Hp}:Ht X H fZ:=fun _ _ _ _ _ _ _ _ _ _ _ _ _ _ h=>h.elim
section
variable {X:Cx} {elt iter tg c:Expr} {ifs:List Expr} {scope:Scope} {pos:Pos} {ti:qB} {g:Tg} {tc:iX} {te:aT} {fs N:Vs} {own:Nat} {fr:List Nat}
noncomputable def dY(g:Tg)(tc:iX)(te:aT)(σ':cK)(keep:av->Prop)(fin:List PV->av->Prop):List PV->List PV->av->Prop
 |[],ys,S=>keep S/\ys.length<=sizeLine/\fin ys S
 |x::r,ys,S=>keep S/\ys.length<=sizeLine/\match g.put x σ' with
  |some σ2=>tc σ2 S (fun b S3=>if b=true then te σ2 S3 (fun y S4=>dY g tc te σ' keep fin r (ys++[y]) S4) fZ else dY g tc te σ' keep fin r ys S3) fZ
  |none=>False
def a8:iX:=fun _ S Q _=>Q true S
structure zT (X:Cx) (ifs:List Expr) (t:iX):Prop where
 ok:PF X ifs (LT X t)
def nG{t t':TT}(h:PF X ifs t)(k:∀σ H Q,t' σ H Q->t σ H Q):PF X ifs t':=fun pins s σ H Q I q=>h pins s σ H Q I (k σ H Q q)
def bx:zT X [] a8:=⟨nG yr fun σ H Q ⟨σ3,S,Q3,E3,rσ,rS,h,xo,k⟩=>k true S H h rS .refl⟩
def sP(h:nz X c tc):zT X [c] tc:=⟨yt h.ok⟩
noncomputable def bQ(own:Nat)(fr:List Nat)(σ:cK):cK:=List.replicate own none++fr.map fun j=>lk σ j
def vO{K:Vo}{H:Hp}{σ:L2.St}{σ3:cK}(r:Ep K H σ σ3)(own:Nat)(fr:List Nat):Ep K H (dW own fr σ) (bQ own fr σ3):=by
 refine⟨by unfold dW bQ;simp,fun i p e=>?_⟩
 unfold bQ at e
 unfold dW
 by_cases hi:i < own
 ·rw[List.getElem?_append_left (by simpa using hi),List.getElem?_replicate,if_pos hi]at e
  cases e
 ·rw[List.getElem?_append_right (by simpa using hi),List.length_replicate,List.getElem?_map]at e ⊢
  cases hj:fr[i - own]? with
  |none=>rw[hj]at e;cases e
  |some j=>
   rw[hj]at e
   simp only[Option.map_some,Option.some.injEq]at e ⊢
   obtain⟨v,hv,rv⟩:=r.at' j p (sA e)
   exact⟨v,by rw[hv];rfl,rv⟩
def ar(ti:qB)(g:Tg)(tc:iX)(te:aT)(own:Nat)(fr:List Nat):aT:=fun σ S Q E=>ti σ S (fun src S1=>dY g tc te (bQ own fr σ) src.keep (fun ys S2=>∀p,S2 p=none->Q (.ref p) (Ee S2 p (.lst ys))) src.items [] S1) E
def kr{σ:L2.St}{H:Hp}{Q:VK}(HX:g.under own=true)(B0:Bk):LE X (ar ti g tc te own fr) σ H Q->sf (LI X ti) (g.g2 X.K) (fun σ H Q=>∃σ3 S Q3,Ep X.K H σ σ3/\Ej X.K H S/\tc σ3 S Q3 fZ/\∀b S' H',Q3 b S'->Ej X.K H' S'->Grow X.K H H'->Q b H')
  (fun σ H Q=>∃σ3 S Q3,Ep X.K H σ σ3/\Ej X.K H S/\te σ3 S Q3 fZ/\Hu X.K H Q3 Q) own fr σ H Q:=fun⟨σ3,S,Q3,E3,rσ,rS,h,xo,k⟩=>by
 refine⟨σ3,S,_,E3,rσ,rS,h,xo,fun src S1 J H1 h1 sim Er g1=>?_⟩
 refine⟨fun i m ys H'=>i+m=src.items.length/\∃zs S',Reps X.K H' ys zs/\Ej X.K H' S'/\Grow X.K H1 H'/\dY g tc te (bQ own fr σ3) src.keep (fun ys S2=>∀p,S2 p=none->Q3 (.ref p) (Ee S2 p (.lst ys))) (src.items.drop i) zs S',⟨src.items.length,Nat.zero_add _,[],S1,.nil,Er,.refl,by simpa using h1⟩,?_⟩
 rintro i m ys H' ⟨hm,zs,S',rz,Fy,g',hw⟩
 cases hd:src.items.drop i with
 |nil=>
  rw[hd]at hw
  have hi:i=src.items.length:=by
   have:=congrArg List.length hd
   rw[List.length_drop,List.length_nil]at this
   omega
  refine .inl ⟨(sim i S' H' g' Fy hw.1).2 hi,by rw[rz.length];exact hw.2.1,fun D hD=>?_⟩
  exact k _ _ _ _ (hw.2.2 D (Fy.free hD)) (.ref D) (Fy.new hD ⟨_,ay,rz.mono (.new hD)⟩) (g1.trans (g'.trans (.new hD)))
 |cons x rest=>
  rw[hd]at hw
  have hx:src.items[i]?=some x:=by
   have:=congrArg (fun l=>l[0]?) hd
   simpa using this
  have hrest:src.items.drop (i+1)=rest:=by
   have:=congrArg List.tail hd
   simpa [List.tail_drop]using this
  have hlt:i < src.items.length:=by
   by_cases z:i < src.items.length
   ·exact z
   ·rw[List.getElem?_eq_none (by omega)]at hx;cases hx
  obtain⟨go,yl⟩:=(sim i S' H' g' Fy hw.1).1 x hx
  refine .inr ⟨go,by rw[rz.length];exact hw.2.1,fun ys' H5=>∃zs' S6,Reps X.K H5 ys' zs'/\Ej X.K H5 S6/\Grow X.K H1 H5/\dY g tc te (bQ own fr σ3) src.keep (fun ys S2=>∀p,S2 p=none->Q3 (.ref p) (Ee S2 p (.lst ys))) rest zs' S6,?_,fun v H5 hv=>?_⟩
  ·rintro ys' H5 ⟨zs',S6,q1,q2,q3,q4⟩
   exact⟨m - 1,by omega,by omega,zs',S6,q1,q2,q3,by rw[hrest];exact q4⟩
  ·obtain⟨rv,Ky,g5⟩:=yl v H5 hv
   obtain⟨_,_,hw⟩:=hw
   split at hw
   ·rename_i σ6 e6
    refine Tg.Gx (own:=own) g rv ((vO rσ own fr).mono (g1.trans (g'.trans g5))) e6 fun σ7 JS d7=>⟨d7 HX,?_⟩
    refine⟨σ6,S',_,JS,Ky,hw,fun b S8 H8 h8 Lb g8=>?_⟩
    cases b with
    |true=>
     rw[if_pos rfl]at h8 ⊢
     exact⟨σ6,S8,_,JS.mono g8,Lb,h8,fun y S9 y' H9 h9 ry Mj g9=>⟨zs++[y],S9,(rz.mono (g5.trans (g8.trans g9))).append (.cons ry .nil),Mj,g'.trans (g5.trans (g8.trans g9)),h9⟩⟩
    |false=>
     rw[if_neg (by decide)]at h8 ⊢
     exact⟨zs,S8,rz.mono (g5.trans g8),Lb,g'.trans (g5.trans g8),h8⟩
   ·exact hw.elim
def yK(fs:Vs)(own:Nat)(fr:List Nat)(N:Vs)(HX:g.under own=true)(hc:X.calm=true)(hclos:closureFor scope X.env=pure (cM X.env fs))(hcell:∀y∈scope.names,y.2 ≠ .cell)(hkind:scope.kind = .function)
  (hnames:∀x∈scope.names,x.2 = .local->scope.names.lookup x.1=some .local) (hcl:cD X.env fs) (hhas:kW (relabel scope X.env).names (cM X.env fs)=true)
  (hlen:N.length=own+fr.length) (hN:(N.drop own).map some=fr.map fun j=>X.N[j]?) (hF:EU X.env scope (cM X.env fs) (N.drop own))
  (hi:uO X tg iter ti) (hg:∀B,uN (X.FH N scope fs B) tg g) (hf:∀B,zT (X.FH N scope fs B) ifs tc) (he:∀B,bj (X.FH N scope fs B) elt te)
  (hs:∀x,foldedSetIterable iter X.env x=pure x:=by intro _;rfl):bj X (.ListComp elt [⟨tg,iter,ifs,0⟩] scope pos) (ar ti g tc te own fr):=
 ⟨aR (vz fs own fr N hc hclos hcell hkind hnames hcl hhas hlen hN hF hi.ok (fun B=>(hg B).ok)
  (fun B=>nG (hf B).ok fun σ H Q ⟨σ3,S,Q3,rσ,rS,h,k⟩=>⟨σ3,S,Q3,fZ,rσ,rS,h,.no,k⟩) (fun B=>aR (he B).ok fun σ H Q ⟨σ3,S,Q3,rσ,rS,h,k⟩=>⟨σ3,S,Q3,fZ,rσ,rS,h,.no,k⟩) hs) fun _ _ _=>kr HX ⟨0,X.s₀,X.H₀,[],[]⟩⟩
def yL(fs:Vs)(own:Nat)(fr:List Nat)(N:Vs){i:Nat}{y:Str}{py spos:Pos}(hX:X.N.Nodup)(hix:X.N[i]?=some y)(hy:X.env.scope.names.lookup y=some .local)
  (hsw:swapsWith (.ListComp elt [⟨tg,iter,ifs,0⟩] scope pos) (some (.Name y py)) spos.line X.env=pure true)
  (HX:g.under own=true) (hc:X.calm=true) (hclos:closureFor scope X.env=pure (cM X.env fs)) (hcell:∀y∈scope.names,y.2 ≠ .cell) (hkind:scope.kind = .function)
  (hnames:∀x∈scope.names,x.2 = .local->scope.names.lookup x.1=some .local) (hcl:cD X.env fs) (hhas:kW (relabel scope X.env).names (cM X.env fs)=true)
  (hlen:N.length=own+fr.length) (hN:(N.drop own).map some=fr.map fun j=>X.N[j]?) (hF:EU X.env scope (cM X.env fs) (N.drop own))
  (hi:uO X tg iter ti) (hg:∀B,uN (X.FH N scope fs B) tg g) (hf:∀B,zT (X.FH N scope fs B) ifs tc) (he:∀B,bj (X.FH N scope fs B) elt te)
  (hs:∀x,foldedSetIterable iter X.env x=pure x:=by intro _;rfl):nA X (.Assign [.Name y py] (.ListComp elt [⟨tg,iter,ifs,0⟩] scope pos) spos) (aq i (ar ti g tc te own fr)):=
 ⟨dk (vA fs own fr N hX hix hy hsw hc hclos hcell hkind hnames hcl hhas hlen hN hF hi.ok (fun B=>(hg B).ok)
  (fun B=>nG (hf B).ok fun σ H Q ⟨σ3,S,Q3,rσ,rS,h,k⟩=>⟨σ3,S,Q3,fZ,rσ,rS,h,.no,k⟩) (fun B=>aR (he B).ok fun σ H Q ⟨σ3,S,Q3,rσ,rS,h,k⟩=>⟨σ3,S,Q3,fZ,rσ,rS,h,.no,k⟩) hs)
  fun D σ H ⟨σ3,S,D3,rσ,rS,h,xo,n,r,bk,ct⟩=>kr HX ⟨0,X.s₀,X.H₀,[],[]⟩ ⟨σ3,S,_,D3.ex,rσ,rS,h,xo,fun p S1 v H1 h1 rv Er g1=>n _ S1 _ H1 h1 ((rσ.mono g1).set rv i) Er g1⟩⟩
end
abbrev aH:=List PV->av->bH->b9->Prop
noncomputable def A1(K:Vo)(n:Nat)(sp:aH):Sp:=fun vs H Q _=>vs.length=n/\∃ps S Q3 E3,Reps K H vs ps/\Ej K H S/\sp ps S Q3 E3/\Hu K H Q3 Q
structure zU (P:Program) (w:World) (K:Vo) (mg:Vr) (base:Heap) (k:Nat) (f:Addr) (fd:FuncData) (ps:Vs) (sp:aH):Prop where
 ok:iu P w K mg base wN k f fd ps (A1 K ps.length sp)
section
variable {X:Cx} {e o:Expr} {es:List Expr} {te to:aT} {ts:List aT} {x:Str} {p pos apos cpos:Pos} {k:Nat} {f:Addr} {fd:FuncData} {ps:Vs} {sp:aH}
def ac(sp:aH)(ts:List aT):aT:=fun σ S Q E=>ag ts σ S (fun ps S1=>sp ps S1 Q E) E
def yM(F:zU X.prog X.w X.K X.mg X.base k f fd ps sp)(hr:Room k X.A)(hg:Gl X x)(hm:X.mg x=some (.ref f))(hk:PySem.W.keepIn X.K (.ref f)=true)(hb:Binds X.K fd ps [])(he:starEach (e::es) X.env=(false,eval e X.env)::starEach es X.env)(ha:jw X (e::es) ts)
  (hl:ts.length=ps.length:=by rfl) (hdb:(x == ("__debug__":Str))=false:=by decide) (hpl:(backTo pos (starEach es X.env)).any (·.1)=false:=by rfl):bj X (.Call (.Name x p) (e::es) [] pos) (ac sp ts):=
 ⟨aR (vd F.ok hr hg hm hk hb .nil oP ha.ok hdb he hpl) fun σ H Q ⟨σ3,S,Q3,E3,rσ,rS,h,xo,k⟩=>cA rσ rS h xo fun ps' S' vs H' hl' q rv Fy g=>by
  rw[List.append_nil]
  exact⟨by rw[rv.length,hl',hl],ps',S',Q3,E3,rv,Fy,q,k.mono g⟩⟩
end
noncomputable def ax(n:Nat)(args:List PV):cK:=args.map some++List.replicate (n - args.length) none
def bf(n:Nat)(t:bO):aH:=fun args S Q _=>t { nx:=fun _ S'=>Q .non S',rt:=Q,ex:=fZ } (ax n args) S
def qG{K:Vo}{H:Hp}{N:Vs}{vs:List V}{ps:List PV}(r:Reps K H vs ps):Ep K H (L2.fe N vs) (ax N.length ps):=by
 refine⟨by unfold L2.fe ax;simp[r.length],fun i p e=>?_⟩
 unfold ax at e
 unfold L2.fe
 by_cases hi:i < ps.length
 ·rw[List.getElem?_append_left (by simpa using hi),List.getElem?_map]at e
  cases hp:ps[i]? with
  |none=>rw[hp]at e;cases e
  |some q=>
   rw[hp]at e
   cases e
   obtain⟨v,hv,rv⟩:=r.get hp
   rw[List.getElem?_append_left (by rw[List.length_map,r.length];exact hi),List.getElem?_map,hv]
   exact⟨v,rfl,rv⟩
 ·rw[List.getElem?_append_right (by simpa using hi),List.getElem?_replicate]at e
  split at e
  ·cases e
  ·cases e
section
variable {P:Program} {w:World} {K:Vo} {mg:Vr} {base:Heap}
noncomputable abbrev B6(P:Program)(w:World)(K:Vo)(mg:Vr)(base:Heap)(N:Vs)(qual:Str)(st:Stmt)(f:Addr)(cdv:Value)(A:Around)(outer:List Env)(s:Shared)(H:Hp)(E:XK):Cx:=(m5 wN P w K mg base N qual (aN st) f cdv A outer s H E).Jp
def CV{x qual:Str}{st:Stmt}{f:Addr}{fd:FuncData}{N ps:Vs}{k:Nat}{t:bO}(F:HV K x qual st f fd)(S:d_ N ps (aN st))
  (hbody:∀(cdv:Value) (A:Around) (outer:List Env) (s:Shared) (H:Hp) (E:XK),Room k (A.deeper (PyProof.Rows.envOfC qual (aN st) s.heap.objs.size f cdv))->i_ (B6 P w K mg base N qual st f cdv A outer s H E) (bI st) t) :
  zU P w K mg base (k+1) f fd ps (bf N.length t):=
 ⟨F.ok S (fun vs H Q E h=>h.1) fun cdv A outer s H vs Q E hr ⟨hl,ps',S',Q3,E3,rv,rS,q,kk⟩=>⟨_,(hbody cdv A outer s H E hr).ok,ax N.length ps',S',_,qG rv,rS,q,.no,fun σ3 S2 σ2 H2 h2 _ FM g2=>kk _ S2 _ H2 h2 .non FM g2,kk,fun _ _ _ _ h2=>h2.elim,fun _ _ _ _ h2=>h2.elim⟩⟩
end
section
variable {X:Cx} {o e f:Expr} {to te tf:aT} {pos apos cpos:Pos}
noncomputable def iD:List (aT×aT)->cK->av->(List (PV×PV)->av->Prop)->b9->Prop
 |[],_,S,Q,_=>Q [] S
 |(tk,tv)::r,σ,S,Q,E=>tk σ S (fun x S1=>tv σ S1 (fun y S2=>iD r σ S2 (fun ps S3=>Q ((x,y)::ps) S3) E) E) E
noncomputable def ma:List (PV×PV)->Option (List (bZ×PV))
 |[]=>some []
 |(x,y)::r=>match nF x,ma r with|some k,some l=>some ((k,y)::l)|_,_=>none
noncomputable def k4(kvs more:List (bZ×PV)):List (bZ×PV):=more.foldl (fun acc kv=>kY acc kv.1 kv.2) kvs
structure B7 (X:Cx) (pos:Pos) (keys:List (Option Expr)) (values:List Expr) (Gb:List (aT×aT)):Prop where
 ok:AI X pos keys values (Gb.map fun t=>(LE X t.1,LE X t.2))
def yN:B7 X pos [] [] []:=⟨vq⟩
def k5{k v:Expr}{ks:List (Option Expr)}{vs:List Expr}{tk tv:aT}{Gb:List (aT×aT)}(hk:bj X k tk)(hv:bj X v tv)(hr:B7 X pos ks vs Gb):B7 X pos (some k::ks) (v::vs) ((tk,tv)::Gb):=⟨r_ hk.ok hv.ok hr.ok⟩
inductive ku (K:Vo) (H:Hp):List (V×V)->List (PV×PV)->Prop
 |nil:ku K H [] []
 |cons {a b:V} {p q:PV} {vs:List (V×V)} {ps:List (PV×PV)}:Rep K H a p->Rep K H b q->ku K H vs ps->ku K H ((a,b)::vs) ((p,q)::ps)
theorem jC:∀{Gb:List (aT×aT)} {σ:L2.St} {H:Hp} {Q:List (V×V)->Hp->Prop} {σ3:cK} {S:av} {Q3:List (PV×PV)->av->Prop} {E3:b9},Ep X.K H σ σ3->Ej X.K H S->iD Gb σ3 S Q3 E3->Ht X H E3->
  (∀ps S' vs H',ps.length=Gb.length->Q3 ps S'->ku X.K H' vs ps->Ej X.K H' S'->Grow X.K H H'->Q vs H')->kS (Gb.map fun t=>(LE X t.1,LE X t.2)) σ H Q
 |[],σ,H,Q,σ3,S,Q3,E3,rσ,rS,h,xo,k=>k [] S [] H rfl h .nil rS .refl
 |(tk,tv)::ts,σ,H,Q,σ3,S,Q3,E3,rσ,rS,h,xo,k=>
  ⟨σ3,S,_,E3,rσ,rS,h,xo,fun p S1 v H1 h1 rv Er g1=>⟨σ3,S1,_,E3,rσ.mono g1,Er,h1,xo.mono g1,fun p2 S2 v2 H2 h2 Kz FM g2=>jC (rσ.mono (g1.trans g2)) FM h2 (xo.mono (g1.trans g2)) fun ps S3 vs H3 hl h3 Kv Ju g3=>
   k ((p,p2)::ps) S3 ((v,v2)::vs) H3 (by rw[List.length_cons,List.length_cons,hl]) h3 (.cons (rv.mono (g2.trans g3)) (Kz.mono g3) Kv) Ju (g1.trans (g2.trans g3))⟩⟩
theorem kx{K:Vo}{H:Hp}:∀{vs:List (V×V)} {ps:List (PV×PV)} {l:List (bZ×PV)},ku K H vs ps->ma ps=some l->∃kvs:List (bZ×V),vs=kvs.map (fun kv=>(kV kv.1,kv.2))/\Eo K H kvs l
 |_,_,_,.nil,h=>by cases h;exact⟨[],rfl,.nil⟩
 |_,_,l,.cons a b r,h=>by
  unfold ma at h
  split at h
  ·rename_i k l' ek el
   cases h
   obtain⟨kvs,e,q⟩:=kx r el
   refine⟨(k,_)::kvs,?_,.cons b q⟩
   rw[List.map_cons,<-e,gr a ek]
  ·cases h
def Eo.merge{K:Vo}{H:Hp}{more:List (bZ×V)}{m3:List (bZ×PV)}(r:Eo K H more m3):∀{kvs:List (bZ×V)} {k3:List (bZ×PV)},Eo K H kvs k3->Eo K H (ix kvs more) (k4 k3 m3):=by
 induction r with
 |nil=>intro kvs k3 q;exact q
 |cons a r ih=>intro kvs k3 q;exact ih (q.put a)
def md(Gb:List (aT×aT)):aT:=fun σ S Q E=>∀p,S p=none->iD Gb σ (Ee S p (.dct [])) (fun ps S2=>S2 p=some (.dct [])/\match ma ps with|some kvs=>Q (.ref p) (Ee S2 p (.dct (k4 [] kvs)))|none=>False) E
def yO{keys:List (Option Expr)}{values:List Expr}{Gb:List (aT×aT)}(h:B7 X pos keys values Gb)(hall:keys.all (·.isSome)=true:=by rfl)(hl:keys.length=values.length:=by rfl)(h0:keys≠[]:=by exact List.cons_ne_nil _ _)(Kk:keys.length<=15:=by decide)
  (ht:Gb.length<=15:=by exact Nat.le_of_ble_eq_true rfl):bj X (.Dict keys values pos) (md Gb):=
 ⟨aR (vt h.ok hall hl h0 Kk) fun σ H Q ⟨σ3,S,Q3,E3,rσ,rS,hq,xo,k⟩=>fun p hp=>by
  have g0:Grow X.K H (upd H p (.dK [])):=.new hp
  refine jC (rσ.mono g0) (rS.new hp (o:=.dct []) ⟨[],ay,.nil⟩) (hq p (rS.free hp)) (xo.mono g0) fun ps S' vs H' hl' q rv Fy g=>?_
  obtain⟨e,q⟩:=q
  obtain⟨kv,hv,rk⟩:=Fy _ _ e
  cases rk
  refine⟨hv,?_⟩
  split at q
  ·rename_i kvs ek
   obtain⟨l,el,rl⟩:=kx rv ek
   refine⟨l,el,?_,k _ _ _ _ q (.ref p) (Fy.put hv trivial ⟨_,ay,(Eo.merge rl .nil).mono (.mut hv trivial)⟩) (g0.trans (g.trans (.mut hv trivial)))⟩
   have z1:∀{vs:List (V×V)} {ps:List (PV×PV)},ku X.K H' vs ps->vs.length=ps.length:=by
    intro vs ps r
    induction r with
    |nil=>rfl
    |cons _ _ _ ih=>rw[List.length_cons,List.length_cons,ih]
   have z2:=congrArg List.length el
   rw[List.length_map,z1 rv,hl']at z2
   omega
  ·exact q.elim⟩
def me(te:aT):aT:=fun σ S Q E=>te σ S (fun x S1=>match x with
 | .ref a=>(match S1 a with|some (.lst xs)=>∀p,S1 p=none->Q (.ref p) (Ee S1 p (.lst xs.reverse))|_=>False)
 |_=>False) E
def yP{p1 p2 q1 q2:Pos}(hs:starEach [e] X.env=[(false,eval e X.env)])(hc:X.calm=true)(he:bj X e te)(IK:Gl X "list")(hm1:X.mg "list" = none)(IL:Gl X "reversed")(hm2:X.mg "reversed" = none):bj X (.Call (.Name "list" p1) [.Call (.Name "reversed" p2) [e] [] q2] [] q1) (me te):=
 ⟨aR (ni hc he.ok IK hm1 IL hm2 hs rfl) fun σ H Q ⟨σ3,S,Q3,E3,rσ,rS,h,xo,k⟩=>⟨σ3,S,_,E3,rσ,rS,h,xo,fun x S1 v H1 h1 rx Er g1=>by
  dsimp only at h1
  split at h1
  ·cases rx
   split at h1
   ·rename_i ea
    obtain⟨vs,hv,rs⟩:=Er _ _ ea
    exact⟨_,_,rfl,SqL.of hv,fun q hq=>k _ _ _ _ (h1 q (Er.free hq)) (.ref q) (Er.new hq ⟨_,ay,rs.reverse.mono (.new hq)⟩) (g1.trans (.new hq))⟩
   ·exact h1.elim
  ·exact h1.elim⟩⟩
end
def b_:R3:=bN fun i j=>.int (i - j)
def g_:R3:=eU (fun _ j=>j≠0) fun i j=>.int (i.fmod j)
def dE:R3:=eU jy fun i j=>.int (i.fdiv j)
def sQ:R3:=eU xU fun i j=>.int (i ^ j.toNat)
def mQ:R3:=bN fun i j=>.bl (decide (i < j))
def zV:R3:=bN fun i j=>.bl (decide (i<=j))
def lL:R3:=bN fun i j=>.bl (decide (j < i))
def vP:R3:=bN fun i j=>.bl (decide (j<=i))
section
variable {X:Cx}
def f_:gv X (binaryOp .Sub) b_:=yC
def ga:gv X (binaryOp .Mod) g_:=yD
def fq:gv X (binaryOp .FloorDiv) dE:=vE
def A2:gv X (binaryOp .Pow) sQ:=yE
def nH:gv X (compareOp .Lt) mQ:=AM
def CZ:gv X (compareOp .LtE) zV:=AN
def k6:gv X (compareOp .Gt) lL:=AO
def yQ:gv X (compareOp .GtE) vP:=AQ
end
def wW{A:Around}{k:Nat}(hr:Room k A):A.units+1 < cLine:=by have:=hr.un;omega
def sR{A:Around}{k:Nat}(hr:Room k A):A.units+150 < cLine:=by have:=hr.un;omega
structure B8 (K:Vo) (mg:Vr) (x:Str) (st:Stmt) (ps:Vs) (f:Addr) (fd:FuncData):Prop where
 F:HV K x x st f fd
 b:Binds K fd ps []
 k:PySem.W.keepIn K (.ref f)=true
 m:mg x=some (.ref f)
def C0{K:Vo}{H:Hp}{a:Addr}{ns:Vu}{sp:aH}(hO:vv H)(hS:SqL K H a (ns.map V.int))(h:sp [.cl (ns.map PV.int)] (fun _=>none) (fun v _=>v = .bl true) fZ):A1 K 1 sp [.ref a] H (fun v _=>v = .bl true) fun _ _ _=>False:=by
 have hr:∀l:List Int,Reps K H (l.map V.int) (l.map PV.int):=by
  intro l
  induction l with
  |nil=>exact .nil
  |cons x r ih=>exact .cons (.int x) ih
 refine⟨rfl,[.cl (ns.map PV.int)],fun _=>none,_,fZ,.cons (.cl (vs:=ns.map V.int) ?_ (hr ns)) .nil,(fun b o e=>by simp at e),h,fun p S' v H' q rv rS g=>?_⟩
 ·rcases hS with(q|q)|q
  ·rcases hO a with z|⟨o,xs,z⟩
   ·rw[z]at q;cases q
   ·rw[z]at q;cases q
  ·exact .inl q
  ·exact .inr q
 ·subst q
  cases rv
  rfl
end L3
namespace L2
open PySem PySem.Spec PyProof.Rows
end L2
namespace HT
open PySem PySem.Spec PyProof.Rows
end HT
namespace L2
open PySem PySem.Spec PyProof.Rows
end L2
namespace L3
open PySem L2
section
variable {X:Cx} {e st:Expr} {te ts:aT} {p2 pos:Pos}
noncomputable def dN:List PV->Option (List Int)
 |[]=>some []
 | .int i::r=>(dN r).map (i::·)
 |_::_=>none
theorem hG:∀ns:List Int,dN (ns.map PV.int)=some ns
 |[]=>rfl
 |n::ns=>by rw[List.map_cons];unfold dN;rw[hG ns];rfl
theorem dZ{K:Vo}{H:Hp}:∀{vs:List V} {ps:List PV} {ns:Vu},Reps K H vs ps->dN ps=some ns->vs=ns.map V.int
 |_,_,_,.nil,h=>by cases h;rfl
 |_,_,ns,.cons (p:=p) a r,h=>by
  cases p with
  |int b=>
   cases a
   unfold dN at h
   cases e:dN _ with
   |none=>rw[e]at h;cases h
   |some l=>rw[e]at h;cases h;rw[dZ r e];rfl
  |_=>cases h
end
end L3
namespace L2
open PySem PySem.Spec PyProof.Rows
end L2
namespace L3
open PySem L2
end L3
namespace L2
open PySem PySem.Spec PyProof.Rows PySem.AutoSeq1
end L2
namespace L3
open PySem L2
end L3
namespace C
open PySem L2 L3
def ft:bO:=(ah (aq 3 (ar (aF (aU (v3 0) (fY (v3 1)) (fY (c3 (.int 63))))) (.n 0) a8 (aj jz [(v3 0),(af b_ (c3 (.int 0)) (v3 0))]) 1 []))
  (ah (aq 4 (af aL (c3 (.int 7919)) (v3 1)))
  (ah (cO (aF (v3 3)) (.n 2) (aq 4 (af g_ (af aL (af aO (v3 4) (c3 (.int 48271))) (af g_ (v3 2) (c3 (.int 2147483629)))) (c3 (.int 2147483647)))))
  (aw (md [((c3 (.str "seed")),(v3 4)),((c3 (.str "number")),(c3 (.int 0))),((c3 (.str "left")),(me (ar (aF (v3 3)) (.n 0) (br (af vP (v3 0) (af sQ (c3 (.int 10)) (c3 (.int 18))))) (v3 0) 1 [])))])))))
def fu:bO:=(ah (iC (gU (br (af (e9 false) (af ak (v3 0) (c3 (.str "number"))) (c3 (.int 0)))) (br (af lL (aj bg [(af ak (v3 0) (c3 (.str "left")))]) (c3 (.int 0))))) (iB (jV "list" l9 (af ak (v3 0) (c3 (.str "left"))) []) (v3 0) (c3 (.str "number"))))
  (ah (aq 2 (af ak (v3 0) (c3 (.str "number"))))
  (ah (cN (br (af lL (v3 2) (c3 (.int 0)))) (ah (iB (af dE (v3 2) (v3 1)) (v3 0) (c3 (.str "number")))
  (aw (af g_ (v3 2) (v3 1)))) bd)
  (ah (aq 3 (af g_ (af aL (af aO (af ak (v3 0) (c3 (.str "seed"))) (c3 (.int 48271))) (c3 (.int 7919))) (c3 (.int 2147483647))))
  (ah (iB (af g_ (af aL (af aO (v3 3) (c3 (.int 40692))) (c3 (.int 104729))) (c3 (.int 2147483399))) (v3 0) (c3 (.str "seed")))
  (ah (aq 4 (af g_ (af aO (af ak (v3 0) (c3 (.str "seed"))) (af ak (v3 0) (c3 (.str "seed")))) (c3 (.int 2147483563))))
  (aw (af g_ (af aL (af aO (af g_ (af aO (v3 3) (v3 3)) (c3 (.int 2147483629))) (c3 (.int 2147483563))) (v3 4)) (v3 1)))))))))
def gy:bO:=(ah (j1 2 3 (aj jz [(v3 0),(af b_ (c3 (.int 0)) (v3 0))]) (v3 1))
  (ah (iC (br (af lL (v3 3) (c3 (.int 0)))) (j1 2 3 (v3 3) (af g_ (v3 2) (v3 3))))
  (aw (aV [(af dE (v3 0) (v3 2)),(af dE (v3 1) (v3 2))]))))
def fv(Ef EH:aH):bO:=(ah (aq 1 (ac Ef [(v3 0),(c3 (.int 4))]))
  (ah (cN (br (af (e9 false) (v3 1) (c3 (.int 0)))) (aw (aV [(c3 (.int 0)),(c3 (.int 1))])) bd)
  (ah (cN (br (af mQ (v3 1) (c3 (.int 3)))) (aw (aV [(af aL (c3 (.int 1)) (ac Ef [(v3 0),(c3 (.int 5))])),(c3 (.int 1))])) bd)
  (aw (ac EH [(ac Ef [(v3 0),(c3 (.int 1000))]),(af aL (c3 (.int 1)) (ac Ef [(v3 0),(c3 (.int 9))]))])))))
def jD:bO:=(ah (iC (br (af (e9 true) (v3 1) (c3 (.int 0)))) (ah (aq 2 (af g_ (v3 0) (v3 1)))
  (ah (aq 0 (v3 1))
  (aq 1 (v3 2)))))
  (aw (aj qA [(v3 0)])))
def gC(Ge:aH):bO:=(ah (aq 2 (ac Ge [(v3 0),(v3 1)]))
  (ah (cN (br (af mQ (v3 1) (c3 (.int 0)))) (aq 2 (iY cX (v3 2))) bd)
  (aw (aV [(af dE (v3 0) (v3 2)),(af dE (v3 1) (v3 2))]))))
def fw(Eu:aH):bO:=(aw (ac Eu [(af aL (af aO (af ak (v3 0) (c3 (.int 0))) (af ak (v3 1) (c3 (.int 1)))) (af aO (af ak (v3 1) (c3 (.int 0))) (af ak (v3 0) (c3 (.int 1))))),(af aO (af ak (v3 0) (c3 (.int 1))) (af ak (v3 1) (c3 (.int 1))))]))
def k7(Eu:aH):bO:=(aw (ac Eu [(af aO (af ak (v3 0) (c3 (.int 0))) (af ak (v3 1) (c3 (.int 0)))),(af aO (af ak (v3 0) (c3 (.int 1))) (af ak (v3 1) (c3 (.int 1))))]))
def fy(EH:aH):bO:=(aw (ac EH [(af aL (af aO (af ak (v3 0) (c3 (.int 0))) (af ak (v3 1) (c3 (.int 1)))) (af aO (af ak (v3 1) (c3 (.int 0))) (af ak (v3 0) (c3 (.int 1))))),(af aO (af ak (v3 0) (c3 (.int 1))) (af ak (v3 1) (c3 (.int 1))))]))
end C
namespace L3
open PySem L2
theorem mf:∀{a b:List Char},a.map Char.toNat=b.map Char.toNat->a=b
 |[],[],_=>rfl
 |[],_::_,h=>by simp at h
 |_::_,[],h=>by simp at h
 |x::a,y::b,h=>by
  simp only[List.map_cons,List.cons.injEq]at h
  rw[mf h.2,Char.toNat_inj.mp h.1]
def cV{a b:String}:(Str.ofString a=Str.ofString b)↔a=b:=by
 refine⟨fun h=>?_,fun h=>by rw[h]⟩
 rw[Str.ofString_eq_toList,Str.ofString_eq_toList]at h
 have h':a.toList.map Char.toNat=b.toList.map Char.toNat:=by
  have:=congrArg (fun s:Str=>s.cps.toList) h
  simpa using this
 exact String.toList_inj.mp (mf h')
def k_{i j:Int}(h1:-(2 ^ 64) < i)(h2:i < 2 ^ 64):IntMulOk i j:=(show HS i j from .inl ⟨h1,h2⟩).ok
def mh{i j:Int}(h1:-(2 ^ 64) < j)(h2:j < 2 ^ 64):IntMulOk i j:=(show HS i j from .inr ⟨h1,h2⟩).ok
def i3{i j:Int}(h:0<=j):i.fmod j=i % j:=Int.fmod_eq_emod_of_nonneg i h
def A3{i j:Int}(h:0<=j):i.fdiv j=i / j:=Int.fdiv_eq_ediv_of_nonneg i h
def yR{i j:Int}(h:0 < j)(h2:j < 2 ^ 64):jy i j:=⟨by omega,Nat.lt_trans (show j.natAbs < 2 ^ 64 by omega) (Nat.pow_lt_pow_right (by decide) (by decide))⟩
def EE(d l:Addr)(S S':av):Prop:=∀a o,S a=some o->a≠d->a≠l->S' a=some o
def EE.refl{d l:Addr}{S:av}:EE d l S S:=fun _ _ h _ _=>h
def EE.trans{d l:Addr}{S S1 S2:av}(a:EE d l S S1)(b:EE d l S1 S2):EE d l S S2:=fun x o h h1 h2=>b x o (a x o h h1 h2) h1 h2
def EE.upd{d l:Addr}{S:av}{o:SO}:EE d l S (Ee S d o):=fun x u h h1 h2=>by rw[al h1];exact h
def EE.Ml{d l:Addr}{S:av}{o:SO}:EE d l S (Ee S l o):=fun x u h h1 h2=>by rw[al h2];exact h
def EE.new{d l p:Addr}{S:av}{o:SO}(h:S p=none):EE d l S (Ee S p o):=fun x u hx h1 h2=>by rw[al (fun e=>by rw[e,h]at hx;cases hx)];exact hx
end L3
local macro_rules | `(tactic| walk_at "x")=>`(tactic| ((try dsimp only [L3.ah,L3.aq,L3.aw,L3.cE,L3.cN,L3.bd,L3.af,L3.v3,L3.c3,L3.lk,L3.ag,L3.aj,L3.ac,L3.jV,L3.br,L3.gU,L3.sE,L3.l6,L3.l7,L3.iB,L3.j1,L3.aV,L3.bV,L3.iY,L3.cX,L3.ak,L3.nF,L3.aU,L3.jU,L3.fY,L3.fm,L3.bN,L3.eU,L3.b_,L3.g_,L3.dE,L3.sQ,L3.mQ,L3.zV,L3.lL,L3.vP,L3.e9,L3.iA,L3.aL,L3.aO,L3.bg,L3.qA,L3.jz,L3.jA,L3.aD,L3.e_,List.set_cons_zero,List.set_cons_succ,List.set_nil,L3.rh,L3.eF,L3.l9,L3.ar,L3.aF,L3.bE,L3.cO,L3.bQ,L3.Tg.put,L3.Tg.EQ,L3.gY,L3.md,L3.iD,L3.me,L3.cC,L3.iZ,L3.qF,L3.bJ,L3.eE,List.reduceReplicate,List.map_cons,List.map_nil,List.cons_append,List.nil_append]); (try simp only [L3.ah,L3.aq,L3.aw,L3.cE,L3.cN,L3.bd,L3.af,L3.v3,L3.c3,L3.lk,L3.ag,L3.aj,L3.ac,L3.jV,L3.br,L3.gU,L3.sE,L3.l6,L3.l7,L3.iB,L3.j1,L3.aV,L3.bV,L3.iY,L3.cX,L3.ak,L3.nF,L3.aU,L3.jU,L3.fY,L3.fm,L3.bN,L3.eU,L3.b_,L3.g_,L3.dE,L3.sQ,L3.mQ,L3.zV,L3.lL,L3.vP,L3.e9,L3.iA,L3.aL,L3.aO,L3.bg,L3.qA,L3.jz,L3.jA,L3.aD,L3.e_,List.set_cons_zero,List.set_cons_succ,List.set_nil,L3.rh,L3.eF,L3.l9,L3.ar,L3.aF,L3.bE,L3.cO,L3.bQ,L3.Tg.put,L3.Tg.EQ,L3.gY,L3.md,L3.iD,L3.me,L3.cC,L3.iZ,L3.qF,L3.bJ,L3.eE,List.reduceReplicate,List.map_cons,List.map_nil,List.cons_append,List.nil_append])))
namespace C
open PySem L2 L3
noncomputable def b7(seed number:Int)(l:Addr):List (bZ×PV):=[(Sum.inr "seed",.int seed),(Sum.inr "number",.int number),(Sum.inr "left",.ref l)]
structure FX (S:av) (d l:Addr) (seed number:Int) (left:Vu):Prop where
 d:S d=some (.dct (b7 seed number l))
 l:S l=some (.lst (left.map PV.int))
 s0:0<=seed
 s1:seed < 2147483647
 nm:0<=number
 lf:∀x∈left,0<=x
 ln:left.length<=100
def Ei(S:av)(d l:Addr):Prop:=∃seed number left,FX S d l seed number left
def FX.ne{S:av}{d l:Addr}{seed number:Int}{left:Vu}(D:FX S d l seed number left):d≠l:=fun e=>by
 have h:=D.d
 rw[e,D.l]at h
 cases h
def Ei.new{S:av}{d l p:Addr}{o:SO}(D:Ei S d l)(h:S p=none):Ei (Ee S p o) d l:=by
 obtain⟨s,n,f,D⟩:=D
 refine⟨s,n,f,?_,?_,D.s0,D.s1,D.nm,D.lf,D.ln⟩
 ·rw[al (fun e=>by have:=D.d;rw[e,h]at this;cases this)];exact D.d
 ·rw[al (fun e=>by have:=D.l;rw[e,h]at this;cases this)];exact D.l
def Ei.upd{S:av}{d l p:Addr}{o:SO}(D:Ei S d l)(h1:p≠d)(h2:p≠l):Ei (Ee S p o) d l:=by
 obtain⟨s,n,f,D⟩:=D
 exact⟨s,n,f,by rw[al h1.symm];exact D.d,by rw[al h2.symm];exact D.l,D.s0,D.s1,D.nm,D.lf,D.ln⟩
def Ei.free{S:av}{d l p:Addr}(D:Ei S d l)(h:S p=none):p≠d/\p≠l:=by
 obtain⟨s,n,f,D⟩:=D
 exact⟨(fun e=>by have:=D.d;rw[<-e,h]at this;cases this),(fun e=>by have:=D.l;rw[<-e,h]at this;cases this)⟩
def jE(s n m:Int)(l:Addr):kY (b7 s n l) (Sum.inr "number") (.int m)=b7 s m l:=by
 simp[kY,b7,cV]
def sS(s n m:Int)(l:Addr):kY (b7 s n l) (Sum.inr "seed") (.int m)=b7 m n l:=by
 simp[kY,b7,cV]
def yS(s n:Int)(l:Addr):j0 (b7 s n l) (Sum.inr "seed")=some (.int s):=by simp[j0,b7,cV]
def sT(s n:Int)(l:Addr):j0 (b7 s n l) (Sum.inr "number")=some (.int n):=by simp[j0,b7,cV]
def yT(s n:Int)(l:Addr):j0 (b7 s n l) (Sum.inr "left")=some (.ref l):=by simp[j0,b7,cV]
abbrev cf(w:aH):Prop:=∀{S:av} {d l:Addr} {m:Int} {Q:bH} {E:b9},Ei S d l->0 < m->m < 2 ^ 62->(∀r S',0<=r->r < m->Ei S' d l->EE d l S S'->Q (.int r) S')->w [.ref d,.int m] S Q E
def Eg:cf (bf 5 fu):=by
  intro S d l m Q E D h0 h1 k
  obtain⟨seed,number,left,D⟩:=D
  have hne:=D.ne
  have hsz:∀a b,(b7 a b l).length < sizeLine:=fun _ _=>fM (by show 3<=1000;decide)
  have fin:∀num He S1,FX S1 d l seed num He->EE d l S S1->¬(num=0/\0 < He.length)->
      (if 0 < num then jy num m/\(b7 seed num l).length < sizeLine/\m≠0/\Q (PV.int (num.fmod m)) (Ee S1 d (SO.dct (b7 seed (num.fdiv m) l)))
       else IntMulOk seed 48271/\(2147483647:Int)≠0/\IntMulOk ((seed * 48271+7919).fmod 2147483647) 40692/\(2147483399:Int)≠0/\(b7 seed num l).length < sizeLine/\
        IntMulOk (((seed * 48271+7919).fmod 2147483647 * 40692+104729).fmod 2147483399) (((seed * 48271+7919).fmod 2147483647 * 40692+104729).fmod 2147483399)/\(2147483563:Int)≠0/\
        IntMulOk ((seed * 48271+7919).fmod 2147483647) ((seed * 48271+7919).fmod 2147483647)/\(2147483629:Int)≠0/\
        IntMulOk (((seed * 48271+7919).fmod 2147483647 * (seed * 48271+7919).fmod 2147483647).fmod 2147483629) 2147483563/\m≠0/\
        Q (PV.int ((((seed * 48271+7919).fmod 2147483647 * (seed * 48271+7919).fmod 2147483647).fmod 2147483629 * 2147483563+((((seed * 48271+7919).fmod 2147483647 * 40692+104729).fmod 2147483399) * (((seed * 48271+7919).fmod 2147483647 * 40692+104729).fmod 2147483399)).fmod 2147483563).fmod m))
          (Ee S1 d (SO.dct (b7 (((seed * 48271+7919).fmod 2147483647 * 40692+104729).fmod 2147483399) num l)))):=by
    intro num He S1 D1 O1 hz
    split
    . rename_i hp
      rw[i3 (Int.le_of_lt h0),A3 (Int.le_of_lt h0)]
      refine⟨yR h0 (by omega),hsz _ _,by omega,k _ _ (Int.emod_nonneg _ (by omega)) (Int.emod_lt_of_pos _ h0) ⟨seed,num / m,He,aa,by rw[al hne.symm];exact D1.l,D1.s0,D1.s1,Int.ediv_nonneg D1.nm (Int.le_of_lt h0),D1.lf,D1.ln⟩ (O1.trans .upd)⟩
    . have e1:∀x:Int,x.fmod 2147483647=x % 2147483647:=fun x=>i3 (by decide)
      have e2:∀x:Int,x.fmod 2147483399=x % 2147483399:=fun x=>i3 (by decide)
      simp only[e1,e2,i3 (Int.le_of_lt h0)]
      have p1:=D1.s0
      have p2:=D1.s1
      refine⟨mh (by decide) (by decide),by decide,mh (by decide) (by decide),by decide,hsz _ _,k_ (by omega) (by omega),by decide,k_ (by omega) (by omega),by decide,mh (by decide) (by decide),by omega,
        k _ _ (Int.emod_nonneg _ (by omega)) (Int.emod_lt_of_pos _ h0) ⟨_,num,He,aa,by rw[al hne.symm];exact D1.l,by omega,by omega,D1.nm,D1.lf,D1.ln⟩ (O1.trans .upd)⟩
  unfold bf fu
  rw[show ax 5 [PV.ref d,PV.int m]=[some (.ref d),some (.int m),none,none,none] from rfl]
  simp only[ah]
  refine⟨fun n σ S'=>σ=[some (.ref d),some (.int m),none,none,none]/\∃number left,FX S' d l seed number left/\left.length=n/\EE d l S S',⟨_,rfl,number,left,D,rfl,.refl⟩,?_⟩
  rintro n σ S1 ⟨rfl,num,He,D1,hn,O1⟩
  walk_at "x"
  simp only[D1.d,D1.l,sT,yT,yS,sS,jE,aa,Bool.false_bne,decide_eq_true_eq]
  have hlen:(List.map PV.int He).length=He.length:=List.length_map ..
  rw[hlen]
  split
  . rename_i hz
    subst hz
    split
    . rename_i hl
      refine⟨fun σ S'=>σ=[some (.ref d),some (.int m),none,none,none]/\∃number left,FX S' d l seed number left/\left.length < n/\EE d l S S',?_,?_⟩
      . rintro σ' S' ⟨rfl,a,b,h2,h3,h4⟩
        exact⟨_,h3,rfl,a,b,h2,rfl,h4⟩
      . have hl':0 < He.length:=by omega
        obtain⟨pre,x,rfl⟩:∃pre x,He=pre++[x]:=by
          refine⟨He.dropLast,He.getLast (by intro e;rw[e]at hl';simp at hl'),(List.dropLast_concat_getLast _).symm⟩
        refine⟨trivial,?_⟩
        rw[show(List.map PV.int (pre++[x]))[(pre++[x]).length - 1]?=some (.int x) by simp,show(List.map PV.int (pre++[x])).dropLast=pre.map PV.int by simp]
        simp only[al hne,D1.d,jE]
        refine⟨hsz _ _,trivial,x,pre,⟨aa,by rw[al hne.symm,aa],D1.s0,D1.s1,D1.lf x (by simp),fun y hy=>D1.lf y (by simp[hy]),by have:=D1.ln;simp at this;omega⟩,?_,O1.trans (EE.Ml.trans .upd)⟩
        rw[<-hn];simp
    . rename_i hl
      exact fin 0 He S1 D1 O1 (fun z=>hl (by omega))
  . rename_i hz
    rw[if_neg (by decide)]
    exact fin num He S1 D1 O1 (fun z=>hz z.1)
end C
namespace L3
open PySem L2
def Ext(S S':av):Prop:=∀a o,S a=some o->S' a=some o
def Ext.refl{S:av}:Ext S S:=fun _ _ h=>h
def Ext.trans{S S1 S2:av}(a:Ext S S1)(b:Ext S1 S2):Ext S S2:=fun x o h=>b x o (a x o h)
def Ext.new{S:av}{p:Addr}{o:SO}(h:S p=none):Ext S (Ee S p o):=fun x u hx=>by rw[al (fun e=>by rw[e,h]at hx;cases hx)];exact hx
def Ext.free{S S':av}(e:Ext S S'){p:Addr}(h:S' p=none):S p=none:=by
 cases q:S p with
 |none=>rfl
 |some o=>rw[e p o q]at h;cases h
def Ext.Gc{d l:Addr}{S S':av}(e:Ext S S'):EE d l S S':=fun a o h _ _=>e a o h
theorem eG{g:Tg}{tc:iX}{te:aT}{σ':cK}{keep:av->Prop}{fin:List PV->av->Prop}{S:av}(f:PV->PV)(c:PV->Bool)(hk:keep S):∀(items ys:List PV),
  (∀x∈items,∃σ2,g.put x σ'=some σ2/\(∀Q:Bool->av->Prop,Q (c x) S->tc σ2 S Q fZ)/\(c x=true->∀Q:bH,Q (f x) S->te σ2 S Q fZ))->ys.length+items.length<=sizeLine->fin (ys++(items.filter c).map f) S->dY g tc te σ' keep fin items ys S
 |[],ys,_,hl,hf=>⟨hk,by simpa using hl,by simpa using hf⟩
 |x::r,ys,h,hl,hf=>by
  obtain⟨σ2,e,h1,h2⟩:=h x (by simp)
  refine⟨hk,by simp at hl;omega,?_⟩
  rw[e]
  refine h1 _ ?_
  cases hc:c x with
  |true=>
   rw[if_pos rfl]
   refine h2 hc _ (eG f c hk r (ys++[f x]) (fun y hy=>h y (by simp[hy])) (by simp at hl ⊢;omega) ?_)
   rw[List.filter_cons,hc,if_pos rfl]at hf
   simpa using hf
  |false=>
   rw[if_neg (by decide)]
   refine eG f c hk r ys (fun y hy=>h y (by simp[hy])) (by simp at hl ⊢;omega) ?_
   rw[List.filter_cons,hc,if_neg (by decide)]at hf
   exact hf
def qH{g:Tg}{te:aT}{σ':cK}{keep:av->Prop}{fin:List PV->av->Prop}{S:av}(f:PV->PV){items:List PV}(hk:keep S)
  (h:∀x∈items,∃σ2,g.put x σ'=some σ2/\∀Q:bH,Q (f x) S->te σ2 S Q fZ) (hl:items.length<=sizeLine) (hf:fin (items.map f) S):dY g a8 te σ' keep fin items [] S:=by
 refine eG f (fun _=>true) hk items [] (fun x hx=>?_) (by simpa using hl) (by rw[List.filter_eq_self.mpr (fun _ _=>rfl)];exact hf)
 obtain⟨σ2,e,k⟩:=h x hx
 exact⟨σ2,e,fun Q q=>q,fun _=>k⟩
theorem ky{g:Tg}{tc:iX}{te:aT}{σ':cK}{keep:av->Prop}{fin:List PV->av->Prop}{items:List PV}(Iv:List PV->List PV->av->Prop)(hk:∀done ys S,Iv done ys S->keep S/\ys.length<=sizeLine)
  (step:∀done x rest ys S (K:List PV->av->Prop),items=done++x::rest->Iv done ys S->(∀ys' S',Iv (done++[x]) ys' S'->K ys' S')->match g.put x σ' with
   |some σ2=>tc σ2 S (fun b S3=>if b=true then te σ2 S3 (fun y S4=>K (ys++[y]) S4) fZ else K ys S3) fZ
   |none=>False)
  (hf:∀ys S,Iv items ys S->fin ys S):∀(rest done ys:List PV) (S:av),items=done++rest->Iv done ys S->dY g tc te σ' keep fin rest ys S
 |[],done,ys,S,e,h=>by
  rw[List.append_nil]at e
  exact⟨(hk _ _ _ h).1,(hk _ _ _ h).2,hf ys S (e▸h)⟩
 |x::rest,done,ys,S,e,h=>by
  refine⟨(hk _ _ _ h).1,(hk _ _ _ h).2,?_⟩
  exact step done x rest ys S (fun ys' S'=>dY g tc te σ' keep fin rest ys' S') e h fun ys' S' h'=>ky Iv hk step hf rest (done++[x]) ys' S' (by rw[e];simp) h'
theorem mi{g:Tg}{tb:bO}{D:jv}{keep:av->Prop}{items:List PV}(Iv:List PV->cK->av->Prop)(hk:∀done σ S,Iv done σ S->keep S)
  (step:∀done x rest σ S (K:cK->av->Prop),items=done++x::rest->Iv done σ S->(∀σ' S',Iv (done++[x]) σ' S'->K σ' S')->match g.put x σ with
   |some σ'=>tb { D with nx:=K,ct:=K,bk:=D.nx } σ' S
   |none=>False)
  (hd:∀σ S,Iv items σ S->D.nx σ S):∀(rest done:List PV) (σ:cK) (S:av),items=done++rest->Iv done σ S->kZ g tb D keep rest σ S
 |[],done,σ,S,e,h=>by
  rw[List.append_nil]at e
  exact⟨hk _ _ _ h,hd σ S (e▸h)⟩
 |x::rest,done,σ,S,e,h=>
  ⟨hk _ _ _ h,step done x rest σ S (kZ g tb D keep rest) e h fun σ' S' h'=>mi Iv hk step hd rest (done++[x]) σ' S' (by rw[e];simp) h'⟩
def cu{g:Tg}{tb:bO}{D:jv}{keep:av->Prop}{items:List PV}{σ:cK}{S:av}(Iv:List PV->cK->av->Prop)(h0:Iv [] σ S)(hk:∀done σ S,Iv done σ S->keep S)
  (step:∀done x rest σ S (K:cK->av->Prop),items=done++x::rest->Iv done σ S->(∀σ' S',Iv (done++[x]) σ' S'->K σ' S')->match g.put x σ with
   |some σ'=>tb { D with nx:=K,ct:=K,bk:=D.nx } σ' S
   |none=>False)
  (hd:∀σ S,Iv items σ S->D.nx σ S):kZ g tb D keep items σ S:=mi Iv hk step hd items [] σ S rfl h0
def bG{g:Tg}{tc:iX}{te:aT}{σ':cK}{keep:av->Prop}{fin:List PV->av->Prop}{items:List PV}{S:av}(Iv:List PV->List PV->av->Prop)(h0:Iv [] [] S)(hk:∀done ys S,Iv done ys S->keep S/\ys.length<=sizeLine)
  (step:∀done x rest ys S (K:List PV->av->Prop),items=done++x::rest->Iv done ys S->(∀ys' S',Iv (done++[x]) ys' S'->K ys' S')->match g.put x σ' with
   |some σ2=>tc σ2 S (fun b S3=>if b=true then te σ2 S3 (fun y S4=>K (ys++[y]) S4) fZ else K ys S3) fZ
   |none=>False)
  (hf:∀ys S,Iv items ys S->fin ys S):dY g tc te σ' keep fin items [] S:=ky Iv hk step hf items [] [] S rfl h0
def az{t u:bO}{D:jv}{σ:cK}{S:av}(h:∀N:cK->av->Prop,(∀σ S,u D σ S->N σ S)->t { D with nx:=N } σ S):ah t u D σ S:=h (u D) fun _ _ q=>q
def fb{n:Nat}{b:bO}{args:List PV}{S:av}{Q:bH}{E:b9}(h:b { nx:=fun _ S'=>Q .non S',rt:=Q,ex:=fZ } (ax n args) S):bf n b args S Q E:=h
def sU{α β:Type}(f:α->β)(xs:List α)(lo hi:Option Int):dB (xs.map f) lo hi=(dB xs lo hi).map f:=by
 unfold dB
 rw[List.length_map,List.map_take,List.map_drop]
def sV{α:Type}(xs:List α)(lo hi:Option Int):(dB xs lo hi).length<=xs.length:=by
 unfold dB
 rw[List.length_take,List.length_drop]
 omega
def oW{n:Nat}(h:n<=1000):n<=sizeLine:=Nat.le_of_lt (fM h)
section
variable {α:Type} {a b c d e:α} {l:List α}
def lM:ER (a::l) 0=some a:=by simp[ER,oI]
def nI:ER (a::b::l) 1=some b:=bB (j:=1) rfl
def A4:ER (a::b::c::l) 2=some c:=bB (j:=2) rfl
def yU:ER [a] (-1)=some a:=rfl
def yV:ER [a,b] (-1)=some b:=rfl
def yW:ER [a,b,c] (-1)=some c:=rfl
def yX:ER [a,b,c,d] (-1)=some d:=rfl
def yY:ER [a,b,c,d,e] (-1)=some e:=rfl
def yZ:ER [a,b] (-2)=some a:=rfl
def y_:ER [a,b,c] (-2)=some b:=rfl
def zb:ER [a,b,c,d] (-2)=some c:=rfl
def zc:ER [a,b,c,d,e] (-2)=some d:=rfl
end
def bR(lo:Int)(n:Nat):(a_ lo n).length=n:=by simp[a_]
end L3
namespace C
open PySem L2 L3
abbrev mj(w:aH):Prop:=∀{S:av} {ns:Vu} {b:Int} {Q:bH} {E:b9},ns.length<=63->0<=b->b < 1000->(∀d l S',S d=none->S l=none->Ei S' d l->Ext S S'->Q (.ref d) S')->w [.cl (ns.map PV.int),.int b] S Q E
def Gy:mj (bf 5 ft):=by
 intro S ns b Q E hn h0 h1 k
 unfold bf ft
 rw[show ax 5 [PV.cl (ns.map PV.int),PV.int b]=[some (.cl (ns.map PV.int)),some (.int b),none,none,none] from rfl]
 walk_at "x"
 intro p hp
 rw[aa]
 dsimp only
 rw[sU]
 have hx:(dB ns (some b) (some 63)).length<=63:=Nat.le_trans (sV _ _ _) hn
 generalize dB ns (some b) (some 63)=xs at hx
 refine qH (fun v=>match v with | .int i=>.int (if 0 - i > i then 0 - i else i)|v=>v) aa (fun x hx=>?_) (oW (by rw[List.length_map];omega)) ?_
 ·obtain⟨i,hi,rfl⟩:=List.mem_map.mp hx
  refine⟨[some (.int i)],rfl,fun Q q=>?_⟩
  walk_at "x"
  exact q
 intro p2 hp2
 rw[aa]
 dsimp only
 rw[List.map_map]
 have e0:(xs.map ((fun v=>match v with | .int i=>.int (if 0 - i > i then 0 - i else i)|v=>v) ∘ PV.int))=(xs.map fun i=>if 0 - i > i then 0 - i else i).map PV.int:=by
  rw[List.map_map];rfl
 rw[e0]
 have hy:((xs.map fun i=>if 0 - i > i then 0 - i else i)).length<=63:=by rw[List.length_map];exact hx
 have Jd:∀y∈xs.map (fun i:Int=>if 0 - i > i then 0 - i else i),0<=y:=by
  intro y hy
  obtain⟨i,_,rfl⟩:=List.mem_map.mp hy
  split<;>omega
 generalize (xs.map fun i=>if 0 - i > i then 0 - i else i)=ys at hy Jd
 have h2:p2≠p:=fun e=>by rw[e,aa]at hp2;cases hp2
 have hp2':S p2=none:=by rw[<-hp2,al h2]
 refine cu (fun done σ S'=>S'=Ee (Ee S p (.lst (xs.map PV.int))) p2 (.lst (ys.map PV.int))/\∃v2 n,0<=n/\n < 2147483647/\σ=[some (.cl (ns.map PV.int)),some (.int b),v2,some (.ref p2),some (.int n)]) ⟨rfl,none,7919+b,by omega,by omega,rfl⟩ (fun done σ S' h=>by rw[h.1];exact aa) ?_ ?_
 ·rintro done x rest σ S' K e ⟨rfl,v2,n,n0,n1,rfl⟩ hK
  obtain⟨i,hi,rfl⟩:∃i,i∈ys/\x = .int i:=by
   have:x∈ys.map PV.int:=by rw[e];simp
   obtain⟨i,hi,rfl⟩:=List.mem_map.mp this
   exact⟨i,hi,rfl⟩
  walk_at "x"
  refine⟨mh (by decide) (by decide),by decide,by decide,hK _ _ ⟨rfl,_,_,?_,?_,rfl⟩⟩
  ·rw[i3 (by decide)];omega
  ·rw[i3 (i:=(n * 48271+_)) (by decide)];omega
 ·rintro σ S' ⟨rfl,v2,n,n0,n1,rfl⟩
  walk_at "x"
  intro d hd
  have hd2:d≠p2:=fun e=>by rw[e,aa]at hd;cases hd
  rw[al hd2]at hd
  have hd1:d≠p:=fun e=>by rw[e,aa]at hd;cases hd
  rw[al hd1]at hd
  rw[al hd2.symm,aa]
  dsimp only
  refine eG (fun v=>v) (fun v=>match v with | .int i=>decide (10 ^ 18<=i)|_=>false) (by rw[al hd2.symm,aa]) _ [] (fun x hx=>?_) (by rw[List.length_map];exact oW (by simp;omega)) ?_
  ·obtain⟨i,hi,rfl⟩:=List.mem_map.mp hx
   refine⟨[some (.int i)],rfl,fun Q q=>?_,fun _ Q q=>?_⟩
   ·walk_at "x"
    exact⟨⟨by decide,by decide,by decide⟩,q⟩
   ·walk_at "x"
    exact q
  intro p3 hp3
  rw[aa]
  intro l hl
  have e3:([]++List.map (fun v:PV=>v) (List.filter (fun v=>match v with | .int i=>decide (10 ^ 18<=i)|_=>false) (List.map PV.int ys)))=(ys.filter fun i=>decide (10 ^ 18<=i)).map PV.int:=by
   rw[List.nil_append,List.map_id',List.filter_map]
   rfl
  rw[e3]at hl ⊢
  rw[<-List.map_reverse]
  generalize Lc:Ee (Ee (Ee (Ee S p (SO.lst (List.map PV.int xs))) p2 (SO.lst (List.map PV.int ys))) d (SO.dct [])) p3 (SO.lst (List.map PV.int (List.filter (fun i=>decide (10 ^ 18<=i)) ys)))=S3 at hl ⊢
  have Ld:S3 d=some (.dct []):=by rw[<-Lc,al (fun e=>by rw[<-e,aa]at hp3;cases hp3),aa]
  have Le:l≠d:=fun e=>by rw[e,Ld]at hl;cases hl
  have KA:Ext S S3:=by
   rw[<-Lc]
   refine(Ext.new hp).trans ((Ext.new hp2).trans ((Ext.new ?_).trans (.new hp3)))
   rw[al hd2,al hd1];exact hd
  refine⟨by rw[al Le.symm];exact Ld,?_⟩
  have e4:ma [(PV.str "seed",PV.int n),(PV.str "number",PV.int 0),(PV.str "left",PV.ref l)]=some (b7 n 0 l):=rfl
  rw[e4]
  have e5:k4 [] (b7 n 0 l)=b7 n 0 l:=by simp[k4,b7,kY,cV]
  dsimp only
  rw[e5]
  refine k d l _ hd (KA.free hl) ⟨n,0,_,aa,by rw[al Le,aa],n0,n1,Int.le_refl _,fun y hy=>?_,?_⟩ ?_
  ·exact Jd y (List.mem_filter.mp (List.mem_reverse.mp hy)).1
  ·rw[List.length_reverse]
   exact Nat.le_trans (List.length_filter_le _ _) (by omega)
  ·intro a o ha
   have had:a≠d:=fun e=>by rw[e,hd]at ha;cases ha
   rw[al had,al (fun e=>by rw[e,KA.free hl]at ha;cases ha)]
   exact KA a o ha
end C
namespace L3
open PySem L2
end L3
namespace C
open PySem L2 L3 Wd
abbrev eI(w:aH):Prop:=∀{S:av} {t b:Int} {Q:bH} {E:b9},0 < b->b.natAbs < 2 ^ 8000->Q (.tup [.int (M3.aK t b),.int (M3.aB t b)]) S->w [.int t,.int b] S Q E
def Fj:eI (bf 4 gy):=by
 intro S t b Q E hb hs k
 unfold bf gy
 rw[show ax 4 [PV.int t,PV.int b]=[some (.int t),some (.int b),none,none] from rfl]
 simp only[ah]
 walk_at "x"
 refine⟨fun n σ S'=>S'=S/\∃x y:Int,σ=[some (.int t),some (.int b),some (.int x),some (.int y)]/\0<=x/\0<=y/\Int.gcd x y=Int.gcd t b/\y.toNat=n,⟨_,rfl,_,b,rfl,by split<;>omega,by omega,?_,rfl⟩,?_⟩
 ·split
  ·rw[show(0 - t) = -t by omega,Int.neg_gcd]
  ·rfl
 rintro n σ S' ⟨rfl,x,y,rfl,hx,hy,hg,rfl⟩
 walk_at "x"
 simp only[decide_eq_true_eq]
 split
 ·rename_i hp
  refine⟨fun σ' HY=>HY=S'/\∃x' y':Int,σ'=[some (.int t),some (.int b),some (.int x'),some (.int y')]/\0<=x'/\0<=y'/\Int.gcd x' y'=Int.gcd t b/\y'.toNat < y.toNat,?_,?_⟩
  ·rintro σ' HY ⟨rfl,x',y',rfl,h1,h2,h3,h4⟩
   exact⟨_,h4,rfl,x',y',rfl,h1,h2,h3,rfl⟩
  ·walk_at "x"
   have e:x.fmod y=x % y:=i3 hy
   have l1:=Int.emod_nonneg x (b:=y) (by omega)
   have l2:=Int.emod_lt_of_pos x hp
   refine⟨by omega,trivial,y,x.fmod y,rfl,hy,by omega,?_,by omega⟩
   rw[M3.lZ];exact hg
 ·rename_i hp
  have Jd:y=0:=by omega
  subst Jd
  have KB:x=(Int.gcd t b:Int):=by
   rw[<-hg]
   rw[Int.gcd_zero_right]
   omega
  subst KB
  have gp:(0:Int) < (Int.gcd t b:Int):=Int.natCast_pos.mpr (M3.eB (by omega))
  have gl:=M3.nv (t:=t) (b:=b) (by omega)
  have cd:∀z,jy z (Int.gcd t b:Int):=fun z=>⟨by omega,Nat.lt_of_le_of_lt (by omega) hs⟩
  refine⟨cd _,cd _,?_⟩
  have d1:=(M3.lX (t:=t) (b:=b) (by omega))
  rw[if_neg (by omega)]at d1
  rw[d1.1,d1.2]
  exact k
structure A5 (x y:Int):Prop where
 low:M3.yx x y
 x0:0<=x
 x1:x<=999
 y1:y<=9
def kz{n:Nat}(h:n < 2 ^ 64):n < 2 ^ 8000:=Nat.lt_trans h (Nat.pow_lt_pow_right (by decide) (by decide))
abbrev ml(w:aH):Prop:=∀{S:av} {d l:Addr} {Q:bH} {E:b9},Ei S d l->(∀x y S',A5 x y->Ei S' d l->EE d l S S'->Q (.tup [.int x,.int y]) S')->w [.ref d] S Q E
def vQ{wd wl:aH}(Eg:cf wd)(Fj:eI wl):ml (bf 2 (fv wd wl)):=by
 intro S d l Q E D k
 unfold bf fv
 rw[show ax 2 [PV.ref d]=[some (.ref d),none] from rfl]
 walk_at "x"
 refine Eg D (by decide) (by decide) fun r S1 r0 r1 D1 O1=>?_
 simp only[Bool.false_bne,decide_eq_true_eq]
 split
 ·exact k 0 1 S1 ⟨⟨by decide,by decide⟩,by decide,by decide,by decide⟩ D1 O1
 ·split
  ·refine Eg D1 (by decide) (by decide) fun r2 S2 a0 a1 D2 O2=>?_
   exact k _ 1 S2 ⟨⟨by decide,Int.gcd_one_right _⟩,by omega,by omega,by decide⟩ D2 (O1.trans O2)
  ·refine Eg D1 (by decide) (by decide) fun r2 S2 a0 a1 D2 O2=>Eg D2 (by decide) (by decide) fun r3 S3 b0 b1 D3 O3=>?_
   refine Fj (by omega) (kz (by omega)) ?_
   have z:=M3.gS (t:=r2) (b:=1+r3) (T:=999) (B:=9) (by omega) (by omega) (by omega) (by omega) (by omega) (by decide) (by decide)
   refine k _ _ S3 ⟨M3.cj (by omega),?_,z.2.1,z.2.2.2⟩ D3 (O1.trans (O2.trans O3))
   unfold M3.aK
   rw[if_neg (by omega)]
   exact Int.ediv_nonneg a0 (by omega)
def vR{α:Type}{xs:List α}{r:Int}(h0:0<=r)(h1:r < xs.length):∃v,ER xs r=some v/\v∈xs:=by
 obtain⟨n,rfl⟩:=Int.eq_ofNat_of_zero_le h0
 have hn:n < xs.length:=by omega
 exact⟨xs[n],bB (by simp[hn]),List.getElem_mem hn⟩
end C
local macro_rules | `(tactic| walk_at "w")=>`(tactic| simp only [L3.ah,L3.aq,L3.aw,L3.cE,L3.cN,L3.bd,L3.af,L3.v3,L3.c3,L3.lk,L3.ag,L3.aj,L3.ac,L3.jV,L3.br,L3.gU,L3.sE,L3.l6,L3.l7,L3.iB,L3.j1,L3.aV,L3.bV,L3.iY,L3.cX,L3.ak,L3.nF,L3.aU,L3.jU,L3.fY,L3.fm,L3.bN,L3.eU,L3.b_,L3.g_,L3.dE,L3.sQ,L3.mQ,L3.zV,L3.lL,L3.vP,L3.e9,L3.iA,L3.aL,L3.aO,L3.bg,L3.qA,L3.jz,L3.jA,L3.aD,L3.e_,List.set_cons_zero,List.set_cons_succ,List.set_nil,L3.rh,L3.eF,L3.l9,L3.ar,L3.aF,L3.bE,L3.cO,L3.bQ,L3.Tg.put,L3.Tg.EQ,L3.gY,L3.md,L3.iD,L3.me,L3.cC,L3.iZ,L3.qF,L3.bJ,L3.eE,List.reduceReplicate,List.map_cons,List.map_nil,List.cons_append,List.nil_append,L3.lM,L3.nI,L3.A4,L3.yU,L3.yV,L3.yW,L3.yX,L3.yY,L3.yZ,L3.y_,L3.zb,L3.zc,L3.cV,String.reduceEq,decide_true,decide_false,Bool.false_bne,Bool.true_bne,Bool.not_true,Bool.not_false,if_true,if_false,Bool.false_eq_true,reduceIte,ite_true,ite_false])
local macro_rules | `(tactic| walk_at "y")=>`(tactic| ((try walk_at "x"); (try walk_at "w")))
namespace C
open PySem L2 L3 Wd
end C
namespace C
open PySem L2 L3
end C
namespace C
open PySem L2 L3 Wd
def Ei.ext{S S':av}{d l:Addr}(D:Ei S d l)(e:Ext S S'):Ei S' d l:=by
 obtain⟨s,n,f,D⟩:=D
 exact⟨s,n,f,e _ _ D.d,e _ _ D.l,D.s0,D.s1,D.nm,D.lf,D.ln⟩
def _root_.L3.Ext.put{p:Addr}{S S':av}{o:SO}(O:Ext S S')(h:S p=none):Ext S (Ee S' p o):=fun x u hx=>by rw[al (fun e=>by rw[e,h]at hx;cases hx)];exact O x u hx
def ld{α:Type}{xs:List α}{n:Nat}(h:n<=xs.length):dB xs none (some (n:Int))=xs.take n:=by
 unfold dB
 rw[HT.jm,HT.gQ,List.drop_zero,Nat.min_eq_left h]
 rfl
def lg{α:Type}{xs:List α}{n:Nat}(h:n<=xs.length):dB xs (some (n:Int)) none=xs.drop n:=by
 unfold dB
 rw[HT.jm,HT.gQ,Nat.min_eq_left h,List.take_of_length_le]
 rw[List.length_drop]
 exact Nat.le_refl _
def cW{x:PV}{n:Nat}{a b:List PV}(e:a_ 0 n=a++x::b):x = .int a.length/\a.length < n:=by
 have h1:(a_ 0 n)[a.length]?=some x:=by rw[e];simp
 unfold a_ at h1
 rw[List.getElem?_map]at h1
 have hl:a.length < n:=by
  have:=congrArg List.length e
  rw[bR,List.length_append,List.length_cons]at this
  omega
 rw[List.getElem?_range hl]at h1
 simp at h1
 exact⟨h1.symm,hl⟩
def sW{xs:List PV}{x:PV}{a b:List PV}(e:L3.ba xs=a++x::b):∃y,x = .tup [.int a.length,y]/\xs[a.length]?=some y:=by
 have h1:(L3.ba xs)[a.length]?=some x:=by rw[e];simp
 unfold L3.ba at h1
 rw[List.getElem?_mapIdx]at h1
 cases h:xs[a.length]? with
 |none=>rw[h]at h1;cases h1
 |some y=>
  rw[h]at h1
  simp only[Option.map_some,Option.some.injEq]at h1
  exact⟨y,h1.symm,rfl⟩
end C
namespace C
open PySem L2 L3
end C
namespace C
open PySem L2 L3 Wd
end C
namespace C
open PySem L2 L3
end C
namespace C
open PySem L2 L3 Wd
end C
namespace Zu
open PySem Zt
open Sem (wp)
end Zu
namespace L2
open PySem PySem.Spec PyProof.Rows
end L2
namespace L3
open PySem L2
end L3
namespace L2
open PySem PySem.Spec PyProof.Rows
end L2
namespace L3
open PySem L2
end L3
namespace C
open PySem L2 L3
end C
namespace C
open PySem L2 L3 Wd
theorem aW{α:Type}{g:Tg}{te:aT}{σ':cK}{keep:av->Prop}{fin:List PV->av->Prop}{S:av}(enc f:α->PV)(hk:keep S):∀(xs:List α) (ys:List PV),
  (∀x∈xs,∃σ2,g.put (enc x) σ'=some σ2/\∀Q:bH,Q (f x) S->te σ2 S Q fZ)->ys.length+xs.length<=sizeLine->fin (ys++xs.map f) S->dY g a8 te σ' keep fin (xs.map enc) ys S
 |[],ys,_,hl,hf=>⟨hk,by simpa using hl,by simpa using hf⟩
 |x::r,ys,h,hl,hf=>by
  obtain⟨σ2,e,h1⟩:=h x (by simp)
  refine⟨hk,by simp at hl;omega,?_⟩
  rw[e]
  show te σ2 S (fun y S4=>dY g a8 te σ' keep fin (r.map enc) (ys++[y]) S4) fZ
  exact h1 _ (aW enc f hk r (ys++[f x]) (fun y hy=>h y (by simp[hy])) (by simp at hl ⊢;omega) (by simpa using hf))
def aP{n:Nat}(h:n<=1000):n<=sizeLine:=Nat.le_trans h (by decide)
end C
namespace C
open PySem L2 L3
end C
namespace Zv
open PySem
open Sem (wp)
end Zv
namespace L2
open PySem PySem.Spec PyProof.Rows
end L2
namespace L3
open PySem L2
end L3
namespace L2
open PySem PySem.Spec PyProof.Rows
end L2
namespace L3
open PySem L2
section
variable {X:Cx} {a b:Expr} {ta tb:aT} {p pos:Pos}
def mm(ta tb:aT):qB:=fun σ S R E=>ta σ S (fun v S1=>tb σ S1 (fun w S2=>match v,w with
 | .tup xs,.tup ys=>R ⟨bC xs ys,fun _=>True⟩ S2
 | .ref a,.ref b=>(match S2 a,S2 b with|some (.lst xs),some (.lst ys)=>R ⟨bC xs ys,fun S'=>S' a=some (.lst xs)/\S' b=some (.lst ys)⟩ S2|_,_=>False)
 | .ref a,.tup ys=>(match S2 a with|some (.lst xs)=>R ⟨bC xs ys,fun S'=>S' a=some (.lst xs)⟩ S2|_=>False)
 | .tup xs,.ref b=>(match S2 b with|some (.lst ys)=>R ⟨bC xs ys,fun S'=>S' b=some (.lst ys)⟩ S2|_=>False)
 |_,_=>False) E) E
def sX{elts:List Expr}{k0:Nat}{FN:Pos}(hs:starEach [a,b] X.env=[(false,eval a X.env),(false,eval b X.env)])(hs2:starEach [b] X.env=[(false,eval b X.env)])(hg:Gl X "zip")(hm:X.mg "zip" = none)(hv:bootBuiltins "zip" = some (.type "zip"))(ha:jw X [a,b] [ta,tb]) :
  uO X (.Tuple elts k0 FN) (.Call (.Name "zip" p) [a,b] [] pos) (mm ta tb):=
 ⟨jB (sv hg hm hv ha.ok hs hs2) fun σ H R ⟨σ3,S,R3,E3,rσ,rS,h,xo,k⟩=>⟨σ3,S,_,E3,rσ,rS,h,xo,fun v S1 v' H1 h1 rv Er g1=>⟨σ3,S1,_,E3,rσ.mono g1,Er,h1,xo.mono g1,fun w S2 w' H2 h2 rw' FM g2=>by
  have L:∀{a:Addr} {xs:List PV},S2 a=some (.lst xs)->∃vs,qv true X.K H2 a vs:=fun e=>let ⟨_,h,_⟩:=FM _ _ e;⟨_,SqL.of h⟩
  dsimp only at h2
  split at h2
  ·cases rv with
   |tup hq rs=>
    cases rw' with
    |tup hq2 IM=>exact⟨false,false,_,_,rfl,⟨_,g2.t _ _ hq⟩,⟨_,hq2⟩,k _ S2 _ H2 h2 (g6 (.tup (g2.t _ _ hq) (rs.mono g2)) (.tup hq2 IM)) FM (g1.trans g2)⟩
  ·cases rv
   cases rw'
   split at h2
   ·rename_i ea eb
    exact⟨true,true,_,_,rfl,L ea,L eb,k _ S2 _ H2 h2 (g6 (.lst fun _ q=>q.1) (.lst fun _ q=>q.2)) FM (g1.trans g2)⟩
   ·exact h2.elim
  ·cases rv
   cases rw' with
   |tup hq2 IM=>
    split at h2
    ·rename_i ea
     exact⟨true,false,_,_,rfl,L ea,⟨_,hq2⟩,k _ S2 _ H2 h2 (g6 (.lst fun _ q=>q) (.tup hq2 IM)) FM (g1.trans g2)⟩
    ·exact h2.elim
  ·cases rv with
   |tup hq rs=>
    cases rw'
    split at h2
    ·rename_i eb
     exact⟨false,true,_,_,rfl,⟨_,g2.t _ _ hq⟩,L eb,k _ S2 _ H2 h2 (g6 (.tup (g2.t _ _ hq) (rs.mono g2)) (.lst fun _ q=>q)) FM (g1.trans g2)⟩
    ·exact h2.elim
  ·exact h2.elim⟩⟩⟩
end
end L3
namespace C
open PySem L2 L3
end C
namespace L3
open PySem L2 Xc
def F9.inj{K:Vo}{c:Str}{C D:Addr}(h1:F9 K c C)(h2:F9 K c D):C=D:=by
 have e:=(show PySem.W.nsIn K mainGlobals c=some (some (.ref C))from h1).symm.trans h2
 injection e with e;injection e with e;injection e
noncomputable def vS(s:Stmt):List Stmt:=match s with
 | .ClassDef _ _ _ body _ _ _ _ _ _ _=>body
 |_=>[]
end L3
namespace L3
open PySem L2
end L3
namespace L2
open PySem PySem.Spec PyProof.Rows Xc
end L2
namespace L3
open PySem L2 Xc
section
variable {P:Program} {w:World} {K:Vo} {mg:Vr} {base:Heap}
structure bS (K:Vo) (mg:Vr) (x:Str) (st:Stmt) (ps:Vs):Prop where
 ex:∃f fd,B8 K mg x st ps f fd
structure mn (K:Vo) (c m q:Str) (st:Stmt) (ps:Vs):Prop where
 ex:∃C f fd,F9 K c C/\Cls K C/\rM K C m f/\HV K m q st f fd/\Binds K fd ps []
structure zW (K:Vo) (mg:Vr) (c:Str) (fl:Vs):Prop where
 ex:∃C,F9 K c C/\mg c=some (.ref C)/\Cls K C/\PySem.W.makesIn K C=true/\PySem.W.keepIn K (.ref C)=true/\∀f∈fl,NoAttr K C f
structure fz (P:Program) (w:World) (K:Vo) (mg:Vr) (base:Heap) (k:Nat) (x:Str) (n:Nat) (sp:aH):Prop where
 ex:∃f fd ps,ps.length=n/\zU P w K mg base k f fd ps sp/\mg x=some (.ref f)/\PySem.W.keepIn K (.ref f)=true/\Binds K fd ps []
structure uP (P:Program) (w:World) (K:Vo) (mg:Vr) (base:Heap) (k:Nat) (c m:Str) (n:Nat) (sp:aH):Prop where
 ex:∃C f fd ps,ps.length=n/\zU P w K mg base k f fd ps sp/\F9 K c C/\Cls K C/\rM K C m f/\Binds K fd ps []
def fS{x:Str}{st:Stmt}{ps:Vs}{k n:Nat}{t:bO}{sp:aH}(N:Vs)(O:bS K mg x st ps)
  (hbody:∀(f:Addr) (cdv:Value) (A:Around) (outer:List Env) (s:Shared) (H:Hp) (E:XK),Room k (A.deeper (PyProof.Rows.envOfC x (aN st) s.heap.objs.size f cdv))->N.Nodup->i_ (B6 P w K mg base N x st f cdv A outer s H E) (bI st) t) (e:sp=bf N.length t)
  (hn:ps.length=n:=by rfl) (S:d_ N ps (aN st):=by exact⟨rfl,rfl,rfl,by decide +kernel,rfl,by decide +kernel,by decide +kernel⟩):fz P w K mg base (k+1) x n sp:=by
 subst e
 obtain⟨f,fd,o⟩:=O.ex
 exact⟨f,fd,ps,hn,CV o.F S fun cdv A outer s H E hr=>hbody f cdv A outer s H E hr S.nd,o.m,o.k,o.b⟩
def zX{c m q:Str}{st:Stmt}{ps:Vs}{k n:Nat}{t:bO}{sp:aH}(N:Vs)(O:mn K c m q st ps)
  (hbody:∀(f:Addr) (cdv:Value) (A:Around) (outer:List Env) (s:Shared) (H:Hp) (E:XK),Room k (A.deeper (PyProof.Rows.envOfC q (aN st) s.heap.objs.size f cdv))->N.Nodup->i_ (B6 P w K mg base N q st f cdv A outer s H E) (bI st) t) (e:sp=bf N.length t)
  (hn:ps.length=n:=by rfl) (S:d_ N ps (aN st):=by exact⟨rfl,rfl,rfl,by decide +kernel,rfl,by decide +kernel,by decide +kernel⟩):uP P w K mg base (k+1) c m n sp:=by
 subst e
 obtain⟨C,f,fd,o1,o2,o3,o4,o5⟩:=O.ex
 exact⟨C,f,fd,ps,hn,CV o4 S fun cdv A outer s H E hr=>hbody f cdv A outer s H E hr S.nd,o1,o2,o3,o5⟩
def DU{x:Str}{st:Stmt}{ps:Vs}{k:Nat}{t:bO}{sp:aH}{f:Addr}{fd:FuncData}(N:Vs)(o:B8 K mg x st ps f fd)
  (hbody:∀(f:Addr) (cdv:Value) (A:Around) (outer:List Env) (s:Shared) (H:Hp) (E:XK),Room k (A.deeper (PyProof.Rows.envOfC x (aN st) s.heap.objs.size f cdv))->N.Nodup->i_ (B6 P w K mg base N x st f cdv A outer s H E) (bI st) t) (e:sp=bf N.length t)
  (S:d_ N ps (aN st):=by exact⟨rfl,rfl,rfl,by decide +kernel,rfl,by decide +kernel,by decide +kernel⟩):zU P w K mg base (k+1) f fd ps sp:=by
 subst e
 exact CV o.F S fun cdv A outer s H E hr=>hbody f cdv A outer s H E hr S.nd
end
section
variable {X:Cx} {a b e o:Expr} {es:List Expr} {ta tb te to:aT} {ts:List aT} {x c m f:Str} {p pos apos cpos:Pos} {j k n:Nat} {sp:aH}
def c4(O:fz X.prog X.w X.K X.mg X.base k x n sp)(hr:Room j X.A)(ha:jw X (e::es) ts)(hj:k<=j:=by omega)(hl:ts.length=n:=by rfl)(hg:Gl X x:=by rfl)(he:starEach (e::es) X.env=(false,eval e X.env)::starEach es X.env:=by rfl)(hdb:(x == ("__debug__":Str))=false:=by decide)(hpl:(backTo pos (starEach es X.env)).any (·.1)=false:=by rfl) :
  bj X (.Call (.Name x p) (e::es) [] pos) (ac sp ts):=by
 obtain⟨f,fd,ps,hn,F,h1,h2,h3⟩:=O.ex
 exact yM F (hr.mono hj) hg h1 h2 h3 he ha (hl.trans hn.symm) hdb hpl
def cB{id:String}{r:mP}(hc:eV X (.builtin id) r)(hm:X.mg x=none)(ha:jw X (e::es) ts)(hg:Gl X x:=by rfl)(hv:bootBuiltins x=some (.builtin id):=by decide +kernel)(he:starEach (e::es) X.env=(false,eval e X.env)::starEach es X.env:=by rfl)
  (hnn:x ≠ "__name__":=by decide) (hdb:(x == ("__debug__":Str))=false:=by decide) (hpl:(backTo pos (starEach es X.env)).any (·.1)=false:=by rfl):bj X (.Call (.Name x p) (e::es) [] pos) (aj r ts):=vJ hc hg hm hv he ha hnn hdb hpl
def cT{id:String}{r:mP}(hc:eV X (.type id) r)(hm:X.mg x=none)(ha:jw X (e::es) ts)(hg:Gl X x:=by rfl)(hv:bootBuiltins x=some (.type id):=by decide +kernel)(he:starEach (e::es) X.env=(false,eval e X.env)::starEach es X.env:=by rfl)
  (hnn:x ≠ "__name__":=by decide) (hdb:(x == ("__debug__":Str))=false:=by decide) (hpl:(backTo pos (starEach es X.env)).any (·.1)=false:=by rfl):bj X (.Call (.Name x p) (e::es) [] pos) (aj r ts):=vK hc hg hm hv he ha hnn hdb hpl
def lc{r:List Expr}(ha:bj X a ta)(hr:jw X r ts)(hs:starEach (a::r) X.env=(false,eval a X.env)::starEach r X.env:=by rfl):jw X (a::r) (ta::ts):=sC hs ha hr
def l1(ha:bj X a ta)(hs:starEach [a] X.env=(false,eval a X.env)::starEach [] X.env:=by rfl):jw X [a] [ta]:=sC hs ha oR
def de{i:Int}{q:Nat}{p2:Pos}(hr:Room j X.A)(ha:bj X a ta)(hs:je (.Constant (.int i) q p2):=by exact fun _ _=>rfl):bj X (.Subscript a (.Constant (.int i) q p2) pos) (af ak ta (c3 (.int i))):=AV (Dr (wW hr)) ha ae hs
def fc(hr:Room j X.A)(ha:bj X a ta)(hb:bj X b tb)(hs:je b:=by exact fun _ _=>rfl):bj X (.Subscript a b pos) (af ak ta tb):=AV (Dr (wW hr)) ha hb hs
def vT(hr:Room j X.A)(ha:bj X a ta)(hb:bj X b tb):nz X (.Compare a [.Eq] [b] pos) (br (af (e9 false) ta tb)):=bv (AS (sR hr)) ha hb (aQ _)
def zd(hr:Room j X.A)(ha:bj X a ta)(hb:bj X b tb):nz X (.Compare a [.NotEq] [b] pos) (br (af (e9 true) ta tb)):=bv (AT (sR hr)) ha hb (aQ _)
def s4(i:Nat){pos':Pos}(nd:X.N.Nodup)(he:bj X e te)(hi:X.N[i]?=some x:=by rfl)(hx:wG X.env.scope x:=by first|exact Or.inl rfl|exact Or.inr rfl)(hs:swapsWith e (some (.Name x pos')) pos.line X.env=pure false:=by rfl)
  (hf:X.fn x=true\/X.env.scope.names.lookup x=some .local:=by first|exact .inl rfl|exact .inr rfl|assumption):nA X (.Assign [.Name x pos'] e pos) (aq i te):=AZ nd hi hx he hs hf
def gn(i:Nat)(nd:X.N.Nodup)(hi:X.N[i]?=some x:=by rfl)(hx:wG X.env.scope x:=by first|exact Or.inl rfl|exact Or.inr rfl)(hf:X.fn x=true\/X.env.scope.names.lookup x=some .local:=by first|exact .inl rfl|exact .inr rfl|assumption):uN X (.Name x pos) (.n i):=DT i nd hi hx hf
end
structure zY (T:String) (name:Str) (id:String):Prop where
 pa:PlainAttrs T
 slot:Slot T name id
 ty:typeOf (.builtin id)=pure (.type "method_descriptor")
section
variable {X:Cx} {e o:Expr} {es:List Expr} {to:aT} {ts:List aT} {name:Str} {T id:String} {p pos apos cpos:Pos} {r:uM}
def fN:zY "list" "append" "list.append":=⟨PySem.F.plainAttrs_list,PySem.F.slot_list_append,PySem.F.type_list_append⟩
def qI:zY "list" "extend" "list.extend":=⟨PySem.F.plainAttrs_list,PySem.F.slot_list_extend,PySem.F.type_list_extend⟩
def sY:zY "list" "pop" "list.pop":=⟨PySem.F.plainAttrs_list,PySem.F.slot_list_pop,PySem.F.type_list_pop⟩
def ze(k:zY T name id)(hm:wU X id r)(ho:bj X o to)(ha:jw X (e::es) ts)(hs:starEach (e::es) X.env=(false,eval e X.env)::starEach es X.env:=by rfl)
  (hbase:attributeBase o name X.env (eval o X.env)=eval o X.env:=by rfl)
  (hfew:((backTo cpos (starEach (e::es) X.env)).all (fun x=>!x.1)&&(backToKw cpos (keywordEach [] X.env)).all (fun x=>x.1.isSome)
   && decide ((e::es).length+([]:List Keyword).length+(if ([]:List Keyword).isEmpty then 0 else 1) < 30))=true:=by rfl)
  (hline:(apos.endLine == cpos.line)=true:=by rfl) (hplain:(backTo cpos (starEach es X.env)).any (·.1)=false:=by rfl):bj X (.Call (.Attribute o name apos) (e::es) [] cpos) (jV T r to ts):=CQ k.pa k.slot k.ty hm hs ho ha hbase hfew hline hplain
def C2(k:zY T name id)(hm:wU X id r)(ho:bj X o to)
  (hbase:attributeBase o name X.env (eval o X.env)=eval o X.env:=by rfl) (hline:(apos.endLine == cpos.line)=true:=by rfl):bj X (.Call (.Attribute o name apos) [] [] cpos) (jV T r to []):=AY k.pa k.slot k.ty hm ho hbase hline
end
section
variable {X:Cx} {tg iter elt:Expr} {ifs:List Expr} {scope:Scope} {pos:Pos} {ti:qB} {g:Tg} {tc:iX} {te:aT}
def jW(fs:Vs)(own:Nat)(fr:List Nat)(N:Vs)(hi:uO X tg iter ti)(hg:∀B,uN (X.FH N scope fs B) tg g)(hf:∀B,zT (X.FH N scope fs B) ifs tc)(he:∀B,bj (X.FH N scope fs B) elt te)
  (HX:g.under own=true:=by rfl) (hc:X.calm=true:=by rfl) (hclos:closureFor scope X.env=pure (cM X.env fs):=by rfl) (hcell:∀y∈scope.names,y.2 ≠ .cell:=by decide +kernel) (hkind:scope.kind = .function:=by rfl)
  (hnames:∀x∈scope.names,x.2 = .local->scope.names.lookup x.1=some .local:=by decide +kernel) (hcl:cD X.env fs:=by repeat' first|exact trivial|exact⟨_,rfl⟩|constructor) (hhas:kW (relabel scope X.env).names (cM X.env fs)=true:=by rfl)
  (hlen:N.length=own+fr.length:=by rfl) (hN:(N.drop own).map some=fr.map (fun j=>X.N[j]?):=by rfl) (hF:EU X.env scope (cM X.env fs) (N.drop own):=by repeat' first|exact trivial|exact .inl rfl|exact .inr rfl|exact rfl|apply And.intro)
  (hs:∀x,foldedSetIterable iter X.env x=pure x:=by intro _;rfl):bj X (.ListComp elt [⟨tg,iter,ifs,0⟩] scope pos) (ar ti g tc te own fr):=yK fs own fr N HX hc hclos hcell hkind hnames hcl hhas hlen hN hF hi hg hf he hs
def zf(fs:Vs)(own:Nat)(fr:List Nat)(N:Vs)(i:Nat){y:Str}{py spos:Pos}(hX:X.N.Nodup)(hi:uO X tg iter ti)(hg:∀B,uN (X.FH N scope fs B) tg g)(hf:∀B,zT (X.FH N scope fs B) ifs tc)(he:∀B,bj (X.FH N scope fs B) elt te)
  (hix:X.N[i]?=some y:=by rfl) (hy:X.env.scope.names.lookup y=some .local:=by rfl) (hsw:swapsWith (.ListComp elt [⟨tg,iter,ifs,0⟩] scope pos) (some (.Name y py)) spos.line X.env=pure true:=by rfl)
  (HX:g.under own=true:=by rfl) (hc:X.calm=true:=by rfl) (hclos:closureFor scope X.env=pure (cM X.env fs):=by rfl) (hcell:∀y∈scope.names,y.2 ≠ .cell:=by decide +kernel) (hkind:scope.kind = .function:=by rfl)
  (hnames:∀x∈scope.names,x.2 = .local->scope.names.lookup x.1=some .local:=by decide +kernel) (hcl:cD X.env fs:=by repeat' first|exact trivial|exact⟨_,rfl⟩|constructor) (hhas:kW (relabel scope X.env).names (cM X.env fs)=true:=by rfl)
  (hlen:N.length=own+fr.length:=by rfl) (hN:(N.drop own).map some=fr.map (fun j=>X.N[j]?):=by rfl) (hF:EU X.env scope (cM X.env fs) (N.drop own):=by repeat' first|exact trivial|exact .inl rfl|exact .inr rfl|exact rfl|apply And.intro)
  (hs:∀x,foldedSetIterable iter X.env x=pure x:=by intro _;rfl):nA X (.Assign [.Name y py] (.ListComp elt [⟨tg,iter,ifs,0⟩] scope pos) spos) (aq i (ar ti g tc te own fr)):=yL fs own fr N hX hix hy hsw HX hc hclos hcell hkind hnames hcl hhas hlen hN hF hi hg hf he hs
end
noncomputable def putF3(f:Str)(v:PV):List (Str×PV)->List (Str×PV)
 |[]=>[(f,v)]
 |(g,x)::r=>if g=f then (g,v)::r else (g,x)::putF3 f v r
theorem Eo.look{K:Vo}{H:Hp}{f:Str}{p:PV}:∀{vs:List (Str×V)} {ps:List (Str×PV)},Eo K H vs ps->ps.lookup f=some p->∃v,vs.lookup f=some v/\Rep K H v p
 |_,_,.nil,e=>by simp at e
 |_,_,.cons a r,e=>by
  rw[List.lookup_cons]at e ⊢
  split at e
  ·cases e;exact⟨_,rfl,a⟩
  ·exact Eo.look r e
theorem Eo.Hy{K:Vo}{H:Hp}{f:Str}:∀{vs:List (Str×V)} {ps:List (Str×PV)},Eo K H vs ps->ps.lookup f=none->vs.lookup f=none
 |_,_,.nil,_=>rfl
 |_,_,.cons a r,e=>by
  rw[List.lookup_cons]at e ⊢
  split at e
  ·cases e
  ·exact Eo.Hy r e
theorem Eo.putF{K:Vo}{H:Hp}{f:Str}{v:V}{p:PV}(q:Rep K H v p):∀{vs:List (Str×V)} {ps:List (Str×PV)},Eo K H vs ps->Eo K H (L2.putF f v vs) (putF3 f p ps)
 |_,_,.nil=>.cons q .nil
 |_,_,.cons (k:=k) a r=>by
  unfold L2.putF putF3
  split
  ·exact .cons q r
  ·exact .cons a (Eo.putF q r)
def cg(c:Str)(S:av)(x:PV)(k:Addr->List (Str×PV)->Prop):Prop:=match x with
 | .ref a=>(match S a with|some (.ins c' fs)=>c'=c/\k a fs|_=>False)
 |_=>False
def jg{K:Vo}{H:Hp}{S:av}{c:Str}{C:Addr}{x:PV}{v:V}{k:Addr->List (Str×PV)->Prop}(hC:F9 K c C)(rS:Ej K H S)(r:Rep K H v x)(h:cg c S x k):∃a dx fs f',x = .ref a/\v = .ref a/\S a=some (.ins c fs)/\H a=some (.ins C dx f')/\Eo K H f' fs/\k a fs:=by
 unfold cg at h
 split at h
 ·rename_i a
  split at h
  ·rename_i c' fs e
   obtain⟨rfl,h⟩:=h
   obtain⟨C',dx,f',n,q,rf⟩:=(show Gw K H a (.ins c' fs)from rS a _ e)
   cases hC.inj n
   cases r
   exact⟨a,dx,fs,f',rfl,rfl,e,q,rf,h⟩
  ·exact h.elim
 ·exact h.elim
def b8(c f:Str)(te:aT):aT:=fun σ S Q E=>te σ S (fun x S1=>cg c S1 x fun _ fs=>match fs.lookup f with|some v=>Q v S1|none=>False) E
def fB(c f:Str)(te to:aT):bO:=fun D σ S=>te σ S (fun v S1=>to σ S1 (fun x S2=>cg c S2 x fun a fs=>fs.length < 1000/\D.nx σ (Ee S2 a (.ins c (putF3 f v fs)))) D.ex) D.ex
def cL(c m:Str)(sp:aH)(to:aT)(ts:List aT):aT:=fun σ S Q E=>to σ S (fun x S1=>cg c S1 x fun _ fs=>fs.lookup m=none/\ag ts σ S1 (fun ps S2=>sp (x::ps) S2 Q E) E) E
def sZ(c:Str)(sp:aH)(ts:List aT):aT:=fun σ S Q E=>ag ts σ S (fun ps S1=>∀x,S1 x=none->sp (.ref x::ps) (Ee S1 x (.ins c [])) (fun v S2=>v = .non/\Q (.ref x) S2) fZ) E
section
variable {X:Cx} {e o value:Expr} {es:List Expr} {te to:aT} {ts:List aT} {x c m f:Str} {fl:Vs} {p pos pos' apos:Pos} {j k n:Nat} {sp:aH}
def lN(hC:zW X.K X.mg c fl)(he:bj X e te)(hf:f∈fl:=by decide)(hb:attributeBase e f X.env (eval e X.env)=eval e X.env:=by rfl):bj X (.Attribute e f pos) (b8 c f te):=by
 obtain⟨C,hn,hm,hc,KC,hkp,na⟩:=hC.ex
 refine⟨aR (x_ he.ok hb) fun σ H Q ⟨σ3,S,Q3,E3,rσ,rS,h,xo,k⟩=>⟨σ3,S,_,E3,rσ,rS,h,xo,fun p S1 v H1 h1 rv Er g1=>?_⟩⟩
 obtain⟨a,dx,fs,f',rfl,rfl,e1,e2,rf,h2⟩:=jg hn Er rv h1
 split at h2
 ·rename_i p' hp'
  obtain⟨v',hv',JT⟩:=rf.look hp'
  exact⟨a,C,dx,f',v',rfl,e2,hc,na _ hf,hv',k _ S1 _ H1 h2 JT Er g1⟩
 ·exact h2.elim
def A6(hC:zW X.K X.mg c fl)(he:bj X value te)(ho:bj X o to)(hf:f∈fl:=by decide)(hs:swapsWith value (some (.Attribute o f pos')) pos.line X.env=pure false:=by rfl):nA X (.Assign [.Attribute o f pos'] value pos) (fB c f te to):=by
 obtain⟨C,hn,hm,hc,KC,hkp,na⟩:=hC.ex
 refine⟨dk (ya ho.ok he.ok hs) fun D σ H ⟨σ3,S,D3,rσ,rS,h,xo,nx,r,bk,ct⟩=>⟨σ3,S,_,D3.ex,rσ,rS,h,xo,fun v S1 v' H1 h1 rv Er g1=>⟨σ3,S1,_,D3.ex,rσ.mono g1,Er,h1,xo.mono g1,fun x S2 x' H2 h2 rx FM g2=>?_⟩⟩⟩
 obtain⟨a,dx,fs,f',rfl,rfl,e1,e2,rf,h3,h4⟩:=jg hn FM rx h2
 have gm:Grow X.K H2 (upd H2 a (.ins C dx (putF f v' f'))):=.mut e2 trivial
 refine⟨a,C,dx,f',rfl,e2,hc,na _ hf,by rw[rf.length];exact h3,nx _ _ _ _ h4 (rσ.mono (g1.trans (g2.trans gm))) (FM.put e2 trivial ⟨C,dx,_,hn,ay,((rf.mono gm).putF ((rv.mono g2).mono gm))⟩) (g1.trans (g2.trans gm))⟩
def zZ{pl:Sem Bool}(O:uP X.prog X.w X.K X.mg X.base k c m n sp)(hr:Room j X.A)(ho:bj X o to)(ha:jw X (e::es) ts)(hj:k<=j:=by omega)(hl:ts.length+1=n:=by rfl)
  (hst:starEach (e::es) X.env=(false,eval e X.env)::starEach es X.env:=by rfl) (hpl:(backTo pos (starEach es X.env)).any (·.1)=false:=by rfl)
  (ht:eval (.Call (.Attribute o m apos) (e::es) [] pos) X.env=(do
   let ov <-eval o X.env
   standAt apos.atName
   let (f,first) <-holding [ov] (getMethod ov m pl)
   callWith pos f first (backTo pos (starEach (e::es) X.env)) (backToKw pos (keywordEach [] X.env))):=by rfl):bj X (.Call (.Attribute o m apos) (e::es) [] pos) (cL c m sp to ts):=by
 obtain⟨C,f,fd,ps,hn,F,h1,h2,h3,h4⟩:=O.ex
 refine⟨aR (ve ho.ok h2 h3 F.ok (hr.mono hj) h4 .nil oP ha.ok hst hpl ht) fun σ H Q ⟨σ3,S,Q3,E3,rσ,rS,h,xo,k⟩=>⟨σ3,S,_,E3,rσ,rS,h,xo,fun p S1 v H1 q1 rv Er g1=>?_⟩⟩
 obtain⟨a,dx,fs,f',rfl,rfl,e1,e2,rf,q2,q3⟩:=jg h1 Er rv q1
 refine⟨a,dx,f',rfl,e2,rf.Hy q2,cA (rσ.mono g1) Er q3 (xo.mono g1) fun ps' S' vs H' hl' q JT Fy g=>?_⟩
 rw[List.append_nil]
 exact⟨by rw[List.length_cons,JT.length,hl',hl,hn],.ref a::ps',S',Q3,E3,.cons (.ref a) JT,Fy,q,k.mono (g1.trans g)⟩
def DV(hC:zW X.K X.mg c fl)(O:uP X.prog X.w X.K X.mg X.base k c "__init__" n sp)(hr:Room j X.A)(ha:jw X (e::es) ts)(hj:k+1<=j:=by omega)(hl:ts.length+1=n:=by rfl)(hg:Gl X c:=by rfl)(he:starEach (e::es) X.env=(false,eval e X.env)::starEach es X.env:=by rfl)(hdb:(c == ("__debug__":Str))=false:=by decide)(hpl:(backTo pos (starEach es X.env)).any (·.1)=false:=by rfl) :
  bj X (.Call (.Name c p) (e::es) [] pos) (sZ c sp ts):=by
 obtain⟨C,hn,hm,hc,KC,hkp,na⟩:=hC.ex
 obtain⟨C',f,fd,ps,hps,F,h1,h2,h3,h4⟩:=O.ex
 cases hn.inj h1
 refine⟨aR (vf ⟨KC,h3.at_,h3.fn,hkp⟩ F.ok (hr.mono hj) hg hm h4 .nil oP ha.ok hdb he hpl) fun σ H Q ⟨σ3,S,Q3,E3,rσ,rS,h,xo,k⟩=>cA rσ rS h xo fun ps' S' vs H' hl' q rv Fy g x dx hx hdx hne=>?_⟩
 rw[List.append_nil]
 have g1:Grow X.K H' (upd H' dx (.own x)):=.new hdx
 have Lf:upd H' dx (.own x) x=none:=by rw[aA (Ne.symm hne)];exact hx
 have g2:Grow X.K (upd H' dx (.own x)) (upd (upd H' dx (.own x)) x (.ins C dx [])):=.new Lf
 refine⟨by rw[List.length_cons,rv.length,hl',hl,hps],.ref x::ps',Ee S' x (.ins c []),_,_,.cons (.ref x) (rv.mono (g1.trans g2)),(Fy.other hdx).new Lf ⟨C,dx,[],hn,ay,.nil⟩,q x (Fy.free hx),fun p S2 v H2 hq Kz FM gg=>?_⟩
 obtain⟨rfl,q2⟩:=hq
 cases Kz
 exact⟨rfl,k _ S2 _ H2 q2 (.ref x) FM (g.trans ((g1.trans g2).trans gg))⟩
end
end L3
namespace L2
open PySem PySem.Spec PyProof.Rows
section
variable {X:Cx}
def qJ(hc:X.calm=true):eR X (.builtin "min") (fun xs H Q=>∃(p:Addr) (ns:Vu),xs=[.ref p]/\SqL X.K H p (ns.map V.int)/\0 < ns.length/\∀M,M∈ns->(∀a∈ns,M<=a)->Q (.int M) H):=by
 intro pins s σ H xs us Q I r h
 obtain⟨p,ns,rfl,hp,hn,q⟩:=h
 obtain⟨u,rfl,rx⟩:=fU r
 cases rx
 obtain⟨its,rv,pl,hz⟩:=I.list hp
 have hi:IntsAre its ns:=ee rv
 obtain⟨xs,e⟩:=hi.allInts.items
 have hns:ns=xs.toList.map (·.1):=by rw[<-hi.numsOf,<-nums_intItems,<-e]
 have hsz:0 < xs.size:=by have h3:=hn;rw[hns,List.length_map,Array.length_toList]at h3;exact h3
 have hl:=pl.isList
 rw[e]at hl
 refine min_intList (I.ok.hd hc) hl hsz fun v h' tk hv hk=>?_
 obtain⟨t,rfl⟩:=intItems_at hv
 obtain⟨h1,h2⟩:=argBest_lt (numAt xs) (xs.size - 1)
 refine⟨.int _,H,(I.kept (t':=tk) (h':=h') hk),⟨_,rfl⟩,q _ ?_ fun a ha=>?_⟩
 ·rw[hns,numAt_eq];exact getD_mem (by rw[List.length_map,Array.length_toList];omega)
 ·rw[hns]at ha
  obtain⟨j,hj,rfl⟩:=mem_getD ha
  rw[List.length_map,Array.length_toList]at hj
  rw[<-numAt_eq];exact h2 j (by omega)
end
end L2
namespace L3
open PySem L2
section
variable {X:Cx}
def s9:mP:=fun ps S Q=>match ps with
 |[.ref a]=>(match S a with|some (.lst xs)=>(match dN xs with|some ns=>0 < ns.length/\∀M,M∈ns->(∀a∈ns,M<=a)->Q (.int M) S|none=>False)|_=>False)
 |_=>False
def zg(hc:X.calm=true):eV X (.builtin "min") s9:=⟨fun pins s σ H xs us Q I r ⟨ps,S,Q3,rp,rS,q,k⟩=>by
 unfold s9 at q
 split at q
 ·cases rp with
  |cons a rr=>
   cases rr;cases a
   split at q
   ·rename_i e
    split at q
    ·rename_i eb
     obtain⟨vs,hv,rs⟩:=rS _ _ e
     have e2:=dZ rs eb
     subst e2
     exact qJ hc pins s σ H _ us Q I r ⟨_,_,rfl,SqL.of hv,q.1,fun M h1 h2=>k _ S _ H (q.2 M h1 h2) (.int _) rS .refl⟩
    ·exact q.elim
   ·exact q.elim
 ·exact q.elim⟩
end
end L3
namespace CY
open PySem L2 L3
end CY
namespace L3
open PySem L2
section
variable {X:Cx} {o:Expr} {to:aT} {c m:Str} {pos apos:Pos} {j k n:Nat} {sp:aH}
def A7{pl:Sem Bool}(O:uP X.prog X.w X.K X.mg X.base k c m n sp)(hr:Room j X.A)(ho:bj X o to)(hj:k<=j:=by omega)(hl:1=n:=by rfl)
  (ht:eval (.Call (.Attribute o m apos) [] [] pos) X.env=(do
   let ov <-eval o X.env
   standAt apos.atName
   let (f,first) <-holding [ov] (getMethod ov m pl)
   callWith pos f first (backTo pos (starEach [] X.env)) (backToKw pos (keywordEach [] X.env))):=by rfl):bj X (.Call (.Attribute o m apos) [] [] pos) (cL c m sp to []):=by
 obtain⟨C,f,fd,ps,hn,F,h1,h2,h3,h4⟩:=O.ex
 refine⟨aR (rP ho.ok h2 h3 F.ok (hr.mono hj) h4 .nil oP ht) fun σ H Q ⟨σ3,S,Q3,E3,rσ,rS,h,xo,k⟩=>⟨σ3,S,_,E3,rσ,rS,h,xo,fun p S1 v H1 q1 rv Er g1=>?_⟩⟩
 obtain⟨a,dx,fs,f',rfl,rfl,e1,e2,rf,q2,q3⟩:=jg h1 Er rv q1
 refine⟨a,dx,f',rfl,e2,rf.Hy q2,?_⟩
 have q3:sp [.ref a] S1 Q3 E3:=q3
 exact⟨by rw[<-hl]at hn;rw[hn];rfl,[.ref a],S1,Q3,E3,.cons (.ref a) .nil,Er,q3,k.mono g1⟩
end
end L3
namespace L2
open PySem PySem.Spec PyProof.Rows
def nJ{prog:Program}{w:World}{A:Around}{E:Vq}{s:Shared}{l:Addr}{xs:Array (Int×Tok)}{Q:Vq}(hh:A.handled=none)(hl:s.heap.IsTuple l (intItems xs))(hne:0 < xs.size)
  (h:∀v h' tk,(intItems xs)[argBest (fun i j=>decide (numAt xs i < numAt xs j)) (xs.size - 1)]?=some v->(∀b o,s.heap.get? b=some o->h'.get? b=some o)->Q v { s with heap:=h',toks:=tk }) :
  wpAny (model prog w) A (call (.builtin "min") [.ref l]) Q E s:=by
 have hlt:l < s.heap.objs.size:=by obtain⟨_,e,_⟩:=hl;exact Heap.lt_size e
 refine call_min_walk (wpAny_pyIter_tuple hl ?_)
 refine⟨_,_,_,_,_,_,_,rfl,Walks.tuple (A:=A.in1) hh _ l (Nat.ne_of_lt hlt) (intItems xs),⟨⟨_,Heap.get?_push_size _ rfl,rfl,rfl⟩,hl.push _⟩,(fun b hb=>?_),by simpa [intItems]using hne,CmpOf.ints_lt (numAt xs) (fun _ _=>intItems_at),fun v h' tk hP hk=>?_⟩
 ·show b < (s.heap.push _).objs.size
  rw[Heap.size_push]
  rcases List.mem_cons.mp hb with rfl|hb
  ·exact Nat.lt_succ_self _
  ·rcases List.mem_cons.mp hb with rfl|hb
   ·exact Nat.lt_succ_of_lt hlt
   ·cases hb
 ·refine h v h' tk (by simpa [intItems]using hP) fun b o e=>hk b o (fun hm=>?_) (Heap.get?_push_of_some _ e)
  rcases List.mem_cons.mp hm with e1|hm
  ·exact absurd (e1▸Heap.lt_size e) (Nat.lt_irrefl _)
  ·cases hm
section
variable {X:Cx}
def qK(hc:X.calm=true):eR X (.builtin "min") (fun xs H Q=>∃(p:Addr) (ns:Vu),xs=[.ref p]/\SqT X.K H p (ns.map V.int)/\0 < ns.length/\∀M,M∈ns->(∀a∈ns,M<=a)->Q (.int M) H):=by
 intro pins s σ H xs us Q I r h
 obtain⟨p,ns,rfl,hp,hn,q⟩:=h
 obtain⟨u,rfl,rx⟩:=fU r
 cases rx
 obtain⟨its,rv,pl,hz⟩:=I.tuple hp
 have hi:IntsAre its ns:=ee rv
 obtain⟨xs,e⟩:=hi.allInts.items
 have hns:ns=xs.toList.map (·.1):=by rw[<-hi.numsOf,<-nums_intItems,<-e]
 have hsz:0 < xs.size:=by have h3:=hn;rw[hns,List.length_map,Array.length_toList]at h3;exact h3
 have hl:s.heap.IsTuple p its.toArray:=by
  obtain⟨o,ho,hc,n,hd⟩:=id pl
  exact⟨o,ho,hc,n,hd⟩
 rw[e]at hl
 refine nJ (I.ok.hd hc) hl hsz fun v h' tk hv hk=>?_
 obtain⟨t,rfl⟩:=intItems_at hv
 obtain⟨h1,h2⟩:=argBest_lt (numAt xs) (xs.size - 1)
 refine⟨.int _,H,(I.kept (t':=tk) (h':=h') hk),⟨_,rfl⟩,q _ ?_ fun a ha=>?_⟩
 ·rw[hns,numAt_eq];exact getD_mem (by rw[List.length_map,Array.length_toList];omega)
 ·rw[hns]at ha
  obtain⟨j,hj,rfl⟩:=mem_getD ha
  rw[List.length_map,Array.length_toList]at hj
  rw[<-numAt_eq];exact h2 j (by omega)
end
end L2
namespace L3
open PySem L2
section
variable {X:Cx}
def lh:mP:=fun ps S Q=>match ps with
 |[.tup xs]=>(match dN xs with|some ns=>0 < ns.length/\∀M,M∈ns->(∀a∈ns,M<=a)->Q (.int M) S|none=>False)
 |_=>False
def vU(hc:X.calm=true):eV X (.builtin "min") lh:=⟨fun pins s σ H xs us Q I r ⟨ps,S,Q3,rp,rS,q,k⟩=>by
 unfold lh at q
 split at q
 ·cases rp with
  |cons a rr=>
   cases rr
   cases a with
   |tup hv rs=>
    split at q
    ·rename_i eb
     have e2:=dZ rs eb
     subst e2
     exact qK hc pins s σ H _ us Q I r ⟨_,_,rfl,hv,q.1,fun M h1 h2=>k _ S _ H (q.2 M h1 h2) (.int _) rS .refl⟩
    ·exact q.elim
 ·exact q.elim⟩
end
end L3
namespace L2
open PySem PySem.Spec PyProof.Rows
section
variable {prog:Program} {w:World} {A:Around} {E:Vq} {s:Shared}
def s_{a b:Addr}{i j k l:Int}{t1 t2 t3 t4:Tok}{P:Fin->Shared->Prop}(hx:s.heap.IsTuple a #[.int i t1,.int j t2])(hy:s.heap.IsTuple b #[.int k t3,.int l t4])(h:P (.done (.ret (.bool (decide (i < k\/(i=k/\j < l)))))) s) :
  wpAny (model prog w) A (Builtin.«tuple.__lt__» ⟨[.ref a,.ref b],[]⟩) P E s:=by
 obtain⟨oa,hoa,hca,na,hda⟩:=hx
 obtain⟨ob,hob,hcb,nb,hdb⟩:=hy
 have hTb:s.TypeIs (.ref b) "tuple":=⟨_,hob,hcb⟩
 show wpAny _ _ (isInstance (.ref b) (.type "tuple") >>= _) _ _ s
 refine wpAny_bind (wpAny_isInstance hTb isSubtype_tuple_tuple ?_)
 simp only[Bool.not_true,Bool.false_eq_true,if_false]
 refine wpAny_bind (wpAny_tupleItemsOf hoa hda (wpAny_bind (wpAny_tupleItemsOf hob hdb (wpAny_bind ?_))))
 refine wpAny_forIn_list _
  (fun rest r s'=>r.1=none/\s'=s/\(rest=[(.int i t1,.int k t3),(.int j t2,.int l t4)]\/(rest=[(.int j t2,.int l t4)]/\i=k)\/(rest=[]/\i=k/\j=l)))
  _ ?_ ?_ _ _ ⟨rfl,rfl,.inl rfl⟩
 ·rintro⟨u,v⟩ rest r s' ⟨hr,rfl,hz⟩
  rcases hz with hz|⟨hz,rfl⟩|⟨hz,_⟩
  ·cases hz
   refine wpAny_bind (wpAny_eqBool_int ?_)
   by_cases e:i=k
   ·subst e
    simp only[beq_self_eq_true,Bool.not_true,Bool.false_eq_true,if_false]
    exact wpAny_pure ⟨rfl,rfl,by simp⟩
   ·rw[show(i == k)=false by simpa using e]
    simp only[Bool.not_false,if_true]
    have e2:decide (i < k\/(i=k/\j < l))=decide (i < k):=by simp[e]
    rw[e2]at h
    refine wpAny_bind (wpAny_rule (wpAny_bind (wpAny_lt_int (show _ from ?_))))
    exact wpAny_bind (wpAny_pure (wpAny_pure (wpAny_pure h)))
  ·cases hz
   refine wpAny_bind (wpAny_eqBool_int ?_)
   by_cases e:j=l
   ·subst e
    simp only[beq_self_eq_true,Bool.not_true,Bool.false_eq_true,if_false]
    exact wpAny_pure ⟨rfl,rfl,by simp⟩
   ·rw[show(j == l)=false by simpa using e]
    simp only[Bool.not_false,if_true]
    have e2:decide (i < i\/(i=i/\j < l))=decide (j < l):=by simp
    rw[e2]at h
    refine wpAny_bind (wpAny_rule (wpAny_bind (wpAny_lt_int (show _ from ?_))))
    exact wpAny_bind (wpAny_pure (wpAny_pure (wpAny_pure h)))
  ·cases hz
 ·rintro⟨r1,r2⟩ s' ⟨hr,rfl,hz⟩
  simp only at hr
  subst hr
  rcases hz with hz|⟨hz,_⟩|⟨_,rfl,rfl⟩
  ·cases hz
  ·cases hz
  refine wpAny_pure ?_
  have e2:decide (i < i\/(i=i/\j < j))=false:=by simp
  rw[e2]at h
  exact h
def vV{a b:Addr}{i j k l:Int}{t1 t2 t3 t4:Tok}{Q:Vq}(hu:A.units < cLine)(hx:s.heap.IsTuple a #[.int i t1,.int j t2])(hy:s.heap.IsTuple b #[.int k t3,.int l t4])(h:Q (.bool (decide (i < k\/(i=k/\j < l)))) s) :
  wpAny (model prog w) A (compareOp .Lt (.ref a) (.ref b)) Q E s:=by
 have hTa:s.TypeIs (.ref a) "tuple":=by obtain⟨o,ho,hc,_⟩:=id hx;exact⟨_,ho,hc⟩
 have hTb:s.TypeIs (.ref b) "tuple":=by obtain⟨o,ho,hc,_⟩:=id hy;exact⟨_,ho,hc⟩
 show wpAny _ _ (richCompare .Lt (.ref a) (.ref b)) Q E s
 exact wpAny_richCompare_same_room (op:=.Lt) hTa hTb F.slot_tuple_lt (wpAny_call_entry F.slot_tuple_lt hTa F.entry_tuple_lt (s_ hx hy ⟨_,rfl,(fun e=>nomatch e),h⟩) (F.args_tuple_lt_2 _ _)) hu
end
section
variable {X:Cx}
def zh(hu:X.A.units < cLine):fQ X (compareOp .Lt) (fun x y H Q=>∃(p r:Addr) (i j k l:Int),x = .ref p/\y = .ref r/\SqT X.K H p [.int i,.int j]/\SqT X.K H r [.int k,.int l]/\Q (.bl (decide (i < k\/(i=k/\j < l)))) H):=by
 intro pins s σ H x y v u Q I r1 r2 h
 obtain⟨p,r,i,j,k,l,rfl,rfl,h1,h2,q⟩:=h
 cases r1;cases r2
 have pair:∀{p:Addr} {i j:Int},SqT X.K H p [.int i,.int j]->∃t1 t2,s.heap.IsTuple p #[.int i t1,.int j t2]:=fun{p i j} hp=>by
  obtain⟨its,rv,pl,hz⟩:=I.tuple hp
  cases rv with
  |cons a1 r1=>
   cases r1 with
   |cons a2 r2=>
    cases r2
    obtain⟨t1,rfl⟩:=a1
    obtain⟨t2,rfl⟩:=a2
    obtain⟨o,ho,hc,n,hd⟩:=id pl
    exact⟨t1,t2,o,ho,hc,n,hd⟩
 obtain⟨_,_,e1⟩:=pair h1
 obtain⟨_,_,e2⟩:=pair h2
 exact vV hu e1 e2 ⟨.bl _,H,I,rfl,q⟩
end
end L2
namespace L3
open PySem L2
section
variable {X:Cx}
def vW:R3:=fun x y S Q=>match x,y with
 | .tup [.int i,.int j],.tup [.int k,.int l]=>Q (.bl (decide (i < k\/(i=k/\j < l)))) S
 |_,_=>False
def A8(hu:X.A.units+150 < cLine):gv X (compareOp .Lt) vW:=⟨fun pins s σ H x y v u Q I rx ry ⟨px,py,S,Q3,r1,r2,rS,q,k⟩=>by
 unfold vW at q
 split at q
 ·cases r1 with
  |tup h1 Mm=>
   cases r2 with
   |tup h2 IM=>
    have two:∀{vs:List V} {i j:Int},Reps X.K H vs [.int i,.int j]->vs=[.int i,.int j]:=fun r=>by
     cases r with
     |cons a b=>cases a;cases b with|cons c d=>cases c;cases d;rfl
    rw[two Mm]at h1
    rw[two IM]at h2
    exact zh (by omega) pins s σ H _ _ v u Q I rx ry ⟨_,_,_,_,_,_,rfl,rfl,h1,h2,k _ S _ H q (.bl _) rS .refl⟩
 ·exact q.elim⟩
def oX:mP:=fun ps S Q=>match ps with
 |[.tup xs]=>lh [.tup xs] S Q
 |ps=>s9 ps S Q
def zi(hc:X.calm=true):eV X (.builtin "min") oX:=⟨fun pins s σ H xs us Q I r ⟨ps,S,Q3,rp,rS,q,k⟩=>by
 unfold oX at q
 split at q
 ·exact(vU hc).ok pins s σ H xs us Q I r ⟨_,S,Q3,rp,rS,q,k⟩
 ·exact(zg hc).ok pins s σ H xs us Q I r ⟨_,S,Q3,rp,rS,q,k⟩⟩
end
end L3
namespace L2
open PySem PySem.Spec PyProof.Rows
end L2
namespace L3
open PySem L2
end L3
namespace Md
open PySem PySem.Spec PyProof.Rows
noncomputable def A9(P:Nat->Value->Prop)(bt:Nat->Nat->Bool):Nat->Array Value->Prop
 |0,l=>l=#[]
 |j+1,l=>∃v,l=#[v,v]/\P (argBest bt j) v
def nK{prog:Program}{w:World}{A:Around}{E:Vq}{s:Shared}{id:String}{b:Builtin}{us:Vv}{kw:List (Str×Value)}{Q:Vq}(hk:builtinKind id=none)(hp:plainId id=true)(hb:entryFor table id=some b)(ha:argsOk id ⟨us,kw⟩)
  (hc:wpAny (model prog w) A.in1 (b ⟨us,kw⟩) (fun fin s'=>match fin with
   | .done f=>(match (Except.ok f:Result)with | .ok (.ret v)=>Q v s' | .ok _=>False | .error e=>E e s')
   | .again c'=>c'.quiet=true/\codeAny (model prog w) A c' (fun r s'=>match r with | .ok (.ret v)=>Q v s' | .ok _=>False | .error e=>E e s') s') E s):wpAny (model prog w) A (call (.builtin id) us kw) Q E s:=by
 refine wpAny_call (codeAny_call_builtin hp hb ?_)
 simp only[checkBuiltinCall,hk]
 cases hs:Manifest.signature? id with
 |none=>exact wpAny_pure hc
 |some sig=>
  have h2:Bind.checkArgs id sig ⟨us,kw⟩=pure ():=by simpa only [argsOk,hs]using ha
  simp only[h2]
  exact wpAny_pure hc
def kL(P:Nat->Value->Prop)(bt:Nat->Nat->Bool)(n:Nat)(d v:Value):Prop:=(n=0/\v=d)\/(0 < n/\P (argBest bt (n - 1)) v)
section
variable {prog:Program} {w:World} {A:Around} {R:Result->Shared->Prop} {I:Addr} {fp wr:List Addr} {n:Nat} {P:Nat->Value->Prop} {St:Nat->Heap->Prop}
def qL(a d:Value):argsOk "min" ⟨[a],[("default",d)]⟩:=by unfold argsOk;kernel_rfl
def tj(W:Walks prog w A.in1 I fp wr n P St)(bt:Nat->Nat->Bool)(hcmp:CmpOf prog w A.in1 .Lt P bt)(S:Addr)(hSf:S ∉ fp)(d:Value):∀(k j:Nat) (s:Shared) (its:Vw) (c:Nat),
  n - j=k->j<=n->St j s.heap->A9 P bt j its->s.heap.get? S=some { cls:=.type "list",dict:=none,data:=.seq its c,slots:=#[] }->
  (∀v h' tk,kL P bt n d v->(∀b o,b ∉ wr->b≠S->s.heap.get? b=some o->h'.get? b=some o)->R (.ok (.ret v)) { s with heap:=h',toks:=tk })->
  codeAny (model prog w) A (.builtin "min.loop" ⟨[.ref I,.none,.ref S],[("default",d)]⟩) R s:=by
 have nw:S ∉ wr:=fun h=>hSf (W.sub _ h)
 have nm:(toString "min" ++ toString ".loop":String) = "min.loop":=by decide
 intro k
 induction k with
 |zero=>
  intro j s its c hk hj hst hb hS hR
  obtain rfl:j=n:=by omega
  refine codeAny_builtin F.entry_min_loop ?_
  rw[Around.under_plainId F.plain_min_loop _]
  show wpAny _ A.in1 (seqItems? (.ref S) >>= _) _ _ s
  refine wpAny_bind (wpAny_seqItems hS rfl (show wpAny _ A.in1 (tryCatch (pyNext (.ref I)) _ >>= _) _ _ s from ?_))
  refine wpAny_bind (wpAny_tryCatch (W.done s _ _ hst fun h1 tk kk=>?_))
  cases j with
  |zero=>
   have e:its=#[]:=hb
   subst e
   show wpAny _ A.in1 (rule _ >>= _) _ _ _
   refine wpAny_bind (wpAny_rule (wpAny_pure (hR d h1 tk (.inl ⟨rfl,rfl⟩) fun b o hw _ e=>kk b o hw e)))
  |succ i=>
   obtain⟨v,rfl,hv⟩:=hb
   show wpAny _ A.in1 (updateSeq S (fun _=>#[]) >>= _) _ _ _
   refine wpAny_bind (wpAny_updateSeq (kk S _ nw hS) rfl (wpAny_bind (wpAny_letGo (wpAny_pure ?_))))
   exact hR v _ tk (.inr ⟨Nat.succ_pos _,hv⟩) fun b o hw Go e=>(Heap.get?_update_other _ _ (Ne.symm Go)).trans (kk b o hw e)
 |succ k ih=>
  intro j s its c hk hj hst hb hS hR
  have hlt:j < n:=by omega
  refine codeAny_builtin F.entry_min_loop ?_
  rw[Around.under_plainId F.plain_min_loop _]
  show wpAny _ A.in1 (seqItems? (.ref S) >>= _) _ _ s
  refine wpAny_bind (wpAny_seqItems hS rfl (show wpAny _ A.in1 (tryCatch (pyNext (.ref I)) _ >>= _) _ _ s from ?_))
  refine wpAny_bind (wpAny_tryCatch (W.item j s _ _ hlt hst fun v h1 tk hP Jv kk=>?_))
  have hS1:=kk S _ nw hS
  -- the new one is kept
  have new:∀h2:Heap,h2=h1.update S (Obj.mapSeq fun _=>#[v,v])->A9 P bt (j+1) #[v,v]->codeAny (model prog w) A (.builtin "min.loop" ⟨[.ref I,.none,.ref S],[("default",d)]⟩) R { s with heap:=h2,toks:=tk }:=fun h2 e2 hb2=>by
   refine ih (j+1) _ #[v,v] _ (by omega) hlt (W.frame _ h1 _ Jv fun b Mn o e=>?_) hb2 (by rw[e2];exact Heap.get?_update_self (Obj.mapSeq fun _=>#[v,v]) hS1 rfl) fun v' h3 KD hE k3=>?_
   ·rw[e2];exact(Heap.get?_update_other _ _ (fun h:S=b=>hSf (by rw[h];exact Mn))).trans e
   ·exact hR v' h3 KD hE fun b o hw Go e=>k3 b o hw Go (by rw[e2];exact(Heap.get?_update_other _ _ (Ne.symm Go)).trans (kk b o hw e))
  cases j with
  |zero=>
   have e:its=#[]:=hb
   subst e
   show wpAny _ A.in1 (updateSeq S (fun _=>#[v,v]) >>= _) _ _ _
   refine wpAny_bind (wpAny_updateSeq hS1 rfl ?_)
   rw[nm]
   exact wpAny_pure ⟨plainId_quiet F.plain_min_loop _,new _ rfl ⟨v,rfl,hP⟩⟩
  |succ i=>
   obtain⟨u,rfl,hu⟩:=hb
   show wpAny _ A.in1 (tryCatch (holding [v,v] (richCompare .Lt v u >>= _)) _ >>= _) _ _ _
   refine wpAny_bind (wpAny_tryCatch (wpAny_holding (wpAny_bind (hcmp (i+1) (argBest bt i) v u _ _ _ hP hu ?_))))
   refine wpAny_bind (wpAny_holding (wpAny_truthy_bool (wpAny_bind (wpAny_letGo (wpAny_pure ?_)))))
   cases hy:bt (i+1) (argBest bt i)with
   |true=>
    simp only[if_true]
    refine wpAny_bind (wpAny_updateSeq hS1 rfl (wpAny_bind (wpAny_letGo ?_)))
    rw[nm]
    exact wpAny_pure ⟨plainId_quiet F.plain_min_loop _,new _ rfl ⟨v,rfl,by simp only[argBest,hy,if_true];exact hP⟩⟩
   |false=>
    simp only[Bool.false_eq_true,if_false]
    refine wpAny_bind (wpAny_letGo ?_)
    rw[nm]
    refine wpAny_pure ⟨plainId_quiet F.plain_min_loop _,ih (i+2) _ _ c (by omega) hlt Jv ⟨u,rfl,by simp only[argBest,hy,Bool.false_eq_true,if_false];exact hu⟩ hS1 fun v' h3 KD hE k3=>?_⟩
    exact hR v' h3 KD hE fun b o hw Go e=>k3 b o hw Go (kk b o hw e)
end
section
variable {prog:Program} {w:World} {A:Around} {E:Vq} {s:Shared}
def qM{x d:Value}{Q:Vq}
  (h:wpAny (model prog w) A.in1 (pyIter x) (fun it s1=>∃I fp wr n P St bt,it = .ref I/\Walks prog w A.in1 I fp wr n P St/\St 0 s1.heap/\(∀b∈fp,b < s1.heap.objs.size)/\CmpOf prog w A.in1 .Lt P bt/\
   ∀v h' tk,kL P bt n d v->(∀b o,b ∉ wr->s1.heap.get? b=some o->h'.get? b=some o)->Q v { s1 with heap:=h',toks:=tk }) E s) :
  wpAny (model prog w) A (call (.builtin "min") [x] [("default",d)]) Q E s:=by
 have nm:(toString "min" ++ toString ".loop":String) = "min.loop":=by decide
 refine nK F.kind_min F.plain_min F.entry_min (qL _ _) ?_
 show wpAny _ A.in1 (Builtin.Builtins.bindParams "min" ["key","default"] 0 ⟨[],[("default",d)]⟩ >>= _) _ _ s
 refine wpAny_bind (wpAny_of_eq (show Builtin.Builtins.bindParams "min" ["key","default"] 0 ⟨[],[("default",d)]⟩=pure [none,some d] from rfl) (wpAny_bind (wpAny_pure ?_)))
 refine wpAny_bind (wpAny_mono h (fun it s1 h1=>?_) fun _ _ e=>e)
 obtain⟨I,fp,wr,n,P,St,bt,rfl,W,hst,hfp,hcmp,hQ⟩:=h1
 refine wpAny_bind (wpAny_newObj_type ?_)
 have nf:s1.heap.objs.size ∉ fp:=fun hm=>Nat.lt_irrefl _ (hfp _ hm)
 rw[nm]
 refine wpAny_pure ⟨plainId_quiet F.plain_min_loop _,tj W bt hcmp s1.heap.objs.size nf d _ 0 _ #[] 0 rfl (Nat.zero_le _) (W.frame _ _ _ hst fun b _ o e=>Heap.get?_push_of_some _ e) rfl (Heap.get?_push_size _ rfl) fun v h' tk hE kk=>?_⟩
 exact hQ v h' tk hE fun b o hw e=>kk b o hw (Nat.ne_of_lt (Heap.lt_size e)) (Heap.get?_push_of_some _ e)
end
end Md
namespace L2
open PySem PySem.Spec PyProof.Rows
def zj(ns:Vu)(d M:Int):Prop:=(ns=[]/\M=d)\/(M∈ns/\∀a∈ns,M<=a)
section
variable {X:Cx}
def qN{id:String}{x:Str}{r:R2}{e ed:Expr}{ta td:TE}{p pos kp:Pos}(hc:fQ X (fun v u=>call (.builtin id) [v] [("default",u)]) r)(hg:Gl X x)(hm:X.mg x=none)(hv:bootBuiltins x=some (.builtin id))(ha:PE X e ta)(hd:PE X ed td)
  (hs:starEach [e] X.env=[(false,eval e X.env)]) (hn:x ≠ "__name__":=by decide) (hdb:(x == ("__debug__":Str))=false:=by decide):PE X (.Call (.Name x p) [e] [⟨some "default",ed,kp⟩] pos) (zP r ta td):=by
 intro pins s σ H Q I h
 refine wpAny_Call_Name_kw (dM I hg hm hv ?_ hn hdb)
 refine PyProof.Rows.callWith_kw ?_ (by rw[hs];rfl) (by rw[hs];rfl) rfl rfl
 rw[hs]
 refine Calls.spliced_cons (bA (ha pins s σ H _ I h) fun v s1 ⟨x1,H1,I1,r1,q1⟩=>Calls.spliced_nil ?_)
 refine bA ((vg (nm:=some "default") (kpos:=kp) hd yf) pos pins s1 σ H1 (fun zs H2=>match zs with|[y]=>r x1 y H2 Q|_=>False) I1 q1) fun ws s2 ⟨zs,H2,I2,rz,q2⟩=>?_
 cases rz with
 |nil=>exact q2.elim
 |cons a b=>
  cases b with
  |cons _ _=>exact q2.elim
  |nil=>exact hc pins s2 σ H2 _ _ _ _ Q I2 r1 a q2
def vX(hc:X.calm=true):fQ X (fun v u=>call (.builtin "min") [v] [("default",u)]) (fun x y H Q=>∃(p:Addr) (ns:Vu) (d:Int),x = .ref p/\y = .int d/\SqT X.K H p (ns.map V.int)/\∀M,zj ns d M->Q (.int M) H):=by
 intro pins s σ H x y v u Q I r1 r2 h
 obtain⟨p,ns,d,rfl,rfl,hp,q⟩:=h
 cases r1
 obtain⟨t,rfl⟩:=r2
 obtain⟨its,rv,pl,hz⟩:=I.tuple hp
 have hi:IntsAre its ns:=ee rv
 obtain⟨xs,e⟩:=hi.allInts.items
 have hns:ns=xs.toList.map (·.1):=by rw[<-hi.numsOf,<-nums_intItems,<-e]
 have hl:s.heap.IsTuple p its.toArray:=by
  obtain⟨o,ho,hc,n,hd⟩:=id pl
  exact⟨o,ho,hc,n,hd⟩
 rw[e]at hl
 have hlt:p < s.heap.objs.size:=by obtain⟨_,e,_⟩:=hl;exact Heap.lt_size e
 refine Md.qM (wpAny_pyIter_tuple hl ?_)
 refine⟨_,_,_,_,_,_,_,rfl,Walks.tuple (A:=X.A.in1) (I.ok.hd hc) _ p (Nat.ne_of_lt hlt) (intItems xs),⟨⟨_,Heap.get?_push_size _ rfl,rfl,rfl⟩,hl.push _⟩,(fun b hb=>?_),CmpOf.ints_lt (numAt xs) (fun _ _=>intItems_at),fun v h' tk hE hk=>?_⟩
 ·show b < (s.heap.push _).objs.size
  rw[Heap.size_push]
  simp only[List.mem_cons,List.not_mem_nil,or_false]at hb
  rcases hb with rfl|rfl
  ·exact Nat.lt_succ_self _
  ·exact Nat.lt_succ_of_lt hlt
 have hsz:(intItems xs).size=xs.size:=by simp[intItems]
 rw[hsz]at hE
 have hlen:ns.length=xs.size:=by rw[hns,List.length_map,Array.length_toList]
 have hk':∀b o,s.heap.get? b=some o->h'.get? b=some o:=fun b o e=>hk b o (fun hm=>by
  rcases List.mem_cons.mp hm with e1|hm
  ·exact absurd (e1▸Heap.lt_size e) (Nat.lt_irrefl _)
  ·cases hm) (Heap.get?_push_of_some _ e)
 rcases hE with⟨h0,rfl⟩|⟨h0,hv⟩
 ·exact⟨.int d,H,(I.kept (t':=tk) (h':=h') hk'),⟨_,rfl⟩,q _ (.inl ⟨List.eq_nil_of_length_eq_zero (by omega),rfl⟩)⟩
 ·obtain⟨t,rfl⟩:=intItems_at hv
  obtain⟨h1,h2⟩:=argBest_lt (numAt xs) (xs.size - 1)
  refine⟨.int _,H,(I.kept (t':=tk) (h':=h') hk'),⟨_,rfl⟩,q _ (.inr ⟨?_,fun a ha=>?_⟩)⟩
  ·rw[hns,numAt_eq];exact getD_mem (by rw[List.length_map,Array.length_toList];omega)
  ·rw[hns]at ha
   obtain⟨j,hj,rfl⟩:=mem_getD ha
   rw[List.length_map,Array.length_toList]at hj
   rw[<-numAt_eq];exact h2 j (by omega)
end
end L2
namespace L3
open PySem L2
section
variable {X:Cx} {e ed:Expr} {te td:aT} {x:Str} {p pos kp:Pos}
def oY:R3:=fun x y S Q=>match x,y with
 | .tup xs,.int d=>(match dN xs with|some ns=>∀M,zj ns d M->Q (.int M) S|none=>False)
 |_,_=>False
def zk(hc:X.calm=true):gv X (fun v u=>call (.builtin "min") [v] [("default",u)]) oY:=⟨fun pins s σ H x y v u Q I rx ry ⟨px,py,S,Q3,r1,r2,rS,q,k⟩=>by
 unfold oY at q
 split at q
 ·split at q
  ·rename_i eb
   cases r1 with
   |tup h rs=>
    cases r2
    have e2:=dZ rs eb
    subst e2
    exact vX hc pins s σ H _ _ v u Q I rx ry ⟨_,_,_,rfl,rfl,h,fun M hM=>k _ S _ H (q M hM) (.int _) rS .refl⟩
  ·exact q.elim
 ·exact q.elim⟩
def DW{id:String}{r:R3}(hc:gv X (fun v u=>call (.builtin id) [v] [("default",u)]) r)(hm:X.mg x=none)(ha:bj X e te)(hd:bj X ed td)(hg:Gl X x:=by rfl)(hv:bootBuiltins x=some (.builtin id):=by decide +kernel)(hs:starEach [e] X.env=[(false,eval e X.env)]:=by rfl)
  (hnn:x ≠ "__name__":=by decide) (hdb:(x == ("__debug__":Str))=false:=by decide):bj X (.Call (.Name x p) [e] [⟨some "default",ed,kp⟩] pos) (af r te td):=
 ⟨aR (qN hc.ok hg hm hv ha.ok hd.ok hs hnn hdb) fun _ _ _=>gT⟩
end
end L3
namespace CW
open PySem L2 L3
def nL:bO:=(aw (af mQ (af aO (af ak (v3 0) (c3 (.int 0))) (af ak (v3 1) (c3 (.int 1)))) (af aO (af ak (v3 1) (c3 (.int 0))) (af ak (v3 0) (c3 (.int 1))))))
def iE(IN:aH):bO:=(ah (aq 1 (af ak (v3 0) (c3 (.int 0))))
  (ah (cO (aF (v3 0)) (.n 2) (cN (br (ac IN [(v3 1),(v3 2)])) (aq 1 (v3 2)) bd))
  (aw (v3 1))))
def gD(G0:aH):bO:=(ah (aq 1 (aV [(c3 (.int 0)),(c3 (.int 1))]))
  (ah (cO (aF (v3 0)) (.n 2) (aq 1 (ac G0 [(v3 1),(v3 2)])))
  (aw (v3 1))))
def gE(G1 HZ:aH):bO:=(aw (ac G1 [(ar (qF (v3 0) (v3 1)) (.tp (.cons (.n 0) (.cons (.n 1) .nil))) a8 (ac HZ [(aV [(v3 0),(c3 (.int 1))]),(v3 1)]) 2 [])]))
def df(Ge:aH):bO:=(ah (aq 1 (c3 (.int 1)))
  (ah (cO (aF (v3 0)) (.n 2) (aq 1 (af dE (af aO (v3 1) (af ak (v3 2) (c3 (.int 1)))) (ac Ge [(v3 1),(af ak (v3 2) (c3 (.int 1)))]))))
  (aw (v3 1))))
def dO:bO:=(aw (af aL (af aL (ar (aF (v3 0)) (.n 0) a8 (l7 (br (af (e9 false) (af ak (v3 0) (c3 (.int 0))) (v3 1))) (c3 (.int 1)) (c3 (.int 0))) 1 [3]) (af aO (bV [(c3 (.int 0))]) (v3 1))) (bV [(af ak (v3 2) (v3 3))])))
def eJ:bO:=(ah (aq 3 (ar (cC (v3 1)) (.n 0) a8 (l7 (br (af (e9 false) (v3 0) (v3 1))) (c3 (.int 1)) (c3 (.int 0))) 1 [2]))
  (aw (af aL (af aL (ar (aF (v3 0)) (.n 0) a8 (iY cX (af ak (af ak (v3 0) (c3 (.int 2))) (v3 1))) 1 [2]) (v3 3)) (bV [(c3 (.int 0))]))))
def iF:bO:=(aw (ar (mm (v3 0) (v3 1)) (.tp (.cons (.n 0) (.cons (.n 1) .nil))) a8 (af dE (af b_ (af aO (v3 0) (af ak (v3 3) (v3 4))) (af aO (af ak (v3 5) (v3 4)) (v3 1))) (v3 2)) 2 [3,1,2,0]))
def cx:bO:=(ah (fB "Balance" "rows" (v3 1) (v3 0))
  (ah (fB "Balance" "held" (v3 2) (v3 0))
  (fB "Balance" "bottom" (c3 (.int 1)) (v3 0))))
def dm(Hl:aH):bO:=(ah (aq 3 (af ak (b8 "Balance" "rows" (v3 0)) (v3 1)))
  (ah (aq 4 (ar (aF (b8 "Balance" "rows" (v3 0))) (.n 0) a8 (ac Hl [(v3 0),(v3 1),(v3 2),(b8 "Balance" "bottom" (v3 3))]) 1 [3,2,0]))
  (ah (fB "Balance" "rows" (af aL (af aL (aU (v3 4) jU (fY (v3 1))) (bV [(v3 3)])) (aU (v3 4) (fY (af aL (v3 1) (c3 (.int 1)))) jU)) (v3 0))
  (ah (fB "Balance" "bottom" (af ak (v3 3) (v3 2)) (v3 0))
  (iB (v3 2) (b8 "Balance" "held" (v3 0)) (v3 1))))))
def cF:bO:=(ah (cO (iZ (aU (af ak (b8 "Balance" "rows" (v3 0)) (iY cX (c3 (.int 1)))) jU (fY (iY cX (c3 (.int 1)))))) (.tp (.cons (.n 1) (.cons (.n 2) .nil))) (cN (br (af mQ (v3 2) (c3 (.int 0)))) (aw (v3 1)) bd))
  (aw (c3 .non)))
def cP:bO:=(ah (aq 4 (af aO (af ak (af ak (b8 "Balance" "rows" (v3 0)) (v3 1)) (iY cX (c3 (.int 1)))) (af ak (af ak (b8 "Balance" "rows" (v3 0)) (v3 2)) (v3 3))))
  (ah (aq 5 (af aO (af ak (af ak (b8 "Balance" "rows" (v3 0)) (v3 2)) (iY cX (c3 (.int 1)))) (af ak (af ak (b8 "Balance" "rows" (v3 0)) (v3 1)) (v3 3))))
  (aw (af vW (aV [(v3 4),(af ak (b8 "Balance" "held" (v3 0)) (v3 1))]) (aV [(v3 5),(af ak (b8 "Balance" "held" (v3 0)) (v3 2))])))))
def cG(FY:aH):bO:=(ah (aq 2 (c3 .non))
  (ah (cO (cC (aj bg [(b8 "Balance" "held" (v3 0))])) (.n 3) (cN (gU (br (af lL (af ak (af ak (b8 "Balance" "rows" (v3 0)) (v3 3)) (v3 1)) (c3 (.int 0)))) (sE (br (af (iA false) (v3 2) (c3 .non))) (br (cL "Balance" "sooner" FY (v3 0) [(v3 3),(v3 2),(v3 1)])))) (aq 2 (v3 3)) bd))
  (aw (v3 2))))
def cH(Eu:aH):bO:=(ah (aq 4 (af aO (bV [(aV [(c3 (.int 0)),(c3 (.int 1))])]) (v3 1)))
  (ah (cO (mm (b8 "Balance" "rows" (v3 0)) (b8 "Balance" "held" (v3 0))) (.tp (.cons (.n 5) (.cons (.n 6) .nil))) (cN (br (af mQ (v3 6) (v3 1))) (iB (ac Eu [(af aO (v3 3) (af ak (v3 5) (v3 2))),(b8 "Balance" "bottom" (v3 0))]) (v3 4) (v3 6)) bd))
  (aw (v3 4))))
def bc:bO:=(ah (aq 2 (ar (iZ (v3 0)) (.tp (.cons (.n 0) (.cons (.n 1) .nil))) (gU (br (af (e9 false) (af ak (v3 1) (c3 (.int 0))) (v3 2))) (br (af vP (af oY (af ak (v3 1) (c3 (.int 2))) (c3 (.int 0))) (c3 (.int 0))))) (v3 0) 2 [1]))
  (aw (af ak (v3 2) (c3 (.int 0)))))
def eK(EV Gp Gz FO E4 E5:aH):bO:=(ah (aq 3 (ac EV [(ar (aF (v3 0)) (.n 0) a8 (af ak (v3 0) (c3 (.int 1))) 1 [])]))
  (ah (aq 4 (af aL (ar (aF (v3 0)) (.n 0) a8 (af aO (iY cX (af ak (af ak (v3 0) (c3 (.int 1))) (c3 (.int 0)))) (af dE (v3 1) (af ak (af ak (v3 0) (c3 (.int 1))) (c3 (.int 1))))) 1 [3]) (af aO (bV [(c3 (.int 0))]) (af aL (v3 1) (c3 (.int 1))))))
  (ah (aq 6 (ar (cC (aj bg [(v3 2)])) (.n 0) a8 (ac Gp [(v3 1),(v3 2),(v3 3),(v3 0)]) 1 [0,1,2]))
  (ah (cE (jV "list" eE (v3 6) [(ar (cC (v3 1)) (.n 0) a8 (ac Gz [(v3 1),(v3 2),(v3 0)]) 1 [0,1])]))
  (ah (aq 7 (sZ "Balance" FO [(af aL (v3 6) (bV [(v3 4)])),(ar (cC (aj bg [(v3 6)])) (.n 0) a8 (af b_ (af aL (aj bg [(v3 1)]) (v3 0)) (aj bg [(v3 2)])) 1 [0,2])]))
  (ah (cO (cC (aj bg [(v3 2)])) (.n 5) (cE (cL "Balance" "hold" E4 (v3 7) [(v3 5),(ac E5 [(v3 0),(v3 5)])])))
  (aw (v3 7))))))))
def gF(Hm G0 G2:aH):bO:=(aw (ac Hm [(ar (aF (v3 0)) (.n 0) (br (af (e9 false) (af ak (v3 0) (c3 (.int 0))) (v3 1))) (ac G0 [(af ak (v3 0) (c3 (.int 1))),(ac G2 [(af ak (v3 0) (c3 (.int 2))),(v3 2)])]) 1 [2,1])]))
def iG(EL:aH):bO:=(ah (aq 3 (cL "Balance" "held_by" EL (v3 0) [(aj bg [(v3 1)]),(v3 2),(iY cX (c3 (.int 1)))]))
  (ah (cN (br (af mQ (v3 2) (aj bg [(v3 1)]))) (iB (aV [(c3 (.int 1)),(c3 (.int 1))]) (v3 3) (v3 2)) bd)
  (aw (aV [(c3 (.str "endless")),(aj aD [(v3 3)])]))))
def nM(EV Eu G3 EL:aH):bO:=(ah (aq 3 (af aO (b8 "Balance" "bottom" (v3 0)) (ac EV [(ar (aF (v3 1)) (.n 0) a8 (af ak (v3 0) (c3 (.int 1))) 1 [])])))
  (ah (aq 4 (af ak (b8 "Balance" "rows" (v3 0)) (iY cX (c3 (.int 1)))))
  (ah (aq 5 (aj aD [(ar (aF (aU (v3 4) (fY (aj bg [(v3 1)])) (fY (iY cX (c3 (.int 1)))))) (.n 0) a8 (ac Eu [(v3 0),(v3 1)]) 1 [3])]))
  (ah (aq 6 (aj aD [(ar (cC (aj bg [(v3 2)])) (.n 0) a8 (ac G3 [(v3 1),(v3 2),(v3 0)]) 1 [1,5])]))
  (ah (aq 7 (aj aD [(cL "Balance" "held_by" EL (v3 0) [(aj bg [(v3 1)]),(iY cX (c3 (.int 1))),(c3 (.int 1))])]))
  (aw (aV [(c3 (.str "most")),(ac Eu [(af ak (v3 4) (iY cX (c3 (.int 1)))),(v3 3)]),(v3 7),(v3 6),(v3 5)])))))))
def iH(GA Fa FR Ho E4 IP:aH):bO:=(ah (aq 2 (aj bg [(af ak (af ak (v3 0) (c3 (.int 0))) (c3 (.int 2)))]))
  (ah (aq 3 (ac GA [(v3 0),(v3 2),(v3 1)]))
  (ah (aq 4 (cL "Balance" "gaining" Fa (v3 3) []))
  (ah (iC (br (af (iA true) (v3 4) (c3 .non))) (ah (aq 5 (cL "Balance" "used_up" FR (v3 3) [(v3 4)]))
  (ah (cN (br (af (iA false) (v3 5) (c3 .non))) (aw (ac Ho [(v3 3),(v3 0),(v3 4)])) bd)
  (ah (cE (cL "Balance" "hold" E4 (v3 3) [(v3 5),(v3 4)]))
  (aq 4 (cL "Balance" "gaining" Fa (v3 3) []))))))
  (aw (ac IP [(v3 3),(v3 0),(v3 1)]))))))
end CW
namespace CW
open PySem L2 L3 Wd
open C
structure Sz (i:Int):Prop where
 lt:i.natAbs < 2 ^ 4000
def oZ{k:Int}{n:Nat}(h:k.natAbs < 2 ^ n):Builtin.Int.intBits k<=n:=by
 unfold Builtin.Int.intBits
 split
 ·exact Nat.zero_le _
 ·rename_i hz
  have h0:k.natAbs≠0:=by intro e;apply hz;simp;omega
  have:k.natAbs.log2 < n:=(Nat.log2_lt h0).mpr h
  omega
def Sz.mul{a b:Int}(h:Sz a)(g:Sz b):IntMulOk a b:=by
 have h1:=oZ h.lt
 have h2:=oZ g.lt
 unfold IntMulOk
 have e:Builtin.Int.intTooBig ((Builtin.Int.intBits a:Int)+(Builtin.Int.intBits b:Int))=false:=by
  unfold Builtin.Int.intTooBig
  have:(bitsLine:Int)=2 ^ 27:=rfl
  simp only[gt_iff_lt,decide_eq_false_iff_not,Int.not_lt]
  omega
 rw[e];simp
def Sz.div{a b:Int}(h:b≠0)(g:Sz b):jy a b:=⟨h,Nat.lt_trans g.lt (Nat.pow_lt_pow_right (by decide) (by decide))⟩
def Sz.le{a b:Int}(h:Sz b)(g:a.natAbs<=b.natAbs):Sz a:=⟨Nat.lt_of_le_of_lt g h.lt⟩
noncomputable def dS:Nat:=2 ^ 2000
def jh:0 < dS:=Nat.pow_pos (by decide)
def zm:dS < 2 ^ 4000:=Nat.pow_lt_pow_right (by decide) (by decide)
def bK{a:Int}(h:a.natAbs<=dS):Sz a:=⟨Nat.lt_of_le_of_lt h zm⟩
def tm{a b:Int}(h:a.natAbs<=dS)(g:b.natAbs < dS):Sz (a * b):=by
 refine⟨?_⟩
 rw[Int.natAbs_mul]
 have h1:=Nat.mul_lt_mul_of_le_of_lt h g jh
 have e:dS * dS=2 ^ 4000:=by unfold dS;rw[<-Nat.pow_add]
 rw[e]at h1
 exact h1
noncomputable def cq(Q n:Int):PV:=.tup [.int (M3.aK n Q),.int (M3.aB n Q)]
def eZ{Q R n m:Int}(hQ:0 < Q)(hR:0 < R)(e:n * R=m * Q):cq Q n=cq R m:=by
 have L:=M3.cj (t:=n) (b:=Q) (by omega)
 have w:=M3.aY (t:=n) (b:=Q) (by omega)
 obtain⟨e1,e2⟩:=M3.ju (x:=m) (y:=R) L hR (by
  refine M3.yy (g:=Q) (by omega) ?_
  rw[Int.mul_right_comm,<-e,Int.mul_right_comm n,<-w]
  grind)
 unfold cq
 rw[e1,e2]
def nN{x y:Int}(L:M3.yx x y):PV.tup [.int x,.int y]=cq y x:=by
 obtain⟨e1,e2⟩:=M3.sy L
 unfold cq;rw[e1,e2]
def li(n:Int):PV.tup [.int n,.int 1]=cq 1 n:=nN ⟨by decide,Int.gcd_one_right _⟩
def zn{Q n:Int}(hQ:0 < Q):(M3.aK n Q < 0↔n < 0)/\(0 < M3.aK n Q↔0 < n)/\(M3.aK n Q=0↔n=0):=by
 have w:=M3.aY (t:=n) (b:=Q) (by omega)
 have L:=(M3.cj (t:=n) (b:=Q) (by omega)).pos
 have a1:M3.aK n Q < 0->n < 0:=fun h=>by
  have:=Int.mul_neg_of_neg_of_pos h hQ
  rw[w]at this
  exact Int.not_le.mp fun hn=>by have:=Int.mul_nonneg hn (show 0<=M3.aB n Q by omega);omega
 have a2:0 < M3.aK n Q->0 < n:=fun h=>by
  have:=Int.mul_pos h hQ
  rw[w]at this
  exact Int.not_le.mp fun hn=>by have:=Int.mul_nonneg (show 0 <= -n by omega) (show 0<=M3.aB n Q by omega);rw[Int.neg_mul]at this;omega
 have a3:M3.aK n Q=0->n=0:=fun h=>by
  rw[h,Int.zero_mul]at w
  rcases Int.mul_eq_zero.mp w.symm with h|h
  ·exact h
  ·omega
 refine⟨⟨a1,fun h=>?_⟩,⟨a2,fun h=>?_⟩,⟨a3,fun h=>?_⟩⟩<;>omega
structure Fq (Q n:Int):Prop where
 q0:0 < Q
 q1:Q.natAbs < dS
 n1:n.natAbs < dS
def Fq.sz{Q n:Int}(h:Fq Q n):(M3.aK n Q).natAbs<=n.natAbs/\(M3.aB n Q).natAbs<=Q.natAbs/\0 < M3.aB n Q:=by
 have q0:=h.q0
 have:=M3.gS (t:=n) (b:=Q) (T:=n.natAbs) (B:=Q.natAbs) (by omega) (by omega) (by omega) (by omega) (by omega) (by omega) (by omega)
 omega
abbrev ji(w:aH):Prop:=∀{S:av} {a b:Int} {Q:bH} {E:b9},0<=b->Q (.int (Int.gcd a b)) S->w [.int a,.int b] S Q E
def nO:ji (bf 3 jD):=by
 intro S a b Q E hb k
 unfold jD
 refine fb ?_
 rw[show ax 3 [PV.int a,PV.int b]=[some (.int a),some (.int b),none] from rfl]
 refine az fun N hN=>?_
 refine⟨fun n σ S'=>S'=S/\∃(x y:Int) (z:Option PV),σ=[some (.int x),some (.int y),z]/\0<=y/\Int.gcd x y=Int.gcd a b/\y.toNat=n,⟨_,rfl,a,b,none,rfl,hb,rfl,rfl⟩,?_⟩
 rintro n σ S' ⟨rfl,x,y,z,rfl,hy,hg,rfl⟩
 walk_at "x"
 simp only[Bool.true_bne,Bool.not_eq_true',decide_eq_false_iff_not]
 split
 ·rename_i hp
  refine⟨fun σ' HY=>HY=S'/\∃(x' y':Int) (z':Option PV),σ'=[some (.int x'),some (.int y'),z']/\0<=y'/\Int.gcd x' y'=Int.gcd a b/\y'.toNat < y.toNat,?_,?_⟩
  ·rintro σ' HY ⟨rfl,x',y',z',rfl,h2,h3,h4⟩
   exact⟨_,h4,rfl,x',y',z',rfl,h2,h3,rfl⟩
  ·have e:x.fmod y=x % y:=i3 hy
   have l1:=Int.emod_nonneg x (b:=y) hp
   have l2:=Int.emod_lt_of_pos x (show 0 < y by omega)
   refine⟨hp,rfl,y,x.fmod y,_,rfl,by omega,?_,by omega⟩
   rw[M3.lZ];exact hg
 ·rename_i hp
  have Jd:y=0:=by omega
  subst Jd
  refine hN _ _ ?_
  walk_at "x"
  have KB:(if x < 0 then -x else x)=(Int.gcd a b:Int):=by
   rw[<-hg,Int.gcd_zero_right]
   split<;>omega
  rw[KB]
  exact k
abbrev i4(w:aH):Prop:=∀{S:av} {t b:Int} {Q:bH} {E:b9},0 < b->Sz b->Q (cq b t) S->w [.int t,.int b] S Q E
def tq{xc:aH}(FZ:ji xc):i4 (bf 3 (gC xc)):=by
 intro S t b Q E hb hs k
 unfold gC
 refine fb ?_
 rw[show ax 3 [PV.int t,PV.int b]=[some (.int t),some (.int b),none] from rfl]
 refine az fun N hN=>?_
 walk_at "x"
 refine FZ (by omega) (hN _ _ (az fun N hN=>?_))
 walk_at "x"
 rw[if_neg (by rw[decide_eq_true_eq];omega)]
 refine hN _ _ ?_
 walk_at "x"
 have gp:(0:Int) < (Int.gcd t b:Int):=Int.natCast_pos.mpr (M3.eB (by omega))
 have gl:=M3.nv (t:=t) (b:=b) (by omega)
 have cd:∀z,jy z (Int.gcd t b:Int):=fun z=>Sz.div (by omega) (hs.le (by omega))
 refine⟨cd _,cd _,?_⟩
 have d1:=(M3.lX (t:=t) (b:=b) (by omega))
 rw[if_neg (by omega)]at d1
 rw[d1.1,d1.2]
 exact k
abbrev zo(w:aH):Prop:=i4 w
def vY{xl:aH}(h:eI xl):zo xl:=fun hb hs k=>h hb (Nat.lt_trans hs.lt (Nat.pow_lt_pow_right (by decide) (by decide))) k
def tt{Q n m:Int}(h:Fq Q n)(g:Fq Q m):0 < M3.aB n Q * M3.aB m Q/\Sz (M3.aB n Q * M3.aB m Q)/\cq (M3.aB n Q * M3.aB m Q) (M3.aK n Q * M3.aB m Q+M3.aK m Q * M3.aB n Q)=cq Q (n+m):=by
 have a:=h.sz
 have c:=g.sz
 have q0:=h.q0
 have p:=Int.mul_pos a.2.2 c.2.2
 refine⟨p,tm (by have:=h.q1;omega) (by have:=h.q1;omega),eZ p q0 ?_⟩
 have w1:=M3.aY (t:=n) (b:=Q) (by omega)
 have w2:=M3.aY (t:=m) (b:=Q) (by omega)
 calc (M3.aK n Q * M3.aB m Q+M3.aK m Q * M3.aB n Q) * Q=(M3.aK n Q * Q) * M3.aB m Q+(M3.aK m Q * Q) * M3.aB n Q:=by grind
  _=_:=by rw[w1,w2];grind
def Fq.ok{Q n R m:Int}(h:Fq Q n)(g:Fq R m):IntMulOk (M3.aK n Q) (M3.aB m R)/\IntMulOk (M3.aB n Q) (M3.aB m R)/\IntMulOk (M3.aK n Q) (M3.aK m R):=by
 have a:=h.sz
 have c:=g.sz
 have:=h.q1;have:=g.q1;have:=h.n1;have:=g.n1
 exact⟨(bK (by omega)).mul (bK (by omega)),(bK (by omega)).mul (bK (by omega)),(bK (by omega)).mul (bK (by omega))⟩
abbrev o_(w:aH):Prop:=∀{S:av} {B n m:Int} {Q:bH} {E:b9},Fq B n->Fq B m->Q (cq B (n+m)) S->w [cq B n,cq B m] S Q E
def A_{xf:aH}{S:av}{B n m:Int}{Q:bH}{E:b9}(h:IntMulOk (M3.aK n B) (M3.aB m B)/\IntMulOk (M3.aK m B) (M3.aB n B)/\IntMulOk (M3.aB n B) (M3.aB m B))(k:xf [.int (M3.aK n B * M3.aB m B+M3.aK m B * M3.aB n B),.int (M3.aB n B * M3.aB m B)] S Q fZ):bf 2 (fw xf) [cq B n,cq B m] S Q E:=by
 unfold fw
 refine fb ?_
 rw[show ax 2 [cq B n,cq B m]=[some (.tup [.int (M3.aK n B),.int (M3.aB n B)]),some (.tup [.int (M3.aK m B),.int (M3.aB m B)])] from rfl]
 walk_at "x"
 simp only[lM,nI]
 exact⟨h.1,h.2.1,h.2.2,k⟩
def tu{xf:aH}(EF:i4 xf):o_ (bf 2 (fw xf)):=by
 intro S B n m Q E h g k
 obtain⟨p1,p2,p3⟩:=tt h g
 exact A_ ⟨(h.ok g).1,(g.ok h).1,(h.ok g).2.1⟩ (EF p1 p2 (by rw[p3];exact k))
abbrev tw(w:aH):Prop:=∀{S:av} {i B n:Int} {Q:bH} {E:b9},i.natAbs < dS->Fq B n->Q (cq B (i * n)) S->w [.tup [.int i,.int 1],cq B n] S Q E
def qO{xf:aH}(EF:i4 xf):tw (bf 2 (k7 xf)):=by
 intro S i B n Q E hi h k
 unfold k7
 refine fb ?_
 rw[show ax 2 [.tup [.int i,.int 1],cq B n]=[some (.tup [.int i,.int 1]),some (.tup [.int (M3.aK n B),.int (M3.aB n B)])] from rfl]
 have a:=h.sz
 have:=h.q1;have:=h.n1;have q0:=h.q0
 simp only[aw,ac,ag,af,v3,lk,c3,ak,lM,nI,aO]
 have one:(1:Int).natAbs<=dS:=jh
 refine⟨(bK (by omega)).mul (bK (by omega)),(bK one).mul (bK (by omega)),?_⟩
 rw[Int.one_mul]
 refine EF a.2.2 (bK (by omega)) ?_
 rw[eZ (m:=i * n) a.2.2 q0 (by have w:=M3.aY (t:=n) (b:=B) (by omega);rw[Int.mul_assoc,w];grind)]
 exact k
abbrev wX(w:aH):Prop:=∀{S:av} {B n m:Int} {Q:bH} {E:b9},Fq B n->Fq B m->Q (.bl (decide (n < m))) S->w [cq B n,cq B m] S Q E
def tx:wX (bf 2 nL):=by
 intro S B n m Q E h g k
 unfold nL
 refine fb ?_
 rw[show ax 2 [cq B n,cq B m]=[some (.tup [.int (M3.aK n B),.int (M3.aB n B)]),some (.tup [.int (M3.aK m B),.int (M3.aB m B)])] from rfl]
 simp only[aw,af,v3,lk,c3,ak,lM,nI,aO,mQ,bN]
 refine⟨(h.ok g).1,(g.ok h).1,?_⟩
 have q0:=h.q0
 have w1:=M3.aY (t:=n) (b:=B) (by omega)
 have w2:=M3.aY (t:=m) (b:=B) (by omega)
 have b1:=h.sz.2.2
 have b2:=g.sz.2.2
 have e:(M3.aK n B * M3.aB m B < M3.aK m B * M3.aB n B)↔n < m:=by
  have pp:=Int.mul_pos b1 b2
  have e1:(M3.aK n B * M3.aB m B) * B=n * (M3.aB n B * M3.aB m B):=by rw[Int.mul_right_comm,w1];grind
  have e2:(M3.aK m B * M3.aB n B) * B=m * (M3.aB n B * M3.aB m B):=by rw[Int.mul_right_comm,w2];grind
  constructor
  ·intro hlt
   have:=Int.mul_lt_mul_of_pos_right hlt q0
   rw[e1,e2]at this
   exact Int.lt_of_mul_lt_mul_right this (by omega)
  ·intro hlt
   have:=Int.mul_lt_mul_of_pos_right hlt pp
   rw[<-e1,<-e2]at this
   exact Int.lt_of_mul_lt_mul_right this (by omega)
 rw[show decide (M3.aK n B * M3.aB m B < M3.aK m B * M3.aB n B)=decide (n < m)from decide_eq_decide.mpr e]
 exact k
abbrev mo(w:aH):Prop:=∀{S:av} {a b c d:Int} {Q:bH} {E:b9},0 < b->0 < d->a.natAbs<=dS->b.natAbs < dS->c.natAbs<=dS->d.natAbs < dS->Q (cq (b * d) (a * d+c * b)) S->w [.tup [.int a,.int b],.tup [.int c,.int d]] S Q E
def zp{xf:aH}{S:av}{a b c d:Int}{Q:bH}{E:b9}(h:IntMulOk a d/\IntMulOk c b/\IntMulOk b d)(k:xf [.int (a * d+c * b),.int (b * d)] S Q fZ):bf 2 (fw xf) [.tup [.int a,.int b],.tup [.int c,.int d]] S Q E:=by
 unfold fw
 refine fb ?_
 rw[show ax 2 [PV.tup [.int a,.int b],.tup [.int c,.int d]]=[some (.tup [.int a,.int b]),some (.tup [.int c,.int d])] from rfl]
 walk_at "x"
 simp only[lM,nI]
 exact⟨h.1,h.2.1,h.2.2,k⟩
def tz{xf:aH}(EF:i4 xf):mo (bf 2 (fw xf)):=by
 intro S a b c d Q E hb hd h1 h2 h3 h4 k
 exact zp ⟨(bK h1).mul (bK (by omega)),(bK h3).mul (bK (by omega)),(bK (by omega)).mul (bK (by omega))⟩ (EF (Int.mul_pos hb hd) (tm (by omega) h4) k)
def qP{xf:aH}(EF:zo xf):mo (bf 2 (fy xf)):=by
 have e:fy xf=fw xf:=rfl
 rw[e]
 intro S a b c d Q E hb hd h1 h2 h3 h4 k
 exact tz (fun hb hs k=>EF hb hs k) hb hd h1 h2 h3 h4 k
noncomputable def fD(ns:Vu):Nat:=(ns.map Int.natAbs).sum
def lj(ns:Vu):ns.sum.natAbs<=fD ns:=by
 induction ns with
 |nil=>simp[fD]
 |cons a r ih=>simp only[fD,List.map_cons,List.sum_cons]at *;have:=Int.natAbs_add_le a r.sum;omega
def qQ(ns:Vu)(k:Nat):fD (ns.take k)<=fD ns:=by
 rw[<-List.take_append_drop k ns]
 simp only[fD,List.map_append,List.sum_append]
 rw[List.take_append_drop]
 simp only[List.map_take,List.map_drop]
 have:=List.take_append_drop k (ns.map Int.natAbs)
 have h2:=congrArg List.sum this
 rw[List.sum_append]at h2
 omega
def tD{ns:Vu}{a:Int}(h:a∈ns):a.natAbs<=fD ns:=by
 induction ns with
 |nil=>cases h
 |cons x r ih=>
  simp only[fD,List.map_cons,List.sum_cons]at *
  rcases List.mem_cons.mp h with rfl|h
  ·omega
  ·have:=ih h;omega
abbrev Bb(w:aH):Prop:=∀{S:av} {p:Addr} {B:Int} {ns:Vu} {Q:bH} {E:b9},0 < B->B.natAbs < dS->fD ns < dS->S p=some (.lst (ns.map (cq B)))->Q (cq B ns.sum) S->w [.ref p] S Q E
def vZ{xp:aH}(Fk:o_ xp):Bb (bf 3 (gD xp)):=by
 intro S p B ns Q E hB Ip ha hp k
 unfold gD
 refine fb ?_
 rw[show ax 3 [PV.ref p]=[some (.ref p),none,none] from rfl]
 refine az fun N hN=>?_
 walk_at "x"
 refine hN _ _ (az fun N hN=>?_)
 simp only[cO,aF,v3,lk,bE,hp]
 refine cu (fun done σ S'=>S'=S/\done.length<=ns.length/\∃x2:Option PV,σ=[some (.ref p),some (cq B (ns.take done.length).sum),x2]) ⟨rfl,Nat.zero_le _,_,by rw[li,eZ (Q:=1) (R:=B) (n:=0) (m:=0) (by decide) hB (by simp)];rfl⟩ (fun _ _ _ ⟨e,_⟩=>by rw[e];exact hp) ?_ ?_
 ·rintro done x rest σ S' K e ⟨rfl,hl,x2,rfl⟩ hK
  have hget:(ns.map (cq B))[done.length]?=some x:=by rw[e];simp
  obtain⟨n,hn,rfl⟩:∃n,ns[done.length]?=some n/\cq B n=x:=by rw[List.getElem?_map]at hget;exact Option.map_eq_some_iff.mp hget
  have hlt:done.length < ns.length:=(List.getElem?_eq_some_iff.mp hn).1
  simp only[Tg.put,List.set_cons_succ,List.set_cons_zero,aq,ac,ag,v3,lk]
  have t1:=lj (ns.take done.length)
  have t2:=qQ ns done.length
  have t3:=tD (List.mem_of_getElem? hn)
  refine Fk ⟨hB,Ip,by omega⟩ ⟨hB,Ip,by omega⟩ (hK _ _ ⟨rfl,by rw[List.length_append];exact hlt,some (cq B n),?_⟩)
  rw[List.length_append,List.length_singleton,List.take_succ,hn]
  simp
 ·rintro σ S' ⟨rfl,hl,x2,rfl⟩
  refine hN _ _ ?_
  rw[List.length_map,List.take_length]
  walk_at "x"
  exact k
noncomputable def bL:List Int->List Int->Int
 |a::r,b::s=>a * b+bL r s
 |_,_=>0
noncomputable def cY(is ns:Vu):List Int:=List.zipWith (· * ·) is ns
theorem fO:∀(is ns:Vu),(cY is ns).sum=bL is ns
 |[],_=>by simp[cY,bL]
 |_::_,[]=>by simp[cY,bL]
 |a::r,b::s=>by
  have:=fO r s
  simp only[cY,List.zipWith_cons_cons,List.sum_cons,bL]at *
  omega
abbrev tE(w:aH):Prop:=∀{S:av} {B:Int} {is ns:Vu} {Q:bH} {E:b9},0 < B->B.natAbs < dS->fD (cY is ns) < dS->is.length<=1000->is.length=ns.length->(∀i∈is,i.natAbs < dS)->(∀n∈ns,n.natAbs < dS)->(∀S',Ext S S'->Q (cq B (bL is ns)) S')->w [.tup (is.map PV.int),.tup (ns.map (cq B))] S Q E
def qR{xt xm:aH}(IQ:Bb xt)(Hz:tw xm):tE (bf 2 (gE xt xm)):=by
 intro S B is ns Q E hB Ip ha hl he hi hn k
 unfold gE
 refine fb ?_
 rw[show ax 2 [.tup (is.map PV.int),.tup (ns.map (cq B))]=[some (.tup (is.map PV.int)),some (.tup (ns.map (cq B)))] from rfl]
 simp only[aw,ac,ag,ar,qF,v3,lk]
 refine bG (fun done ys S'=>S'=S/\done.length<=is.length/\ys=((cY is ns).take done.length).map (cq B)) ⟨rfl,Nat.zero_le _,rfl⟩ ?_ ?_ ?_
 ·rintro done ys S' ⟨rfl,h,rfl⟩
  exact⟨trivial,aP (by rw[List.length_map,List.length_take];omega)⟩
 ·rintro done x rest ys S' K e ⟨rfl,h,rfl⟩ hK
  have hget:(bC (is.map PV.int) (ns.map (cq B)))[done.length]?=some x:=by rw[e];simp
  unfold bC at hget
  rw[List.getElem?_map]at hget
  obtain⟨⟨u,v⟩,hz,rfl⟩:=Option.map_eq_some_iff.mp hget
  obtain⟨h1,h2⟩:=List.getElem?_zip_eq_some.mp hz
  rw[List.getElem?_map]at h1 h2
  obtain⟨i,hi1,rfl⟩:=Option.map_eq_some_iff.mp h1
  obtain⟨n,hn1,rfl⟩:=Option.map_eq_some_iff.mp h2
  have hlt:done.length < is.length:=(List.getElem?_eq_some_iff.mp hi1).1
  simp only[Tg.put,Tg.EQ,bQ,List.reduceReplicate,List.map_nil,List.append_nil,List.set_cons_zero,List.set_cons_succ,a8,if_true,ac,ag,aV,v3,lk,c3]
  refine Hz (hi i (List.mem_of_getElem? hi1)) ⟨hB,Ip,hn n (List.mem_of_getElem? hn1)⟩ (hK _ _ ⟨rfl,by rw[List.length_append];exact hlt,?_⟩)
  have hp:(cY is ns)[done.length]?=some (i * n):=by
   unfold cY
   rw[List.getElem?_zipWith,hi1,hn1]
  rw[List.length_append,List.length_singleton,List.take_succ,hp]
  simp
 ·rintro ys S' ⟨rfl,h,rfl⟩ p hp
  have lz:(bC (is.map PV.int) (ns.map (cq B))).length=(cY is ns).length:=by
   unfold bC cY
   simp
  rw[lz,List.take_length]
  refine IQ hB Ip ha aa ?_
  rw[fO]
  exact k _ (.new hp)
structure Cl where
 who:Option Nat
 x:Int
 y:Nat
 eff:List Int
noncomputable def jF:Option Nat->PV
 |none=>.non
 |some d=>.int (d:Int)
noncomputable def Cl.pv(c:Cl):PV:=.tup [jF c.who,.tup [.int c.x,.int (c.y:Int)],.tup (c.eff.map PV.int)]
def nP{o:Option Nat}{d:Nat}{S:av}{Q:bH}(q:Q (.bl (decide (o=some d))) S):e9 false (jF o) (.int (d:Int)) S Q:=by
 cases o with
 |none=>
  unfold e9
  exact⟨.none,.int d,.non,.int _,by simp[PyData.canLay0],by simp[PyData.canLay0],by simp[PyData.depth],by simpa [PyData.eqv]using q⟩
 |some e=>
  show Q (.bl (false != decide ((e:Int)=(d:Int)))) S
  rw[Bool.false_bne,show decide ((e:Int)=(d:Int))=decide (some e=some d)from decide_eq_decide.mpr ⟨fun h=>by rw[Int.ofNat.inj h],fun h=>by cases h;rfl⟩]
  exact q
abbrev wY(w:aH):Prop:=∀{S:av} {p:Addr} {B:Int} {ns:Vu} {Q:bH} {E:b9},0 < B->B.natAbs < dS->(∀n∈ns,n.natAbs < dS)->ns≠[]->S p=some (.lst (ns.map (cq B)))->(∀M,M∈ns->(∀a∈ns,a<=M)->Q (cq B M) S)->w [.ref p] S Q E
def tF{xl:aH}(H_:wX xl):wY (bf 3 (iE xl)):=by
 intro S p B ns Q E hB Ip hn hne hp k
 unfold iE
 refine fb ?_
 rw[show ax 3 [PV.ref p]=[some (.ref p),none,none] from rfl]
 obtain⟨n0,r0,rfl⟩:=List.exists_cons_of_ne_nil hne
 refine az fun N hN=>?_
 have e0:ER ((n0::r0).map (cq B)) 0=some (cq B n0):=by simp only[List.map_cons,lM]
 simp only[aq,af,v3,lk,c3,ak,hp,e0,List.set_cons_succ,List.set_cons_zero]
 refine hN _ _ (az fun N hN=>?_)
 simp only[cO,aF,v3,lk,bE,hp]
 refine cu (fun done σ S'=>S'=S/\∃M x2,M∈n0::r0/\σ=[some (.ref p),some (cq B M),x2]/\∀a∈(n0::r0).take done.length,a<=M) ⟨rfl,n0,_,by simp,rfl,by simp⟩ (fun _ _ _ ⟨e,_⟩=>by rw[e];exact hp) ?_ ?_
 ·rintro done x rest σ S' K e ⟨rfl,M,x2,hM,rfl,hd⟩ hK
  have hget:((n0::r0).map (cq B))[done.length]?=some x:=by rw[e];simp
  obtain⟨n,hn1,rfl⟩:∃n,(n0::r0)[done.length]?=some n/\cq B n=x:=by rw[List.getElem?_map]at hget;exact Option.map_eq_some_iff.mp hget
  have hm:=List.mem_of_getElem? hn1
  have tk:∀a∈(n0::r0).take (done++[cq B n]).length,a∈(n0::r0).take done.length\/a=n:=fun a ha=>by
   rw[List.length_append,List.length_singleton,List.take_succ,hn1,List.mem_append]at ha
   rcases ha with ha|ha
   ·exact .inl ha
   ·exact .inr (by simpa using ha)
  simp only[Tg.put,List.set_cons_succ,List.set_cons_zero,cN,br,ac,ag,v3,lk]
  refine H_ ⟨hB,Ip,hn M hM⟩ ⟨hB,Ip,hn n hm⟩ ?_
  by_cases hlt:M < n
  ·rw[decide_eq_true hlt]
   simp only[if_true,aq,v3,lk,List.set_cons_succ,List.set_cons_zero]
   exact hK _ _ ⟨rfl,n,_,hm,rfl,fun a ha=>(tk a ha).elim (fun h=>by have:=hd a h;omega) (fun h=>by omega)⟩
  ·rw[decide_eq_false hlt]
   simp only[Bool.false_eq_true,if_false]
   exact hK _ _ ⟨rfl,M,_,hM,rfl,fun a ha=>(tk a ha).elim (fun h=>hd a h) (fun h=>by omega)⟩
 ·rintro σ S' ⟨rfl,M,x2,hM,rfl,hd⟩
  rw[List.length_map,List.take_length]at hd
  refine hN _ _ ?_
  walk_at "x"
  exact k M hM hd
noncomputable def qS(f:Nat)(ys:List Nat):Nat:=ys.foldl Nat.lcm f
theorem jG(L:Nat)(hL:0 < L):∀(ys:List Nat) (f:Nat),0 < f->f ∣ L->(∀y∈ys,0 < y/\y ∣ L)->0 < qS f ys/\qS f ys ∣ L/\f ∣ qS f ys/\∀y∈ys,y ∣ qS f ys
 |[],f,h0,h1,_=>⟨h0,h1,Nat.dvd_refl _,fun y h=>by cases h⟩
 |y::r,f,h0,h1,h=>by
  have hy:=h y (by simp)
  have ih:=jG L hL r (Nat.lcm f y) (Nat.lcm_pos h0 hy.1) (Nat.lcm_dvd h1 hy.2) fun z hz=>h z (by simp[hz])
  refine⟨ih.1,ih.2.1,Nat.dvd_trans (Nat.dvd_lcm_left f y) ih.2.2.1,fun z hz=>?_⟩
  rcases List.mem_cons.mp hz with rfl|hz
  ·exact Nat.dvd_trans (Nat.dvd_lcm_right f z) ih.2.2.1
  ·exact ih.2.2.2 z hz
noncomputable def dF(c:Cl):PV:=.tup [.int c.x,.int (c.y:Int)]
def tG(f y:Nat):((f:Int) * (y:Int)).fdiv (Int.gcd (f:Int) (y:Int):Int)=(Nat.lcm f y:Int):=by
 rw[Int.gcd_natCast_natCast,Int.fdiv_eq_ediv_of_nonneg _ (by omega)]
 show _=((f * y / Nat.gcd f y:Nat):Int)
 rw[Int.natCast_ediv,Int.natCast_mul]
abbrev lm(w:aH):Prop:=∀{S:av} {p:Addr} {cs:List Cl} {Q:bH} {E:b9},(∀c∈cs,0 < c.y/\c.y ∣ 2520)->S p=some (.lst (cs.map dF))->Q (.int (qS 1 (cs.map (·.y)):Int)) S->w [.ref p] S Q E
def iI{a:Nat}(h:a ∣ 2520):a<=2520:=Nat.le_of_dvd (by decide) h
def GQ{xc:aH}(FZ:ji xc):lm (bf 3 (df xc)):=by
 intro S p cs Q E hc hp k
 unfold df
 refine fb ?_
 rw[show ax 3 [PV.ref p]=[some (.ref p),none,none] from rfl]
 refine az fun N hN=>?_
 walk_at "x"
 refine hN _ _ (az fun N hN=>?_)
 simp only[cO,aF,v3,lk,bE,hp]
 refine cu (fun done σ S'=>S'=S/\∃x2,σ=[some (.ref p),some (.int (qS 1 ((cs.take done.length).map (·.y)):Int)),x2]) ⟨rfl,_,rfl⟩ (fun _ _ _ ⟨e,_⟩=>by rw[e];exact hp) ?_ ?_
 ·rintro done x rest σ S' K e ⟨rfl,x2,rfl⟩ hK
  have hget:(cs.map dF)[done.length]?=some x:=by rw[e];simp
  obtain⟨c,hc1,rfl⟩:∃c,cs[done.length]?=some c/\dF c=x:=by rw[List.getElem?_map]at hget;exact Option.map_eq_some_iff.mp hget
  have hy:=hc c (List.mem_of_getElem? hc1)
  have ok:=jG 2520 (by decide) ((cs.take done.length).map (·.y)) 1 (by decide) (Nat.one_dvd _) fun y hy=>by
   obtain⟨c,h,rfl⟩:=List.mem_map.mp hy
   exact hc c (List.mem_of_mem_take h)
  have l1:=iI ok.2.1
  have l2:=iI hy.2
  have en:qS 1 ((cs.take (done++[dF c]).length).map (·.y))=Nat.lcm (qS 1 ((cs.take done.length).map (·.y))) c.y:=by
   rw[List.length_append,List.length_singleton,List.take_succ,hc1,List.map_append]
   unfold qS
   rw[List.foldl_append]
   rfl
  generalize qS 1 ((cs.take done.length).map (·.y))=f at ok l1 en
  simp only[Tg.put,List.set_cons_succ,List.set_cons_zero,aq,dF]
  walk_at "x"
  simp only[nI]
  refine⟨mh (by omega) (by omega),?_⟩
  refine FZ (by omega) ?_
  have gp:0 < Int.gcd (f:Int) (c.y:Int):=M3.eB (by omega)
  have gl:=M3.nv (t:=(f:Int)) (b:=(c.y:Int)) (by omega)
  refine⟨yR (by omega) (by omega),?_⟩
  rw[tG,<-en]
  exact hK _ _ ⟨rfl,_,rfl⟩
 ·rintro σ S' ⟨rfl,x2,rfl⟩
  rw[List.length_map,List.take_length]
  refine hN _ _ ?_
  walk_at "x"
  exact k
noncomputable def w1(d:Nat)(c:Cl):Int:=if c.who=some d then 1 else 0
noncomputable def iJ(cs:List Cl)(k:Nat)(mix:Vu)(d:Nat):List Int:=cs.map (w1 d)++List.replicate k 0++[mix.getD d 0]
noncomputable def iK(cs:List Cl)(k:Nat)(t:Nat):List Int:=cs.map (fun c=>- c.eff.getD t 0)++(List.range k).map (fun o=>if o=t then 1 else 0)++[0]
noncomputable def nQ(cs:List Cl)(k cb:Nat):List Int:=cs.map (fun c=>- c.x * ((cb / c.y:Nat):Int))++List.replicate (k+1) 0
def tH(k:Nat):(List.replicate k [PV.int 0]).flatten=(List.replicate k (0:Int)).map PV.int:=by
 induction k with
 |zero=>rfl
 |succ k ih=>rw[List.replicate_succ,List.flatten_cons,ih,List.replicate_succ,List.map_cons];rfl
def Hh{S:av}{vs:List PV}{Q:bH}(k:∀p S',S p=none->Ext S S'->S' p=some (.lst vs)->Q (.ref p) S'):∀p,S p=none->Q (.ref p) (Ee S p (.lst vs)):=fun p hp=>k p _ hp (.new hp) aa
def mq{S:av}{a b:Addr}{xs ys:List PV}{Q:bH}(ha:S a=some (.lst xs))(hb:S b=some (.lst ys))(hl:xs.length+ys.length<=1000)(k:∀p S',S p=none->Ext S S'->S' p=some (.lst (xs++ys))->Q (.ref p) S'):aL (.ref a) (.ref b) S Q:=by
 simp only[aL,ha,hb]
 exact⟨aP hl,Hh k⟩
def Bc{S:av}{a:Addr}{k:Nat}{Q:bH}(ha:S a=some (.lst [.int 0]))(hk:k<=1000)(kk:∀p S',S p=none->Ext S S'->S' p=some (.lst ((List.replicate k (0:Int)).map PV.int))->Q (.ref p) S'):aO (.ref a) (.int (k:Int)) S Q:=by
 simp only[aO,ha]
 refine⟨by omega,by omega,aP (by simp;omega),?_⟩
 rw[Int.toNat_natCast,tH]
 exact Hh kk
def tI{α:Type}(f:α->Int)(xs:List α):(xs.map fun c=>PV.int (f c))=(xs.map f).map PV.int:=by rw[List.map_map];rfl
abbrev mv(w:aH):Prop:=∀{S:av} {cs:List Cl} {k:Nat} {mix:Vu} {d:Nat} {Q:bH} {E:b9},cs.length<=500->k<=100->d < mix.length->(∀p S',S p=none->Ext S S'->S' p=some (.lst ((iJ cs k mix d).map PV.int))->Q (.ref p) S')->w [.tup (cs.map Cl.pv),.int (k:Int),.tup (mix.map PV.int),.int (d:Int)] S Q E
def GB:mv (bf 4 dO):=by
 intro S cs k mix d Q E hc hk hd kk
 unfold dO
 refine fb ?_
 rw[show ax 4 [.tup (cs.map Cl.pv),.int (k:Int),.tup (mix.map PV.int),.int (d:Int)]=[some (.tup (cs.map Cl.pv)),some (.int (k:Int)),some (.tup (mix.map PV.int)),some (.int (d:Int))] from rfl]
 simp only[aw,af,ar,aF,v3,lk,bE]
 refine aW Cl.pv (fun c=>.int (w1 d c)) trivial cs [] (fun c hc=>⟨_,rfl,fun Q' q=>?_⟩) (aP (by simp;omega)) ?_
 ·simp only[bQ,List.reduceReplicate,List.map_cons,List.map_nil,List.cons_append,List.nil_append,List.set_cons_zero,l7,br,af,v3,lk,c3,ak,Cl.pv,lM]
  refine nP ?_
  by_cases h:c.who=some d
  ·simp only[w1,h,decide_true,if_true]at q ⊢;exact q
  ·simp only[w1,h,decide_false,Bool.false_eq_true,if_false]at q ⊢;exact q
 rw[List.nil_append,tI (w1 d)]
 intro p1 hp1
 have X1:Ext S (Ee S p1 (.lst ((cs.map (w1 d)).map PV.int))):=.new hp1
 have f1:(Ee S p1 (.lst ((cs.map (w1 d)).map PV.int))) p1=some (.lst ((cs.map (w1 d)).map PV.int)):=aa
 generalize Ee S p1 (.lst ((cs.map (w1 d)).map PV.int))=S1 at X1 f1
 simp only[bV,ag,c3]
 intro p2 hp2
 have X2:Ext S1 (Ee S1 p2 (.lst [.int 0])):=.new hp2
 have f2:(Ee S1 p2 (.lst [.int 0])) p2=some (.lst [.int 0]):=aa
 generalize Ee S1 p2 (.lst [.int 0])=S2 at X2 f2
 refine Bc f2 (by omega) fun p3 S3 hp3 X3 f3=>?_
 refine mq (X3 _ _ (X2 _ _ f1)) f3 (by simp;omega) fun p4 S4 Ia X4 f4=>?_
 simp only[bV,ag,af,v3,lk,ak]
 rw[bB (v:=PV.int (mix.getD d 0)) (by rw[List.getElem?_map,List.getD_eq_getElem?_getD,List.getElem?_eq_getElem hd];rfl)]
 intro p5 Ib
 have X5:Ext S4 (Ee S4 p5 (.lst [.int (mix.getD d 0)])):=.new Ib
 have f5:(Ee S4 p5 (.lst [.int (mix.getD d 0)])) p5=some (.lst [.int (mix.getD d 0)]):=aa
 generalize Ee S4 p5 (.lst [.int (mix.getD d 0)])=S5 at X5 f5
 refine mq (X5 _ _ f4) f5 (by simp;omega) fun p6 S6 JU X6 f6=>?_
 have XA:=X1.trans (X2.trans (X3.trans (X4.trans X5)))
 refine kk p6 _ (XA.free JU) (XA.trans X6) ?_
 rw[f6]
 unfold iJ
 rw[List.map_append,List.map_append]
 rfl
abbrev mx(w:aH):Prop:=∀{S:av} {cs:List Cl} {k t:Nat} {Q:bH} {E:b9},cs.length<=500->k<=100->t < k->(∀c∈cs,c.eff.length=k)->(∀p S',S p=none->Ext S S'->S' p=some (.lst ((iK cs k t).map PV.int))->Q (.ref p) S')->w [.tup (cs.map Cl.pv),.int (k:Int),.int (t:Int)] S Q E
def wZ(k:Nat):a_ 0 k=(List.range k).map fun o:Nat=>PV.int (o:Int):=by unfold a_;exact List.map_congr_left fun o _=>by simp
def GC:mx (bf 4 eJ):=by
 intro S cs k t Q E hc hk ht he kk
 unfold eJ
 refine fb ?_
 rw[show ax 4 [.tup (cs.map Cl.pv),.int (k:Int),.int (t:Int)]=[some (.tup (cs.map Cl.pv)),some (.int (k:Int)),some (.int (t:Int)),none] from rfl]
 refine az fun N hN=>?_
 simp only[aq,ar,cC,v3,lk]
 refine⟨by omega,by omega,?_⟩
 rw[Int.toNat_natCast,wZ]
 refine aW (fun o:Nat=>PV.int (o:Int)) (fun o:Nat=>.int (if o=t then 1 else 0)) trivial (List.range k) [] (fun o ho=>⟨_,rfl,fun Q' q=>?_⟩) (aP (by simp;omega)) ?_
 ·simp only[bQ,List.reduceReplicate,List.map_cons,List.map_nil,List.cons_append,List.nil_append,List.set_cons_zero,l7,br,af,v3,lk,c3,e9,Bool.false_bne]
  by_cases h:o=t
  ·simp only[h,decide_true,if_true]at q ⊢;exact q
  ·have h2:¬((o:Int)=(t:Int)):=fun e=>h (Int.ofNat.inj e)
   simp only[h,h2,decide_false,Bool.false_eq_true,if_false]at q ⊢;exact q
 rw[List.nil_append,tI (fun o:Nat=>if o=t then (1:Int) else 0)]
 intro p1 hp1
 have X1:Ext S (Ee S p1 (.lst (((List.range k).map fun o:Nat=>if o=t then (1:Int) else 0).map PV.int))):=.new hp1
 have f1:(Ee S p1 (.lst (((List.range k).map fun o:Nat=>if o=t then (1:Int) else 0).map PV.int))) p1=some (.lst (((List.range k).map fun o:Nat=>if o=t then (1:Int) else 0).map PV.int)):=aa
 generalize Ee S p1 (.lst (((List.range k).map fun o:Nat=>if o=t then (1:Int) else 0).map PV.int))=S1 at X1 f1
 simp only[List.set_cons_succ,List.set_cons_zero]
 refine hN _ _ ?_
 simp only[aw,af,ar,aF,v3,lk,bE]
 refine aW Cl.pv (fun c=>.int (- c.eff.getD t 0)) trivial cs [] (fun c hc=>⟨_,rfl,fun Q' q=>?_⟩) (aP (by simp;omega)) ?_
 ·simp only[bQ,List.reduceReplicate,List.map_cons,List.map_nil,List.cons_append,List.nil_append,List.set_cons_zero,iY,cX,af,v3,lk,c3,ak,Cl.pv,A4]
  rw[bB (v:=PV.int (c.eff.getD t 0)) (by rw[List.getElem?_map,List.getD_eq_getElem?_getD,List.getElem?_eq_getElem (by rw[he c hc];exact ht)];rfl)]
  exact q
 rw[List.nil_append,tI (fun c:Cl=>- c.eff.getD t 0)]
 intro p2 hp2
 have X2:Ext S1 (Ee S1 p2 (.lst ((cs.map fun c:Cl=>- c.eff.getD t 0).map PV.int))):=.new hp2
 have f2:(Ee S1 p2 (.lst ((cs.map fun c:Cl=>- c.eff.getD t 0).map PV.int))) p2=some (.lst ((cs.map fun c:Cl=>- c.eff.getD t 0).map PV.int)):=aa
 generalize Ee S1 p2 (.lst ((cs.map fun c:Cl=>- c.eff.getD t 0).map PV.int))=S2 at X2 f2
 refine mq f2 (X2 _ _ f1) (by simp;omega) fun p3 S3 hp3 X3 f3=>?_
 simp only[bV,ag,c3]
 intro p4 Ia
 have X4:Ext S3 (Ee S3 p4 (.lst [.int 0])):=.new Ia
 have f4:(Ee S3 p4 (.lst [.int 0])) p4=some (.lst [.int 0]):=aa
 generalize Ee S3 p4 (.lst [.int 0])=S4 at X4 f4
 refine mq (X4 _ _ f3) f4 (by simp;omega) fun p5 S5 Ib X5 f5=>?_
 have XA:=X1.trans (X2.trans (X3.trans X4))
 refine kk p5 _ (XA.free Ib) (XA.trans X5) ?_
 rw[f5]
 unfold iK
 rw[List.map_append,List.map_append]
 rfl
noncomputable def lp(row ch:Vu)(c:Nat)(q:Int):List Int:=List.zipWith (fun one other=>(one * ch.getD c 0 - row.getD c 0 * other).fdiv q) row ch
abbrev my(w:aH):Prop:=∀{S:av} {a b:Addr} {row ch:Vu} {c:Nat} {q:Int} {Q:bH} {E:b9},S a=some (.lst (row.map PV.int))->S b=some (.lst (ch.map PV.int))->row.length=ch.length->row.length<=1000->c < row.length->q≠0->Sz q->(∀x∈row,Sz x)->(∀x∈ch,Sz x)->(∀p S',S p=none->Ext S S'->S' p=some (.lst ((lp row ch c q).map PV.int))->Q (.ref p) S')->w [.ref a,.ref b,.int (c:Int),.int q] S Q E
def GD:my (bf 4 iF):=by
 intro S a b row ch c q Q E ha hb hl hn hc hq IR hr hch kk
 unfold iF
 refine fb ?_
 rw[show ax 4 [.ref a,.ref b,.int (c:Int),.int q]=[some (.ref a),some (.ref b),some (.int (c:Int)),some (.int q)] from rfl]
 simp only[aw,ar,mm,v3,lk,ha,hb]
 have er:ER (row.map PV.int) (c:Int)=some (.int (row.getD c 0)):=bB (by rw[List.getElem?_map,List.getD_eq_getElem?_getD,List.getElem?_eq_getElem hc];rfl)
 have ec:ER (ch.map PV.int) (c:Int)=some (.int (ch.getD c 0)):=bB (by rw[List.getElem?_map,List.getD_eq_getElem?_getD,List.getElem?_eq_getElem (by omega)];rfl)
 have mr:row.getD c 0∈row:=by rw[List.getD_eq_getElem?_getD,List.getElem?_eq_getElem hc];exact List.getElem_mem hc
 have mc:ch.getD c 0∈ch:=by rw[List.getD_eq_getElem?_getD,List.getElem?_eq_getElem (show c < ch.length by omega)];exact List.getElem_mem _
 have ez:bC (row.map PV.int) (ch.map PV.int)=(row.zip ch).map fun z=>PV.tup [.int z.1,.int z.2]:=by unfold bC;rw[List.zip_map,List.map_map];rfl
 rw[ez]
 refine aW (fun z:Int×Int=>PV.tup [.int z.1,.int z.2]) (fun z=>.int ((z.1 * ch.getD c 0 - row.getD c 0 * z.2).fdiv q)) ⟨ha,hb⟩ (row.zip ch) [] (fun z hz=>⟨_,rfl,fun Q' q'=>?_⟩) (aP (by simp;omega)) ?_
 ·obtain⟨z1,z2⟩:=z
  have hz':=List.of_mem_zip hz
  simp only[bQ,List.reduceReplicate,List.map_cons,List.map_nil,List.cons_append,List.nil_append,List.set_cons_zero,List.set_cons_succ,af,v3,lk,ak,ha,hb,er,ec,aO,b_,bN,dE,eU]
  exact⟨(hr z1 hz'.1).mul (hch _ mc),(hr _ mr).mul (hch z2 hz'.2),Sz.div hq IR,q'⟩
 rw[List.nil_append,tI (fun z:Int×Int=>(z.1 * ch.getD c 0 - row.getD c 0 * z.2).fdiv q)]
 refine Hh fun p S' hp X f=>kk p S' hp X ?_
 rw[f]
 unfold lp
 rw[List.zip,List.map_zipWith]
end CW
namespace Wg
noncomputable def sm:Nat->(Nat->Int)->Int
 |0,_=>0
 |n+1,f=>sm n f+f n
def ao{n:Nat}{f g:Nat->Int}(h:∀i,i < n->f i=g i):sm n f=sm n g:=by
 induction n with
 |zero=>rfl
 |succ n ih=>simp only[sm];rw[ih fun i hi=>h i (by omega),h n (by omega)]
def bi{n:Nat}{f:Nat->Int}(h:∀i,i < n->f i=0):sm n f=0:=by
 induction n with
 |zero=>rfl
 |succ n ih=>simp only[sm];rw[ih fun i hi=>h i (by omega),h n (by omega)];rfl
def gG(n:Nat)(f g:Nat->Int):sm n (fun i=>f i+g i)=sm n f+sm n g:=by
 induction n with
 |zero=>rfl
 |succ n ih=>simp only[sm,ih];omega
def bo(n:Nat)(c:Int)(f:Nat->Int):sm n (fun i=>c * f i)=c * sm n f:=by
 induction n with
 |zero=>simp[sm]
 |succ n ih=>simp only[sm,ih,Int.mul_add]
def tJ(n:Nat)(a b:Int)(f g:Nat->Int):sm n (fun i=>a * f i+b * g i)=a * sm n f+b * sm n g:=by rw[gG,bo,bo]
def fE(n:Nat)(f:Nat->Int):sm n (fun i=>- f i) = - sm n f:=by
 have:=bo n (-1) f
 simpa using this
def bp{n i:Nat}{f:Nat->Int}(hi:i < n)(h:∀j,j < n->j≠i->f j=0):sm n f=f i:=by
 induction n with
 |zero=>omega
 |succ n ih=>
  simp only[sm]
  by_cases e:i=n
  ·subst e;rw[bi fun j hj=>h j (by omega) (by omega)];omega
  ·rw[ih (by omega) fun j hj hne=>h j (by omega) hne,h n (by omega) (fun e'=>e e'.symm)];omega
def tK{n i j:Nat}{f:Nat->Int}(hi:i < n)(hj:j < n)(hne:i≠j)(h:∀l,l < n->l≠i->l≠j->f l=0):sm n f=f i+f j:=by
 have e:∀l,l < n->f l=(if l=i then f l else 0)+(if l=i then 0 else f l):=fun l _=>by split<;>omega
 rw[ao e,gG,bp hi (fun l _ hl=>if_neg hl),bp hj (fun l hl Mo=>by by_cases e:l=i;rw[if_pos e];rw[if_neg e];exact h l hl e Mo),if_pos rfl,if_neg (Ne.symm hne)]
def hJ(n m:Nat)(f:Nat->Nat->Int):sm n (fun i=>sm m fun j=>f i j)=sm m fun j=>sm n fun i=>f i j:=by
 induction n with
 |zero=>exact(bi fun _ _=>rfl).symm
 |succ n ih=>simp only[sm];rw[ih,<-gG]
def d3{n:Nat}{f:Nat->Int}(h:∀i,i < n->0<=f i):0<=sm n f:=by
 induction n with
 |zero=>exact Int.le_refl _
 |succ n ih=>simp only[sm];have:=ih fun i hi=>h i (by omega);have:=h n (by omega);omega
def Bd{n:Nat}{f g:Nat->Int}(h:∀i,i < n->f i<=g i):sm n f<=sm n g:=by
 induction n with
 |zero=>exact Int.le_refl _
 |succ n ih=>simp only[sm];have:=ih fun i hi=>h i (by omega);have:=h n (by omega);omega
def nT{n:Nat}{f:Nat->Int}(h:0 < sm n f):∃i,i < n/\0 < f i:=by
 induction n with
 |zero=>simp[sm]at h
 |succ n ih=>
  simp only[sm]at h
  by_cases e:0 < f n
  ·exact⟨n,by omega,e⟩
  ·obtain⟨i,hi,h⟩:=ih (by omega);exact⟨i,by omega,h⟩
abbrev Vc:=Nat->Int
noncomputable def ud(b:Nat->Vc)(i:Nat)(v:Vc):Nat->Vc:=fun l=>if l=i then v else b l
def aG(b:Nat->Vc)(i:Nat)(v:Vc):ud b i v i=v:=if_pos rfl
def aX{b:Nat->Vc}{i l:Nat}{v:Vc}(h:l≠i):ud b i v l=b l:=if_neg h
noncomputable def sk(i:Nat)(b:Nat->Vc):Nat->Vc:=fun l=>b (if l < i then l else l+1)
noncomputable def sg(n:Nat):Int:=if n % 2=0 then 1 else -1
def v0(n:Nat):sg (n+1) = - sg n:=by unfold sg;split<;>split<;>first|rfl|omega
def Be(n:Nat):sg (n+n)=1:=by unfold sg;rw[if_pos (by omega)]
noncomputable def dt:Nat->(Nat->Vc)->Int
 |0,_=>1
 |M+1,b=>sm (M+1) fun i=>sg (i+M) * b i M * dt M (sk i b)
theorem ci:∀{M:Nat} {b c:Nat->Vc},(∀i k,i < M->k < M->b i k=c i k)->dt M b=dt M c
 |0,_,_,_=>rfl
 |M+1,b,c,h=>by
  simp only[dt]
  refine ao fun i hi=>?_
  rw[h i M hi (by omega),ci (b:=sk i b) (c:=sk i c) fun l k hl hk=>h _ k (by split<;>omega) (by omega)]
def lq(i:Nat)(b:Nat->Vc)(v:Vc):sk i (ud b i v)=sk i b:=by
 funext l
 unfold sk ud
 rw[if_neg (by split<;>omega)]
noncomputable def pl(l i:Nat):Nat:=if i < l then i else i - 1
def tL{l i:Nat}(h:i≠l)(b:Nat->Vc)(v:Vc):sk l (ud b i v)=ud (sk l b) (pl l i) v:=by
 funext x
 show(if (if x < l then x else x+1)=i then v else b (if x < l then x else x+1))=if x=pl l i then v else b (if x < l then x else x+1)
 have:((if x < l then x else x+1)=i)↔(x=pl l i):=by unfold pl;split<;>split<;>omega
 simp only[this]
theorem iL:∀(M:Nat) (b:Nat->Vc) (i:Nat) (u v:Vc) (x y:Int),i < M->dt M (ud b i fun k=>x * u k+y * v k)=x * dt M (ud b i u)+y * dt M (ud b i v)
 |0,_,_,_,_,_,_,h=>by omega
 |M+1,b,i,u,v,x,y,h=>by
  simp only[dt]
  rw[<-tJ]
  refine ao fun l hl=>?_
  by_cases e:l=i
  ·subst e
   rw[lq,lq,lq,aG,aG,aG]
   simp only[Int.mul_add,Int.add_mul]
   rw[show sg (l+M) * (x * u M)=x * (sg (l+M) * u M) by rw[<-Int.mul_assoc,Int.mul_comm _ x,Int.mul_assoc],show sg (l+M) * (y * v M)=y * (sg (l+M) * v M) by rw[<-Int.mul_assoc,Int.mul_comm _ y,Int.mul_assoc],Int.mul_assoc x,Int.mul_assoc y]
  ·rw[aX e,aX e,aX e,tL (Ne.symm e),tL (Ne.symm e),tL (Ne.symm e),iL M (sk l b) (pl l i) u v x y (by unfold pl;split<;>omega)]
   grind
def hU{M:Nat}{b:Nat->Vc}{i:Nat}{u:Vc}{x:Int}(h:i < M):dt M (ud b i fun k=>x * u k)=x * dt M (ud b i u):=by
 have:=iL M b i u u x 0 h
 rw[Int.zero_mul,Int.add_zero]at this
 rw[<-this]
 exact ci fun l k _ _=>by unfold ud;split<;>simp
theorem jH{M:Nat}(b:Nat->Vc){i:Nat}(h:i < M)(c:Nat->Int)(v:Nat->Vc):∀n,dt M (ud b i fun k=>sm n fun l=>c l * v l k)=sm n fun l=>c l * dt M (ud b i (v l))
 |0=>by
  have:=hU (M:=M) (b:=b) (i:=i) (u:=fun _=>0) (x:=0) h
  simpa [sm]using this
 |n+1=>by
  have:=iL M b i (fun k=>sm n fun l=>c l * v l k) (v n) 1 (c n) h
  simp only[sm]
  rw[<-jH b h c v n,<-Int.one_mul (dt M (ud b i fun k=>sm n fun l=>c l * v l k)),<-this]
  exact ci fun l k _ _=>by unfold ud;split<;>simp
theorem ls:∀(M:Nat) (b:Nat->Vc) (i:Nat),i+1 < M->(∀k,b i k=b (i+1) k)->dt M b=0
 |0,_,_,h,_=>by omega
 |M+1,b,i,h,e=>by
  simp only[dt]
  rw[tK (i:=i) (j:=i+1) (by omega) h (by omega)]
  ·have es:sk i b=sk (i+1) b:=by
    funext l
    funext k
    unfold sk
    by_cases h1:l < i
    ·rw[if_pos h1,if_pos (by omega)]
    ·by_cases h2:l=i
     ·subst h2;rw[if_neg (by omega),if_pos (by omega)];exact(e k).symm
     ·rw[if_neg h1,if_neg (by omega)]
   rw[es,e M,show i+1+M=i+M+1 by omega,v0]
   rw[Int.neg_mul,Int.neg_mul]
   omega
  ·intro l hl h1 h2
   have z:dt M (sk l b)=0:=by
    by_cases hlt:l < i
    ·refine ls M (sk l b) (i - 1) (by omega) fun k=>?_
     unfold sk
     rw[if_neg (by omega),if_neg (by omega),show i - 1+1=i by omega]
     exact e k
    ·refine ls M (sk l b) i (by omega) fun k=>?_
     unfold sk
     rw[if_pos (by omega),if_pos (by omega)]
     exact e k
   rw[z,Int.mul_zero]
noncomputable def sw(b:Nat->Vc)(i j:Nat):Nat->Vc:=ud (ud b i (b j)) j (b i)
def pe{b:Nat->Vc}{i j:Nat}{u v:Vc}(h:i≠j):ud (ud b i u) j v=ud (ud b j v) i u:=by
 funext l;unfold ud
 by_cases e1:l=i
 ·subst e1;rw[if_neg h,if_pos rfl,if_pos rfl]
 ·by_cases e2:l=j
  ·rw[if_pos e2,if_neg e1,if_pos e2]
  ·rw[if_neg e2,if_neg e1,if_neg e1,if_neg e2]
def ph(b:Nat->Vc)(i:Nat):ud b i (b i)=b:=by funext l;unfold ud;split<;>simp_all
def mz{M i j:Nat}(hi:i < M)(hj:j < M)(hne:i≠j)(alt:∀b:Nat->Vc,(∀k,b i k=b j k)->dt M b=0)(b:Nat->Vc):dt M (sw b i j) = - dt M b:=by
 have s1:=iL M (ud b j fun k=>b i k+b j k) i (b i) (b j) 1 1 hi
 have z:dt M (ud (ud b j fun k=>b i k+b j k) i fun k=>1 * b i k+1 * b j k)=0:=alt _ fun k=>by
  rw[aG,aX (Ne.symm hne),aG];omega
 rw[z]at s1
 have s2:=iL M (ud b i (b i)) j (b i) (b j) 1 1 hj
 have s3:=iL M (ud b i (b j)) j (b i) (b j) 1 1 hj
 have e1:∀u:Vc,ud (ud b j fun k=>b i k+b j k) i u=ud (ud b i u) j fun k=>1 * b i k+1 * b j k:=fun u=>by
  rw[pe (Ne.symm hne)]
  have:(fun k=>b i k+b j k)=fun k=>1 * b i k+1 * b j k:=by funext k;omega
  rw[this]
 rw[e1,e1,s2,s3]at s1
 have z1:dt M (ud (ud b i (b i)) j (b i))=0:=alt _ fun k=>by rw[aX hne,aG,aG]
 have z2:dt M (ud (ud b i (b j)) j (b j))=0:=alt _ fun k=>by rw[aX hne,aG,aG]
 rw[z1,z2,ph,ph]at s1
 unfold sw
 omega
theorem nU:∀(d:Nat) (M:Nat) (b:Nat->Vc) (i:Nat),i+1+d < M->(∀k,b i k=b (i+1+d) k)->dt M b=0
 |0,M,b,i,h,e=>ls M b i h e
 |d+1,M,b,i,h,e=>by
  have s:=mz (M:=M) (i:=i+1+d) (j:=i+1+d+1) (by omega) (by omega) (by omega) (fun b e=>ls M b (i+1+d) (by omega) e) b
  have z:=nU d M (sw b (i+1+d) (i+1+d+1)) i (by omega) fun k=>by
   unfold sw
   rw[aX (by omega),aX (by omega),aX (by omega),aG]
   exact e k
  rw[z]at s
  omega
def tM{M i j:Nat}(hi:i < M)(hj:j < M)(hne:i≠j)(b:Nat->Vc)(e:∀k,b i k=b j k):dt M b=0:=by
 by_cases h:i < j
 ·obtain⟨d,rfl⟩:∃d,j=i+1+d:=⟨j - i - 1,by omega⟩
  exact nU d M b i hj e
 ·obtain⟨d,rfl⟩:∃d,i=j+1+d:=⟨i - j - 1,by omega⟩
  exact nU d M b j hi fun k=>(e k).symm
def Bf{M i j:Nat}(hi:i < M)(hj:j < M)(hne:i≠j)(b:Nat->Vc):dt M (sw b i j) = - dt M b:=mz hi hj hne (fun b e=>tM hi hj hne b e) b
noncomputable def eu(i:Nat):Vc:=fun k=>if k=i then 1 else 0
theorem w4:∀(M:Nat) (b:Nat->Vc),(∀i k,i < M->k < M->b i k=eu i k)->dt M b=1
 |0,_,_=>rfl
 |M+1,b,h=>by
  simp only[dt]
  rw[bp (i:=M) (by omega),Be,h M M (by omega) (by omega)]
  ·rw[w4 M (sk M b) fun i k hi hk=>by unfold sk;rw[if_pos hi];exact h i k (by omega) (by omega)]
   simp[eu]
  ·intro j hj hne
   rw[h j M hj (by omega)]
   unfold eu
   rw[if_neg (fun e=>hne e.symm),Int.mul_zero,Int.zero_mul]
noncomputable def cl(A:Nat->Nat->Int)(j:Nat):Vc:=fun k=>A k j
structure Tab (m N:Nat) (A T:Nat->Nat->Int) (b:Nat->Vc) (q:Int):Prop where
 Jw:∀j k,j < N->k<=m->q * A k j=sm (m+1) fun i=>T i j * b i k
 det:dt (m+1) b=q
 pos:0 < q
 gl:∀k,b m k=eu m k
def w5{q x y:Int}(h:0 < q)(e:q * x=q * y):x=y:=Int.eq_of_mul_eq_mul_left (by omega) e
section
variable {m N:Nat} {A T:Nat->Nat->Int} {b:Nat->Vc} {q:Int}
def Tab.JV(h:Tab m N A T b q){i l:Nat}(hi:i<=m)(hl:l<=m):dt (m+1) (ud b i (b l))=if l=i then q else 0:=by
 by_cases e:l=i
 ·subst e;rw[if_pos rfl,ph,h.det]
 ·rw[if_neg e]
  exact tM (i:=i) (j:=l) (by omega) (by omega) (Ne.symm e) _ fun k=>by rw[aG,aX e]
def Tab.ent(h:Tab m N A T b q){i j:Nat}(hi:i<=m)(hj:j < N):T i j=dt (m+1) (ud b i (cl A j)):=by
 have e1:q * dt (m+1) (ud b i (cl A j))=dt (m+1) (ud b i fun k=>sm (m+1) fun l=>T l j * b l k):=by
  rw[<-hU (by omega)]
  refine ci fun l k hl hk=>?_
  by_cases e:l=i
  ·subst e;rw[aG,aG];exact h.Jw j k hj (by omega)
  ·rw[aX e,aX e]
 rw[jH b (by omega),bp (i:=i) (by omega) (fun l hl hne=>by rw[h.JV hi (by omega),if_neg hne,Int.mul_zero]),h.JV hi hi,if_pos rfl]at e1
 exact(w5 h.pos (by rw[e1,Int.mul_comm])).symm
def Tab.GW(h:Tab m N A T b q){l p:Nat}(hl:l < m)(hp:p < N)(hb:∀k,k<=m->b l k=A k p){i:Nat}(hi:i<=m):T i p=if i=l then q else 0:=by
 rw[h.ent hi hp,show(if i=l then q else 0)=if l=i then q else 0 by by_cases e:i=l;rw[if_pos e,if_pos e.symm];rw[if_neg e,if_neg (Ne.symm e)],<-h.JV hi (by omega:l<=m)]
 refine ci fun x k hx hk=>?_
 by_cases e:x=i
 ·subst e;rw[aG,aG];exact(hb k (by omega)).symm
 ·rw[aX e,aX e]
def Tab.rows(h:Tab m N A T b q)(x:Nat->Int)(hx:∀k,k < m->sm N (fun j=>A k j * x j)=0) :
  (∀i,i < m->sm N (fun j=>T i j * x j)=0)/\sm N (fun j=>T m j * x j)=q * sm N (fun j=>A m j * x j):=by
 have key:∀i,i<=m->sm N (fun j=>T i j * x j)=sm N (fun j=>A m j * x j) * if m=i then q else 0:=fun i hi=>by
  rw[<-h.JV hi (Nat.le_refl m),<-hU (by omega),ao (g:=fun j=>x j * dt (m+1) (ud b i (cl A j))) (fun j hj=>by rw[h.ent hi hj,Int.mul_comm]),<-jH b (by omega)]
  refine ci fun l k hl hk=>?_
  by_cases e:l=i
  ·subst e
   rw[aG,aG,h.gl k]
   unfold eu
   by_cases ek:k=m
   ·subst ek;rw[if_pos rfl,Int.mul_one];exact ao fun j _=>Int.mul_comm _ _
   ·rw[if_neg ek,Int.mul_zero,<-hx k (by omega)];exact ao fun j _=>Int.mul_comm _ _
  ·rw[aX e,aX e]
 refine⟨fun i hi=>?_,?_⟩
 ·rw[key i (by omega),if_neg (by omega),Int.mul_zero]
 ·rw[key m (Nat.le_refl _),if_pos rfl,Int.mul_comm]
def Tab.back(h:Tab m N A T b q)(x:Nat->Int)(hx:∀i,i < m->sm N (fun j=>T i j * x j)=0) :
  (∀k,k < m->sm N (fun j=>A k j * x j)=0)/\q * sm N (fun j=>A m j * x j)=sm N (fun j=>T m j * x j):=by
 have key:∀k,k<=m->q * sm N (fun j=>A k j * x j)=b m k * sm N (fun j=>T m j * x j):=fun k hk=>by
  rw[<-bo,ao (g:=fun j=>sm (m+1) fun i=>b i k * (T i j * x j)) (fun j hj=>by
   rw[<-Int.mul_assoc,h.Jw j k hj hk,Int.mul_comm,<-bo];exact ao fun i _=>by grind),hJ]
  rw[ao (g:=fun i=>b i k * sm N fun j=>T i j * x j) (fun i _=>bo _ _ _),bp (i:=m) (by omega)]
  intro i hi hne
  rw[hx i (by omega),Int.mul_zero]
 refine⟨fun k hk=>?_,?_⟩
 ·have:=key k (by omega)
  rw[h.gl k]at this
  unfold eu at this
  rw[if_neg (by omega),Int.zero_mul]at this
  exact w5 h.pos (by rw[this,Int.mul_zero])
 ·have:=key m (Nat.le_refl _)
  rw[h.gl m]at this
  unfold eu at this
  rw[if_pos rfl,Int.one_mul]at this
  exact this
def Tab.F3(h:Tab m N A T b q){r c:Nat}(hr:r < m)(hc:c < N)(hp:0 < T r c){T2:Nat->Nat->Int}(h1:∀j,j < N->T2 r j=T r j)(h2:∀i j,i<=m->i≠r->j < N->T2 i j=(T i j * T r c - T i c * T r j).fdiv q) :
  (∀i j,i<=m->i≠r->j < N->q * T2 i j=T i j * T r c - T i c * T r j)/\Tab m N A T2 (ud b r (cl A c)) (T r c):=by
 have d':dt (m+1) (ud b r (cl A c))=T r c:=(h.ent (by omega) hc).symm
 have whole:∀i j,i<=m->i≠r->j < N->q * dt (m+1) (ud (ud b r (cl A c)) i (cl A j))=T i j * T r c - T i c * T r j:=fun i j hi hne hj=>by
  have e1:q * dt (m+1) (ud (ud b r (cl A c)) i (cl A j))=dt (m+1) (ud (ud b r (cl A c)) i fun k=>sm (m+1) fun l=>T l j * b l k):=by
   rw[<-hU (by omega)]
   refine ci fun l k hl hk=>?_
   by_cases e:l=i
   ·subst e;rw[aG,aG];exact h.Jw j k hj (by omega)
   ·rw[aX e,aX e]
  rw[e1,jH _ (by omega),tK (i:=i) (j:=r) (by omega) (by omega) hne]
  ·have ei:dt (m+1) (ud (ud b r (cl A c)) i (b i))=T r c:=by
    rw[pe (Ne.symm hne),ph];exact d'
   have er:dt (m+1) (ud (ud b r (cl A c)) i (b r)) = - T i c:=by
    rw[h.ent hi hc,<-Bf (i:=i) (j:=r) (by omega) (by omega) hne]
    refine ci fun l k hl hk=>?_
    unfold sw
    by_cases e:l=r
    ·subst e;rw[aG,aG,aX (Ne.symm hne),aG]
    ·rw[aX (i:=r) e]
     by_cases e2:l=i
     ·subst e2;rw[aG,aG,aX (Ne.symm hne)]
     ·rw[aX e2,aX e2,aX e,aX e2]
   rw[ei,er]
   grind
  ·intro l hl h3 h4
   rw[tM (i:=i) (j:=l) (by omega) (by omega) (Ne.symm h3) _ fun k=>by rw[aG,aX h3,aX h4],Int.mul_zero]
 have w2:∀i j,i<=m->i≠r->j < N->T2 i j=dt (m+1) (ud (ud b r (cl A c)) i (cl A j)):=fun i j hi hne hj=>by
  rw[h2 i j hi hne hj,<-whole i j hi hne hj,Int.mul_fdiv_cancel_left _ (by have:=h.pos;omega)]
 have w3:∀i j,i<=m->i≠r->j < N->q * T2 i j=T i j * T r c - T i c * T r j:=fun i j hi hne hj=>by rw[w2 i j hi hne hj];exact whole i j hi hne hj
 refine⟨w3,⟨fun j k hj hk=>?_,d',hp,fun k=>by rw[aX (by omega)];exact h.gl k⟩⟩
 refine w5 h.pos ?_
 have s1:q * sm (m+1) (fun i=>T2 i j * ud b r (cl A c) i k)=sm (m+1) fun i=>(T r c * (T i j * b i k)+(- T r j) * (T i c * b i k))+if i=r then q * T r j * A k c else 0:=by
  rw[<-bo]
  refine ao fun i hi=>?_
  by_cases e:i=r
  ·subst e
   rw[h1 j hj,aG,if_pos rfl]
   unfold cl
   grind
  ·rw[aX e,if_neg e,<-Int.mul_assoc,w3 i j (by omega) e hj]
   grind
 rw[s1,gG,tJ,bp (i:=r) (by omega) (fun l _ hl=>if_neg hl),if_pos rfl,<-h.Jw j k hj hk,<-h.Jw c k hc hk]
 grind
end
structure Sx where
 T:Nat->Nat->Int
 held:Nat->Nat
 q:Int
noncomputable def F3(s:Sx)(r c:Nat):Sx:=⟨fun i j=>if i=r then s.T r j else (s.T i j * s.T r c - s.T i c * s.T r j).fdiv s.q,fun i=>if i=r then c else s.held i,s.T r c⟩
structure Val (m V:Nat) (A:Nat->Nat->Int) (s:Sx) (b:Nat->Vc):Prop where
 tab:Tab m (V+1) A s.T b s.q
 hv:∀i,i < m->s.held i < V
 hb:∀i k,i < m->k<=m->b i k=A k (s.held i)
 fs:∀i,i < m->0<=s.T i V
section
variable {m V:Nat} {A:Nat->Nat->Int} {s:Sx} {b:Nat->Vc}
theorem Val.GW(h:Val m V A s b){i l:Nat}(hi:i<=m)(hl:l < m):s.T i (s.held l)=if i=l then s.q else 0:=h.tab.GW hl (by have:=h.hv l hl;omega) (fun k hk=>h.hb l k hl hk) hi
def Val.inj(h:Val m V A s b){i l:Nat}(hi:i < m)(hl:l < m)(e:s.held i=s.held l):i=l:=by
 have h1:=h.GW (i:=i) (by omega) hi
 rw[e,h.GW (by omega) hl,if_pos rfl]at h1
 by_cases e:i=l
 ·exact e
 ·rw[if_neg e]at h1;have:=h.tab.pos;omega
def jb(V:Nat)(s:Sx)(c i r:Nat):Prop:=s.T i V * s.T r c < s.T r V * s.T i c\/(s.T i V * s.T r c=s.T r V * s.T i c/\s.held i < s.held r)
structure Lv (m V:Nat) (s:Sx) (c r:Nat):Prop where
 lt:r < m
 ps:0 < s.T r c
 fst:∀i,i < m->0 < s.T i c->¬jb V s c i r
structure En (m V:Nat) (s:Sx) (c:Nat):Prop where
 lt:c < V
 ng:s.T m c < 0
 fst:∀j,j < c->0<=s.T m j
theorem Val.F3(h:Val m V A s b){r c:Nat}(e:c < V)(l:Lv m V s c r):Val m V A (F3 s r c) (ud b r (cl A c))/\∀i j,i<=m->i≠r->j<=V->s.q * (Wg.F3 s r c).T i j=s.T i j * s.T r c - s.T i c * s.T r j:=by
 have hq:=h.tab.pos
 obtain⟨w,t⟩:=h.tab.F3 (T2:=(Wg.F3 s r c).T) l.lt (by omega:c < V+1) l.ps (fun j _=>if_pos rfl) (fun i j _ hne _=>if_neg hne)
 refine⟨⟨t,fun i hi=>?_,fun i k hi hk=>?_,fun i hi=>?_⟩,fun i j hi hne hj=>w i j hi hne (by omega)⟩
 ·show(if i=r then c else s.held i) < V
  split
  ·exact e
  ·exact h.hv i hi
 ·show _=A k (if i=r then c else s.held i)
  by_cases e:i=r
  ·subst e;rw[aG,if_pos rfl];rfl
  ·rw[aX e,if_neg e];exact h.hb i k hi hk
 ·by_cases e:i=r
  ·subst e;show 0<=(if i=i then s.T i V else _);rw[if_pos rfl];exact h.fs i hi
  ·have hw:=w i V (by omega) e (by omega)
   have nn:0<=s.T i V * s.T r c - s.T i c * s.T r V:=by
    have f1:=h.fs i hi
    have f2:=h.fs r l.lt
    have f3:=l.ps
    by_cases hp:0 < s.T i c
    ·have:=l.fst i hi hp
     unfold jb at this
     have:¬s.T i V * s.T r c < s.T r V * s.T i c:=fun h=>this (.inl h)
     rw[Int.mul_comm (s.T i c)]
     omega
    ·have a1:0<=s.T i V * s.T r c:=Int.mul_nonneg f1 (by omega)
     have a2:0<=(- s.T i c) * s.T r V:=Int.mul_nonneg (by omega) f2
     rw[Int.neg_mul]at a2
     omega
   rw[<-hw]at nn
   exact Int.nonneg_of_mul_nonneg_right nn hq |> fun h=>h
def Bs(m:Nat)(s:Sx)(j:Nat):Prop:=∃i,i < m/\s.held i=j
noncomputable def X(m V:Nat)(s:Sx)(j:Nat):Int:=sm m fun i=>if s.held i=j then s.T i V else 0
def Val.x(h:Val m V A s b){i:Nat}(hi:i < m):X m V s (s.held i)=s.T i V:=by
 unfold X
 rw[bp hi (fun l hl hne=>if_neg fun e=>hne (h.inj hl hi e)),if_pos rfl]
def tN{j:Nat}(h:¬Bs m s j):X m V s j=0:=bi fun i hi=>if_neg fun e=>h ⟨i,hi,e⟩
structure Rel (m V:Nat) (A:Nat->Nat->Int) (t:Nat) (s s':Sx):Prop where
 v1:∃b,Val m V A s b
 v2:∃b,Val m V A s' b
 x:∀j,X m V s j * s'.q=X m V s' j * s.q
 bs:∀j,t < j->(Bs m s j↔Bs m s' j)
theorem Rel.symm{t:Nat}{s s':Sx}(h:Rel m V A t s s'):Rel m V A t s' s:=⟨h.v2,h.v1,fun j=>(h.x j).symm,fun j hj=>(h.bs j hj).symm⟩
theorem Rel.trans{t:Nat}{s s' s2:Sx}(h:Rel m V A t s s')(g:Rel m V A t s' s2):Rel m V A t s s2:=⟨h.v1,g.v2,fun j=>by
 obtain⟨b,hb⟩:=h.v2
 have a:=h.x j
 have c:=g.x j
 refine w5 hb.tab.pos ?_
 calc s'.q * (X m V s j * s2.q)=(X m V s j * s'.q) * s2.q:=by grind
  _=(X m V s' j * s2.q) * s.q:=by rw[a];grind
  _=_:=by rw[c];grind,fun j hj=>(h.bs j hj).trans (g.bs j hj)⟩
def Val.fresh(h:Val m V A s b){c:Nat}(hn:s.T m c < 0):¬Bs m s c:=fun⟨i,hi,e⟩=>by
 have:=h.GW (Nat.le_refl m) hi
 rw[e,if_neg (by omega)]at this
 omega
def Rel.step(h:Val m V A s b){t r c:Nat}(e:En m V s c)(l:Lv m V s c r)(d:s.T r V=0)(hc:c<=t)(hr:s.held r<=t):Rel m V A t s (Wg.F3 s r c):=by
 obtain⟨v,w⟩:=h.F3 e.lt l
 refine⟨⟨b,h⟩,⟨_,v⟩,fun j=>?_,fun j hj=>⟨fun⟨i,hi,ei⟩=>⟨i,hi,?_⟩,fun⟨i,hi,ei⟩=>⟨i,hi,?_⟩⟩⟩
 ·unfold X
  rw[Int.mul_comm _ (Wg.F3 s r c).q,Int.mul_comm _ s.q,<-bo,<-bo]
  refine ao fun i hi=>?_
  by_cases er:i=r
  ·subst er
   have z:(Wg.F3 s i c).T i V=0:=by show(if i=i then s.T i V else _)=0;rw[if_pos rfl];exact d
   rw[z,d]
   split<;>split<;>simp
  ·have eh:(Wg.F3 s r c).held i=s.held i:=if_neg er
   have ew:=w i V (by omega) er (Nat.le_refl _)
   rw[d,Int.mul_zero,Int.sub_zero]at ew
   rw[eh]
   split
   ·rw[ew,Int.mul_comm];rfl
   ·simp
 ·show(if i=r then c else s.held i)=j
  rw[if_neg fun er=>by subst er;omega];exact ei
 ·have ei:(if i=r then c else s.held i)=j:=ei
  by_cases er:i=r
  ·rw[if_pos er]at ei;omega
  ·rw[if_neg er]at ei;exact ei
def w9{s u:Sx}{t r c:Nat}(R:Rel m V A t s u)(e:En m V s c)(l:Lv m V s c r)(ht:s.held r=t)(hc:c<=t)(e2:En m V u t):False:=by
 obtain⟨b,h⟩:=R.v1
 obtain⟨b2,h2⟩:=R.v2
 have hne:c≠t:=fun ec=>h.fresh (by rw[<-ec];exact e.ng) ⟨r,l.lt,ht⟩
 have q1:=h.tab.pos
 have q2:=h2.tab.pos
 -- more of the place that comes in
 let y:Nat->Int:=fun j=>(if j=c then s.q else 0) - sm m fun i=>if s.held i=j then s.T i c else 0
 have along:∀F:Nat->Int,sm (V+1) (fun j=>F j * y j)=F c * s.q - sm m fun i=>F (s.held i) * s.T i c:=fun F=>by
  have e1:∀j,F j * y j=(if j=c then F j * s.q else 0)+sm m fun i=>-(if s.held i=j then F (s.held i) * s.T i c else 0):=fun j=>by
   show F j * ((if j=c then s.q else 0) - sm m fun i=>if s.held i=j then s.T i c else 0)=_
   rw[Int.mul_sub,<-bo,fE,Int.sub_eq_add_neg]
   congr 1
   ·split<;>simp
   ·congr 1
    refine ao fun i _=>?_
    split
    ·rename_i e;rw[e]
    ·simp
  rw[ao fun j _=>e1 j,gG,hJ,bp (i:=c) (by have:=e.lt;omega) (fun j _ hj=>if_neg hj),if_pos rfl]
  rw[ao (g:=fun i=>-(F (s.held i) * s.T i c)) (fun i hi=>by rw[fE,bp (i:=s.held i) (by have:=h.hv i hi;omega) (fun j _ hj=>if_neg fun e=>hj e.symm),if_pos rfl]),fE,Int.sub_eq_add_neg]
 have z1:∀i,i < m->sm (V+1) (fun j=>s.T i j * y j)=0:=fun i hi=>by
  rw[along (s.T i),bp hi (fun l hl hne=>by rw[h.GW (by omega) hl,if_neg (Ne.symm hne),Int.zero_mul]),h.GW (by omega) hi,if_pos rfl]
  rw[Int.mul_comm];omega
 have z2:sm (V+1) (fun j=>s.T m j * y j)=s.T m c * s.q:=by
  rw[along (s.T m),bi (fun l hl=>by rw[h.GW (Nat.le_refl m) hl,if_neg (by omega),Int.zero_mul])];omega
 obtain⟨b1,b3⟩:=h.tab.back y z1
 obtain⟨_,b4⟩:=h2.tab.rows y b1
 rw[z2,Int.mul_comm _ s.q]at b3
 have b5:sm (V+1) (fun j=>A m j * y j)=s.T m c:=w5 q1 b3
 rw[b5,along (u.T m)]at b4
 have f1:0<=u.T m c:=e2.fst c (by omega)
 have f2:u.q * s.T m c < 0:=by have:=Int.mul_pos q2 (show 0 < - s.T m c by have:=e.ng;omega);rw[Int.mul_neg]at this;omega
 have f3:0<=u.T m c * s.q:=Int.mul_nonneg f1 (by omega)
 obtain⟨i,hi,hp⟩:=nT (n:=m) (f:=fun i=>u.T m (s.held i) * s.T i c) (by omega)
 have Mp:u.T m (s.held i)≠0:=fun e0=>by rw[e0,Int.zero_mul]at hp;omega
 have nb:¬Bs m u (s.held i):=fun⟨l,hl,el⟩=>Mp (by rw[<-el,h2.GW (Nat.le_refl m) hl,if_neg (by omega)])
 have hle:s.held i<=t:=Nat.not_lt.mp fun hlt=>nb ((R.bs _ hlt).mp ⟨i,hi,rfl⟩)
 have Mq:i≠r:=fun er=>by
  subst er
  rw[ht]at hp
  have:=Int.mul_pos (show 0 < - u.T m t by have:=e2.ng;omega) l.ps
  rw[Int.neg_mul]at this
  omega
 have hlt:s.held i < t:=by
  have:s.held i≠t:=fun e0=>Mq (h.inj hi l.lt (by rw[e0,ht]))
  omega
 have g1:0<=u.T m (s.held i):=e2.fst _ hlt
 have g2:0 < s.T i c:=by
  refine Int.not_le.mp fun hn=>?_
  have:=Int.mul_nonneg g1 (show 0 <= - s.T i c by omega)
  rw[Int.mul_neg]at this
  omega
 have x1:s.T i V=0:=by
  have:=R.x (s.held i)
  rw[h.x hi,tN nb,Int.zero_mul]at this
  rcases Int.mul_eq_zero.mp this with h|h
  ·exact h
  ·omega
 have x2:s.T r V=0:=by
  have:=R.x t
  rw[tN (h2.fresh e2.ng),<-ht,h.x l.lt,Int.zero_mul]at this
  rcases Int.mul_eq_zero.mp this with h|h
  ·exact h
  ·omega
 refine l.fst i hi g2 (.inr ⟨by rw[x1,x2,Int.zero_mul,Int.zero_mul],by rw[ht];exact hlt⟩)
end
section
variable (m V:Nat) (A:Nat->Nat->Int)
structure zq (s s':Sx) (c r:Nat):Prop where
 en:En m V s c
 lv:Lv m V s c r
 eq:s'=F3 s r c
noncomputable def Hn:Nat->Sx->Prop
 |0,s=>∀s' c r,¬zq m V s s' c r
 |n+1,s=>∀s' c r,zq m V s s' c r->Hn n s'
def Ed(s:Sx):Prop:=∃n,Hn m V n s
end
section
variable {m V:Nat} {A:Nat->Nat->Int}
def nW{s:Sx}{c d:Nat}(h:En m V s c)(g:En m V s d):c=d:=by
 have h1:=h.fst d
 have g1:=g.fst c
 have:=h.ng
 have:=g.ng
 by_cases h2:c < d
 ·have:=g1 h2;omega
 ·by_cases h3:d < c
  ·have:=h1 h3;omega
  ·omega
def nX{s:Sx}{b:Nat->Vc}(v:Val m V A s b){c r l:Nat}(h:Lv m V s c r)(g:Lv m V s c l):r=l:=by
 have h1:=h.fst l g.lt g.ps
 have g1:=g.fst r h.lt h.ps
 unfold jb at h1 g1
 rw[not_or,not_and]at h1 g1
 have e:s.T l V * s.T r c=s.T r V * s.T l c:=by omega
 have a:=h1.2 e
 have c:=g1.2 e.symm
 exact v.inj h.lt g.lt (by omega)
def Ed.of{s:Sx}{b:Nat->Vc}(v:Val m V A s b)(h:∀s' c r,zq m V s s' c r->Ed m V s'):Ed m V s:=by
 by_cases e:∃s' c r,zq m V s s' c r
 ·obtain⟨s',c,r,st⟩:=e
  obtain⟨n,hn⟩:=h s' c r st
  refine⟨n+1,fun s2 c2 r2 st2=>?_⟩
  have ec:=nW st.en st2.en
  subst ec
  have er:=nX v st.lv st2.lv
  subst er
  rw[st2.eq,<-st.eq]
  exact hn
 ·exact⟨0,fun s' c r st=>e ⟨s',c,r,st⟩⟩
inductive Rc (m V:Nat) (t:Nat):Sx->Sx->Prop
 |nil {s:Sx}:Rc m V t s s
 |snoc {s u u':Sx} {c r:Nat}:Rc m V t s u->zq m V u u' c r->u.T r V=0->c < t->u.held r < t->Rc m V t s u'
def Rc.mono{t t':Nat}(ht:t<=t'){s u:Sx}(h:Rc m V t s u):Rc m V t' s u:=by
 induction h with
 |nil=>exact .nil
 |snoc _ st d a c ih=>exact .snoc ih st d (by omega) (by omega)
def Rc.trans{t:Nat}{s u w:Sx}(h:Rc m V t s u)(g:Rc m V t u w):Rc m V t s w:=by
 induction g with
 |nil=>exact h
 |snoc _ st d a c ih=>exact .snoc ih st d a c
def Rc.rel{t:Nat}{s u:Sx}(v:∃b,Val m V A s b)(h:Rc m V (t+1) s u):Rel m V A t s u:=by
 induction h with
 |nil=>exact⟨v,v,fun _=>rfl,fun _ _=>Iff.rfl⟩
 |snoc _ st d a c ih=>
  obtain⟨b,hb⟩:=ih.v2
  have:=Rel.step (t:=t) hb st.en st.lv d (by omega) (by omega)
  rw[st.eq]
  exact ih.trans this
def Rc.keep{t:Nat}{s u:Sx}(h:Rc m V t s u){j:Nat}(hj:t<=j):Bs m s j↔Bs m u j:=by
 induction h with
 |nil=>exact Iff.rfl
 |@snoc u u' c r _ st d a cc ih=>
  refine ih.trans ?_
  rw[st.eq]
  constructor
  ·rintro⟨i,hi,ei⟩
   refine⟨i,hi,?_⟩
   show(if i=r then c else u.held i)=j
   rw[if_neg fun er=>by subst er;omega];exact ei
  ·rintro⟨i,hi,ei⟩
   have ei:(if i=r then c else u.held i)=j:=ei
   refine⟨i,hi,?_⟩
   by_cases er:i=r
   ·rw[if_pos er]at ei;omega
   ·rw[if_neg er]at ei;exact ei
def Rc.val{t:Nat}{s u:Sx}(v:∃b,Val m V A s b)(h:Rc m V t s u):∃b,Val m V A u b:=by
 induction h with
 |nil=>exact v
 |snoc _ st d a c ih=>obtain⟨b,hb⟩:=ih;rw[st.eq];exact⟨_,(hb.F3 st.en.lt st.lv).1⟩
def Rc.back{t:Nat}{s u:Sx}(v:∃b,Val m V A s b)(h:Rc m V t s u)(e:Ed m V u):Ed m V s:=by
 induction h with
 |nil=>exact e
 |@snoc u u' c r g st d a cc ih=>
  obtain⟨b,hb⟩:=g.val v
  refine ih (Ed.of hb fun s2 c2 r2 st2=>?_)
  have ec:=nW st.en st2.en
  subst ec
  have er:=nX hb st.lv st2.lv
  subst er
  rw[st2.eq,<-st.eq]
  exact e
def pA{s:Sx}{b:Nat->Vc}(v:Val m V A s b){c r:Nat}(e:En m V s c)(l:Lv m V s c r):s.q * (F3 s r c).T m V=s.T m V * s.T r c - s.T m c * s.T r V:=(v.F3 e.lt l).2 m V (Nat.le_refl _) (by have:=l.lt;omega) (Nat.le_refl _)
def v4{g0 q0:Int}(Mr:0 < q0)(H:∀s b,Val m V A s b->g0 * s.q < s.T m V * q0->Ed m V s):∀(t:Nat) (s:Sx),(∃b,Val m V A s b)->s.T m V * q0=g0 * s.q->
  Ed m V s\/∃u u' c r,Rc m V t s u/\u.T m V * q0=g0 * u.q/\zq m V u u' c r/\u.T r V=0/\(t<=c\/t<=u.held r):=by
 intro t
 induction t with
 |zero=>
  intro s ⟨b,v⟩ hg
  by_cases e:∃s' c r,zq m V s s' c r
  ·obtain⟨s',c,r,st⟩:=e
   by_cases d:s.T r V=0
   ·exact .inr ⟨s,s',c,r,.nil,hg,st,d,.inl (Nat.zero_le _)⟩
   ·refine .inl (Ed.of v fun s2 c2 r2 st2=>?_)
    have ec:=nW st.en st2.en
    subst ec
    have er:=nX v st.lv st2.lv
    subst er
    obtain⟨v2,_⟩:=v.F3 st2.en.lt st2.lv
    rw[st2.eq]
    refine H _ _ v2 ?_
    have gw:=pA v st2.en st2.lv
    have q1:=v.tab.pos
    have f1:0 < s.T r V:=by have:=v.fs r st.lv.lt;omega
    have f2:0 < (- s.T m c) * s.T r V:=Int.mul_pos (by have:=st.en.ng;omega) f1
    rw[Int.neg_mul]at f2
    show g0 * s.T r c < (F3 s r c).T m V * q0
    refine Int.lt_of_mul_lt_mul_left (a:=s.q) ?_ (by omega)
    rw[<-Int.mul_assoc,<-Int.mul_assoc s.q ((F3 s r c).T m V),gw,Int.sub_mul]
    have e1:s.q * g0 * s.T r c=s.T m V * s.T r c * q0:=by
     rw[Int.mul_comm s.q,<-hg];grind
    have f3:0 < (- (s.T m c * s.T r V)) * q0:=Int.mul_pos (by omega) Mr
    rw[Int.neg_mul]at f3
    omega
  ·exact .inl ⟨0,fun s' c r st=>e ⟨s',c,r,st⟩⟩
 |succ t ih=>
  intro s vs hg
  rcases ih s vs hg with h|⟨u,u',c,r,R,gu,st,d,ht⟩
  ·exact .inl h
  by_cases big:t+1<=c\/t+1<=u.held r
  ·exact .inr ⟨u,u',c,r,R.mono (by omega),gu,st,d,big⟩
  rw[not_or]at big
  obtain⟨b,vu⟩:=R.val vs
  have R1:Rc m V (t+1) s u':=(R.mono (by omega)).snoc st d (by omega) (by omega)
  obtain⟨b',KE⟩:=R1.val vs
  have Ms:u'.T m V * q0=g0 * u'.q:=by
   have gw:=pA vu st.en st.lv
   rw[d,Int.mul_zero,Int.sub_zero]at gw
   refine w5 vu.tab.pos ?_
   rw[st.eq,<-Int.mul_assoc,gw]
   show u.T m V * u.T r c * q0=u.q * (g0 * u.T r c)
   have:u.T m V * u.T r c * q0=(u.T m V * q0) * u.T r c:=by grind
   rw[this,gu];grind
  rcases ih u' ⟨b',KE⟩ Ms with h|⟨w,w',c2,r2,R2,gw,st2,d2,ht2⟩
  ·exact .inl (R1.back vs h)
  by_cases Jx:t+1<=c2\/t+1<=w.held r2
  ·exact .inr ⟨w,w',c2,r2,R1.trans (R2.mono (by omega)),gw,st2,d2,Jx⟩
  rw[not_or]at Jx
  exfalso
  obtain⟨bw,vw⟩:=R2.val ⟨b',KE⟩
  have rel:Rel m V A t u w:=by
   have r1:=Rel.step (t:=t) vu st.en st.lv d (by omega) (by omega)
   rw[<-st.eq]at r1
   exact r1.trans ((R2.mono (Nat.le_succ t)).rel ⟨b',KE⟩)
  have k1:=R2.keep (Nat.le_refl t)
  by_cases hc:c=t
  ·-- t comes in at u
   have b1:Bs m u' t:=by rw[st.eq];exact⟨r,st.lv.lt,by show(if r=r then c else _)=t;rw[if_pos rfl];exact hc⟩
   have b2:=k1.mp b1
   by_cases hc2:c2=t
   ·exact vw.fresh (by rw[<-hc2];exact st2.en.ng) b2
   ·have hr2:w.held r2=t:=by omega
    exact w9 rel.symm st2.en st2.lv hr2 (by omega) (by rw[<-hc];exact st.en)
  ·-- t goes out at u
   have hr:u.held r=t:=by omega
   have b1:¬Bs m u' t:=by
    rw[st.eq]
    rintro⟨i,hi,ei⟩
    have ei:(if i=r then c else u.held i)=t:=ei
    by_cases er:i=r
    ·rw[if_pos er]at ei;exact hc ei
    ·rw[if_neg er]at ei;exact er (vu.inj hi st.lv.lt (by rw[ei,hr]))
   by_cases hc2:c2=t
   ·exact w9 rel st.en st.lv hr (by omega) (by rw[<-hc2];exact st2.en)
   ·have hr2:w.held r2=t:=by omega
    exact b1 (k1.mpr ⟨r2,st2.lv.lt,hr2⟩)
end
end Wg
namespace CW
open PySem L2 L3 Wd
open C
noncomputable def bF(R H:Addr)(q:Int):List (Str×PV):=[("rows",.ref R),("held",.ref H),("bottom",.int q)]
def fF(R H:Addr)(q:Int):(bF R H q).lookup ("rows":Str)=some (.ref R):=rfl
def lu(R H:Addr)(q:Int):(bF R H q).lookup ("held":Str)=some (.ref H):=rfl
def tO(R H:Addr)(q:Int):(bF R H q).lookup ("bottom":Str)=some (.int q):=rfl
def zr(R H R':Addr)(q:Int):putF3 ("rows":Str) (.ref R') (bF R H q)=bF R' H q:=by simp[putF3,bF]
def Bg(R H:Addr)(q q':Int):putF3 ("bottom":Str) (.int q') (bF R H q)=bF R H q':=by simp[putF3,bF,cV]
noncomputable def hV(held:List Nat):List PV:=held.map fun n:Nat=>PV.int (n:Int)
structure BalAt (S:av) (a R H:Addr) (rs:List Addr) (rows:List (List Int)) (held:List Nat) (q:Int):Prop where
 o:S a=some (.ins "Balance" (bF R H q))
 r:S R=some (.lst (rs.map PV.ref))
 rl:rs.length=rows.length
 rr:∀(i:Nat) r row,rs[i]?=some r->rows[i]?=some row->S r=some (.lst (row.map PV.int))
 h:S H=some (.lst (hV held))
 nR:R≠H
 nr:∀r∈rs,r≠H
def jI{n i:Nat}(h:i < n):oI n (i:Int)=some i:=by unfold oI;rw[if_pos (by omega),if_pos (by omega)];simp
noncomputable def iM(rows:List (List Int))(r c:Nat)(q:Int):List (List Int):=(rows.map fun row=>lp row (rows.getD r []) c q).set r (rows.getD r [])
def DX(a H:Addr)(S S':av):Prop:=∀b o,S b=some o->b≠a->b≠H->S' b=some o
structure w_ (rows:List (List Int)) (N:Nat):Prop where
 w:∀row∈rows,row.length=N
 n:N<=500
 l:rows.length<=500
 s:∀row∈rows,∀x∈row,Sz x
abbrev hW(w:aH):Prop:=∀{S:av} {a R H:Addr} {rs:List Addr} {rows:List (List Int)} {held:List Nat} {q:Int} {N r c:Nat} {Q:bH} {E:b9},BalAt S a R H rs rows held q->w_ rows N->r < rows.length->r < held.length->c < N->q≠0->Sz q->
 (∀S' R' rs',BalAt S' a R' H rs' (iM rows r c q) (held.set r c) ((rows.getD r []).getD c 0)->DX a H S S'->Q .non S')->w [.ref a,.int (r:Int),.int (c:Int)] S Q E
def FS{xw:aH}(GD:my xw):hW (bf 5 (dm xw)):=by
 intro S a R H rs rows held q N r c Q E B sh hr hh hc hq IR k
 unfold dm
 refine fb ?_
 rw[show ax 5 [.ref a,.int (r:Int),.int (c:Int)]=[some (.ref a),some (.int (r:Int)),some (.int (c:Int)),none,none] from rfl]
 have hrl:=B.rl
 obtain⟨ch,hch⟩:∃ch,rows[r]?=some ch:=⟨_,List.getElem?_eq_getElem hr⟩
 obtain⟨pc,JW⟩:∃pc,rs[r]?=some pc:=⟨_,List.getElem?_eq_getElem (by omega)⟩
 have Je:rows.getD r []=ch:=by rw[List.getD_eq_getElem?_getD,hch];rfl
 have Lg:=List.mem_of_getElem? hch
 have Jy:=sh.w ch Lg
 have Jz:=B.rr r pc ch JW hch
 rw[Je]at k
 have hNn:=sh.n
 have hLl:=sh.l
 refine az fun N1 hN=>?_
 simp only[aq,af,b8,v3,lk,cg,B.o,fF,true_and,ak,B.r]
 rw[bB (v:=PV.ref pc) (by rw[List.getElem?_map,JW];rfl)]
 simp only[List.set_cons_succ,List.set_cons_zero]
 refine hN _ _ (az fun N1 hN=>?_)
 simp only[aq,ar,aF,b8,v3,lk,cg,B.o,fF,true_and,bE,B.r]
 refine bG (fun done ys S'=>∃ns:List Addr,ys=ns.map PV.ref/\done.length<=rs.length/\ns.length=done.length/\Ext S S'/\(∀n∈ns,S n=none)/\(∀(i:Nat) n row,ns[i]?=some n->rows[i]?=some row->S' n=some (.lst ((lp row ch c q).map PV.int)))) ⟨[],rfl,Nat.zero_le _,rfl,.refl,(fun n h=>by cases h),(fun i n row h=>by cases h)⟩ ?_ ?_ ?_
 ·rintro done ys S' ⟨ns,rfl,h1,h2,X,h3,h4⟩
  exact⟨X _ _ B.r,aP (by rw[List.length_map];omega)⟩
 ·rintro done x rest ys S' K e ⟨ns,rfl,h1,h2,X,h3,h4⟩ hK
  have hget:(rs.map PV.ref)[done.length]?=some x:=by rw[e];simp
  obtain⟨pr,Lh,rfl⟩:∃p,rs[done.length]?=some p/\PV.ref p=x:=by rw[List.getElem?_map]at hget;exact Option.map_eq_some_iff.mp hget
  have hlt:done.length < rs.length:=(List.getElem?_eq_some_iff.mp Lh).1
  obtain⟨row,FK⟩:∃row,rows[done.length]?=some row:=⟨_,List.getElem?_eq_getElem (by omega)⟩
  have HE:=List.mem_of_getElem? FK
  have Mt:=sh.w row HE
  have IS:=X _ _ (B.rr _ pr row Lh FK)
  simp only[Tg.put,bQ,List.reduceReplicate,List.map_cons,List.map_nil,List.cons_append,List.nil_append,List.set_cons_zero,a8,if_true,ac,ag,b8,v3,lk,cg,X _ _ B.o,tO,true_and]
  refine GD IS (X _ _ Jz) (by omega) (by omega) (by omega) hq IR (sh.s row HE) (sh.s ch Lg) fun p S2 hp X2 f2=>?_
  refine hK _ _ ⟨ns++[p],by simp,by rw[List.length_append];exact hlt,by simp[h2],X.trans X2,fun n hn=>?_,fun i n rw' hn hrw=>?_⟩
  ·rcases List.mem_append.mp hn with h|h
   ·exact h3 n h
   ·rw[List.mem_singleton.mp h];exact X.free hp
  ·by_cases hi:i < ns.length
   ·rw[List.getElem?_append_left hi]at hn
    exact X2 _ _ (h4 i n rw' hn hrw)
   ·rw[List.getElem?_append_right (by omega)]at hn
    have e0:i - ns.length=0:=by
     have:=(List.getElem?_eq_some_iff.mp hn).1
     rw[List.length_singleton]at this
     omega
    rw[e0]at hn
    cases hn
    have ei:i=done.length:=by omega
    rw[ei,FK]at hrw
    cases hrw
    exact f2
 rintro ys S1 ⟨ns,rfl,_,h2,X1,h3,h4⟩
 rw[List.length_map]at h2
 intro po Li
 have Xo:Ext S1 (Ee S1 po (.lst (ns.map PV.ref))):=.new Li
 have fo:(Ee S1 po (.lst (ns.map PV.ref))) po=some (.lst (ns.map PV.ref)):=aa
 have Mv:S po=none:=X1.free Li
 generalize Ee S1 po (.lst (ns.map PV.ref))=S2 at Xo fo
 have X2:=X1.trans Xo
 simp only[List.set_cons_succ,List.set_cons_zero]
 refine hN _ _ (az fun N1 hN=>?_)
 simp only[fB,af,aU,v3,lk,jU,fY,fm,fo]
 rw[ld (by rw[List.length_map];omega)]
 intro p1 hp1
 have X3:Ext S2 (Ee S2 p1 (.lst ((ns.map PV.ref).take r))):=.new hp1
 have f1:(Ee S2 p1 (.lst ((ns.map PV.ref).take r))) p1=some (.lst ((ns.map PV.ref).take r)):=aa
 generalize Ee S2 p1 (.lst ((ns.map PV.ref).take r))=S3 at X3 f1
 simp only[bV,ag,v3,lk]
 intro p2 hp2
 have X4:Ext S3 (Ee S3 p2 (.lst [.ref pc])):=.new hp2
 have f2:(Ee S3 p2 (.lst [.ref pc])) p2=some (.lst [.ref pc]):=aa
 generalize Ee S3 p2 (.lst [.ref pc])=S4 at X4 f2
 refine mq (X4 _ _ f1) f2 (by simp;omega) fun p3 S5 hp3 X5 f3=>?_
 have Mw:=X5 _ _ (X4 _ _ (X3 _ _ fo))
 have e1:∀Q:bH,aL (.int (r:Int)) (.int 1) S5 Q=Q (.int ((r:Int)+1)) S5:=fun _=>rfl
 simp only[c3,e1,fm,Mw]
 rw[show((r:Int)+1)=((r+1:Nat):Int) by omega,lg (by rw[List.length_map];omega)]
 intro p4 Ia
 have X6:Ext S5 (Ee S5 p4 (.lst ((ns.map PV.ref).drop (r+1)))):=.new Ia
 have f4:(Ee S5 p4 (.lst ((ns.map PV.ref).drop (r+1)))) p4=some (.lst ((ns.map PV.ref).drop (r+1))):=aa
 generalize Ee S5 p4 (.lst ((ns.map PV.ref).drop (r+1)))=S6 at X6 f4
 refine mq (X6 _ _ f3) f4 (by simp;omega) fun p5 S7 Ib X7 f5=>?_
 have Lj:Ext S2 S7:=X3.trans (X4.trans (X5.trans (X6.trans X7)))
 have XS:Ext S S7:=X2.trans Lj
 have Ic:S p5=none:=(X2.trans (X3.trans (X4.trans (X5.trans X6)))).free Ib
 have KF:(ns.map PV.ref).take r++[PV.ref pc]++(ns.map PV.ref).drop (r+1)=(ns.set r pc).map PV.ref:=by
  rw[List.map_set,List.set_eq_take_append_cons_drop,if_pos (by rw[List.length_map];omega),List.append_assoc];rfl
 rw[KF]at f5
 have o7:=XS _ _ B.o
 simp only[cg,o7,true_and]
 refine⟨by simp[bF],?_⟩
 rw[zr]
 have Mx:p5≠a:=fun h=>by rw[h,B.o]at Ic;cases Ic
 have Lk:p5≠H:=fun h=>by rw[h,B.h]at Ic;cases Ic
 have KG:a≠H:=fun h=>by have:=B.o;rw[h,B.h]at this;cases this
 have o8:(Ee S7 a (.ins "Balance" (bF p5 H q))) a=some (.ins "Balance" (bF p5 H q)):=aa
 have k8:∀b o,S7 b=some o->b≠a->(Ee S7 a (.ins "Balance" (bF p5 H q))) b=some o:=fun b o h hb=>by rw[al hb];exact h
 generalize Ee S7 a (.ins "Balance" (bF p5 H q))=S8 at o8 k8
 have Ll:pc≠a:=fun h=>by rw[h,B.o]at Jz;cases Jz
 have My:=k8 _ _ (XS _ _ Jz) Ll
 have ec:ER (ch.map PV.int) (c:Int)=some (.int (ch.getD c 0)):=bB (by rw[List.getElem?_map,List.getD_eq_getElem?_getD,List.getElem?_eq_getElem (by omega)];rfl)
 refine hN _ _ (az fun N1 hN=>?_)
 simp only[fB,af,v3,lk,ak,My,ec,cg,o8,true_and]
 refine⟨by simp[bF],?_⟩
 rw[Bg]
 have o9:(Ee S8 a (.ins "Balance" (bF p5 H (ch.getD c 0)))) a=some (.ins "Balance" (bF p5 H (ch.getD c 0))):=aa
 have k9:∀b o,S8 b=some o->b≠a->(Ee S8 a (.ins "Balance" (bF p5 H (ch.getD c 0)))) b=some o:=fun b o h hb=>by rw[al hb];exact h
 generalize Ee S8 a (.ins "Balance" (bF p5 H (ch.getD c 0)))=S9 at o9 k9
 have Mz:=k9 _ _ (k8 _ _ (XS _ _ B.h) (Ne.symm KG)) (Ne.symm KG)
 refine hN _ _ ?_
 simp only[iB,b8,v3,lk,cg,o9,lu,true_and,eF,Mz]
 rw[show oI (hV held).length (r:Int)=some r from jI (by unfold hV;rw[List.length_map];exact hh)]
 have MA:(hV held).set r (.int (c:Int))=hV (held.set r c):=by unfold hV;rw[List.map_set]
 simp only[MA]
 have kk:∀b o,S7 b=some o->b≠a->b≠H->(Ee S9 H (.lst (hV (held.set r c)))) b=some o:=fun b o h h1 h2=>by rw[al h2];exact k9 _ _ (k8 _ _ h h1) h1
 refine k _ p5 (ns.set r pc) ⟨?_,kk _ _ f5 Mx Lk,?_,fun i n row hn hrw=>?_,aa,Lk,fun n hn=>?_⟩ fun b o h h1 h2=>kk b o (XS _ _ h) h1 h2
 ·rw[al KG];exact o9
 ·unfold iM;rw[List.length_set,List.length_set,List.length_map];omega
 ·unfold iM at hrw
  rw[Je]at hrw
  rw[List.getElem?_set]at hn hrw
  by_cases e:r=i
  ·rw[if_pos e,if_pos (by omega)]at hn
   rw[if_pos e,if_pos (by rw[List.length_map];omega)]at hrw
   cases hn;cases hrw
   exact kk _ _ (XS _ _ Jz) Ll (B.nr _ (List.mem_of_getElem? JW))
  ·rw[if_neg e]at hn hrw
   rw[List.getElem?_map]at hrw
   obtain⟨Ie,hr0,rfl⟩:=Option.map_eq_some_iff.mp hrw
   have fn:=h4 i n Ie hn hr0
   have nS:=h3 n (List.mem_of_getElem? hn)
   exact kk _ _ (Lj _ _ (Xo _ _ fn)) (fun h=>by rw[h,B.o]at nS;cases nS) (fun h=>by rw[h,B.h]at nS;cases nS)
 ·rcases List.mem_or_eq_of_mem_set hn with h|h
  ·have nS:=h3 n h
   exact fun h'=>by rw[h',B.h]at nS;cases nS
  ·rw[h];exact B.nr _ (List.mem_of_getElem? JW)
end CW
namespace Wg
noncomputable def Kb(C:Nat):Nat->Nat
 |0=>1
 |M+1=>(M+1) * (C * Kb C M)
def nY{n B:Nat}{f:Nat->Int}(h:∀i,i < n->(f i).natAbs<=B):(sm n f).natAbs<=n * B:=by
 induction n with
 |zero=>simp[sm]
 |succ n ih=>
  simp only[sm]
  have:=ih fun i hi=>h i (by omega)
  have:=h n (by omega)
  have:=Int.natAbs_add_le (sm n f) (f n)
  rw[Nat.succ_mul]
  omega
theorem lw(C:Nat):∀(M:Nat) (b:Nat->Vc),(∀i k,i < M->k < M->(b i k).natAbs<=C)->(dt M b).natAbs<=Kb C M
 |0,_,_=>by simp[dt,Kb]
 |M+1,b,h=>by
  simp only[dt,Kb]
  refine nY fun i hi=>?_
  have sgn:(sg (i+M)).natAbs=1:=by unfold sg;split<;>rfl
  rw[Int.natAbs_mul,Int.natAbs_mul,sgn,Nat.one_mul]
  exact Nat.mul_le_mul (h i M hi (by omega)) (lw C M (sk i b) fun l k hl hk=>h _ k (by split<;>omega) (by omega))
section
variable {m V:Nat} {A:Nat->Nat->Int} {s:Sx} {b:Nat->Vc}
def Val.bnd(h:Val m V A s b){C:Nat}(h1:1<=C)(hA:∀k j,k<=m->j<=V->(A k j).natAbs<=C):(∀i j,i<=m->j<=V->(s.T i j).natAbs<=Kb C (m+1))/\s.q.natAbs<=Kb C (m+1):=by
 have hb:∀i k,i<=m->k<=m->(b i k).natAbs<=C:=fun i k hi hk=>by
  by_cases e:i=m
  ·subst e;rw[h.tab.gl k];unfold eu;split<;>simp<;>omega
  ·rw[h.hb i k (by omega) hk];exact hA k _ hk (by have:=h.hv i (by omega);omega)
 refine⟨fun i j hi hj=>?_,?_⟩
 ·rw[h.tab.ent hi (by omega)]
  refine lw C _ _ fun l k hl hk=>?_
  by_cases e:l=i
  ·subst e;rw[aG];exact hA k j (by omega) hj
  ·rw[aX e];exact hb l k (by omega) (by omega)
 ·rw[<-h.tab.det]
  exact lw C _ _ fun l k hl hk=>hb l k (by omega) (by omega)
noncomputable def mu(m V:Nat)(K:Int)(s:Sx):Int:=((K * s.q - s.T m V) * (K * K)) / s.q
def v5{K g q g' q':Int}(hq:0 < q)(hq':0 < q')(k1:q<=K)(k2:q'<=K)(h:g * q' < g' * q):((K * q' - g') * (K * K)) / q'+1<=((K * q - g) * (K * K)) / q:=by
 rw[Int.le_ediv_iff_mul_le hq]
 refine Int.le_of_mul_le_mul_right (a:=q') ?_ hq'
 have e1:((K * q' - g') * (K * K)) / q' * q'<=(K * q' - g') * (K * K):=Int.ediv_mul_le _ (by omega)
 have e2:q * q'<=K * K:=Int.mul_le_mul k1 k2 (by omega) (by omega)
 have e3:K * K<=(g' * q - g * q') * (K * K):=by
  have:0<=K * K:=Int.mul_nonneg (by omega) (by omega)
  have:=Int.mul_le_mul_of_nonneg_right (show 1<=g' * q - g * q' by omega) this
  omega
 have e4:(((K * q' - g') * (K * K)) / q'+1) * q * q'=(((K * q' - g') * (K * K)) / q' * q') * q+q * q':=by grind
 have e5:=Int.mul_le_mul_of_nonneg_right e1 (show 0<=q by omega)
 have e6:(K * q - g) * (K * K) * q'=(K * q' - g') * (K * K) * q+(g' * q - g * q') * (K * K):=by grind
 rw[e4,e6]
 omega
def ends{C:Nat}(h1:1<=C)(hA:∀k j,k<=m->j<=V->(A k j).natAbs<=C):∀(n:Nat) (s:Sx) (b:Nat->Vc),Val m V A s b->mu m V (Kb C (m+1)) s < n->Ed m V s:=by
 intro n
 induction n with
 |zero=>
  intro s b v Lm
  exfalso
  obtain⟨b1,b2⟩:=v.bnd h1 hA
  have q1:=v.tab.pos
  have:=b1 m V (Nat.le_refl _) (Nat.le_refl _)
  have k0:(s.T m V)<=(Kb C (m+1):Int) * s.q:=by
   have a1:s.T m V<=(Kb C (m+1):Int):=by omega
   have:=Int.mul_le_mul_of_nonneg_left (show 1<=s.q by omega) (show 0<=(Kb C (m+1):Int) by omega)
   omega
  have:0<=mu m V (Kb C (m+1)) s:=Int.ediv_nonneg (Int.mul_nonneg (by omega) (Int.mul_nonneg (by omega) (by omega))) (by omega)
  omega
 |succ n ih=>
  intro s b v Lm
  obtain⟨b1,b2⟩:=v.bnd h1 hA
  have q1:=v.tab.pos
  have H:∀s' b',Val m V A s' b'->s.T m V * s'.q < s'.T m V * s.q->Ed m V s':=fun s' b' v' hg=>by
   refine ih s' b' v' ?_
   have q2:=v'.tab.pos
   have:=(v'.bnd h1 hA).2
   have:=v5 (K:=Kb C (m+1)) q1 q2 (by omega) (by omega) hg
   unfold mu at Lm ⊢
   omega
  rcases v4 (A:=A) (g0:=s.T m V) (q0:=s.q) q1 H V s ⟨b,v⟩ rfl with h|⟨u,u',c,r,R,gu,st,d,ht⟩
  ·exact h
  ·exfalso
   obtain⟨bu,vu⟩:=R.val ⟨b,v⟩
   have:=st.en.lt
   have:=vu.hv r st.lv.lt
   omega
theorem Val.ends(v:Val m V A s b){C:Nat}(h1:1<=C)(hA:∀k j,k<=m->j<=V->(A k j).natAbs<=C):Ed m V s:=Wg.ends h1 hA ((mu m V (Kb C (m+1)) s).toNat+1) s b v (by omega)
end
end Wg
namespace CW
open PySem L2 L3 Wd
open C
noncomputable def toS(rows:List (List Int))(held:List Nat)(q:Int):Wg.Sx:=⟨fun i j=>(rows.getD i []).getD j 0,fun i=>held.getD i 0,q⟩
structure Dim (rows:List (List Int)) (held:List Nat) (m V:Nat):Prop where
 rl:rows.length=m+1
 hl:held.length=m
 w:∀row∈rows,row.length=V+1
 m1:m<=400
 v1:V<=400
 s:∀row∈rows,∀x∈row,Sz x
def Dim.sh{rows:List (List Int)}{held:List Nat}{m V:Nat}(h:Dim rows held m V):w_ rows (V+1):=⟨h.w,by have:=h.v1;omega,by have:=h.rl;have:=h.m1;omega,h.s⟩
def kA{α:Type}{xs:List α}{n:Nat}{y:α}(hl:xs.length=n+1)(h:xs[n]?=some y):ER xs (-1)=some y:=by
 unfold ER oI
 rw[if_neg (by omega),if_pos (by omega)]
 have:(-1+(xs.length:Int)).toNat=n:=by omega
 rw[this]
 exact h
def v6{α:Type}{xs:List α}:dB xs none (some (-1))=xs.take (xs.length - 1):=by
 unfold dB
 rw[HT.jm,List.drop_zero,Nat.sub_zero]
 have:HT.Ew xs.length xs.length (some (-1))=if (-1:Int) < 0 then (-1+((xs.length:Nat):Int)).toNat else min (-1:Int).toNat xs.length:=rfl
 rw[this,if_pos (by decide)]
 congr 1
 omega
def aC{α:Type}{xs:List α}{i:Nat}{y d:α}(h:xs[i]?=some y):xs.getD i d=y:=by rw[List.getD_eq_getElem?_getD,h];rfl
section
variable {S:av} {a R H:Addr} {rs:List Addr} {rows:List (List Int)} {held:List Nat} {q:Int} {m V:Nat}
def jJ(B:BalAt S a R H rs rows held q)(D:Dim rows held m V){i:Nat}(hi:i<=m):∃p row,rs[i]?=some p/\rows[i]?=some row/\S p=some (.lst (row.map PV.int))/\row.length=V+1/\(∀x∈row,Sz x)/\(∀j,(toS rows held q).T i j=row.getD j 0):=by
 have h1:=B.rl
 have h2:=D.rl
 obtain⟨row,FK⟩:∃row,rows[i]?=some row:=⟨_,List.getElem?_eq_getElem (by omega)⟩
 obtain⟨p,hp⟩:∃p,rs[i]?=some p:=⟨_,List.getElem?_eq_getElem (by omega)⟩
 have mr:=List.mem_of_getElem? FK
 exact⟨p,row,hp,FK,B.rr i p row hp FK,D.w row mr,D.s row mr,fun j=>by show(rows.getD i []).getD j 0=_;rw[aC FK]⟩
def fG{row:Vu}{j:Nat}(h:j < row.length):ER (row.map PV.int) (j:Int)=some (.int (row.getD j 0))/\row.getD j 0∈row:=by
 have e:=List.getElem?_eq_getElem h
 refine⟨bB (by rw[List.getElem?_map,e,aC e];rfl),?_⟩
 rw[aC e]
 exact List.getElem_mem h
end
abbrev mB(w:aH):Prop:=∀{S:av} {a R H:Addr} {rs:List Addr} {rows:List (List Int)} {held:List Nat} {q:Int} {m V:Nat} {Q:bH} {E:b9},BalAt S a R H rs rows held q->Dim rows held m V->
 (∀S',Ext S S'->(∀j,j < V->0<=(toS rows held q).T m j)->Q .non S')->(∀(c:Nat) S',Ext S S'->Wg.En m V (toS rows held q) c->Q (.int (c:Int)) S')->w [.ref a] S Q E
def GE:mB (bf 3 cF):=by
 intro S a R H rs rows held q m V Q E B D k0 k1
 unfold cF
 refine fb ?_
 rw[show ax 3 [PV.ref a]=[some (.ref a),none,none] from rfl]
 obtain⟨p,row,hp,FK,fp,hl,_,hT⟩:=jJ B D (Nat.le_refl m)
 have hv:=D.v1
 refine az fun N hN=>?_
 simp only[cO,iZ,aU,af,b8,v3,lk,c3,iY,cX,jU,fY,cg,B.o,fF,true_and,ak,B.r]
 rw[kA (n:=m) (by rw[List.length_map,B.rl,D.rl]) (show(rs.map PV.ref)[m]?=some (.ref p) by rw[List.getElem?_map,hp];rfl)]
 simp only[fm,fp]
 rw[v6,List.length_map,hl,Nat.add_sub_cancel,<-List.map_take]
 intro p2 hp2
 have X2:Ext S (Ee S p2 (.lst ((row.take V).map PV.int))):=.new hp2
 have f2:(Ee S p2 (.lst ((row.take V).map PV.int))) p2=some (.lst ((row.take V).map PV.int)):=aa
 generalize Ee S p2 (.lst ((row.take V).map PV.int))=S2 at X2 f2
 simp only[f2]
 refine cu (fun done σ S'=>S'=S2/\done.length<=V/\(∃x1 x2,σ=[some (.ref a),x1,x2])/\∀j,j < done.length->0<=row.getD j 0) ⟨rfl,Nat.zero_le _,⟨_,_,rfl⟩,fun j hj=>absurd hj (Nat.not_lt_zero _)⟩ (fun _ _ _ ⟨e,_⟩=>by rw[e];exact f2) ?_ ?_
 ·rintro done x rest σ S' K e ⟨rfl,hd,⟨x1,x2,rfl⟩,hn⟩ hK
  obtain⟨y,rfl,hy⟩:=sW e
  rw[List.getElem?_map]at hy
  obtain⟨n,hn1,rfl⟩:=Option.map_eq_some_iff.mp hy
  have hlt:done.length < V:=by have:=(List.getElem?_eq_some_iff.mp hn1).1;rw[List.length_take]at this;omega
  rw[List.getElem?_take_of_lt hlt]at hn1
  have en:=aC (d:=0) hn1
  simp only[Tg.put,Tg.EQ,List.set_cons_succ,List.set_cons_zero,cN,br,af,v3,lk,c3,mQ,bN,decide_eq_true_eq]
  split
  ·rename_i hneg
   simp only[aw,v3,lk]
   exact k1 done.length S' X2 ⟨hlt,by rw[hT,en];exact hneg,fun j hj=>by rw[hT];exact hn j hj⟩
  ·rename_i hneg
   refine hK _ _ ⟨rfl,by rw[List.length_append];exact hlt,⟨_,_,rfl⟩,fun j hj=>?_⟩
   rw[List.length_append,List.length_singleton]at hj
   by_cases ej:j=done.length
   ·subst ej;rw[en];omega
   ·exact hn j (by omega)
 ·rintro σ S' ⟨rfl,hd,⟨x1,x2,rfl⟩,hn⟩
  refine hN _ _ ?_
  walk_at "x"
  have ln:(L3.ba ((row.take V).map PV.int)).length=V:=by unfold L3.ba;rw[List.length_mapIdx,List.length_map,List.length_take];omega
  rw[ln]at hn
  exact k0 S' X2 fun j hj=>by rw[hT];exact hn j hj
abbrev mC(w:aH):Prop:=∀{S:av} {a R H:Addr} {rs:List Addr} {rows:List (List Int)} {held:List Nat} {q:Int} {m V i r c:Nat} {Q:bH} {E:b9},BalAt S a R H rs rows held q->Dim rows held m V->i < m->r < m->c<=V->
 (∀b:Bool,(b=true↔Wg.jb V (toS rows held q) c i r)->Q (.bl b) S)->w [.ref a,.int (i:Int),.int (r:Int),.int (c:Int)] S Q E
def GF:mC (bf 6 cP):=by
 intro S a R H rs rows held q m V i r c Q E B D hi hr hc k
 unfold cP
 refine fb ?_
 rw[show ax 6 [PV.ref a,.int (i:Int),.int (r:Int),.int (c:Int)]=[some (.ref a),some (.int (i:Int)),some (.int (r:Int)),some (.int (c:Int)),none,none] from rfl]
 obtain⟨p1,GR,hp1,hr1,f1,l1,s1,T1⟩:=jJ B D (show i<=m by omega)
 obtain⟨p2,row2,hp2,hr2,f2,l2,s2,T2⟩:=jJ B D (show r<=m by omega)
 have e1:ER (rs.map PV.ref) (i:Int)=some (.ref p1):=bB (by rw[List.getElem?_map,hp1];rfl)
 have e2:ER (rs.map PV.ref) (r:Int)=some (.ref p2):=bB (by rw[List.getElem?_map,hp2];rfl)
 have v1:=fG (row:=GR) (j:=V) (by omega)
 have v2:=fG (row:=row2) (j:=V) (by omega)
 have c1:=fG (row:=GR) (j:=c) (by omega)
 have c2:=fG (row:=row2) (j:=c) (by omega)
 have m1:ER (GR.map PV.int) (-1)=some (.int (GR.getD V 0)):=kA (n:=V) (by rw[List.length_map,l1]) (by rw[List.getElem?_map,List.getElem?_eq_getElem (by omega),List.getD_eq_getElem?_getD,List.getElem?_eq_getElem (by omega)];rfl)
 have m2:ER (row2.map PV.int) (-1)=some (.int (row2.getD V 0)):=kA (n:=V) (by rw[List.length_map,l2]) (by rw[List.getElem?_map,List.getElem?_eq_getElem (by omega),List.getD_eq_getElem?_getD,List.getElem?_eq_getElem (by omega)];rfl)
 have hel:∀j,j < m->ER (hV held) (j:Int)=some (.int ((held.getD j 0:Nat):Int)):=fun j hj=>bB (by
  unfold hV
  have:j < held.length:=by rw[D.hl];exact hj
  rw[List.getElem?_map,List.getElem?_eq_getElem this,List.getD_eq_getElem?_getD,List.getElem?_eq_getElem this];rfl)
 refine az fun N hN=>?_
 simp only[aq,af,b8,v3,lk,c3,iY,cX,cg,B.o,fF,true_and,ak,B.r,e1,e2,f1,f2,m1,c2.1,aO]
 refine⟨(s1 _ v1.2).mul (s2 _ c2.2),?_⟩
 simp only[List.set_cons_succ,List.set_cons_zero]
 refine hN _ _ (az fun N hN=>?_)
 simp only[aq,af,b8,v3,lk,c3,iY,cX,cg,B.o,fF,true_and,ak,B.r,e1,e2,f1,f2,m2,c1.1,aO]
 refine⟨(s2 _ v2.2).mul (s1 _ c1.2),?_⟩
 simp only[List.set_cons_succ,List.set_cons_zero]
 refine hN _ _ ?_
 simp only[aw,af,aV,ag,b8,v3,lk,cg,B.o,lu,true_and,ak,B.h,hel i hi,hel r hr,vW]
 refine k _ ?_
 rw[decide_eq_true_eq]
 unfold Wg.jb
 rw[T1,T1,T2,T2]
 show _↔GR.getD V 0 * row2.getD c 0 < row2.getD V 0 * GR.getD c 0\/(GR.getD V 0 * row2.getD c 0=row2.getD V 0 * GR.getD c 0/\held.getD i 0 < held.getD r 0)
 constructor
 ·rintro(h|⟨h,h2⟩)
  ·exact .inl h
  ·exact .inr ⟨h,by omega⟩
 ·rintro(h|⟨h,h2⟩)
  ·exact .inl h
  ·exact .inr ⟨h,by omega⟩
def nZ{s:Wg.Sx}{V c i r l:Nat}(hi:0 < s.T i c)(hr:0 < s.T r c)(hl:0 < s.T l c)(h:Wg.jb V s c i r)(g:Wg.jb V s c r l):Wg.jb V s c i l:=by
 unfold Wg.jb at *
 have cmp:∀{x y:Int},s.T r c * x<=s.T r c * y->x<=y:=fun h=>Int.le_of_mul_le_mul_left h hr
 have A:s.T r c * (s.T i V * s.T l c)=(s.T i V * s.T r c) * s.T l c:=by grind
 have C:s.T r c * (s.T l V * s.T i c)=(s.T l V * s.T r c) * s.T i c:=by grind
 have M:(s.T r V * s.T i c) * s.T l c=(s.T r V * s.T l c) * s.T i c:=by grind
 rcases h with h|⟨h,h2⟩
 ·have h3:=Int.mul_lt_mul_of_pos_right h hl
  rcases g with g|⟨g,g2⟩
  ·have g3:=Int.mul_lt_mul_of_pos_right g hi
   exact .inl (Int.lt_of_mul_lt_mul_left (a:=s.T r c) (by rw[A,C];omega) (by omega))
  ·refine .inl (Int.lt_of_mul_lt_mul_left (a:=s.T r c) (by rw[A,C,<-g];omega) (by omega))
 ·rcases g with g|⟨g,g2⟩
  ·have g3:=Int.mul_lt_mul_of_pos_right g hi
   exact .inl (Int.lt_of_mul_lt_mul_left (a:=s.T r c) (by rw[A,C,h];omega) (by omega))
  ·exact .inr ⟨Int.eq_of_mul_eq_mul_left (a:=s.T r c) (by omega) (by rw[A,C,h,<-g];exact M),by omega⟩
noncomputable def fV:Option Nat->PV
 |none=>.non
 |some r=>.int (r:Int)
abbrev mD(w:aH):Prop:=∀{S:av} {a R H:Addr} {rs:List Addr} {rows:List (List Int)} {held:List Nat} {q:Int} {m V c:Nat} {Q:bH} {E:b9},BalAt S a R H rs rows held q->Dim rows held m V->c<=V->
 ((∀i,i < m->(toS rows held q).T i c<=0)->Q .non S)->(∀r:Nat,Wg.Lv m V (toS rows held q) c r->Q (.int (r:Int)) S)->w [.ref a,.int (c:Int)] S Q E
def GG{xs:aH}(GF:mC xs):mD (bf 4 (cG xs)):=by
 intro S a R H rs rows held q m V c Q E B D hc k0 k1
 unfold cG
 refine fb ?_
 rw[show ax 4 [PV.ref a,.int (c:Int)]=[some (.ref a),some (.int (c:Int)),none,none] from rfl]
 have hm:=D.m1
 refine az fun N hN=>?_
 walk_at "x"
 refine hN _ _ (az fun N hN=>?_)
 simp only[cO,cC,aj,ag,b8,v3,lk,cg,B.o,lu,true_and,bg,B.h]
 rw[show(hV held).length=m by unfold hV;rw[List.length_map,D.hl]]
 refine⟨by omega,by omega,?_⟩
 rw[Int.toNat_natCast]
 let T:=(toS rows held q).T
 refine cu (fun done σ S'=>S'=S/\done.length<=m/\∃(f:Option Nat) (x3:Option PV),σ=[some (.ref a),some (.int (c:Int)),some (fV f),x3]/\
   (match f with|none=>∀i,i < done.length->(toS rows held q).T i c<=0|some r=>r < done.length/\0 < (toS rows held q).T r c/\∀i,i < done.length->0 < (toS rows held q).T i c->¬Wg.jb V (toS rows held q) c i r)) ⟨rfl,Nat.zero_le _,none,_,rfl,fun i hi=>absurd hi (Nat.not_lt_zero _)⟩ (fun _ _ _ _=>trivial) ?_ ?_
 ·rintro done x rest σ S' K e ⟨rfl,hd,f,x3,rfl,hf⟩ hK
  obtain⟨rfl,hi⟩:=cW e
  obtain⟨p,row,hp,FK,fp,hl,_,hT⟩:=jJ B D (show done.length<=m by omega)
  have e1:ER (rs.map PV.ref) (done.length:Int)=some (.ref p):=bB (by rw[List.getElem?_map,hp];rfl)
  have c1:=fG (row:=row) (j:=c) (by omega)
  have tl:∀i,i < (done++[PV.int (done.length:Int)]).length->i < done.length\/i=done.length:=fun i hi=>by rw[List.length_append,List.length_singleton]at hi;omega
  have dl:(done++[PV.int (done.length:Int)]).length=done.length+1:=by simp
  have keep:¬0 < (toS rows held q).T done.length c->K [some (.ref a),some (.int (c:Int)),some (fV f),some (.int (done.length:Int))] S':=fun hn=>by
   refine hK _ _ ⟨rfl,by rw[dl];omega,f,_,rfl,?_⟩
   cases f with
   |none=>exact fun i hi'=>(tl i hi').elim (fun h=>hf i h) (fun h=>by rw[h];omega)
   |some r=>exact⟨by have:=hf.1;rw[dl];omega,hf.2.1,fun i hi' hp'=>(tl i hi').elim (fun h=>hf.2.2 i h hp') (fun h=>by rw[h]at hp';exact absurd hp' hn)⟩
  have take:0 < (toS rows held q).T done.length c->(∀i,i < done.length->0 < (toS rows held q).T i c->¬Wg.jb V (toS rows held q) c i done.length)->K [some (.ref a),some (.int (c:Int)),some (.int (done.length:Int)),some (.int (done.length:Int))] S':=fun hp' hs=>by
   refine hK _ _ ⟨rfl,by rw[dl];omega,some done.length,_,rfl,⟨by rw[dl];omega,hp',fun i hi' KH=>(tl i hi').elim (fun h=>hs i h KH) (fun h=>?_)⟩⟩
   subst h
   unfold Wg.jb
   omega
  simp only[Tg.put,List.set_cons_succ,List.set_cons_zero,cN,gU,sE,br,af,b8,v3,lk,c3,cg,B.o,fF,true_and,ak,B.r,e1,fp,c1.1,lL,bN,decide_eq_true_eq]
  rw[<-hT c]
  by_cases hpos:0 < (toS rows held q).T done.length c
  ·simp only[hpos,if_true]
   cases f with
   |none=>
    simp only[fV,iA,bne_self_eq_false,Bool.not_false,if_true,Bool.false_bne,aq,v3,lk,List.set_cons_succ,List.set_cons_zero]
    exact take hpos fun i hi' hp'=>by have:=hf i hi';omega
   |some r=>
    simp only[fV,iA,cL,ag,v3,lk,cg,B.o,true_and]
    have hm':(bF R H q).lookup ("sooner":Str)=none:=rfl
    simp only[hm',true_and,Bool.false_bne,Bool.false_eq_true,if_false]
    refine GF B D hi (by have:=hf.1;omega) hc fun b hb=>?_
    cases b with
    |true=>
     simp only[if_true,aq,v3,lk,List.set_cons_succ,List.set_cons_zero]
     have sn:=hb.mp rfl
     exact take hpos fun i hi' hp' hs=>hf.2.2 i hi' hp' (nZ hp' hpos hf.2.1 hs sn)
    |false=>
     simp only[Bool.false_eq_true,if_false]
     refine hK _ _ ⟨rfl,by rw[dl];omega,some r,_,rfl,⟨by have:=hf.1;rw[dl];omega,hf.2.1,fun i hi' hp'=>(tl i hi').elim (fun h=>hf.2.2 i h hp') (fun h=>?_)⟩⟩
     subst h
     exact fun hs=>by have:=hb.mpr hs;cases this
  ·simp only[hpos,if_false,Bool.false_eq_true]
   exact keep hpos
 ·rintro σ S' ⟨rfl,hd,f,x3,rfl,hf⟩
  rw[bR]at hf
  refine hN _ _ ?_
  cases f with
  |none=>simp only[fV,aw,v3,lk];exact k0 hf
  |some r=>simp only[fV,aw,v3,lk];exact k1 r ⟨hf.1,hf.2.1,hf.2.2⟩
end CW
namespace C
open PySem L2 L3 Wd
theorem gH{α:Type}{g:Tg}{tc:iX}{te:aT}{σ':cK}{keep:av->Prop}{fin:List PV->av->Prop}{S:av}(enc f:α->PV)(c:α->Bool)(hk:keep S):∀(xs:List α) (ys:List PV),
  (∀x∈xs,∃σ2,g.put (enc x) σ'=some σ2/\(∀K:Bool->av->Prop,K (c x) S->tc σ2 S K fZ)/\(c x=true->∀Q:bH,Q (f x) S->te σ2 S Q fZ))->ys.length+xs.length<=sizeLine->fin (ys++(xs.filter c).map f) S->dY g tc te σ' keep fin (xs.map enc) ys S
 |[],ys,_,hl,hf=>⟨hk,by simpa using hl,by simpa using hf⟩
 |x::r,ys,h,hl,hf=>by
  obtain⟨σ2,e,h1,h2⟩:=h x (by simp)
  refine⟨hk,by simp at hl;omega,?_⟩
  rw[e]
  refine h1 _ ?_
  by_cases hc:c x=true
  ·rw[if_pos hc]
   refine h2 hc _ (gH enc f c hk r (ys++[f x]) (fun y hy=>h y (by simp[hy])) (by simp at hl ⊢;omega) ?_)
   rw[List.filter_cons_of_pos hc]at hf
   simpa using hf
  ·rw[if_neg hc]
   refine gH enc f c hk r ys (fun y hy=>h y (by simp[hy])) (by simp at hl;omega) ?_
   rw[List.filter_cons_of_neg hc]at hf
   exact hf
end C
namespace CW
open PySem L2 L3 Wd
open C
noncomputable def Go(n:Nat)(j:Nat)(q sg:Int)(acc:List PV)(z:List Int×Nat):List PV:=if z.2 < n then acc.set z.2 (cq q (sg * z.1.getD j 0)) else acc
noncomputable def v7(n:Nat)(rows:List (List Int))(held:List Nat)(q sg:Int)(j:Nat):List PV:=(rows.zip held).foldl (Go n j q sg) (List.replicate n (cq q 0))
theorem lx(n j:Nat)(q sg:Int):∀(zs:List (List Int×Nat)) (acc:List PV),(zs.foldl (Go n j q sg) acc).length=acc.length
 |[],acc=>rfl
 |z::r,acc=>by rw[List.foldl_cons,lx n j q sg r];unfold Go;split<;>simp
def Bh(V:Nat)(pz:Int)(j:Nat):Prop:=(pz=(j:Int)/\j<=V)\/(pz = -1/\j=V)
def Bi{V:Nat}{pz:Int}{j:Nat}(h:Bh V pz j){row:Vu}(hl:row.length=V+1):ER (row.map PV.int) pz=some (.int (row.getD j 0))/\row.getD j 0∈row:=by
 rcases h with⟨rfl,hj⟩|⟨rfl,rfl⟩
 ·exact fG (by omega)
 ·refine⟨kA (n:=j) (by rw[List.length_map,hl]) (by rw[List.getElem?_map,List.getElem?_eq_getElem (by omega),List.getD_eq_getElem?_getD,List.getElem?_eq_getElem (by omega)];rfl),(fG (by omega)).2⟩
def v8(v:PV)(k:Nat):(List.replicate k [v]).flatten=List.replicate k v:=by
 induction k with
 |zero=>rfl
 |succ k ih=>rw[List.replicate_succ,List.flatten_cons,ih,List.replicate_succ];rfl
abbrev h_(w:aH):Prop:=∀{S:av} {a R H:Addr} {rs:List Addr} {rows:List (List Int)} {held:List Nat} {q:Int} {m V n j:Nat} {pz sg:Int} {Q:bH} {E:b9},BalAt S a R H rs rows held q->Dim rows held m V->0 < q->Sz q->n<=500->Bh V pz j->(sg=1\/sg = -1)->
 (∀p S',S p=none->Ext S S'->S' p=some (.lst (v7 n rows held q sg j))->Q (.ref p) S')->w [.ref a,.int (n:Int),.int pz,.int sg] S Q E
def FT{xf:aH}(EF:i4 xf):h_ (bf 7 (cH xf)):=by
 intro S a R H rs rows held q m V n j pz sg Q E B D hq IR hn hp hs k
 unfold cH
 refine fb ?_
 rw[show ax 7 [PV.ref a,.int (n:Int),.int pz,.int sg]=[some (.ref a),some (.int (n:Int)),some (.int pz),some (.int sg),none,none,none] from rfl]
 have z0:PV.tup [.int 0,.int 1]=cq q 0:=by rw[li,eZ (Q:=1) (R:=q) (n:=0) (m:=0) (by decide) hq (by simp)]
 refine az fun N hN=>?_
 simp only[aq,af,bV,ag,aV,c3,v3,lk]
 intro p0 hp0
 simp only[aO,aa]
 refine⟨by omega,by omega,aP (by simp;omega),fun p1 hp1=>?_⟩
 rw[Int.toNat_natCast,v8]
 rw[z0]at hp1 ⊢
 have X1:Ext S (Ee (Ee S p0 (.lst [cq q 0])) p1 (.lst (List.replicate n (cq q 0)))):=(Ext.new hp0).trans (.new hp1)
 have f1:(Ee (Ee S p0 (.lst [cq q 0])) p1 (.lst (List.replicate n (cq q 0)))) p1=some (.lst (List.replicate n (cq q 0))):=aa
 have GS:S p1=none:=(Ext.new hp0).free hp1
 generalize Ee (Ee S p0 (.lst [cq q 0])) p1 (.lst (List.replicate n (cq q 0)))=S1 at X1 f1
 simp only[List.set_cons_succ,List.set_cons_zero]
 refine hN _ _ (az fun N hN=>?_)
 have o1:=X1 _ _ B.o
 have r1:=X1 _ _ B.r
 have h1:=X1 _ _ B.h
 simp only[cO,mm,b8,v3,lk,cg,o1,fF,lu,true_and,r1,h1]
 have nr:p1≠R:=fun h=>by rw[h,B.r]at GS;cases GS
 have nh:p1≠H:=fun h=>by rw[h,B.h]at GS;cases GS
 have no:p1≠a:=fun h=>by rw[h,B.o]at GS;cases GS
 refine cu (fun done σ S'=>Ext S S'/\S' p1=some (.lst (((rows.zip held).take done.length).foldl (Go n j q sg) (List.replicate n (cq q 0))))/\∃x5 x6,σ=[some (.ref a),some (.int (n:Int)),some (.int pz),some (.int sg),some (.ref p1),x5,x6]) ⟨X1,f1,_,_,rfl⟩ (fun _ _ _ ⟨X,_⟩=>⟨X _ _ B.r,X _ _ B.h⟩) ?_ ?_
 ·rintro done x rest σ S' K e ⟨X,f,x5,x6,rfl⟩ hK
  have hget:(bC (rs.map PV.ref) (hV held))[done.length]?=some x:=by rw[e];simp
  unfold bC at hget
  rw[List.getElem?_map]at hget
  obtain⟨⟨u,v⟩,hz,rfl⟩:=Option.map_eq_some_iff.mp hget
  obtain⟨g1,g2⟩:=List.getElem?_zip_eq_some.mp hz
  unfold hV at g2
  rw[List.getElem?_map]at g1 g2
  obtain⟨p,hp',rfl⟩:=Option.map_eq_some_iff.mp g1
  obtain⟨hd,hd',rfl⟩:=Option.map_eq_some_iff.mp g2
  have hlt:done.length < rs.length:=(List.getElem?_eq_some_iff.mp hp').1
  obtain⟨row,FK⟩:∃row,rows[done.length]?=some row:=⟨_,List.getElem?_eq_getElem (by rw[<-B.rl];exact hlt)⟩
  have HE:=List.mem_of_getElem? FK
  have IS:=X _ _ (B.rr _ p row hp' FK)
  have pa:=Bi hp (D.w row HE)
  have KI:(rows.zip held)[done.length]?=some (row,hd):=List.getElem?_zip_eq_some.mpr ⟨FK,hd'⟩
  have ef:((rows.zip held).take (done++[PV.tup [.ref p,.int (hd:Int)]]).length).foldl (Go n j q sg) (List.replicate n (cq q 0))=Go n j q sg (((rows.zip held).take done.length).foldl (Go n j q sg) (List.replicate n (cq q 0))) (row,hd):=by
   rw[List.length_append,List.length_singleton,List.take_succ,KI,List.foldl_append];rfl
  have hlen:(((rows.zip held).take done.length).foldl (Go n j q sg) (List.replicate n (cq q 0))).length=n:=by rw[lx,List.length_replicate]
  generalize ((rows.zip held).take done.length).foldl (Go n j q sg) (List.replicate n (cq q 0))=acc at f ef hlen
  simp only[Tg.put,Tg.EQ,List.set_cons_succ,List.set_cons_zero,cN,br,af,v3,lk,mQ,bN,decide_eq_true_eq]
  by_cases JA:(hd:Int) < (n:Int)
  ·rw[if_pos JA]
   simp only[iB,ac,ag,af,b8,v3,lk,cg,X _ _ B.o,tO,true_and,ak,IS,pa.1,aO]
   have MB:Sz sg:=by rcases hs with rfl|rfl<;>exact bK jh
   refine⟨MB.mul (D.s row HE _ pa.2),EF hq IR ?_⟩
   simp only[eF,f]
   rw[hlen,jI (by omega)]
   refine hK _ _ ⟨X.put GS,?_,_,_,rfl⟩
   rw[aa,ef]
   unfold Go
   rw[if_pos (by show hd < n;omega)]
  ·rw[if_neg JA]
   refine hK _ _ ⟨X,?_,_,_,rfl⟩
   rw[f,ef]
   unfold Go
   rw[if_neg (by show ¬hd < n;omega)]
 ·rintro σ S' ⟨X,f,x5,x6,rfl⟩
  refine hN _ _ ?_
  have ll:(bC (rs.map PV.ref) (hV held)).length=(rows.zip held).length:=by unfold bC hV;simp[B.rl]
  rw[ll,List.take_length]at f
  simp only[aw,v3,lk]
  exact k p1 S' GS X f
noncomputable def jc(d:Nat)(c:Cl):Bool:=decide (c.who=some d)&&c.eff.all fun e=>decide (0<=e)
noncomputable def n6(cs:List Cl)(d:Nat):List Nat:=(cs.zipIdx.filter fun p=>jc d p.1).map (·.2)
noncomputable def EK(cs:List Cl)(d:Nat):Nat:=(n6 cs d).getD 0 0
def pB{cs:List Cl}{d:Nat}(h:∃c∈cs,jc d c=true):∃c,cs[EK cs d]?=some c/\jc d c=true/\n6 cs d≠[]:=by
 obtain⟨c,hc,hf⟩:=h
 obtain⟨i,hi⟩:=List.getElem?_of_mem hc
 have hm:(c,i)∈cs.zipIdx:=by rw[List.mem_zipIdx_iff_getElem?];exact hi
 have hne:n6 cs d≠[]:=fun e=>by
  have:i∈n6 cs d:=List.mem_map.mpr ⟨(c,i),List.mem_filter.mpr ⟨hm,hf⟩,rfl⟩
  rw[e]at this;cases this
 obtain⟨x,r,e⟩:=List.exists_cons_of_ne_nil hne
 have hx:x∈n6 cs d:=by rw[e];simp
 obtain⟨⟨c',i'⟩,hp,rfl⟩:=List.mem_map.mp hx
 obtain⟨h1,h2⟩:=List.mem_filter.mp hp
 rw[List.mem_zipIdx_iff_getElem?]at h1
 refine⟨c',?_,h2,hne⟩
 unfold EK
 rw[e]
 exact h1
def C3(cs:List Cl):L3.ba (cs.map Cl.pv)=cs.zipIdx.map fun p=>PV.tup [.int (p.2:Int),p.1.pv]:=by
 unfold L3.ba
 refine List.ext_getElem? fun i=>?_
 rw[List.getElem?_mapIdx,List.getElem?_map,List.getElem?_map,List.getElem?_zipIdx]
 cases cs[i]?<;>simp
def v9{ns:Vu}{M:Int}(h:L2.zj ns 0 M):decide (0<=M)=ns.all fun e=>decide (0<=e):=by
 rw[Bool.eq_iff_iff,decide_eq_true_eq,List.all_eq_true]
 rcases h with⟨rfl,rfl⟩|⟨h1,h2⟩
 ·exact⟨(fun _ x hx=>by cases hx),fun _=>Int.le_refl _⟩
 ·constructor
  ·intro h x hx
   have:=h2 x hx
   exact decide_eq_true (by omega)
  ·intro h
   exact of_decide_eq_true (h M h1)
abbrev kB(w:aH):Prop:=∀{S:av} {cs:List Cl} {d:Nat} {Q:bH} {E:b9},cs.length<=500->(∃c∈cs,jc d c=true)->(∀S',Ext S S'->Q (.int (EK cs d:Int)) S')->w [.tup (cs.map Cl.pv),.int (d:Int)] S Q E
def Gf:kB (bf 3 bc):=by
 intro S cs d Q E hl hex k
 unfold bc
 refine fb ?_
 rw[show ax 3 [.tup (cs.map Cl.pv),.int (d:Int)]=[some (.tup (cs.map Cl.pv)),some (.int (d:Int)),none] from rfl]
 refine az fun N hN=>?_
 simp only[aq,ar,iZ,v3,lk]
 rw[C3]
 refine gH (fun p:Cl×Nat=>PV.tup [.int (p.2:Int),p.1.pv]) (fun p=>.int (p.2:Int)) (fun p=>jc d p.1) trivial cs.zipIdx [] (fun p hp=>⟨_,rfl,fun K hK=>?_,fun _ Q' q=>?_⟩) (aP (by simp;omega)) ?_
 ·simp only[bQ,List.reduceReplicate,List.map_cons,List.map_nil,List.cons_append,List.nil_append,List.set_cons_zero,List.set_cons_succ,gU,br,af,v3,lk,c3,ak,Cl.pv,lM,A4]
  refine nP ?_
  unfold jc at hK
  by_cases hw:p.1.who=some d
  ·simp only[hw,decide_true,if_true,Bool.true_and]at hK ⊢
   simp only[oY,hG,vP,bN]
   intro M hM
   rw[v9 hM]
   exact hK
  ·simp only[hw,decide_false,Bool.false_eq_true,if_false,Bool.false_and]at hK ⊢
   exact hK
 ·simp only[v3,lk,bQ,List.reduceReplicate,List.map_cons,List.map_nil,List.cons_append,List.nil_append,List.set_cons_zero,List.set_cons_succ]
  exact q
 intro p1 hp1
 have X1:Ext S (Ee S p1 (.lst ([]++(cs.zipIdx.filter fun p=>jc d p.1).map fun p=>PV.int (p.2:Int)))):=.new hp1
 have f1:(Ee S p1 (.lst ([]++(cs.zipIdx.filter fun p=>jc d p.1).map fun p=>PV.int (p.2:Int)))) p1=some (.lst ((n6 cs d).map fun i:Nat=>PV.int (i:Int))):=by rw[aa,List.nil_append];unfold n6;rw[List.map_map];rfl
 generalize Ee S p1 (.lst ([]++(cs.zipIdx.filter fun p=>jc d p.1).map fun p=>PV.int (p.2:Int)))=S1 at X1 f1
 obtain⟨c,_,_,hne⟩:=pB hex
 obtain⟨x,r,e⟩:=List.exists_cons_of_ne_nil hne
 have ex:EK cs d=x:=by unfold EK;rw[e];rfl
 rw[e]at f1
 simp only[List.set_cons_succ,List.set_cons_zero]
 refine hN _ _ ?_
 simp only[aw,af,v3,lk,c3,ak,f1,List.map_cons,lM]
 rw[ex]at k
 exact k S1 X1
structure Dm (rows:List (List Int)) (held:List Nat) (m V:Nat):Prop where
 rl:rows.length=m+1
 hl:held.length=m
 w:∀row∈rows,row.length=V+1
def tP{row ch:Vu}{c:Nat}{q:Int}(h:row.length=ch.length):(lp row ch c q).length=row.length:=by unfold lp;rw[List.length_zipWith];omega
def Dm.F3{rows:List (List Int)}{held:List Nat}{m V r c:Nat}{q:Int}(h:Dm rows held m V)(hr:r<=m):Dm (iM rows r c q) (held.set r c) m V:=by
 have h1:=h.rl
 obtain⟨ch,hch⟩:∃ch,rows[r]?=some ch:=⟨_,List.getElem?_eq_getElem (by omega)⟩
 have Je:=aC (d:=[]) hch
 have Jy:=h.w ch (List.mem_of_getElem? hch)
 refine⟨by unfold iM;rw[List.length_set,List.length_map,h1],by rw[List.length_set,h.hl],fun row hm=>?_⟩
 unfold iM at hm
 rw[Je]at hm
 rcases List.mem_or_eq_of_mem_set hm with hm|rfl
 ·obtain⟨Ie,h0,rfl⟩:=List.mem_map.mp hm
  rw[tP (by rw[h.w Ie h0,Jy]),h.w Ie h0]
 ·exact Jy
def qT(row ch:Vu)(c:Nat)(q:Int)(h:row.length=ch.length)(j:Nat):(lp row ch c q).getD j 0=(row.getD j 0 * ch.getD c 0 - row.getD c 0 * ch.getD j 0).fdiv q:=by
 unfold lp
 rw[List.getD_eq_getElem?_getD (l:=List.zipWith _ _ _),List.getElem?_zipWith]
 by_cases hj:j < row.length
 ·have e1:=List.getElem?_eq_getElem hj
  have e2:=List.getElem?_eq_getElem (show j < ch.length by omega)
  rw[e1,e2,aC e1,aC e2]
  rfl
 ·have e1:row[j]?=none:=List.getElem?_eq_none (by omega)
  have e2:ch[j]?=none:=List.getElem?_eq_none (by omega)
  rw[e1,List.getD_eq_getElem?_getD (i:=j),e1,List.getD_eq_getElem?_getD (i:=j),e2]
  simp
def ly{rows:List (List Int)}{held:List Nat}{m V r c:Nat}{q:Int}(h:Dm rows held m V)(hr:r < m):toS (iM rows r c q) (held.set r c) ((rows.getD r []).getD c 0)=Wg.F3 (toS rows held q) r c:=by
 have h1:=h.rl
 have h2:=h.hl
 obtain⟨ch,hch⟩:∃ch,rows[r]?=some ch:=⟨_,List.getElem?_eq_getElem (by omega)⟩
 have Je:=aC (d:=[]) hch
 have Jy:=h.w ch (List.mem_of_getElem? hch)
 have eT:(toS (iM rows r c q) (held.set r c) ((rows.getD r []).getD c 0)).T=(Wg.F3 (toS rows held q) r c).T:=by
  funext i j
  show((iM rows r c q).getD i []).getD j 0=if i=r then (rows.getD r []).getD j 0 else ((rows.getD i []).getD j 0 * (rows.getD r []).getD c 0 - (rows.getD i []).getD c 0 * (rows.getD r []).getD j 0).fdiv q
  unfold iM
  rw[Je,List.getD_eq_getElem?_getD (l:=List.set _ _ _),List.getElem?_set]
  by_cases e:i=r
  ·subst e
   rw[if_pos rfl,if_pos rfl,if_pos (by rw[List.length_map];omega)];rfl
  ·rw[if_neg (Ne.symm e),if_neg e,List.getElem?_map]
   by_cases hi:i < rows.length
   ·have ei:=List.getElem?_eq_getElem hi
    rw[ei,aC ei]
    show(lp rows[i] ch c q).getD j 0=_
    rw[qT _ _ _ _ (by rw[h.w _ (List.getElem_mem hi),Jy])]
   ·have ei:rows[i]?=none:=List.getElem?_eq_none (by omega)
    rw[ei,List.getD_eq_getElem?_getD (l:=rows),ei]
    simp
 have eH:(toS (iM rows r c q) (held.set r c) ((rows.getD r []).getD c 0)).held=(Wg.F3 (toS rows held q) r c).held:=by
  funext i
  show(held.set r c).getD i 0=if i=r then c else held.getD i 0
  rw[List.getD_eq_getElem?_getD,List.getElem?_set]
  by_cases e:i=r
  ·subst e;rw[if_pos rfl,if_pos rfl,if_pos (by omega)];rfl
  ·rw[if_neg (Ne.symm e),if_neg e,List.getD_eq_getElem?_getD]
 have eq:∀x y:Wg.Sx,x.T=y.T->x.held=y.held->x.q=y.q->x=y:=fun x y a b c=>by cases x;cases y;cases a;cases b;cases c;rfl
 exact eq _ _ eT eH rfl
structure bW (cs:List Cl) (mix:Vu) (k:Nat):Prop where
 n1:1<=cs.length
 n2:cs.length<=100
 k1:k<=8
 d1:mix.length<=8
 ef:∀c∈cs,c.eff.length=k
 eb:∀c∈cs,∀e∈c.eff,e.natAbs<=2 ^ 30
 lo:∀c∈cs,M3.yx c.x (c.y:Int)
 x0:∀c∈cs,0<=c.x/\c.x<=2 ^ 30
 yd:∀c∈cs,0 < c.y/\c.y ∣ 2520
 wd:∀c∈cs,∀d,c.who=some d->d < mix.length
 fx:∀d,d < mix.length->∃c∈cs,jc d c=true
 m0:∀x∈mix,0<=x/\x<=2 ^ 30
noncomputable def cbO(cs:List Cl):Nat:=qS 1 (cs.map (·.y))
noncomputable def dq(cs:List Cl)(mix:Vu)(k:Nat):List (List Int):=(List.range mix.length).map (iJ cs k mix)++(List.range k).map (iK cs k)++[nQ cs k (cbO cs)]
noncomputable def d4(cs:List Cl)(mix:Vu)(k:Nat):List Nat:=(List.range (mix.length+k)).map fun i=>cs.length+i - mix.length
noncomputable def qU(cs:List Cl)(mix:Vu)(k:Nat):Nat->List (List Int)
 |0=>dq cs mix k
 |d+1=>iM (qU cs mix k d) d (EK cs d) 1
noncomputable def rm(cs:List Cl)(mix:Vu)(k:Nat):Nat->List Nat
 |0=>d4 cs mix k
 |d+1=>(rm cs mix k d).set d (EK cs d)
noncomputable def Ao(cs:List Cl)(mix:Vu)(k:Nat)(i j:Nat):Int:=((dq cs mix k).getD i []).getD j 0
section
variable {cs:List Cl} {mix:Vu} {k:Nat}
def C4{d:Nat}(h:d < mix.length):(dq cs mix k)[d]?=some (iJ cs k mix d):=by
 unfold dq
 rw[List.getElem?_append_left (by simp;omega),List.getElem?_append_left (by simp;omega),List.getElem?_map,List.getElem?_range h];rfl
def C6{t:Nat}(h:t < k):(dq cs mix k)[mix.length+t]?=some (iK cs k t):=by
 unfold dq
 rw[List.getElem?_append_left (by simp;omega),List.getElem?_append_right (by simp),List.length_map,List.length_range,Nat.add_sub_cancel_left,List.getElem?_map,List.getElem?_range h];rfl
def C8:(dq cs mix k)[mix.length+k]?=some (nQ cs k (cbO cs)):=by
 unfold dq
 rw[List.getElem?_append_right (by simp)]
 simp
def C9{d j:Nat}(h:d < mix.length):Ao cs mix k d j=(iJ cs k mix d).getD j 0:=by unfold Ao;rw[aC (C4 h)]
def C_{t j:Nat}(h:t < k):Ao cs mix k (mix.length+t) j=(iK cs k t).getD j 0:=by unfold Ao;rw[aC (C6 h)]
def Ds{j:Nat}:Ao cs mix k (mix.length+k) j=(nQ cs k (cbO cs)).getD j 0:=by unfold Ao;rw[aC C8]
def n9{xs ys:Vu}{j:Nat}(h:j < xs.length):(xs++ys).getD j 0=xs.getD j 0:=by rw[List.getD_eq_getElem?_getD,List.getElem?_append_left h,List.getD_eq_getElem?_getD]
def tQ{xs ys:Vu}{j n:Nat}(h:xs.length=n):(xs++ys).getD (n+j) 0=ys.getD j 0:=by rw[List.getD_eq_getElem?_getD,List.getElem?_append_right (by omega),List.getD_eq_getElem?_getD,show n+j - xs.length=j by omega]
def cQ{f:Cl->Int}{j:Nat}{c:Cl}(h:cs[j]?=some c):(cs.map f).getD j 0=f c:=aC (by rw[List.getElem?_map,h];rfl)
def qV{d j:Nat}(h:d < mix.length){c:Cl}(hc:cs[j]?=some c):Ao cs mix k d j=w1 d c:=by
 have hj:=(List.getElem?_eq_some_iff.mp hc).1
 rw[C9 h];unfold iJ
 rw[n9 (by simp;omega),n9 (by simp;exact hj),cQ hc]
def v_{d t:Nat}(h:d < mix.length)(ht:t < k):Ao cs mix k d (cs.length+t)=0:=by
 rw[C9 h];unfold iJ
 rw[n9 (by simp;omega),tQ (by simp)]
 rw[List.getD_eq_getElem?_getD,List.getElem?_replicate];split<;>rfl
def tR{d:Nat}(h:d < mix.length):Ao cs mix k d (cs.length+k)=mix.getD d 0:=by
 rw[C9 h];unfold iJ
 have:=tQ (xs:=cs.map (w1 d)++List.replicate k 0) (ys:=[mix.getD d 0]) (j:=0) (n:=cs.length+k) (by simp)
 rw[Nat.add_zero]at this
 rw[this];rfl
def wa{t j:Nat}(h:t < k){c:Cl}(hc:cs[j]?=some c):Ao cs mix k (mix.length+t) j = - c.eff.getD t 0:=by
 have hj:=(List.getElem?_eq_some_iff.mp hc).1
 rw[C_ h];unfold iK
 rw[n9 (by simp;omega),n9 (by simp;exact hj),cQ hc]
def qW{t u:Nat}(h:t < k)(hu:u < k):Ao cs mix k (mix.length+t) (cs.length+u)=if u=t then 1 else 0:=by
 rw[C_ h];unfold iK
 rw[n9 (by simp;omega),tQ (by simp)]
 exact aC (by rw[List.getElem?_map,List.getElem?_range hu];rfl)
def wb{t:Nat}(h:t < k):Ao cs mix k (mix.length+t) (cs.length+k)=0:=by
 rw[C_ h];unfold iK
 have:=tQ (xs:=cs.map (fun c=>- c.eff.getD t 0)++(List.range k).map (fun o=>if o=t then (1:Int) else 0)) (ys:=[0]) (j:=0) (n:=cs.length+k) (by simp)
 rw[Nat.add_zero]at this
 rw[this];rfl
def zt{j:Nat}{c:Cl}(hc:cs[j]?=some c):Ao cs mix k (mix.length+k) j = - c.x * ((cbO cs / c.y:Nat):Int):=by
 have hj:=(List.getElem?_eq_some_iff.mp hc).1
 rw[Ds];unfold nQ
 rw[n9 (by simp;exact hj),cQ hc]
def n_{t:Nat}(ht:t<=k):Ao cs mix k (mix.length+k) (cs.length+t)=0:=by
 rw[Ds];unfold nQ
 rw[tQ (by simp),List.getD_eq_getElem?_getD,List.getElem?_replicate];split<;>rfl
end
section
variable {cs:List Cl} {mix:Vu} {k:Nat}
def zu:∀(hs:List Nat) (n:Nat),hs.Nodup->(∀z∈hs,z < n)->hs.length<=n:=by
 intro hs n hn hl
 have:∀(n:Nat) (hs:List Nat),hs.Nodup->(∀z∈hs,z < n)->hs.length<=n:=by
  intro n
  induction n with
  |zero=>intro hs _ h;cases hs with|nil=>exact Nat.le_refl _|cons a r=>exact absurd (h a (by simp)) (Nat.not_lt_zero _)
  |succ n ih=>
   intro hs hn h
   have h1:=ih (hs.erase n) (hn.erase n) fun z hz=>by
    have h2:=(List.Nodup.mem_erase_iff hn).mp hz
    have:=h z h2.2
    have:=h2.1
    omega
   have:=List.length_erase_le (a:=n) (l:=hs)
   by_cases hm:n∈hs
   ·rw[List.length_erase_of_mem hm]at h1;omega
   ·rw[List.erase_of_not_mem hm]at h1;omega
 exact this n hs hn hl
def dg(P:bW cs mix k){d:Nat}(hd:d < mix.length):∃c,cs[EK cs d]?=some c/\c∈cs/\c.who=some d/\(∀e∈c.eff,0<=e)/\EK cs d < cs.length:=by
 obtain⟨c,hc,hf,_⟩:=pB (P.fx d hd)
 unfold jc at hf
 rw[Bool.and_eq_true,decide_eq_true_eq,List.all_eq_true]at hf
 exact⟨c,hc,List.mem_of_getElem? hc,hf.1,fun e he=>of_decide_eq_true (hf.2 e he),(List.getElem?_eq_some_iff.mp hc).1⟩
def mE(P:bW cs mix k):mix.length<=cs.length:=by
 have:=zu ((List.range mix.length).map (EK cs)) cs.length (by
  refine List.pairwise_map.mpr (List.Pairwise.imp_of_mem (fun{a b} ha hb hne e=>hne ?_) (List.nodup_range (n:=mix.length)))
  obtain⟨c,h1,_,h2,_⟩:=dg P (List.mem_range.mp ha)
  obtain⟨c',h3,_,h4,_⟩:=dg P (List.mem_range.mp hb)
  rw[e,h3]at h1
  cases h1
  rw[h2]at h4
  exact Option.some.inj h4) (fun z hz=>by
  obtain⟨d,hd,rfl⟩:=List.mem_map.mp hz
  obtain⟨_,_,_,_,_,h⟩:=dg P (List.mem_range.mp hd)
  exact h)
 rw[List.length_map,List.length_range]at this
 exact this
def Dt(P:bW cs mix k):Dm (dq cs mix k) (d4 cs mix k) (mix.length+k) (cs.length+k):=by
 refine⟨by simp[dq];omega,by simp[d4],fun row hm=>?_⟩
 unfold dq at hm
 rw[List.mem_append,List.mem_append,List.mem_map,List.mem_map,List.mem_singleton]at hm
 rcases hm with(⟨d,_,rfl⟩|⟨t,_,rfl⟩)|rfl
 ·simp[iJ];omega
 ·simp[iK];omega
 ·simp[nQ];omega
theorem Bj(P:bW cs mix k):∀d,d<=mix.length->Dm (qU cs mix k d) (rm cs mix k d) (mix.length+k) (cs.length+k)
 |0,_=>Dt P
 |d+1,h=>(Bj P d (by omega)).F3 (by omega)
noncomputable def bb(cs:List Cl)(mix:Vu)(k d:Nat)(i:Nat):Wg.Vc:=if i < d then Wg.cl (Ao cs mix k) (EK cs i) else Wg.eu i
noncomputable def Ts(cs:List Cl)(mix:Vu)(k d i j:Nat):Int:=((qU cs mix k d).getD i []).getD j 0
def Tab.bnd{m N:Nat}{A T:Nat->Nat->Int}{b:Nat->Wg.Vc}{q:Int}{C:Nat}(h:Wg.Tab m N A T b q)(hA:∀i j,i<=m->j < N->(A i j).natAbs<=C)(hb:∀i kk,i<=m->kk<=m->(b i kk).natAbs<=C):∀i j,i<=m->j < N->(T i j).natAbs<=Wg.Kb C (m+1):=fun i j hi hj=>by
 rw[h.ent hi hj]
 refine Wg.lw C _ _ fun l kk hl hk=>?_
 by_cases e:l=i
 ·subst e;rw[Wg.aG];exact hA kk j (by omega) hj
 ·rw[Wg.aX e];exact hb l kk (by omega) (by omega)
structure B9 (cs:List Cl) (mix:Vu) (k d:Nat):Prop where
 tab:Wg.Tab (mix.length+k) (cs.length+k+1) (Ao cs mix k) (Ts cs mix k d) (bb cs mix k d) 1
 F0:∀i j,i < mix.length->Ts cs mix k d i j=Ao cs mix k i j
 Iq:∀t j,t < k->Ts cs mix k d (mix.length+t) j=Ao cs mix k (mix.length+t) j+Wg.sm d fun e=>(cs.getD (EK cs e) ⟨none,0,1,[]⟩).eff.getD t 0 * Ao cs mix k e j
def pC(P:bW cs mix k){d e:Nat}(hd:d < mix.length)(he:e < mix.length):Ao cs mix k e (EK cs d)=if e=d then 1 else 0:=by
 obtain⟨c,h1,_,h2,_⟩:=dg P hd
 rw[qV he h1]
 unfold w1
 rw[h2]
 by_cases h:e=d
 ·subst h;rw[if_pos rfl,if_pos rfl]
 ·rw[if_neg h,if_neg fun h'=>h (Option.some.inj h').symm]
def Db(P:bW cs mix k):B9 cs mix k 0 where
 tab:=⟨fun j kk hj hk=>by
   rw[Int.one_mul,Wg.bp (i:=kk) (by omega)]
   ·show _=Ao cs mix k kk j * bb cs mix k 0 kk kk
    unfold bb Wg.eu
    simp
   ·intro l hl hne
    unfold bb Wg.eu
    simp[Ne.symm hne],Wg.w4 _ _ fun i kk hi hk=>by unfold bb;rw[if_neg (Nat.not_lt_zero _)],by decide,fun kk=>by unfold bb;rw[if_neg (Nat.not_lt_zero _)]⟩
 F0:=fun i j h=>rfl
 Iq:=fun t j h=>by show Ao cs mix k (mix.length+t) j=_+0;rw[Int.add_zero]
def tS(P:bW cs mix k){d:Nat}(hd:d < mix.length)(h:B9 cs mix k d):B9 cs mix k (d+1):=by
 have D:=Bj P d (by omega)
 obtain⟨c,hc,hcm,hw,he,hlt⟩:=dg P hd
 have p1:Ts cs mix k d d (EK cs d)=1:=by rw[h.F0 d _ hd,pC P hd hd,if_pos rfl]
 have q1:((qU cs mix k d).getD d []).getD (EK cs d) 0=1:=p1
 have eS:=ly (q:=1) (c:=EK cs d) D (show d < mix.length+k by omega)
 have eT:∀i j,Ts cs mix k (d+1) i j=if i=d then Ts cs mix k d d j else (Ts cs mix k d i j * Ts cs mix k d d (EK cs d) - Ts cs mix k d i (EK cs d) * Ts cs mix k d d j).fdiv 1:=fun i j=>by
  have:=congrFun (congrFun (congrArg Wg.Sx.T eS) i) j
  exact this
 have Ln:∀i j,i≠d->Ts cs mix k (d+1) i j=Ts cs mix k d i j - Ts cs mix k d i (EK cs d) * Ao cs mix k d j:=fun i j hne=>by
  rw[eT i j,if_neg hne,p1,Int.mul_one,h.F0 d j hd,Int.fdiv_one]
 have Lo:∀j,Ts cs mix k (d+1) d j=Ts cs mix k d d j:=fun j=>by rw[eT d j,if_pos rfl]
 obtain⟨_,tb⟩:=h.tab.F3 (r:=d) (c:=EK cs d) (T2:=Ts cs mix k (d+1)) (by omega) (by omega) (by rw[p1];decide) (fun j _=>Lo j) (fun i j _ hne _=>by rw[eT i j,if_neg hne])
 refine⟨?_,fun i j hi=>?_,fun t j ht=>?_⟩
 ·rw[p1]at tb
  have eb:Wg.ud (bb cs mix k d) d (Wg.cl (Ao cs mix k) (EK cs d))=bb cs mix k (d+1):=by
   funext i
   unfold Wg.ud bb
   by_cases e:i=d
   ·subst e;rw[if_pos rfl,if_pos (by omega)]
   ·rw[if_neg e]
    by_cases h2:i < d
    ·rw[if_pos h2,if_pos (by omega)]
    ·rw[if_neg h2,if_neg (by omega)]
  rw[eb]at tb
  exact tb
 ·by_cases e:i=d
  ·subst e;rw[Lo];exact h.F0 i j hi
  ·rw[Ln i j e,h.F0 i j hi,h.F0 i _ hi,pC P hd hi,if_neg e,Int.zero_mul,Int.sub_zero]
 ·rw[Ln _ j (by omega),h.Iq t j ht,h.Iq t _ ht,wa ht hc]
  have z:Wg.sm d (fun e=>(cs.getD (EK cs e) ⟨none,0,1,[]⟩).eff.getD t 0 * Ao cs mix k e (EK cs d))=0:=Wg.bi (fun e he'=>by rw[pC P hd (show e < mix.length by omega),if_neg (by omega),Int.mul_zero])
  rw[z]
  simp only[Wg.sm]
  rw[show cs.getD (EK cs d) ⟨none,0,1,[]⟩=c from aC hc,Int.add_zero,Int.neg_mul]
  omega
theorem wc(P:bW cs mix k):∀d,d<=mix.length->B9 cs mix k d
 |0,_=>Db P
 |d+1,h=>tS P (by omega) (wc P d (by omega))
noncomputable def Cb:Nat:=2 ^ 42
def pD(P:bW cs mix k):∀i j,i<=mix.length+k->j<=cs.length+k->(Ao cs mix k i j).natAbs<=Cb:=by
 intro i j hi hj
 have col:j < cs.length->∃c,cs[j]?=some c/\c∈cs:=fun h=>⟨_,List.getElem?_eq_getElem h,List.getElem_mem h⟩
 have one:(1:Int).natAbs<=Cb:=by decide
 have nought:(0:Int).natAbs<=Cb:=by decide
 have big:(2:Nat) ^ 30<=Cb:=by decide
 have sp:j < cs.length\/(∃t,t < k/\j=cs.length+t)\/j=cs.length+k:=by
  by_cases h1:j < cs.length
  ·exact .inl h1
  ·by_cases h2:j=cs.length+k
   ·exact .inr (.inr h2)
   ·exact .inr (.inl ⟨j - cs.length,by omega,by omega⟩)
 by_cases h1:i < mix.length
 ·rcases sp with h|⟨t,ht,rfl⟩|rfl
  ·obtain⟨c,hc,_⟩:=col h
   rw[qV h1 hc];unfold w1;split
   ·exact one
   ·exact nought
  ·rw[v_ h1 ht];exact nought
  ·rw[tR h1]
   have e:=List.getElem?_eq_getElem h1
   rw[aC e]
   have:=P.m0 _ (List.getElem_mem h1)
   omega
 ·by_cases h2:i=mix.length+k
  ·subst h2
   rcases sp with h|⟨t,ht,rfl⟩|rfl
   ·obtain⟨c,hc,hm⟩:=col h
    rw[zt hc]
    have x0:=P.x0 c hm
    have ok:=jG 2520 (by decide) (cs.map (·.y)) 1 (by decide) (Nat.one_dvd _) fun y hy=>by obtain⟨c,h,rfl⟩:=List.mem_map.mp hy;exact P.yd c h
    have l1:cbO cs<=2520:=iI ok.2.1
    have l2:cbO cs / c.y<=2520:=Nat.le_trans (Nat.div_le_self _ _) l1
    rw[Int.natAbs_mul]
    have a1:(-c.x).natAbs<=2 ^ 30:=by omega
    have a2:(((cbO cs / c.y:Nat):Int)).natAbs<=2 ^ 12:=by rw[Int.natAbs_natCast];exact Nat.le_trans l2 (by decide)
    exact Nat.le_trans (Nat.mul_le_mul a1 a2) (by decide)
   ·rw[n_ (by omega)];exact nought
   ·rw[n_ (Nat.le_refl _)];exact nought
  ·obtain⟨u,hu,rfl⟩:∃u,u < k/\i=mix.length+u:=⟨i - mix.length,by omega,by omega⟩
   rcases sp with h|⟨t,ht,rfl⟩|rfl
   ·obtain⟨c,hc,hm⟩:=col h
    rw[wa hu hc,Int.natAbs_neg]
    have hl:u < c.eff.length:=by rw[P.ef c hm];exact hu
    rw[aC (List.getElem?_eq_getElem hl)]
    exact Nat.le_trans (P.eb c hm _ (List.getElem_mem hl)) big
   ·rw[qW hu ht];split
    ·exact one
    ·exact nought
   ·rw[wb hu];exact nought
def tT:∀m,m<=16->Wg.Kb Cb (m+1) < dS:=by
 have:∀m,m<=17->Wg.Kb Cb m<=2 ^ (50 * m):=by
  intro m
  induction m with
  |zero=>intro _;exact Nat.le_refl _
  |succ m ih=>
   intro h
   show(m+1) * (Cb * Wg.Kb Cb m)<=2 ^ (50 * (m+1))
   have h1:=ih (by omega)
   have e:(2:Nat) ^ (50 * (m+1))=2 ^ 8 * (2 ^ 42 * 2 ^ (50 * m)):=by rw[<-Nat.pow_add,<-Nat.pow_add];congr 1;omega
   rw[e]
   exact Nat.mul_le_mul (by omega) (Nat.mul_le_mul (Nat.le_refl _) h1)
 intro m hm
 refine Nat.lt_of_le_of_lt (this (m+1) (by omega)) ?_
 unfold dS
 exact Nat.pow_lt_pow_right (by decide) (by omega)
def zv(P:bW cs mix k){d:Nat}(hd:d<=mix.length):∀i kk,i<=mix.length+k->kk<=mix.length+k->(bb cs mix k d i kk).natAbs<=Cb:=fun i kk hi hk=>by
 unfold bb
 split
 ·rename_i h
  obtain⟨_,_,_,_,_,hlt⟩:=dg P (show i < mix.length by omega)
  exact pD P kk _ hk (by omega)
 ·unfold Wg.eu;split<;>decide
def tU{rows:List (List Int)}{held:List Nat}{m V:Nat}(D:Dm rows held m V)(hm:m<=16)(hv:V<=400)(hb:∀i j,i<=m->j<=V->((rows.getD i []).getD j 0).natAbs < dS):Dim rows held m V:=by
 refine⟨D.rl,D.hl,D.w,by omega,hv,fun row hr x hx=>?_⟩
 obtain⟨i,hi⟩:=List.getElem?_of_mem hr
 obtain⟨j,hj⟩:=List.getElem?_of_mem hx
 have h1:=(List.getElem?_eq_some_iff.mp hi).1
 have h2:=(List.getElem?_eq_some_iff.mp hj).1
 have:=hb i j (by rw[D.rl]at h1;omega) (by rw[D.w row hr]at h2;omega)
 rw[aC hi,aC hj]at this
 exact bK (by omega)
def Dc(P:bW cs mix k){d:Nat}(hd:d<=mix.length):Dim (qU cs mix k d) (rm cs mix k d) (mix.length+k) (cs.length+k):=by
 have a:=P.k1;have b:=P.d1;have c:=P.n2
 refine tU (Bj P d hd) (by omega) (by omega) fun i j hi hj=>?_
 refine Nat.lt_of_le_of_lt (Tab.bnd (wc P d hd).tab (C:=Cb) (fun i j hi hj=>pD P i j hi (by omega)) (zv P hd) i j hi (by omega)) (tT _ (by omega))
theorem tV(P:bW cs mix k):∀d,d<=mix.length->∀i,i < mix.length+k->(rm cs mix k d).getD i 0=if i < d then EK cs i else cs.length+i - mix.length
 |0,_,i,hi=>by
  rw[if_neg (Nat.not_lt_zero _)]
  show(d4 cs mix k).getD i 0=_
  unfold d4
  exact aC (by rw[List.getElem?_map,List.getElem?_range hi];rfl)
 |d+1,h,i,hi=>by
  show((rm cs mix k d).set d (EK cs d)).getD i 0=_
  have hl:=(Bj P d (by omega)).hl
  have ih:=tV P d (by omega) i hi
  rw[List.getD_eq_getElem?_getD,List.getElem?_set]
  by_cases e:i=d
  ·subst e;rw[if_pos rfl,if_pos (by omega),if_pos (by omega)];rfl
  ·rw[if_neg (Ne.symm e),<-List.getD_eq_getElem?_getD,ih]
   by_cases h2:i < d
   ·rw[if_pos h2,if_pos (by omega)]
   ·rw[if_neg h2,if_neg (by omega)]
def Dd(P:bW cs mix k):Wg.Val (mix.length+k) (cs.length+k) (Ao cs mix k) (toS (qU cs mix k mix.length) (rm cs mix k mix.length) 1) (bb cs mix k mix.length):=by
 have I:=wc P mix.length (Nat.le_refl _)
 have hn:=mE P
 have hh:∀i,i < mix.length+k->(toS (qU cs mix k mix.length) (rm cs mix k mix.length) 1).held i=if i < mix.length then EK cs i else cs.length+i - mix.length:=fun i hi=>tV P _ (Nat.le_refl _) i hi
 refine⟨I.tab,fun i hi=>?_,fun i kk hi hk=>?_,fun i hi=>?_⟩
 ·rw[hh i hi]
  split
  ·rename_i h
   obtain⟨_,_,_,_,_,hlt⟩:=dg P h
   omega
  ·omega
 ·rw[hh i hi]
  unfold bb
  by_cases h:i < mix.length
  ·rw[if_pos h,if_pos h];rfl
  ·rw[if_neg h,if_neg h]
   obtain⟨t,ht,rfl⟩:∃t,t < k/\i=mix.length+t:=⟨i - mix.length,by omega,by omega⟩
   rw[show cs.length+(mix.length+t) - mix.length=cs.length+t by omega]
   unfold Wg.eu
   by_cases h1:kk < mix.length
   ·rw[v_ h1 ht,if_neg (by omega)]
   ·by_cases h2:kk=mix.length+k
    ·rw[h2,n_ (by omega),if_neg (by omega)]
    ·obtain⟨u,hu,rfl⟩:∃u,u < k/\kk=mix.length+u:=⟨kk - mix.length,by omega,by omega⟩
     rw[qW hu ht]
     by_cases h3:t=u
     ·rw[if_pos h3,if_pos (by omega)]
     ·rw[if_neg h3,if_neg (by omega)]
 ·show 0<=Ts cs mix k mix.length i (cs.length+k)
  by_cases h:i < mix.length
  ·rw[I.F0 i _ h,tR h,aC (List.getElem?_eq_getElem h)]
   exact(P.m0 _ (List.getElem_mem h)).1
  ·obtain⟨t,ht,rfl⟩:∃t,t < k/\i=mix.length+t:=⟨i - mix.length,by omega,by omega⟩
   rw[I.Iq t _ ht,wb ht,Int.zero_add]
   refine Wg.d3 fun e he=>?_
   obtain⟨c,hc,hm,_,hpos,_⟩:=dg P he
   rw[aC hc,tR he,aC (List.getElem?_eq_getElem he)]
   have hl:t < c.eff.length:=by rw[P.ef c hm];exact ht
   rw[aC (List.getElem?_eq_getElem hl)]
   exact Int.mul_nonneg (hpos _ (List.getElem_mem hl)) (P.m0 _ (List.getElem_mem he)).1
end
abbrev mF(w:aH):Prop:=∀{S:av} {x R H:Addr} {Q:bH} {E:b9},S x=some (.ins "Balance" [])->(∀S',S' x=some (.ins "Balance" (bF R H 1))->(∀b o,S b=some o->b≠x->S' b=some o)->Q .non S')->w [.ref x,.ref R,.ref H] S Q E
def GH:mF (bf 3 cx):=by
 intro S x R H Q E h k
 unfold cx
 refine fb ?_
 rw[show ax 3 [PV.ref x,.ref R,.ref H]=[some (.ref x),some (.ref R),some (.ref H)] from rfl]
 refine az fun N hN=>?_
 simp only[fB,v3,lk,cg,h,true_and]
 refine⟨by simp,hN _ _ (az fun N hN=>?_)⟩
 have h1:(Ee S x (.ins "Balance" (putF3 ("rows":Str) (.ref R) []))) x=some (.ins "Balance" [("rows",.ref R)]):=aa
 have k1:∀b o,S b=some o->b≠x->(Ee S x (.ins "Balance" (putF3 ("rows":Str) (.ref R) []))) b=some o:=fun b o hb hn=>by rw[al hn];exact hb
 generalize Ee S x (.ins "Balance" (putF3 ("rows":Str) (.ref R) []))=S1 at h1 k1
 simp only[fB,v3,lk,cg,h1,true_and]
 refine⟨by simp,hN _ _ ?_⟩
 have p2:putF3 ("held":Str) (.ref H) [(("rows":Str),PV.ref R)]=[(("rows":Str),PV.ref R),(("held":Str),PV.ref H)]:=by simp[putF3,cV]
 rw[p2]
 have h2:(Ee S1 x (.ins "Balance" [("rows",.ref R),("held",.ref H)])) x=some (.ins "Balance" [("rows",.ref R),("held",.ref H)]):=aa
 have k2:∀b o,S1 b=some o->b≠x->(Ee S1 x (.ins "Balance" [("rows",.ref R),("held",.ref H)])) b=some o:=fun b o hb hn=>by rw[al hn];exact hb
 generalize Ee S1 x (.ins "Balance" [("rows",.ref R),("held",.ref H)])=S2 at h2 k2
 simp only[fB,v3,lk,c3,cg,h2,true_and]
 refine⟨by simp,?_⟩
 have p3:putF3 ("bottom":Str) (.int 1) [(("rows":Str),PV.ref R),(("held":Str),PV.ref H)]=bF R H 1:=by simp[putF3,cV,bF]
 rw[p3]
 exact k _ aa fun b o hb hn=>by rw[al hn];exact k2 _ _ (k1 _ _ hb hn) hn
structure News (S S':av) (ns:List Addr) (rows:List (List Int)):Prop where
 l:ns.length=rows.length
 x:Ext S S'
 f:∀n∈ns,S n=none
 r:∀(i:Nat) n row,ns[i]?=some n->rows[i]?=some row->S' n=some (.lst (row.map PV.int))
def News.snoc{S S1 S2:av}{ns:List Addr}{rows:List (List Int)}{p:Addr}{row:Vu}(h:News S S1 ns rows)(hp:S1 p=none)(X:Ext S1 S2)(f:S2 p=some (.lst (row.map PV.int))):News S S2 (ns++[p]) (rows++[row]):=by
 refine⟨by simp[h.l],h.x.trans X,fun n hn=>?_,fun i n rw' hn hr=>?_⟩
 ·rcases List.mem_append.mp hn with h'|h'
  ·exact h.f n h'
  ·rw[List.mem_singleton.mp h'];exact h.x.free hp
 ·by_cases hi:i < ns.length
  ·rw[List.getElem?_append_left hi]at hn
   rw[List.getElem?_append_left (by rw[<-h.l];exact hi)]at hr
   exact X _ _ (h.r i n rw' hn hr)
  ·rw[List.getElem?_append_right (by omega)]at hn
   rw[List.getElem?_append_right (by rw[<-h.l];omega)]at hr
   have e0:i - ns.length=0:=by have:=(List.getElem?_eq_some_iff.mp hn).1;rw[List.length_singleton]at this;omega
   rw[e0]at hn
   rw[<-h.l,e0]at hr
   cases hn;cases hr
   exact f
def News.ext{S S1 S2:av}{ns:List Addr}{rows:List (List Int)}(h:News S S1 ns rows)(X:Ext S1 S2):News S S2 ns rows:=⟨h.l,h.x.trans X,h.f,fun i n row a b=>X _ _ (h.r i n row a b)⟩
def News.both{S S1 S2:av}{ns ms:List Addr}{rows JB:List (List Int)}(h:News S S1 ns rows)(g:News S1 S2 ms JB):News S S2 (ns++ms) (rows++JB):=by
 refine⟨by simp[h.l,g.l],h.x.trans g.x,fun n hn=>?_,fun i n row hn hr=>?_⟩
 ·rcases List.mem_append.mp hn with h'|h'
  ·exact h.f n h'
  ·exact h.x.free (g.f n h')
 ·by_cases hi:i < ns.length
  ·rw[List.getElem?_append_left hi]at hn
   rw[List.getElem?_append_left (by rw[<-h.l];exact hi)]at hr
   exact g.x _ _ (h.r i n row hn hr)
  ·rw[List.getElem?_append_right (by omega)]at hn
   rw[List.getElem?_append_right (by rw[<-h.l];omega)]at hr
   rw[<-h.l]at hr
   exact g.r _ n row hn hr
def jK{f:Nat->List Int}{n i:Nat}(h:i < n):((List.range n).map f).take (i+1)=((List.range n).map f).take i++[f i]:=by
 rw[List.take_succ,List.getElem?_map,List.getElem?_range h];rfl
def iN{α:Type}{f:Nat->α}{n:Nat}:((List.range n).map f).take n=(List.range n).map f:=List.take_of_length_le (by simp)
abbrev iO(w:aH):Prop:=∀{S:av} {cs:List Cl} {mix:Vu} {k:Nat} {Q:bH} {E:b9},bW cs mix k->
 (∀S' a R H rs,S a=none->S H=none->Ext S S'->BalAt S' a R H rs (qU cs mix k mix.length) (rm cs mix k mix.length) 1->Q (.ref a) S')->w [.tup (cs.map Cl.pv),.int (k:Int),.tup (mix.map PV.int)] S Q E
def tW{x0 x1 x2 x3 x4 x5:aH}(GQ:lm x0)(GB:mv x1)(GC:mx x2)(GH:mF x3)(FS:hW x4)(Gf:kB x5):iO (bf 8 (eK x0 x1 x2 x3 x4 x5)):=by
 intro S cs mix k Q E P kk
 unfold eK
 refine fb ?_
 rw[show ax 8 [.tup (cs.map Cl.pv),.int (k:Int),.tup (mix.map PV.int)]=[some (.tup (cs.map Cl.pv)),some (.int (k:Int)),some (.tup (mix.map PV.int)),none,none,none,none,none] from rfl]
 have n2:=P.n2;have k1:=P.k1;have d1:=P.d1;have dn:=mE P
 refine az fun N hN=>?_
 simp only[aq,ac,ag,ar,aF,v3,lk,bE]
 refine aW Cl.pv dF trivial cs [] (fun c hc=>⟨_,rfl,fun Q' q=>?_⟩) (aP (by simp;omega)) ?_
 ·simp only[bQ,List.reduceReplicate,List.map_nil,List.append_nil,List.set_cons_zero,af,v3,lk,c3,ak,Cl.pv,nI]
  exact q
 intro p0 hp0
 rw[List.nil_append]
 refine GQ (fun c hc=>P.yd c hc) aa ?_
 have X0:Ext S (Ee S p0 (.lst (cs.map dF))):=.new hp0
 generalize Ee S p0 (.lst (cs.map dF))=S0 at X0
 have ok:=jG 2520 (by decide) (cs.map (·.y)) 1 (by decide) (Nat.one_dvd _) fun y hy=>by obtain⟨c,h,rfl⟩:=List.mem_map.mp hy;exact P.yd c h
 have l1:cbO cs<=2520:=iI ok.2.1
 rw[show qS 1 (cs.map (·.y))=cbO cs from rfl]
 simp only[List.set_cons_succ,List.set_cons_zero]
 refine hN _ _ (az fun N hN=>?_)
 simp only[aq,af,ar,aF,v3,lk,bE]
 refine aW Cl.pv (fun c=>.int (- c.x * ((cbO cs / c.y:Nat):Int))) trivial cs [] (fun c hc=>⟨_,rfl,fun Q' q=>?_⟩) (aP (by simp;omega)) ?_
 ·simp only[bQ,List.reduceReplicate,List.map_cons,List.map_nil,List.cons_append,List.nil_append,List.set_cons_zero,af,iY,cX,v3,lk,c3,ak,Cl.pv,lM,nI,dE,eU]
  have y1:=P.yd c hc
  have y2:=iI y1.2
  refine⟨yR (by omega) (by omega),?_⟩
  rw[show((cbO cs:Nat):Int).fdiv (c.y:Int)=((cbO cs / c.y:Nat):Int) by rw[Int.fdiv_eq_ediv_of_nonneg _ (by omega),Int.natCast_ediv]]
  simp only[aO]
  have l2:cbO cs / c.y<=2520:=Nat.le_trans (Nat.div_le_self _ _) l1
  generalize cbO cs / c.y=z at l2 q
  exact⟨mh (by omega) (by omega),q⟩
 intro p1 hp1
 rw[List.nil_append,tI (fun c:Cl=>- c.x * ((cbO cs / c.y:Nat):Int))]at *
 have X1:Ext S0 (Ee S0 p1 (.lst ((cs.map fun c:Cl=>- c.x * ((cbO cs / c.y:Nat):Int)).map PV.int))):=.new hp1
 have f1:(Ee S0 p1 (.lst ((cs.map fun c:Cl=>- c.x * ((cbO cs / c.y:Nat):Int)).map PV.int))) p1=some (.lst ((cs.map fun c:Cl=>- c.x * ((cbO cs / c.y:Nat):Int)).map PV.int)):=aa
 generalize Ee S0 p1 (.lst ((cs.map fun c:Cl=>- c.x * ((cbO cs / c.y:Nat):Int)).map PV.int))=S1 at X1 f1
 simp only[bV,ag,c3]
 intro p2 hp2
 have X2:Ext S1 (Ee S1 p2 (.lst [.int 0])):=.new hp2
 have f2:(Ee S1 p2 (.lst [.int 0])) p2=some (.lst [.int 0]):=aa
 generalize Ee S1 p2 (.lst [.int 0])=S2 at X2 f2
 have e1:∀Q:bH,aL (.int (k:Int)) (.int 1) S2 Q=Q (.int ((k+1:Nat):Int)) S2:=fun _=>rfl
 simp only[e1]
 refine Bc f2 (by omega) fun p3 S3 hp3 X3 f3=>?_
 refine mq (X3 _ _ (X2 _ _ f1)) f3 (by simp;omega) fun pg S4 MC X4 fg=>?_
 rw[<-List.map_append,show cs.map (fun c:Cl=>- c.x * ((cbO cs / c.y:Nat):Int))++List.replicate (k+1) 0=nQ cs k (cbO cs)from rfl]at fg
 have XA:Ext S S4:=X0.trans (X1.trans (X2.trans (X3.trans X4)))
 have MD:S pg=none:=(X0.trans (X1.trans (X2.trans X3))).free MC
 simp only[List.set_cons_succ,List.set_cons_zero]
 refine hN _ _ (az fun N hN=>?_)
 simp only[aq,ar,cC,aj,ag,v3,lk,bg,List.length_map]
 refine⟨by omega,by omega,?_⟩
 rw[Int.toNat_natCast]
 refine bG (fun done ys S'=>done.length<=mix.length/\∃ns,ys=ns.map PV.ref/\News S4 S' ns (((List.range mix.length).map (iJ cs k mix)).take done.length)) ⟨Nat.zero_le _,[],rfl,⟨by simp,.refl,(fun n h=>by cases h),(fun i n row h=>by cases h)⟩⟩ ?_ ?_ ?_
 ·rintro done ys S' ⟨h,ns,rfl,nw⟩
  exact⟨trivial,aP (by rw[List.length_map,nw.l];simp;omega)⟩
 ·rintro done x rest ys S' K e ⟨h,ns,rfl,nw⟩ hK
  obtain⟨rfl,hi⟩:=cW e
  simp only[Tg.put,bQ,List.reduceReplicate,List.map_cons,List.map_nil,List.cons_append,List.nil_append,List.set_cons_zero,a8,if_true,ac,ag,v3,lk]
  refine GB (by omega) (by omega) hi fun p S' hp X f=>hK _ _ ⟨by rw[List.length_append];exact hi,ns++[p],by simp,?_⟩
  rw[List.length_append,List.length_singleton,jK hi]
  exact nw.snoc hp X f
 rintro ys S5 ⟨_,ns,rfl,nw⟩ p6 JU
 rw[bR,iN]at nw
 have X6:Ext S5 (Ee S5 p6 (.lst (ns.map PV.ref))):=.new JU
 have f6:(Ee S5 p6 (.lst (ns.map PV.ref))) p6=some (.lst (ns.map PV.ref)):=aa
 have Lp:=nw.ext X6
 have KJ:S4 p6=none:=nw.x.free JU
 generalize Ee S5 p6 (.lst (ns.map PV.ref))=S6 at X6 f6 Lp
 simp only[List.set_cons_succ,List.set_cons_zero]
 refine hN _ _ (az fun N hN=>?_)
 simp only[cE,jV,rh,ag,ar,cC,v3,lk,f6,true_and]
 refine⟨by omega,by omega,?_⟩
 rw[Int.toNat_natCast]
 refine bG (fun done ys S'=>done.length<=k/\∃ms,ys=ms.map PV.ref/\News S6 S' ms (((List.range k).map (iK cs k)).take done.length)) ⟨Nat.zero_le _,[],rfl,⟨by simp,.refl,(fun n h=>by cases h),(fun i n row h=>by cases h)⟩⟩ ?_ ?_ ?_
 ·rintro done ys S' ⟨h,ms,rfl,mw⟩
  exact⟨trivial,aP (by rw[List.length_map,mw.l];simp;omega)⟩
 ·rintro done x rest ys S' K e ⟨h,ms,rfl,mw⟩ hK
  obtain⟨rfl,hi⟩:=cW e
  simp only[Tg.put,bQ,List.reduceReplicate,List.map_cons,List.map_nil,List.cons_append,List.nil_append,List.set_cons_zero,a8,if_true,ac,ag,v3,lk]
  refine GC (by omega) (by omega) hi (fun c hc=>P.ef c hc) fun p S' hp X f=>hK _ _ ⟨by rw[List.length_append];exact hi,ms++[p],by simp,?_⟩
  rw[List.length_append,List.length_singleton,jK hi]
  exact mw.snoc hp X f
 rintro ys S7 ⟨_,ms,rfl,mw⟩ p7 Lq
 rw[bR,iN]at mw
 have both:=Lp.both mw
 have JX:=mw.x _ _ f6
 have ME:(Ee S7 p7 (.lst (ms.map PV.ref))) p6=some (.lst (ns.map PV.ref)):=by rw[al (fun h=>by rw[h,Lq]at JX;cases JX)];exact JX
 simp only[eE,ME,aa]
 have lb:=both.l
 simp only[List.length_append,List.length_map,List.length_range]at lb
 refine⟨aP (by simp only[List.length_map];omega),?_⟩
 rw[<-List.map_append]
 have f8:(Ee (Ee S7 p7 (.lst (ms.map PV.ref))) p6 (.lst ((ns++ms).map PV.ref))) p6=some (.lst ((ns++ms).map PV.ref)):=aa
 have X8:∀b o,S7 b=some o->b≠p6->(Ee (Ee S7 p7 (.lst (ms.map PV.ref))) p6 (.lst ((ns++ms).map PV.ref))) b=some o:=fun b o h hb=>by rw[al hb,al (fun e=>by rw[e,Lq]at h;cases h)];exact h
 generalize Ee (Ee S7 p7 (.lst (ms.map PV.ref))) p6 (.lst ((ns++ms).map PV.ref))=S8 at f8 X8
 have JC:Ext S4 S8:=fun b o h=>X8 b o (both.x _ _ h) (fun e=>by rw[e,KJ]at h;cases h)
 have Ir:∀(i:Nat) n row,(ns++ms)[i]?=some n->((List.range mix.length).map (iJ cs k mix)++(List.range k).map (iK cs k))[i]?=some row->S8 n=some (.lst (row.map PV.int)):=fun i n row hn hr=>by
  have f:=both.r i n row hn hr
  refine X8 _ _ f fun e=>?_
  rw[e,JX]at f
  injection f with f
  injection f with f
  cases ns with
  |nil=>
   cases ms with
   |nil=>simp at hn
   |cons a r=>
    -- no F0: the Lr rows have lists of numbers
    rw[List.map_nil]at f
    have:row=[]:=by cases row with|nil=>rfl|cons _ _=>cases f
    subst this
    have hl:=(Dt P).w [] (by unfold dq;exact List.mem_append_left _ (List.mem_of_getElem? hr))
    simp at hl
  |cons a r=>
   cases row with
   |nil=>cases f
   |cons _ _=>injection f with f1 _;cases f1
 refine hN _ _ (az fun N hN=>?_)
 simp only[aq,sZ,ag,af,bV,v3,lk]
 intro p9 hp9
 have X9:Ext S8 (Ee S8 p9 (.lst [.ref pg])):=.new hp9
 have f9:(Ee S8 p9 (.lst [.ref pg])) p9=some (.lst [.ref pg]):=aa
 generalize Ee S8 p9 (.lst [.ref pg])=S9 at X9 f9
 refine mq (X9 _ _ f8) f9 (by simp;omega) fun pR IU hpR MF fR=>?_
 have lnm:(ns++ms).length=mix.length+k:=by rw[List.length_append];omega
 have JY:IU pR=some (.lst ((ns++ms++[pg]).map PV.ref)):=by rw[fR,List.map_append (l₂:=[pg])];rfl
 have Ig:Ext S8 IU:=X9.trans MF
 simp only[ar,cC,aj,ag,v3,lk,bg,Ig _ _ f8,List.length_map]
 refine⟨by omega,by omega,?_⟩
 rw[Int.toNat_natCast,wZ]
 refine aW (fun o:Nat=>PV.int (o:Int)) (fun o=>.int ((cs.length+o - mix.length:Nat):Int)) trivial (List.range (ns++ms).length) [] (fun o ho=>⟨_,rfl,fun Q' q=>?_⟩) (aP (by simp only[List.length_nil,List.length_range,List.length_append];omega)) ?_
 ·simp only[bQ,List.reduceReplicate,List.map_cons,List.map_nil,List.cons_append,List.nil_append,List.set_cons_zero,af,aj,ag,v3,lk,bg,List.length_map,aL,b_,bN]
  rw[show((cs.length:Int)+(o:Int) - (mix.length:Int))=((cs.length+o - mix.length:Nat):Int) by omega]
  exact q
 rw[List.nil_append,show(List.range (ns++ms).length).map (fun o=>PV.int ((cs.length+o - mix.length:Nat):Int))=hV (d4 cs mix k) by unfold hV d4;rw[List.map_map,List.length_append,lb];rfl]
 intro pH JZ
 have Iu:Ext IU (Ee IU pH (.lst (hV (d4 cs mix k)))):=.new JZ
 have J3:(Ee IU pH (.lst (hV (d4 cs mix k)))) pH=some (.lst (hV (d4 cs mix k))):=aa
 generalize Ee IU pH (.lst (hV (d4 cs mix k)))=Ls at Iu J3
 intro a ha
 have J4:Ext Ls (Ee Ls a (.ins "Balance" [])):=.new ha
 refine GH aa fun Jf MG k12=>⟨rfl,?_⟩
 have Lu:Ext S4 Jf:=fun b o h=>k12 _ _ (J4 _ _ (Iu _ _ (Ig _ _ (JC _ _ h)))) (fun e=>by have:=Iu _ _ (Ig _ _ (JC _ _ h));rw[e,ha]at this;cases this)
 have MH:∀b o,S8 b=some o->Jf b=some o:=fun b o h=>k12 _ _ (J4 _ _ (Iu _ _ (Ig _ _ h))) (fun e=>by have:=Iu _ _ (Ig _ _ h);rw[e,ha]at this;cases this)
 have J5:S a=none:=(XA.trans (JC.trans (Ig.trans Iu))).free ha
 have J6:S pH=none:=(XA.trans (JC.trans Ig)).free JZ
 have XS:Ext S Jf:=XA.trans Lu
 have MI:pH≠a:=fun e=>by rw[e,ha]at J3;cases J3
 have KK:=Lu _ _ fg
 have B0:BalAt Jf a pR pH (ns++ms++[pg]) (dq cs mix k) (d4 cs mix k) 1:=by
  have KL:Jf pR=some (.lst ((ns++ms++[pg]).map PV.ref)):=k12 _ _ (J4 _ _ (Iu _ _ JY)) (fun e=>by have:=Iu _ _ JY;rw[e,ha]at this;cases this)
  have KM:Jf pH=some (.lst (hV (d4 cs mix k))):=k12 _ _ (J4 _ _ J3) MI
  have old:∀r∈ns++ms++[pg],∃o,IU r=some o:=fun r hr=>by
   rcases List.mem_append.mp hr with h|h
   ·obtain⟨i,hi⟩:=List.getElem?_of_mem h
    have hlt:=(List.getElem?_eq_some_iff.mp hi).1
    have:i < ((List.range mix.length).map (iJ cs k mix)++(List.range k).map (iK cs k)).length:=by simp only[List.length_append,List.length_map,List.length_range]at hlt ⊢;omega
    exact⟨_,Ig _ _ (Ir i r _ hi (List.getElem?_eq_getElem this))⟩
   ·rw[List.mem_singleton.mp h];exact⟨_,Ig _ _ (JC _ _ fg)⟩
  refine⟨MG,KL,?_,fun i n row hn hr=>?_,KM,(fun e=>by rw[e,JZ]at JY;cases JY),fun r hr e=>?_⟩
  ·unfold dq
   simp only[List.length_append,List.length_map,List.length_range,List.length_singleton]
   omega
  ·unfold dq at hr
   by_cases hi:i < (ns++ms).length
   ·rw[List.getElem?_append_left hi]at hn
    rw[List.getElem?_append_left (by simp only[List.length_append,List.length_map,List.length_range]at hi ⊢;omega)]at hr
    exact MH _ _ (Ir i n row hn hr)
   ·have e0:i=(ns++ms).length:=by have:=(List.getElem?_eq_some_iff.mp hn).1;rw[List.length_append (bs:=[pg]),List.length_singleton]at this;omega
    rw[List.getElem?_append_right (by omega),e0,Nat.sub_self]at hn
    rw[List.getElem?_append_right (by simp only[List.length_append,List.length_map,List.length_range]at e0 ⊢;omega)]at hr
    have e2:i - ((List.range mix.length).map (iJ cs k mix)++(List.range k).map (iK cs k)).length=0:=by simp only[List.length_append,List.length_map,List.length_range]at e0 ⊢;omega
    rw[e2]at hr
    cases hn;cases hr
    exact KK
  ·obtain⟨o,ho⟩:=old r hr
   rw[e,JZ]at ho;cases ho
 simp only[List.set_cons_succ,List.set_cons_zero]
 refine hN _ _ (az fun N hN=>?_)
 simp only[cO,cC,aj,ag,v3,lk,bg,List.length_map]
 refine⟨by omega,by omega,?_⟩
 rw[Int.toNat_natCast]
 refine cu (fun done σ S'=>done.length<=mix.length/\Ext S S'/\(∃R rs,BalAt S' a R pH rs (qU cs mix k done.length) (rm cs mix k done.length) 1)/\∃x3 x4 x5 x6,σ=[some (.tup (cs.map Cl.pv)),some (.int (k:Int)),some (.tup (mix.map PV.int)),x3,x4,x5,x6,some (.ref a)]) ⟨Nat.zero_le _,XS,⟨_,_,B0⟩,_,_,_,_,rfl⟩ (fun _ _ _ _=>trivial) ?_ ?_
 ·rintro done x rest σ S' K e ⟨hd,X,⟨R,rs,B⟩,x3,x4,x5,x6,rfl⟩ hK
  obtain⟨rfl,hi⟩:=cW e
  have hm':(bF R pH 1).lookup ("hold":Str)=none:=rfl
  simp only[Tg.put,List.set_cons_succ,List.set_cons_zero,cE,cL,ag,ac,v3,lk,cg,B.o,hm',true_and]
  refine Gf (by omega) (P.fx _ hi) fun S2 X2=>?_
  have B2:BalAt S2 a R pH rs (qU cs mix k done.length) (rm cs mix k done.length) 1:=⟨X2 _ _ B.o,X2 _ _ B.r,B.rl,fun i r row a b=>X2 _ _ (B.rr i r row a b),X2 _ _ B.h,B.nR,B.nr⟩
  obtain⟨_,hc,_,_,_,hlt⟩:=dg P hi
  have D:=Dc P hd
  have q1:((qU cs mix k done.length).getD done.length []).getD (EK cs done.length) 0=1:=by
   show Ts cs mix k done.length done.length (EK cs done.length)=1
   rw[(wc P done.length hd).F0 _ _ hi,pC P hi hi,if_pos rfl]
  refine FS B2 D.sh (by rw[D.rl];omega) (by rw[D.hl];omega) (show EK cs done.length < cs.length+k+1 by omega) (by decide) (bK jh) fun S3 R3 KN B3 fr=>?_
  rw[q1]at B3
  refine hK _ _ ⟨by rw[List.length_append];exact hi,fun b o h=>fr b o (X2 _ _ (X _ _ h)) (fun e=>by rw[e,J5]at h;cases h) (fun e=>by rw[e,J6]at h;cases h),⟨R3,KN,by rw[List.length_append,List.length_singleton];exact B3⟩,_,_,_,_,rfl⟩
 ·rintro σ S' ⟨hd,X,⟨R,rs,B⟩,x3,x4,x5,x6,rfl⟩
  rw[bR]at B
  refine hN _ _ ?_
  simp only[aw,v3,lk]
  exact kk S' a R pH rs J5 J6 X B
noncomputable def Kq:Nat:=2 ^ 850
def Bl:∀m,m<=16->Wg.Kb Cb (m+1)<=Kq:=by
 have:∀m,m<=17->Wg.Kb Cb m<=2 ^ (50 * m):=by
  intro m
  induction m with
  |zero=>intro _;exact Nat.le_refl _
  |succ m ih=>
   intro h
   show(m+1) * (Cb * Wg.Kb Cb m)<=2 ^ (50 * (m+1))
   have h1:=ih (by omega)
   have e:(2:Nat) ^ (50 * (m+1))=2 ^ 8 * (2 ^ 42 * 2 ^ (50 * m)):=by rw[<-Nat.pow_add,<-Nat.pow_add];congr 1;omega
   rw[e]
   exact Nat.mul_le_mul (by omega) (Nat.mul_le_mul (Nat.le_refl _) h1)
 intro m hm
 refine Nat.le_trans (this (m+1) (by omega)) ?_
 unfold Kq
 exact Nat.pow_le_pow_right (by decide) (by omega)
def tX:Kq * 2 ^ 100 < dS:=by unfold Kq dS;rw[<-Nat.pow_add];exact Nat.pow_lt_pow_right (by decide) (by decide)
def dr{x:Int}{c:Nat}(h:x.natAbs<=Kq * c)(hc:c<=2 ^ 100):x.natAbs < dS:=Nat.lt_of_le_of_lt (Nat.le_trans h (Nat.mul_le_mul (Nat.le_refl _) hc)) tX
noncomputable def Cn(cs:List Cl)(c:Cl):Int:=c.x * ((cbO cs / c.y:Nat):Int)
def i5{cs:List Cl}{mix:Vu}{k:Nat}(P:bW cs mix k):0 < cbO cs/\cbO cs<=2520/\∀c∈cs,c.y ∣ cbO cs:=by
 have ok:=jG 2520 (by decide) (cs.map (·.y)) 1 (by decide) (Nat.one_dvd _) fun y hy=>by obtain⟨c,h,rfl⟩:=List.mem_map.mp hy;exact P.yd c h
 exact⟨ok.1,iI ok.2.1,fun c hc=>ok.2.2.2 c.y (List.mem_map.mpr ⟨c,hc,rfl⟩)⟩
def we{cs:List Cl}{mix:Vu}{k:Nat}(P:bW cs mix k){c:Cl}(hc:c∈cs){q:Int}(hq:0 < q):dF c=cq (q * (cbO cs:Int)) (q * Cn cs c):=by
 obtain⟨h0,_,hd⟩:=i5 P
 have hy:=(P.yd c hc).1
 unfold dF
 rw[nN (P.lo c hc)]
 refine eZ (by omega) (Int.mul_pos hq (by omega)) ?_
 unfold Cn
 obtain⟨z,hz⟩:=hd c hc
 rw[hz,Nat.mul_div_cancel_left _ hy,Int.natCast_mul]
 grind
noncomputable def IV(cs:List Cl)(q:Int)(Y:Vu)(c:Cl):Int:=q * Cn cs c+bL c.eff Y
noncomputable def pE(cs:List Cl)(q:Int)(Y:Vu)(d:Nat):List Int:=(cs.filter fun c=>decide (c.who=some d)).map (IV cs q Y)
noncomputable def pF:List Int->Int
 |[]=>0
 |a::r=>r.foldl max a
theorem kC:∀(r:Vu) (a:Int),a<=r.foldl max a/\(∀x∈r,x<=r.foldl max a)/\(r.foldl max a=a\/r.foldl max a∈r)
 |[],a=>⟨Int.le_refl _,(fun x h=>by cases h),.inl rfl⟩
 |b::r,a=>by
  have h:=kC r (max a b)
  rw[List.foldl_cons]
  refine⟨by omega,fun x hx=>?_,?_⟩
  ·rcases List.mem_cons.mp hx with rfl|hx
   ·omega
   ·exact h.2.1 x hx
  ·rcases h.2.2 with h2|h2
   ·rw[h2]
    by_cases hab:a<=b
    ·exact .inr (by rw[Int.max_eq_right hab];simp)
    ·exact .inl (Int.max_eq_left (by omega))
   ·exact .inr (List.mem_cons_of_mem _ h2)
def lA{ns:Vu}(h:ns≠[]):pF ns∈ns/\∀a∈ns,a<=pF ns:=by
 obtain⟨a,r,rfl⟩:=List.exists_cons_of_ne_nil h
 have:=kC r a
 refine⟨?_,fun x hx=>?_⟩
 ·show r.foldl max a∈a::r
  rcases this.2.2 with h|h
  ·rw[h];simp
  ·exact List.mem_cons_of_mem _ h
 ·rcases List.mem_cons.mp hx with rfl|hx
  ·exact this.1
  ·exact this.2.1 x hx
def tY{ns:Vu}{M:Int}(h:M∈ns)(hm:∀a∈ns,a<=M):M=pF ns:=by
 have h1:=lA (ns:=ns) (fun e=>by rw[e]at h;cases h)
 have:=hm _ h1.1
 have:=h1.2 _ h
 omega
def pG{is ns:Vu}{a b:Nat}(hi:∀i∈is,i.natAbs<=a)(hn:∀n∈ns,n.natAbs<=b):fD (cY is ns)<=is.length * (a * b):=by
 induction is generalizing ns with
 |nil=>simp[cY,fD]
 |cons i r ih=>
  cases ns with
  |nil=>simp[cY,fD]
  |cons n s=>
   have h1:=ih (fun x hx=>hi x (by simp[hx])) (ns:=s) (fun x hx=>hn x (by simp[hx]))
   have h2:=Nat.mul_le_mul (hi i (by simp)) (hn n (by simp))
   simp only[cY,fD,List.zipWith_cons_cons,List.map_cons,List.sum_cons,List.length_cons,Int.natAbs_mul]at *
   rw[Nat.succ_mul]
   omega
def DY:(2:Nat) ^ 42<=2 ^ 100:=Nat.pow_le_pow_right (by decide) (by decide)
def Dv:(2:Nat) ^ 33<=2 ^ 100:=Nat.pow_le_pow_right (by decide) (by decide)
def DZ:(2:Nat) ^ 42+2 ^ 33<=2 ^ 100:=by omega
structure Qy (q:Int) (Y:Vu) (k:Nat):Prop where
 q0:0 < q
 q1:q.natAbs<=Kq
 l:Y.length=k
 y:∀n∈Y,n.natAbs<=Kq
section
variable {cs:List Cl} {mix:Vu} {k:Nat} {q:Int} {Y:Vu}
def Bm(P:bW cs mix k)(h:Qy q Y k):0 < q * (cbO cs:Int)/\(q * (cbO cs:Int)).natAbs < dS:=by
 obtain⟨h0,h1,_⟩:=i5 P
 refine⟨Int.mul_pos h.q0 (by omega),dr (c:=2520) ?_ (by decide)⟩
 rw[Int.natAbs_mul]
 exact Nat.mul_le_mul h.q1 (by omega)
def og(P:bW cs mix k){c:Cl}(hc:c∈cs):(Cn cs c).natAbs<=2 ^ 42/\0<=Cn cs c:=by
 obtain⟨h0,h1,_⟩:=i5 P
 have l2:cbO cs / c.y<=2520:=Nat.le_trans (Nat.div_le_self _ _) h1
 have x0:=P.x0 c hc
 unfold Cn
 refine⟨?_,Int.mul_nonneg x0.1 (Int.natCast_nonneg _)⟩
 rw[Int.natAbs_mul,Int.natAbs_natCast]
 exact Nat.le_trans (Nat.mul_le_mul (show c.x.natAbs<=2 ^ 30 by omega) l2) (by decide)
def kD(P:bW cs mix k)(h:Qy q Y k){c:Cl}(hc:c∈cs):(q * Cn cs c).natAbs < dS/\fD (cY c.eff Y) < dS/\(bL c.eff Y).natAbs < dS/\(q * Cn cs c+bL c.eff Y).natAbs < dS:=by
 have a1:(q * Cn cs c).natAbs<=Kq * 2 ^ 42:=by rw[Int.natAbs_mul];exact Nat.mul_le_mul h.q1 (og P hc).1
 have a2:=pG (is:=c.eff) (ns:=Y) (P.eb c hc) h.y
 rw[P.ef c hc]at a2
 have k1:=P.k1
 have a3:fD (cY c.eff Y)<=Kq * 2 ^ 33:=by
  have k8:=Nat.mul_le_mul k1 (Nat.le_refl (2 ^ 30 * Kq))
  refine Nat.le_trans a2 (Nat.le_trans k8 ?_)
  generalize Kq=z
  omega
 have a4:(bL c.eff Y).natAbs<=Kq * 2 ^ 33:=by rw[<-fO];exact Nat.le_trans (lj _) a3
 have a5:=Int.natAbs_add_le (q * Cn cs c) (bL c.eff Y)
 have a6:(q * Cn cs c+bL c.eff Y).natAbs<=Kq * (2 ^ 42+2 ^ 33):=Nat.le_trans a5 (Nat.le_trans (Nat.add_le_add a1 a4) (Nat.le_of_eq (Nat.mul_add _ _ _).symm))
 exact⟨dr a1 DY,Nat.lt_of_le_of_lt (Nat.le_trans a3 (Nat.mul_le_mul (Nat.le_refl _) Dv)) tX,dr a4 Dv,dr a6 DZ⟩
abbrev iP(w:aH):Prop:=∀{S:av} {cs:List Cl} {mix:Vu} {k:Nat} {q:Int} {Y:Vu} {d:Nat} {Q:bH} {E:b9},bW cs mix k->Qy q Y k->d < mix.length->(∀S',Ext S S'->Q (cq (q * (cbO cs:Int)) (pF (pE cs q Y d))) S')->w [.tup (cs.map Cl.pv),.tup (Y.map (cq (q * (cbO cs:Int)))),.int (d:Int)] S Q E
def Gg{x0 x1 x2:aH}(Ih:wY x0)(Fk:o_ x1)(HJ:tE x2):iP (bf 3 (gF x0 x1 x2)):=by
 intro S cs mix k q Y d Q E P h hd kk
 unfold gF
 refine fb ?_
 rw[show ax 3 [.tup (cs.map Cl.pv),.tup (Y.map (cq (q * (cbO cs:Int)))),.int (d:Int)]=[some (.tup (cs.map Cl.pv)),some (.tup (Y.map (cq (q * (cbO cs:Int))))),some (.int (d:Int))] from rfl]
 have n2:=P.n2
 obtain⟨B0,B1⟩:=Bm P h
 simp only[aw,ac,ag,ar,aF,v3,lk,bE]
 refine bG (fun done ys S'=>done.length<=cs.length/\Ext S S'/\ys=(((cs.take done.length).filter fun c=>decide (c.who=some d)).map (IV cs q Y)).map (cq (q * (cbO cs:Int)))) ⟨Nat.zero_le _,.refl,rfl⟩ ?_ ?_ ?_
 ·rintro done ys S' ⟨hl,X,rfl⟩
  refine⟨trivial,aP ?_⟩
  rw[List.length_map,List.length_map]
  have:=List.length_filter_le (fun c:Cl=>decide (c.who=some d)) (cs.take done.length)
  rw[List.length_take]at this
  omega
 ·rintro done x rest ys S' K e ⟨hl,X,rfl⟩ hK
  have hget:(cs.map Cl.pv)[done.length]?=some x:=by rw[e];simp
  obtain⟨c,hc1,rfl⟩:∃c,cs[done.length]?=some c/\c.pv=x:=by rw[List.getElem?_map]at hget;exact Option.map_eq_some_iff.mp hget
  have hc:=List.mem_of_getElem? hc1
  have hlt:=(List.getElem?_eq_some_iff.mp hc1).1
  have et:(cs.take (done++[c.pv]).length)=cs.take done.length++[c]:=by rw[List.length_append,List.length_singleton,List.take_succ,hc1];rfl
  simp only[Tg.put,bQ,List.reduceReplicate,List.map_cons,List.map_nil,List.cons_append,List.nil_append,List.set_cons_zero,br,af,v3,lk,c3,ak,Cl.pv,lM]
  refine nP ?_
  by_cases hw:c.who=some d
  ·simp only[hw,decide_true,if_true,ac,ag,af,v3,lk,c3,ak,nI,A4]
   obtain⟨b1,b2,b3,b4⟩:=kD P h hc
   refine HJ B0 B1 b2 (by rw[P.ef c hc];have:=P.k1;omega) (by rw[P.ef c hc,h.l]) (fun i hi=>Nat.lt_of_le_of_lt (P.eb c hc i hi) (Nat.lt_of_lt_of_le (show 2 ^ 30 < 2 ^ 2000 from Nat.pow_lt_pow_right (by decide) (by decide)) (Nat.le_refl _))) (fun n hn=>dr (c:=1) (by rw[Nat.mul_one];exact h.y n hn) (by decide)) fun S2 X2=>?_
   rw[show PV.tup [.int c.x,.int (c.y:Int)]=dF c from rfl,we P hc h.q0]
   refine Fk ⟨B0,B1,b1⟩ ⟨B0,B1,b3⟩ (hK _ _ ⟨by rw[List.length_append];exact hlt,X.trans X2,?_⟩)
   rw[et,List.filter_append,List.map_append,List.map_append]
   simp[hw,IV]
  ·simp only[hw,decide_false,Bool.false_eq_true,if_false]
   refine hK _ _ ⟨by rw[List.length_append];exact hlt,X,?_⟩
   rw[et,List.filter_append,List.map_append,List.map_append]
   simp[hw]
 ·rintro ys S' ⟨hl,X,rfl⟩ p hp
  rw[List.length_map,List.take_length]
  have hne:pE cs q Y d≠[]:=by
   obtain⟨c,_,hm,hw,_⟩:=dg P hd
   intro e
   have:IV cs q Y c∈pE cs q Y d:=List.mem_map.mpr ⟨c,List.mem_filter.mpr ⟨hm,decide_eq_true hw⟩,rfl⟩
   rw[e]at this;cases this
  refine Ih B0 B1 (fun n hn=>?_) hne aa fun M hM KO=>?_
  ·obtain⟨c,hc,rfl⟩:=List.mem_map.mp hn
   exact(kD P h (List.mem_filter.mp hc).1).2.2.2
  ·rw[tY hM KO]
   exact kk _ (X.trans (.new hp))
end
noncomputable def wf(n:Nat)(rows:List (List Int))(held:List Nat)(q:Int)(c:Nat):List PV:=if c < n then (v7 n rows held q (-1) c).set c (cq q q) else v7 n rows held q (-1) c
noncomputable def qX(n:Nat)(rows:List (List Int))(held:List Nat)(q:Int)(c:Nat):PV:=.tup [.str "endless",.tup (wf n rows held q c)]
abbrev pI(w:aH):Prop:=∀{S:av} {a R H:Addr} {rs:List Addr} {rows:List (List Int)} {held:List Nat} {q:Int} {m V c:Nat} {cs:List Cl} {Q:bH} {E:b9},BalAt S a R H rs rows held q->Dim rows held m V->0 < q->Sz q->cs.length<=500->c<=V->(∀S',Ext S S'->Q (qX cs.length rows held q c) S')->w [.ref a,.tup (cs.map Cl.pv),.int (c:Int)] S Q E
def G4{xh:aH}(FT:h_ xh):pI (bf 4 (iG xh)):=by
 intro S a R H rs rows held q m V c cs Q E B D hq IR hn hc k
 unfold iG
 refine fb ?_
 rw[show ax 4 [PV.ref a,.tup (cs.map Cl.pv),.int (c:Int)]=[some (.ref a),some (.tup (cs.map Cl.pv)),some (.int (c:Int)),none] from rfl]
 have hm':(bF R H q).lookup ("held_by":Str)=none:=rfl
 refine az fun N hN=>?_
 simp only[aq,cL,ag,aj,iY,cX,c3,v3,lk,cg,B.o,hm',true_and,bg,List.length_map]
 refine FT (n:=cs.length) (sg:=-1) B D hq IR hn (.inl ⟨rfl,hc⟩) (.inr rfl) fun p S1 hp X1 f1=>?_
 have hlen:(v7 cs.length rows held q (-1) c).length=cs.length:=by unfold v7;rw[lx,List.length_replicate]
 simp only[List.set_cons_succ,List.set_cons_zero]
 refine hN _ _ (az fun N hN=>?_)
 simp only[cN,br,af,aj,ag,v3,lk,bg,List.length_map,mQ,bN,decide_eq_true_eq]
 have MJ:PV.tup [.int 1,.int 1]=cq q q:=by rw[li,eZ (Q:=1) (R:=q) (n:=1) (m:=q) (by decide) hq (by omega)]
 by_cases h:c < cs.length
 ·rw[if_pos (by omega)]
  simp only[iB,aV,ag,c3,v3,lk,eF,f1]
  rw[hlen,jI h,MJ]
  refine hN _ _ ?_
  simp only[aw,aV,ag,c3,aj,v3,lk,aD,e_,aa]
  have:=k _ (X1.put hp (o:=.lst ((v7 cs.length rows held q (-1) c).set c (cq q q))))
  unfold qX wf at this
  rw[if_pos h]at this
  exact this
 ·rw[if_neg (by omega)]
  refine hN _ _ ?_
  simp only[aw,aV,ag,c3,aj,v3,lk,aD,e_,f1]
  have:=k _ X1
  unfold qX wf at this
  rw[if_neg h]at this
  exact this
def wg{xs:List PV}{n k:Nat}(h:xs.length=n+k+1):dB xs (some (n:Int)) (some (-1))=(xs.drop n).take k:=by
 unfold dB
 have e1:HT.Ew xs.length 0 (some (n:Int))=n:=by rw[HT.gQ];omega
 have e2:HT.Ew xs.length xs.length (some (-1))=if (-1:Int) < 0 then (-1+((xs.length:Nat):Int)).toNat else min (-1:Int).toNat xs.length:=rfl
 rw[e1,e2,if_pos (by decide)]
 congr 1
 omega
def zw{row:Vu}{n k:Nat}(h:row.length=n+k+1):(row.drop n).take k=(List.range k).map fun t=>row.getD (n+t) 0:=by
 refine List.ext_getElem? fun i=>?_
 by_cases hi:i < k
 ·rw[List.getElem?_take_of_lt hi,List.getElem?_drop,List.getElem?_map,List.getElem?_range hi,List.getElem?_eq_getElem (by omega)]
  show some _=some (row.getD (n+i) 0)
  rw[aC (List.getElem?_eq_getElem (show n+i < row.length by omega))]
 ·rw[List.getElem?_eq_none (by rw[List.length_take,List.length_drop];omega),List.getElem?_eq_none (by simp;omega)]
noncomputable def Yl(rows:List (List Int))(n m k:Nat):List Int:=(List.range k).map fun t=>(rows.getD m []).getD (n+t) 0
noncomputable def mG(cs:List Cl)(mix:Vu)(k:Nat)(rows:List (List Int))(held:List Nat)(q:Int):PV:=
 .tup [.str "most",cq (q * (cbO cs:Int)) ((rows.getD (mix.length+k) []).getD (cs.length+k) 0),.tup (v7 cs.length rows held q 1 (cs.length+k)),
  .tup ((List.range mix.length).map fun d=>cq (q * (cbO cs:Int)) (pF (pE cs q (Yl rows cs.length (mix.length+k) k) d))),.tup ((Yl rows cs.length (mix.length+k) k).map (cq (q * (cbO cs:Int))))]
abbrev mH(w:aH):Prop:=∀{S:av} {a R H:Addr} {rs:List Addr} {rows:List (List Int)} {held:List Nat} {q:Int} {cs:List Cl} {mix:Vu} {k:Nat} {Q:bH} {E:b9},bW cs mix k->BalAt S a R H rs rows held q->Dim rows held (mix.length+k) (cs.length+k)->Qy q (Yl rows cs.length (mix.length+k) k) k->
 (∀S',Ext S S'->Q (mG cs mix k rows held q) S')->w [.ref a,.tup (cs.map Cl.pv),.tup (mix.map PV.int)] S Q E
def BalAt.ext{S S':av}{a R H:Addr}{rs:List Addr}{rows:List (List Int)}{held:List Nat}{q:Int}(B:BalAt S a R H rs rows held q)(X:Ext S S'):BalAt S' a R H rs rows held q:=⟨X _ _ B.o,X _ _ B.r,B.rl,fun i r row a b=>X _ _ (B.rr i r row a b),X _ _ B.h,B.nR,B.nr⟩
def GI{x0 x1 x2 x3:aH}(GQ:lm x0)(EF:i4 x1)(Gg:iP x2)(FT:h_ x3):mH (bf 8 (nM x0 x1 x2 x3)):=by
 intro S a R H rs rows held q cs mix k Q E P B D Y kk
 unfold nM
 refine fb ?_
 rw[show ax 8 [PV.ref a,.tup (cs.map Cl.pv),.tup (mix.map PV.int)]=[some (.ref a),some (.tup (cs.map Cl.pv)),some (.tup (mix.map PV.int)),none,none,none,none,none] from rfl]
 have n2:=P.n2;have k1:=P.k1;have d1:=P.d1
 obtain⟨B0,B1⟩:=Bm P Y
 obtain⟨cb0,cb1,_⟩:=i5 P
 have qs:Sz q:=bK (by have:=dr (c:=1) (x:=q) (by rw[Nat.mul_one];exact Y.q1) (by decide);omega)
 obtain⟨p,row,hp,FK,fp,hl,_,hT⟩:=jJ B D (Nat.le_refl (mix.length+k))
 have JD:rows.getD (mix.length+k) []=row:=aC FK
 have eY:Yl rows cs.length (mix.length+k) k=(List.range k).map fun t=>row.getD (cs.length+t) 0:=by unfold Yl;rw[JD]
 refine az fun N hN=>?_
 simp only[aq,af,b8,v3,lk,cg,B.o,tO,true_and,ac,ag,ar,aF,bE]
 refine aW Cl.pv dF trivial cs [] (fun c hc=>⟨_,rfl,fun Q' q=>?_⟩) (aP (by simp;omega)) ?_
 ·simp only[bQ,List.reduceReplicate,List.map_nil,List.append_nil,List.set_cons_zero,af,v3,lk,c3,ak,Cl.pv,nI]
  exact q
 intro p0 hp0
 rw[List.nil_append]
 refine GQ (fun c hc=>P.yd c hc) aa ?_
 have X0:Ext S (Ee S p0 (.lst (cs.map dF))):=.new hp0
 generalize Ee S p0 (.lst (cs.map dF))=S0 at X0
 rw[show qS 1 (cs.map (·.y))=cbO cs from rfl]
 simp only[aO]
 refine⟨mh (by omega) (by omega),?_⟩
 have Ba:=B.ext X0
 simp only[List.set_cons_succ,List.set_cons_zero]
 refine hN _ _ (az fun N hN=>?_)
 simp only[aq,af,b8,v3,lk,c3,iY,cX,cg,Ba.o,fF,true_and,ak,Ba.r]
 rw[kA (n:=mix.length+k) (by rw[List.length_map,B.rl,D.rl]) (show(rs.map PV.ref)[mix.length+k]?=some (.ref p) by rw[List.getElem?_map,hp];rfl)]
 have MK:=X0 _ _ fp
 simp only[List.set_cons_succ,List.set_cons_zero]
 refine hN _ _ (az fun N hN=>?_)
 simp only[aq,aj,ag,ar,aF,aU,fY,iY,cX,c3,v3,lk,bg,List.length_map,fm,MK]
 rw[wg (k:=k) (by rw[List.length_map,hl]),<-List.map_drop,<-List.map_take,zw (by rw[hl]),<-eY]
 intro p1 hp1
 have X1:Ext S0 (Ee S0 p1 (.lst ((Yl rows cs.length (mix.length+k) k).map PV.int))):=.new hp1
 have f1:(Ee S0 p1 (.lst ((Yl rows cs.length (mix.length+k) k).map PV.int))) p1=some (.lst ((Yl rows cs.length (mix.length+k) k).map PV.int)):=aa
 generalize Ee S0 p1 (.lst ((Yl rows cs.length (mix.length+k) k).map PV.int))=S1 at X1 f1
 simp only[bE,f1]
 have lY:(Yl rows cs.length (mix.length+k) k).length=k:=by unfold Yl;simp
 refine aW PV.int (cq (q * (cbO cs:Int))) f1 (Yl rows cs.length (mix.length+k) k) [] (fun c hc=>⟨_,rfl,fun Q' q'=>?_⟩) (aP (by rw[lY];simp;omega)) ?_
 ·simp only[bQ,List.reduceReplicate,List.map_cons,List.map_nil,List.cons_append,List.nil_append,List.set_cons_zero,ac,ag,v3,lk]
  exact EF B0 (bK (by omega)) q'
 intro p2 hp2
 simp only[List.nil_append,aD,e_,aa]
 have X2:Ext S1 (Ee S1 p2 (.lst ((Yl rows cs.length (mix.length+k) k).map (cq (q * (cbO cs:Int)))))):=.new hp2
 generalize Ee S1 p2 (.lst ((Yl rows cs.length (mix.length+k) k).map (cq (q * (cbO cs:Int)))))=S2 at X2
 simp only[List.set_cons_succ,List.set_cons_zero]
 refine hN _ _ (az fun N hN=>?_)
 simp only[aq,aj,ag,ar,cC,v3,lk,bg,List.length_map]
 refine⟨by omega,by omega,?_⟩
 rw[Int.toNat_natCast]
 refine bG (fun done ys S'=>done.length<=mix.length/\Ext S2 S'/\ys=((List.range mix.length).map fun d=>cq (q * (cbO cs:Int)) (pF (pE cs q (Yl rows cs.length (mix.length+k) k) d))).take done.length) ⟨Nat.zero_le _,.refl,rfl⟩ ?_ ?_ ?_
 ·rintro done ys S' ⟨h,X,rfl⟩
  exact⟨trivial,aP (by rw[List.length_take];simp;omega)⟩
 ·rintro done x rest ys S' K e ⟨h,X,rfl⟩ hK
  obtain⟨rfl,hi⟩:=cW e
  simp only[Tg.put,bQ,List.reduceReplicate,List.map_cons,List.map_nil,List.cons_append,List.nil_append,List.set_cons_zero,a8,if_true,ac,ag,v3,lk]
  refine Gg P Y hi fun S3 X3=>hK _ _ ⟨by rw[List.length_append];exact hi,X.trans X3,?_⟩
  rw[List.length_append,List.length_singleton,List.take_succ,List.getElem?_map,List.getElem?_range hi];rfl
 rintro ys S3 ⟨_,X3,rfl⟩ p3 hp3
 rw[bR,iN]
 simp only[aD,e_,aa]
 have X4:Ext S3 (Ee S3 p3 (.lst ((List.range mix.length).map fun d=>cq (q * (cbO cs:Int)) (pF (pE cs q (Yl rows cs.length (mix.length+k) k) d))))):=.new hp3
 generalize Ee S3 p3 (.lst ((List.range mix.length).map fun d=>cq (q * (cbO cs:Int)) (pF (pE cs q (Yl rows cs.length (mix.length+k) k) d))))=S4 at X4
 have XA:Ext S S4:=X0.trans (X1.trans (X2.trans (X3.trans X4)))
 have B4:=B.ext XA
 have hm':(bF R H q).lookup ("held_by":Str)=none:=rfl
 simp only[List.set_cons_succ,List.set_cons_zero]
 refine hN _ _ (az fun N hN=>?_)
 simp only[aq,aj,cL,ag,iY,cX,c3,v3,lk,cg,B4.o,hm',true_and,bg,List.length_map]
 refine FT (n:=cs.length) (sg:=1) B4 D Y.q0 qs (by omega) (.inr ⟨rfl,rfl⟩) (.inl rfl) fun p4 S5 Ia X5 f4=>?_
 simp only[aD,e_,f4,List.set_cons_succ,List.set_cons_zero]
 refine hN _ _ ?_
 have ML:=X5 _ _ (XA _ _ fp)
 simp only[aw,aV,ag,ac,af,iY,cX,c3,v3,lk,ak,ML]
 rw[kA (n:=cs.length+k) (by rw[List.length_map,hl]) (show(row.map PV.int)[cs.length+k]?=some (.int (row.getD (cs.length+k) 0)) by rw[List.getElem?_map,List.getElem?_eq_getElem (by omega),List.getD_eq_getElem?_getD,List.getElem?_eq_getElem (by omega)];rfl)]
 refine EF B0 (bK (by omega)) ?_
 have:=kk S5 (XA.trans X5)
 unfold mG at this
 rw[JD]at this
 exact this
inductive GX (cs:List Cl) (mix:Vu) (k:Nat):Nat->List (List Int)->List Nat->Int->Prop
 |ini:GX cs mix k 0 (qU cs mix k mix.length) (rm cs mix k mix.length) 1
 |step {n:Nat} {rows:List (List Int)} {held:List Nat} {q:Int} {c r:Nat}:GX cs mix k n rows held q->Wg.En (mix.length+k) (cs.length+k) (toS rows held q) c->Wg.Lv (mix.length+k) (cs.length+k) (toS rows held q) c r->GX cs mix k (n+1) (iM rows r c q) (held.set r c) ((rows.getD r []).getD c 0)
section
variable {cs:List Cl} {mix:Vu} {k:Nat}
def GX.ok(P:bW cs mix k){n:Nat}{rows:List (List Int)}{held:List Nat}{q:Int}(h:GX cs mix k n rows held q):Dm rows held (mix.length+k) (cs.length+k)/\∃b,Wg.Val (mix.length+k) (cs.length+k) (Ao cs mix k) (toS rows held q) b:=by
 induction h with
 |ini=>exact⟨Bj P _ (Nat.le_refl _),_,Dd P⟩
 |step h e l ih=>
  obtain⟨D,b,v⟩:=ih
  have v2:=(v.F3 e.lt l).1
  rw[<-ly D l.lt]at v2
  exact⟨D.F3 (by have:=l.lt;omega),_,v2⟩
theorem GX.bnd(P:bW cs mix k){n:Nat}{rows:List (List Int)}{held:List Nat}{q:Int}(h:GX cs mix k n rows held q):Dim rows held (mix.length+k) (cs.length+k)/\Qy q (Yl rows cs.length (mix.length+k) k) k/\Sz q/\∀i j,i<=mix.length+k->j<=cs.length+k->((rows.getD i []).getD j 0).natAbs<=Kq:=by
 obtain⟨D,b,v⟩:=h.ok P
 have a:=P.k1;have b':=P.d1;have c:=P.n2
 obtain⟨b1,b2⟩:=v.bnd (C:=Cb) (by decide) (fun i j hi hj=>pD P i j hi hj)
 have kb:=Bl (mix.length+k) (by omega)
 have sm:∀{x:Int},x.natAbs<=Kq->x.natAbs < dS:=fun{x} h=>dr (c:=1) (by rw[Nat.mul_one];exact h) (by decide)
 have bT:∀i j,i<=mix.length+k->j<=cs.length+k->((rows.getD i []).getD j 0).natAbs<=Kq:=fun i j hi hj=>Nat.le_trans (b1 i j hi hj) kb
 have bq:q.natAbs<=Kq:=Nat.le_trans b2 kb
 refine⟨tU D (by omega) (by omega) fun i j hi hj=>sm (bT i j hi hj),⟨v.tab.pos,bq,by unfold Yl;simp,fun y hy=>?_⟩,bK (by have:=sm bq;omega),bT⟩
 unfold Yl at hy
 obtain⟨t,ht,rfl⟩:=List.mem_map.mp hy
 exact bT _ _ (Nat.le_refl _) (by have:=List.mem_range.mp ht;omega)
def Out(cs:List Cl)(mix:Vu)(k:Nat)(v:PV):Prop:=∃n rows held q,GX cs mix k n rows held q/\
  (((∀j,j < cs.length+k->0<=(toS rows held q).T (mix.length+k) j)/\v=mG cs mix k rows held q) \/
   ∃c,Wg.En (mix.length+k) (cs.length+k) (toS rows held q) c/\(∀i,i < mix.length+k->(toS rows held q).T i c<=0)/\v=qX cs.length rows held q c)
end
abbrev iQ(w:aH):Prop:=∀{S:av} {cs:List Cl} {mix:Vu} {k:Nat} {Q:bH} {E:b9},bW cs mix k->(∀v S',Ext S S'->Out cs mix k v->Q v S')->w [.tup (cs.map Cl.pv),.tup (mix.map PV.int)] S Q E
def Gh{x0 x1 x2 x3 x4 x5:aH}(IW:iO x0)(GE:mB x1)(GG:mD x2)(G4:pI x3)(FS:hW x4)(GI:mH x5):iQ (bf 6 (iH x0 x1 x2 x3 x4 x5)):=by
 intro S cs mix k Q E P kk
 unfold iH
 refine fb ?_
 rw[show ax 6 [.tup (cs.map Cl.pv),.tup (mix.map PV.int)]=[some (.tup (cs.map Cl.pv)),some (.tup (mix.map PV.int)),none,none,none,none] from rfl]
 have n1:=P.n1
 obtain⟨c0,r0,Lx⟩:=List.exists_cons_of_ne_nil (show cs≠[] from fun e=>by rw[e]at n1;simp at n1)
 have e0:ER (cs.map Cl.pv) 0=some c0.pv:=by rw[Lx,List.map_cons];exact lM
 have l0:c0.eff.length=k:=P.ef c0 (by rw[Lx];simp)
 refine az fun N hN=>?_
 simp only[aq,aj,ag,af,v3,lk,c3,ak,e0,Cl.pv,A4,bg,List.length_map,l0,List.set_cons_succ,List.set_cons_zero]
 refine hN _ _ (az fun N hN=>?_)
 simp only[aq,ac,ag,v3,lk]
 refine IW P fun S1 a R H rs J5 J6 X1 B1=>?_
 simp only[List.set_cons_succ,List.set_cons_zero]
 refine hN _ _ (az fun N hN=>?_)
 have p0:GX cs mix k 0 (qU cs mix k mix.length) (rm cs mix k mix.length) 1:=.ini
 -- how it is asked what comes in
 have ask:∀{S1:av} {R:Addr} {rs:List Addr} {rows:List (List Int)} {held:List Nat} {q:Int} {n:Nat} {Q':bH},GX cs mix k n rows held q->BalAt S1 a R H rs rows held q->(∀(pl:Option Nat) S2,Ext S1 S2->(match pl with|none=>∀j,j < cs.length+k->0<=(toS rows held q).T (mix.length+k) j|some c=>Wg.En (mix.length+k) (cs.length+k) (toS rows held q) c)->Q' (fV pl) S2)->x1 [.ref a] S1 Q' fZ:=fun{S1 R rs rows held q n Q'} pt B k'=>GE B (pt.bnd P).1 (fun S2 X2 h=>k' none S2 X2 h) (fun c S2 X2 h=>k' (some c) S2 X2 h)
 have hm1:∀R q,(bF R H q).lookup ("gaining":Str)=none:=fun _ _=>rfl
 have hm2:∀R q,(bF R H q).lookup ("used_up":Str)=none:=fun _ _=>rfl
 have MM:∀R q,(bF R H q).lookup ("hold":Str)=none:=fun _ _=>rfl
 simp only[aq,cL,ag,v3,lk,cg,B1.o,hm1,true_and]
 refine ask p0 B1 fun pl S2 X2 hpl=>?_
 simp only[List.set_cons_succ,List.set_cons_zero]
 refine hN _ _ (az fun N hN=>?_)
 have C1:1<=Cb:=by decide
 have fin:∀{rows:List (List Int)} {held:List Nat} {q:Int} {n:Nat},GX cs mix k n rows held q->∃m,Wg.Hn (mix.length+k) (cs.length+k) m (toS rows held q):=fun pt=>by
  obtain⟨_,b,v⟩:=pt.ok P
  exact v.ends C1 (fun i j hi hj=>pD P i j hi hj)
 obtain⟨m0,hm0⟩:=fin p0
 refine⟨fun m σ S'=>∃(n:Nat) (R:Addr) (rs:List Addr) (rows:List (List Int)) (held:List Nat) (q:Int) (pl:Option Nat) (x5:Option PV),GX cs mix k n rows held q/\Wg.Hn (mix.length+k) (cs.length+k) m (toS rows held q)/\BalAt S' a R H rs rows held q/\Ext S S'/\
  (match pl with|none=>∀j,j < cs.length+k->0<=(toS rows held q).T (mix.length+k) j|some c=>Wg.En (mix.length+k) (cs.length+k) (toS rows held q) c)/\
  σ=[some (.tup (cs.map Cl.pv)),some (.tup (mix.map PV.int)),some (.int (k:Int)),some (.ref a),some (fV pl),x5],⟨m0,0,R,rs,_,_,_,pl,_,p0,hm0,B1.ext X2,X1.trans X2,hpl,rfl⟩,?_⟩
 rintro m σ S' ⟨n,R,rs,rows,held,q,pl,x5,pt,hn,B,X,hpl,rfl⟩
 obtain⟨D,Y,qs,_⟩:=pt.bnd P
 cases pl with
 |none=>
  simp only[fV,br,af,v3,lk,c3,iA,bne_self_eq_false,Bool.false_eq_true,if_false]
  refine hN _ _ ?_
  simp only[aw,ac,ag,v3,lk]
  exact GI P B D Y fun S2 X2=>kk _ S2 (X.trans X2) ⟨n,rows,held,q,pt,.inl ⟨hpl,rfl⟩⟩
 |some c=>
  have hpl:Wg.En (mix.length+k) (cs.length+k) (toS rows held q) c:=hpl
  have hcl:=hpl.lt
  simp only[fV,br,af,v3,lk,c3,iA,Bool.bne_false,if_true]
  refine⟨fun σ' HY=>∃(m':Nat),m' < m/\∃(n:Nat) (R:Addr) (rs:List Addr) (rows:List (List Int)) (held:List Nat) (q:Int) (pl:Option Nat) (x5:Option PV),GX cs mix k n rows held q/\Wg.Hn (mix.length+k) (cs.length+k) m' (toS rows held q)/\BalAt HY a R H rs rows held q/\Ext S HY/\
   (match pl with|none=>∀j,j < cs.length+k->0<=(toS rows held q).T (mix.length+k) j|some c=>Wg.En (mix.length+k) (cs.length+k) (toS rows held q) c)/\
   σ'=[some (.tup (cs.map Cl.pv)),some (.tup (mix.map PV.int)),some (.int (k:Int)),some (.ref a),some (fV pl),x5],fun σ' HY h=>h,?_⟩
  refine az fun N2 Fb=>?_
  simp only[aq,cL,ag,v3,lk,cg,B.o,hm2,true_and]
  refine GG B D (by omega) (fun hno=>?_) (fun r lv=>?_)
  ·simp only[List.set_cons_succ,List.set_cons_zero]
   refine Fb _ _ (az fun N2 Fb=>?_)
   simp only[cN,br,af,v3,lk,c3,iA,Bool.false_bne,if_true,aw,ac,ag]
   exact G4 B D Y.q0 qs (by have:=P.n2;omega) (by omega) fun S2 X2=>kk _ S2 (X.trans X2) ⟨n,rows,held,q,pt,.inr ⟨c,hpl,hno,rfl⟩⟩
  ·simp only[List.set_cons_succ,List.set_cons_zero]
   refine Fb _ _ (az fun N2 Fb=>?_)
   simp only[cN,br,af,v3,lk,c3,iA,Bool.false_bne,Bool.false_eq_true,if_false]
   refine Fb _ _ (az fun N2 Fb=>?_)
   simp only[cE,cL,ag,v3,lk,cg,B.o,MM,true_and]
   have lr:=lv.lt
   refine FS B D.sh (by rw[D.rl];omega) (by rw[D.hl];omega) (show c < cs.length+k+1 by omega) (by have:=Y.q0;omega) qs fun S3 R3 KN B3 fr=>?_
   have Ly:=GX.step pt hpl lv
   have X3:Ext S S3:=fun b o h=>fr b o (X _ _ h) (fun e=>by rw[e,J5]at h;cases h) (fun e=>by rw[e,J6]at h;cases h)
   refine Fb _ _ ?_
   simp only[aq,cL,ag,v3,lk,cg,B3.o,hm1,true_and]
   refine ask Ly B3 fun MN S4 X4 KP=>?_
   simp only[List.set_cons_succ,List.set_cons_zero]
   cases m with
   |zero=>exact absurd ⟨hpl,lv,rfl⟩ (hn _ c r)
   |succ m=>
    have Lz:=hn _ c r ⟨hpl,lv,rfl⟩
    rw[<-ly ⟨D.rl,D.hl,D.w⟩ lr]at Lz
    exact⟨m,Nat.lt_succ_self _,n+1,R3,KN,_,_,_,MN,_,Ly,Lz,B3.ext X4,X3.trans X4,KP,rfl⟩
noncomputable def Xj(s:Wg.Sx)(m j x:Nat):Int:=Wg.sm m fun i=>if s.held i=x then s.T i j else 0
def xa{rows:List (List Int)}{held:List Nat}{m V n j:Nat}{q sg:Int}(D:Dm rows held m V)(inj:∀i l,i < m->l < m->held.getD i 0=held.getD l 0->i=l):v7 n rows held q sg j=(List.range n).map fun x=>cq q (sg * Xj (toS rows held q) m j x):=by
 have h1:=D.rl
 have h2:=D.hl
 have key:∀p,p<=m->((rows.zip held).take p).foldl (Go n j q sg) (List.replicate n (cq q 0))=(List.range n).map fun x=>cq q (sg * Xj (toS rows held q) p j x):=by
  intro p
  induction p with
  |zero=>
   intro _
   refine List.ext_getElem? fun x=>?_
   show(List.replicate n (cq q 0))[x]?=_
   rw[List.getElem?_map,List.getElem?_replicate]
   by_cases hx:x < n
   ·rw[if_pos hx,List.getElem?_range hx]
    show some (cq q 0)=some (cq q (sg * 0))
    rw[Int.mul_zero]
   ·rw[if_neg hx,List.getElem?_eq_none (by simp;omega)];rfl
  |succ p ih=>
   intro hp
   have hz:(rows.zip held)[p]?=some (rows[p]'(by omega),held[p]'(by omega)):=List.getElem?_zip_eq_some.mpr ⟨List.getElem?_eq_getElem _,List.getElem?_eq_getElem _⟩
   rw[List.take_succ,hz,List.foldl_append,ih (by omega)]
   have eh:held.getD p 0=held[p]'(by omega):=aC (List.getElem?_eq_getElem _)
   have er:(toS rows held q).T p j=(rows[p]'(by omega)).getD j 0:=by show(rows.getD p []).getD j 0=_;rw[aC (List.getElem?_eq_getElem (show p < rows.length by omega))]
   have LA:(toS rows held q).held p=held[p]'(by omega):=eh
   show Go n j q sg ((List.range n).map fun x=>cq q (sg * Xj (toS rows held q) p j x)) (rows[p]'(by omega),held[p]'(by omega))=_
   refine List.ext_getElem? fun x=>?_
   unfold Go
   have old:∀x,x≠held[p]'(by omega)->Xj (toS rows held q) (p+1) j x=Xj (toS rows held q) p j x:=fun x hx=>by
    unfold Xj
    simp only[Wg.sm]
    rw[LA,if_neg (Ne.symm hx),Int.add_zero]
   have new:Xj (toS rows held q) (p+1) j (held[p]'(by omega))=(rows[p]'(by omega)).getD j 0:=by
    unfold Xj
    simp only[Wg.sm]
    rw[LA,if_pos rfl,er,Wg.bi (fun i hi=>if_neg fun e=>by
     have e:held.getD i 0=held.getD p 0:=by rw[eh];exact e
     have:=inj i p (by omega) (by omega) e
     omega),Int.zero_add]
   by_cases hx:x < n
   ·rw[List.getElem?_map,List.getElem?_range hx]
    by_cases he:x=held[p]'(by omega)
    ·have hlt:held[p]'(by omega) < n:=by omega
     show(if held[p]'(by omega) < n then ((List.range n).map fun x=>cq q (sg * Xj (toS rows held q) p j x)).set (held[p]'(by omega)) (cq q (sg * (rows[p]'(by omega)).getD j 0)) else (List.range n).map fun x=>cq q (sg * Xj (toS rows held q) p j x))[x]?=some (cq q (sg * Xj (toS rows held q) (p+1) j x))
     rw[if_pos hlt,List.getElem?_set,if_pos he.symm,if_pos (by simp;exact hlt),he,new]
    ·have:(if held[p]'(by omega) < n then ((List.range n).map fun x=>cq q (sg * Xj (toS rows held q) p j x)).set (held[p]'(by omega)) (cq q (sg * (rows[p]'(by omega)).getD j 0)) else (List.range n).map fun x=>cq q (sg * Xj (toS rows held q) p j x))[x]?=((List.range n).map fun x=>cq q (sg * Xj (toS rows held q) p j x))[x]?:=by
      split
      ·rw[List.getElem?_set,if_neg (Ne.symm he)]
      ·rfl
     refine this.trans ?_
     rw[List.getElem?_map,List.getElem?_range hx]
     show some (cq q (sg * Xj (toS rows held q) p j x))=some (cq q (sg * Xj (toS rows held q) (p+1) j x))
     rw[old x he]
   ·rw[List.getElem?_eq_none (by split<;>simp<;>omega),List.getElem?_eq_none (by simp;omega)]
 have:=key m (Nat.le_refl _)
 unfold v7
 rw[<-this,List.take_of_length_le (by rw[List.length_zip];omega)]
section
variable {cs:List Cl} {mix:Vu} {k:Nat}
noncomputable def dC(cs:List Cl)(f:Cl->Int)(X:Nat->Int):Int:=bL (cs.map f) ((List.range cs.length).map X)
def tZ(n:Nat)(f:Nat->Int):Wg.sm (n+1) f=f 0+Wg.sm n fun j=>f (j+1):=by
 induction n with
 |zero=>simp[Wg.sm]
 |succ n ih=>show Wg.sm (n+1) f+f (n+1)=f 0+((Wg.sm n fun j=>f (j+1))+f (n+1));rw[ih];omega
theorem eL:∀(xs ys:Vu),xs.length=ys.length->bL xs ys=Wg.sm xs.length fun j=>xs.getD j 0 * ys.getD j 0
 |[],[],_=>rfl
 |a::r,b::s,h=>by
  rw[List.length_cons,tZ]
  have:=eL r s (by simpa using h)
  show a * b+bL r s=a * b+Wg.sm r.length fun j=>r.getD j 0 * s.getD j 0
  rw[this]
def bX(f:Cl->Int)(X:Nat->Int):dC cs f X=Wg.sm cs.length fun j=>(cs.map f).getD j 0 * X j:=by
 unfold dC
 rw[eL _ _ (by simp),List.length_map]
 refine Wg.ao fun j hj=>?_
 rw[show((List.range cs.length).map X).getD j 0=X j from aC (by rw[List.getElem?_map,List.getElem?_range hj];rfl)]
def d5(n k:Nat)(f:Nat->Int):Wg.sm (n+k) f=Wg.sm n f+Wg.sm k fun t=>f (n+t):=by
 induction k with
 |zero=>simp[Wg.sm]
 |succ k ih=>show Wg.sm (n+k) f+f (n+k)=_+(_+f (n+k));rw[ih];omega
def xg{d:Nat}(hd:d < mix.length)(y:Nat->Int):Wg.sm (cs.length+k+1) (fun j=>Ao cs mix k d j * y j)=dC cs (w1 d) y+mix.getD d 0 * y (cs.length+k):=by
 simp only[Wg.sm]
 rw[d5,tR hd,Wg.bi (n:=k) (fun t ht=>by rw[v_ hd ht,Int.zero_mul]),Int.add_zero,bX]
 congr 1
 refine Wg.ao fun j hj=>?_
 have hc:=List.getElem?_eq_getElem hj
 rw[qV hd hc,cQ hc]
def xi{t:Nat}(ht:t < k)(y:Nat->Int):Wg.sm (cs.length+k+1) (fun j=>Ao cs mix k (mix.length+t) j * y j) = - dC cs (fun c=>c.eff.getD t 0) y+y (cs.length+t):=by
 simp only[Wg.sm]
 rw[d5,wb ht,Int.zero_mul,Int.add_zero,Wg.bp (n:=k) (i:=t) ht (fun u hu hne=>by rw[qW ht hu,if_neg hne,Int.zero_mul]),qW ht ht,if_pos rfl,Int.one_mul,bX,<-Wg.fE]
 congr 1
 refine Wg.ao fun j hj=>?_
 have hc:=List.getElem?_eq_getElem hj
 rw[wa ht hc,cQ hc,Int.neg_mul]
def xj(y:Nat->Int):Wg.sm (cs.length+k+1) (fun j=>Ao cs mix k (mix.length+k) j * y j) = - dC cs (Cn cs) y:=by
 simp only[Wg.sm]
 rw[d5,n_ (Nat.le_refl _),Int.zero_mul,Int.add_zero,Wg.bi (n:=k) (fun t ht=>by rw[n_ (by omega),Int.zero_mul]),Int.add_zero,bX,<-Wg.fE]
 refine Wg.ao fun j hj=>?_
 have hc:=List.getElem?_eq_getElem hj
 rw[zt hc,cQ hc]
 unfold Cn
 grind
def along{m V:Nat}{A:Nat->Nat->Int}{s:Wg.Sx}{b:Nat->Wg.Vc}(v:Wg.Val m V A s b)(F:Nat->Int)(G:Nat->Int)(j:Nat):Wg.sm V (fun x=>F x * Xj s m j x)=Wg.sm m fun i=>F (s.held i) * s.T i j:=by
 unfold Xj
 rw[Wg.ao (g:=fun x=>Wg.sm m fun i=>if s.held i=x then F (s.held i) * s.T i j else 0) (fun x _=>by
  rw[<-Wg.bo];refine Wg.ao fun i _=>?_;split
  ·rename_i e;rw[e]
  ·simp),Wg.hJ]
 refine Wg.ao fun i hi=>?_
 rw[Wg.bp (i:=s.held i) (v.hv i hi) (fun x _ hx=>if_neg fun e=>hx e.symm),if_pos rfl]
def D0{b:Nat->Wg.Vc}{s:Wg.Sx}(v:Wg.Val (mix.length+k) (cs.length+k) (Ao cs mix k) s b) :
  (∀d,d < mix.length->dC cs (w1 d) (Xj s (mix.length+k) (cs.length+k))=mix.getD d 0 * s.q)/\
  (∀t,t < k->dC cs (fun c=>c.eff.getD t 0) (Xj s (mix.length+k) (cs.length+k))=Xj s (mix.length+k) (cs.length+k) (cs.length+t))/\
  dC cs (Cn cs) (Xj s (mix.length+k) (cs.length+k))=s.T (mix.length+k) (cs.length+k):=by
 let y:Nat->Int:=fun j=>if j=cs.length+k then - s.q else Xj s (mix.length+k) (cs.length+k) j
 have y1:∀j,j < cs.length+k->y j=Xj s (mix.length+k) (cs.length+k) j:=fun j hj=>if_neg (by omega)
 have y2:y (cs.length+k) = - s.q:=if_pos rfl
 have HK:∀i,i<=mix.length+k->Wg.sm (cs.length+k+1) (fun j=>s.T i j * y j)=(Wg.sm (mix.length+k) fun l=>s.T i (s.held l) * s.T l (cs.length+k)) - s.T i (cs.length+k) * s.q:=fun i hi=>by
  simp only[Wg.sm]
  rw[y2,Wg.ao (g:=fun j=>s.T i j * Xj s (mix.length+k) (cs.length+k) j) (fun j hj=>by rw[y1 j hj]),along v (s.T i) (fun _=>0)]
  grind
 have z:∀i,i < mix.length+k->Wg.sm (cs.length+k+1) (fun j=>s.T i j * y j)=0:=fun i hi=>by
  rw[HK i (by omega),Wg.bp hi (fun l hl hne=>by rw[v.GW (by omega) hl,if_neg (Ne.symm hne),Int.zero_mul]),v.GW (by omega) hi,if_pos rfl]
  grind
 obtain⟨b1,b2⟩:=v.tab.back y z
 have cy:∀f:Cl->Int,dC cs f y=dC cs f (Xj s (mix.length+k) (cs.length+k)):=fun f=>by
  rw[bX,bX]
  exact Wg.ao fun j hj=>by rw[y1 j (by omega)]
 refine⟨fun d hd=>?_,fun t ht=>?_,?_⟩
 ·have:=b1 d (by omega)
  rw[xg hd,cy,y2]at this
  grind
 ·have:=b1 (mix.length+t) (by omega)
  rw[xi ht,cy,y1 _ (by omega)]at this
  omega
 ·rw[xj,cy,HK _ (Nat.le_refl _),Wg.bi (fun l hl=>by rw[v.GW (Nat.le_refl _) hl,if_neg (by omega),Int.zero_mul])]at b2
  refine Wg.w5 v.tab.pos ?_
  grind
def xk{b:Nat->Wg.Vc}{s:Wg.Sx}(v:Wg.Val (mix.length+k) (cs.length+k) (Ao cs mix k) s b)(x:Nat):0<=Xj s (mix.length+k) (cs.length+k) x:=Wg.d3 fun i hi=>by
 split
 ·exact v.fs i hi
 ·exact Int.le_refl _
def wj{b:Nat->Wg.Vc}{s:Wg.Sx}(v:Wg.Val (mix.length+k) (cs.length+k) (Ao cs mix k) s b):∃Z:Nat->Int,(∀j,j<=cs.length+k->s.T (mix.length+k) j=s.q * Ao cs mix k (mix.length+k) j+Wg.sm (mix.length+k) fun i=>Z i * Ao cs mix k i j):=by
 refine⟨fun i=>Wg.dt (mix.length+k+1) (Wg.ud b (mix.length+k) (Wg.eu i)),fun j hj=>?_⟩
 rw[v.tab.ent (Nat.le_refl _) (by omega)]
 have e:Wg.dt (mix.length+k+1) (Wg.ud b (mix.length+k) (Wg.cl (Ao cs mix k) j))=Wg.dt (mix.length+k+1) (Wg.ud b (mix.length+k) fun kk=>Wg.sm (mix.length+k+1) fun l=>Ao cs mix k l j * Wg.eu l kk):=by
  refine Wg.ci fun l kk hl hk=>?_
  by_cases el:l=mix.length+k
  ·subst el
   rw[Wg.aG,Wg.aG,Wg.bp (i:=kk) hk (fun u _ hu=>by unfold Wg.eu;rw[if_neg (Ne.symm hu),Int.mul_zero])]
   unfold Wg.cl Wg.eu
   rw[if_pos rfl,Int.mul_one]
  ·rw[Wg.aX el,Wg.aX el]
 rw[e,Wg.jH b (by omega)]
 simp only[Wg.sm]
 have eg:Wg.dt (mix.length+k+1) (Wg.ud b (mix.length+k) (Wg.eu (mix.length+k)))=s.q:=by
  rw[<-v.tab.det]
  refine Wg.ci fun l kk hl hk=>?_
  by_cases el:l=mix.length+k
  ·subst el;rw[Wg.aG,v.tab.gl kk]
  ·rw[Wg.aX el]
 rw[eg,Int.mul_comm,Int.add_comm]
 congr 1
 exact Wg.ao fun i _=>Int.mul_comm _ _
end
section
variable {cs:List Cl} {mix:Vu} {k:Nat}
structure xn (cs:List Cl) (mix:Vu) (k:Nat) (v:PV) (q g:Int) (X:Nat->Int) (Y:Vu) (pr:Nat->Int):Prop where
 v:v = .tup [.str "most",cq (q * (cbO cs:Int)) g,.tup ((List.range cs.length).map fun x=>cq q (X x)),.tup ((List.range mix.length).map fun d=>cq (q * (cbO cs:Int)) (pr d)),.tup (Y.map (cq (q * (cbO cs:Int))))]
 qy:Qy q Y k
 x0:∀x,0<=X x
 x1:∀x,(X x).natAbs<=Kq * 16
 F0:∀d,d < mix.length->dC cs (w1 d) X=mix.getD d 0 * q
 Iq:∀t,t < k->0<=dC cs (fun c=>c.eff.getD t 0) X
 cost:dC cs (Cn cs) X=g
 g1:g.natAbs<=Kq
 y0:∀y∈Y,0<=y
 non:∀c∈cs,c.who=none->q * Cn cs c+bL c.eff Y<=0
 Jg:∀c∈cs,∀d,c.who=some d->q * Cn cs c+bL c.eff Y<=pr d
 pr0:∀d,d < mix.length->0<=pr d
 IV:∀d,d < mix.length->(pr d).natAbs<=Kq * 2 ^ 43
 sum:bL mix ((List.range mix.length).map pr)=g
structure zx (cs:List Cl) (k:Nat) (v:PV) (q:Int) (y:Nat->Int):Prop where
 v:v = .tup [.str "endless",.tup ((List.range cs.length).map fun x=>cq q (y x))]
 q0:0 < q
 q1:q.natAbs<=Kq
 y0:∀x,0<=y x
 y1:∀x,(y x).natAbs<=Kq * 17
 F0:∀j c,cs[j]?=some c->c.who≠none->y j=0
 Iq:∀t,t < k->0<=dC cs (fun c=>c.eff.getD t 0) y
 cost:0 < dC cs (Cn cs) y
theorem t0:∀(xs ys:Vu),(∀x∈xs,0<=x)->(∀y∈ys,0<=y)->0<=bL xs ys
 |[],_,_,_=>by simp[bL]
 |_::_,[],_,_=>by simp[bL]
 |a::r,b::s,h,g=>by
  have:=t0 r s (fun x hx=>h x (by simp[hx])) (fun y hy=>g y (by simp[hy]))
  have:=Int.mul_nonneg (h a (by simp)) (g b (by simp))
  show 0<=a * b+bL r s
  omega
def zy(P:bW cs mix k){q:Int}{Y:Vu}(h:Qy q Y k){c:Cl}(hc:c∈cs):(q * Cn cs c+bL c.eff Y).natAbs<=Kq * 2 ^ 43:=by
 have a1:(q * Cn cs c).natAbs<=Kq * 2 ^ 42:=by rw[Int.natAbs_mul];exact Nat.mul_le_mul h.q1 (og P hc).1
 have a2:=pG (is:=c.eff) (ns:=Y) (P.eb c hc) h.y
 rw[P.ef c hc]at a2
 have k8:=Nat.mul_le_mul P.k1 (Nat.le_refl (2 ^ 30 * Kq))
 have a4:(bL c.eff Y).natAbs<=fD (cY c.eff Y):=by rw[<-fO];exact lj _
 have a5:=Int.natAbs_add_le (q * Cn cs c) (bL c.eff Y)
 have a6:=Nat.le_trans a5 (Nat.add_le_add a1 (Nat.le_trans a4 (Nat.le_trans a2 k8)))
 refine Nat.le_trans a6 ?_
 generalize Kq=z
 omega
def t5(P:bW cs mix k){b:Nat->Wg.Vc}{s:Wg.Sx}{Z:Nat->Int}(hZ:∀j,j<=cs.length+k->s.T (mix.length+k) j=s.q * Ao cs mix k (mix.length+k) j+Wg.sm (mix.length+k) fun i=>Z i * Ao cs mix k i j) :
  (∀t,t < k->s.T (mix.length+k) (cs.length+t)=Z (mix.length+t))/\
  (∀j c,cs[j]?=some c->s.T (mix.length+k) j=(match c.who with|some d=>Z d|none=>0) - s.q * Cn cs c - bL c.eff ((List.range k).map fun t=>Z (mix.length+t)))/\
  s.T (mix.length+k) (cs.length+k)=Wg.sm mix.length fun d=>mix.getD d 0 * Z d:=by
 refine⟨fun t ht=>?_,fun j c hc=>?_,?_⟩
 ·rw[hZ _ (by omega),n_ (by omega),Int.mul_zero,Int.zero_add,d5,Wg.bi (n:=mix.length) (fun d hd=>by rw[v_ hd ht,Int.mul_zero]),Int.zero_add,Wg.bp (i:=t) ht (fun u hu hne=>by rw[qW hu ht,if_neg (Ne.symm hne),Int.mul_zero]),qW ht ht,if_pos rfl,Int.mul_one]
 ·have hj:=(List.getElem?_eq_some_iff.mp hc).1
  have hm:=List.mem_of_getElem? hc
  rw[hZ _ (by omega),zt hc,d5]
  have e1:Wg.sm mix.length (fun d=>Z d * Ao cs mix k d j)=match c.who with|some d=>Z d|none=>0:=by
   cases hw:c.who with
   |none=>exact Wg.bi fun d hd=>by rw[qV hd hc];unfold w1;rw[hw,if_neg (by simp),Int.mul_zero]
   |some d=>
    have hd:=P.wd c hm d hw
    rw[Wg.bp hd (fun e he hne=>by rw[qV he hc];unfold w1;rw[hw,if_neg (fun h=>hne (Option.some.inj h).symm),Int.mul_zero]),qV hd hc]
    unfold w1
    rw[hw,if_pos rfl,Int.mul_one]
  have e2:Wg.sm k (fun t=>Z (mix.length+t) * Ao cs mix k (mix.length+t) j) = - bL c.eff ((List.range k).map fun t=>Z (mix.length+t)):=by
   rw[eL _ _ (by rw[P.ef c hm];simp),P.ef c hm,<-Wg.fE]
   refine Wg.ao fun t ht=>?_
   rw[wa ht hc,show((List.range k).map fun t=>Z (mix.length+t)).getD t 0=Z (mix.length+t)from aC (by rw[List.getElem?_map,List.getElem?_range ht];rfl)]
   grind
  rw[e1,e2]
  unfold Cn
  grind
 ·rw[hZ _ (Nat.le_refl _),n_ (Nat.le_refl _),Int.mul_zero,Int.zero_add,d5,Wg.bi (n:=k) (fun t ht=>by rw[wb ht,Int.mul_zero]),Int.add_zero]
  exact Wg.ao fun d hd=>by rw[tR hd,Int.mul_comm]
def oh(P:bW cs mix k){n:Nat}{rows:List (List Int)}{held:List Nat}{q:Int}(pt:GX cs mix k n rows held q)(hg:∀j,j < cs.length+k->0<=(toS rows held q).T (mix.length+k) j) :
  ∃g X Y pr,xn cs mix k (mG cs mix k rows held q) q g X Y pr:=by
 obtain⟨D,b,v⟩:=pt.ok P
 obtain⟨_,Yq,_,bT⟩:=pt.bnd P
 obtain⟨s1,s2,s3⟩:=D0 v
 obtain⟨Z,hZ⟩:=wj v
 obtain⟨g1,g2,g3⟩:=t5 (b:=b) P hZ
 have hq:0 < q:=v.tab.pos
 have eY:Yl rows cs.length (mix.length+k) k=(List.range k).map fun t=>Z (mix.length+t):=by
  unfold Yl
  exact List.map_congr_left fun t ht=>g1 t (List.mem_range.mp ht)
 have y0:∀y∈Yl rows cs.length (mix.length+k) k,0<=y:=fun y hy=>by
  unfold Yl at hy
  obtain⟨t,ht,rfl⟩:=List.mem_map.mp hy
  exact hg _ (by have:=List.mem_range.mp ht;omega)
 have inj:∀i l,i < mix.length+k->l < mix.length+k->held.getD i 0=held.getD l 0->i=l:=fun i l hi hl e=>v.inj hi hl e
 have col:∀j c,cs[j]?=some c->q * Cn cs c+bL c.eff (Yl rows cs.length (mix.length+k) k)=(match c.who with|some d=>Z d|none=>0) - (toS rows held q).T (mix.length+k) j:=fun j c hc=>by
  rw[g2 j c hc,eY]
  show q * Cn cs c+_=_
  have:(toS rows held q).q=q:=rfl
  rw[this]
  omega
 have le:∀c∈cs,∀d,c.who=some d->q * Cn cs c+bL c.eff (Yl rows cs.length (mix.length+k) k)<=Z d:=fun c hc d hw=>by
  obtain⟨j,hj⟩:=List.getElem?_of_mem hc
  have:=col j c hj
  rw[hw]at this
  have:=hg j (by have:=(List.getElem?_eq_some_iff.mp hj).1;omega)
  simp only at *
  omega
 have ne:∀d,d < mix.length->pE cs q (Yl rows cs.length (mix.length+k) k) d≠[]:=fun d hd e=>by
  obtain⟨c,_,hm,hw,_⟩:=dg P hd
  have:IV cs q (Yl rows cs.length (mix.length+k) k) c∈pE cs q (Yl rows cs.length (mix.length+k) k) d:=List.mem_map.mpr ⟨c,List.mem_filter.mpr ⟨hm,decide_eq_true hw⟩,rfl⟩
  rw[e]at this;cases this
 have KQ:∀d,d < mix.length->mix.getD d 0 * pF (pE cs q (Yl rows cs.length (mix.length+k) k) d)=mix.getD d 0 * Z d:=fun d hd=>by
  by_cases hz:mix.getD d 0=0
  ·rw[hz,Int.zero_mul,Int.zero_mul]
  ·congr 1
   have hmp:0 < mix.getD d 0:=by
    have e:=List.getElem?_eq_getElem hd
    rw[aC e]at hz ⊢
    have:=P.m0 _ (List.getElem_mem hd)
    omega
   have hs:=s1 d hd
   rw[bX]at hs
   obtain⟨x,hx,hp⟩:=Wg.nT (n:=cs.length) (f:=fun j=>(cs.map (w1 d)).getD j 0 * Xj (toS rows held q) (mix.length+k) (cs.length+k) j) (by rw[hs];exact Int.mul_pos hmp hq)
   have hc:=List.getElem?_eq_getElem hx
   rw[cQ hc]at hp
   have hw:(cs[x]).who=some d:=by
    unfold w1 at hp
    by_cases h:(cs[x]).who=some d
    ·exact h
    ·rw[if_neg h,Int.zero_mul]at hp;omega
   have hX:0 < Xj (toS rows held q) (mix.length+k) (cs.length+k) x:=by
    unfold w1 at hp
    rw[if_pos hw,Int.one_mul]at hp
    exact hp
   obtain⟨i,hi,KH⟩:=Wg.nT hX
   have hh:(toS rows held q).held i=x:=by
    by_cases h:(toS rows held q).held i=x
    ·exact h
    ·simp only[h,if_false]at KH;omega
   have MO:(toS rows held q).T (mix.length+k) x=0:=by rw[<-hh,v.GW (Nat.le_refl _) hi,if_neg (by omega)]
   have JE:=col x _ hc
   rw[hw,MO,Int.sub_zero]at JE
   refine(tY (ns:=pE cs q (Yl rows cs.length (mix.length+k) k) d) ?_ fun a ha=>?_).symm
   ·exact List.mem_map.mpr ⟨cs[x],List.mem_filter.mpr ⟨List.getElem_mem hx,decide_eq_true hw⟩,JE⟩
   ·obtain⟨c,hc',rfl⟩:=List.mem_map.mp ha
    obtain⟨h1,h2⟩:=List.mem_filter.mp hc'
    exact le c h1 d (of_decide_eq_true h2)
 refine⟨(rows.getD (mix.length+k) []).getD (cs.length+k) 0,Xj (toS rows held q) (mix.length+k) (cs.length+k),Yl rows cs.length (mix.length+k) k,fun d=>pF (pE cs q (Yl rows cs.length (mix.length+k) k) d),⟨?_,Yq,xk v,fun x=>?_,s1,fun t ht=>by rw[s2 t ht];exact xk v _,s3,bT _ _ (Nat.le_refl _) (Nat.le_refl _),y0,fun c hc hw=>?_,fun c hc d hw=>?_,fun d hd=>?_,fun d hd=>?_,?_⟩⟩
 ·unfold mG
  rw[xa D inj]
  simp only[Int.one_mul]
 ·have:=Wg.nY (n:=mix.length+k) (B:=Kq) (f:=fun i=>if (toS rows held q).held i=x then (toS rows held q).T i (cs.length+k) else 0) (fun i hi=>by
   show(if (toS rows held q).held i=x then (toS rows held q).T i (cs.length+k) else 0).natAbs<=Kq
   split
   ·exact bT i _ (by omega) (Nat.le_refl _)
   ·exact Nat.zero_le _)
  refine Nat.le_trans this ?_
  rw[Nat.mul_comm]
  exact Nat.mul_le_mul (Nat.le_refl _) (by have:=P.k1;have:=P.d1;omega)
 ·obtain⟨j,hj⟩:=List.getElem?_of_mem hc
  have h1:=col j c hj
  rw[hw]at h1
  have h2:=hg j (by have:=(List.getElem?_eq_some_iff.mp hj).1;omega)
  simp only at h1
  omega
 ·exact(lA (ne d (P.wd c hc d hw))).2 _ (List.mem_map.mpr ⟨c,List.mem_filter.mpr ⟨hc,decide_eq_true hw⟩,rfl⟩)
 ·obtain⟨c,_,hm,hw,hpos,_⟩:=dg P hd
  have h1:=(lA (ne d hd)).2 _ (List.mem_map.mpr ⟨c,List.mem_filter.mpr ⟨hm,decide_eq_true hw⟩,rfl⟩)
  have h2:=t0 c.eff _ hpos y0
  have h3:=Int.mul_nonneg (show 0<=q by omega) (og P hm).2
  unfold IV at h1
  show 0<=pF _
  omega
 ·obtain⟨c,hc,e⟩:=List.mem_map.mp (lA (ne d hd)).1
  show(pF _).natAbs<=_
  rw[<-e]
  exact zy P Yq (List.mem_filter.mp hc).1
 ·rw[eL _ _ (by simp)]
  refine Eq.trans ?_ g3.symm
  refine Wg.ao fun d hd=>?_
  rw[show((List.range mix.length).map fun d=>pF (pE cs q (Yl rows cs.length (mix.length+k) k) d)).getD d 0=pF (pE cs q (Yl rows cs.length (mix.length+k) k) d)from aC (by rw[List.getElem?_map,List.getElem?_range hd];rfl)]
  exact KQ d hd
end
section
variable {cs:List Cl} {mix:Vu} {k:Nat}
def oi{n:Nat}{f:Nat->Int}(h0:∀i,i < n->0<=f i)(h:Wg.sm n f=0):∀i,i < n->f i=0:=by
 induction n with
 |zero=>intro i hi;omega
 |succ n ih=>
  have h1:=Wg.d3 (n:=n) (f:=f) fun i hi=>h0 i (by omega)
  have h2:=h0 n (by omega)
  have h:Wg.sm n f+f n=0:=h
  intro i hi
  by_cases e:i=n
  ·subst e;omega
  ·exact ih (fun i hi=>h0 i (by omega)) (by omega) i (by omega)
def qY(P:bW cs mix k){n:Nat}{rows:List (List Int)}{held:List Nat}{q:Int}{c:Nat}(pt:GX cs mix k n rows held q)(en:Wg.En (mix.length+k) (cs.length+k) (toS rows held q) c)(hno:∀i,i < mix.length+k->(toS rows held q).T i c<=0) :
  ∃y,zx cs k (qX cs.length rows held q c) q y:=by
 obtain⟨D,b,v⟩:=pt.ok P
 obtain⟨_,Yq,_,bT⟩:=pt.bnd P
 have hq:0 < q:=v.tab.pos
 have hcl:=en.lt
 have inj:∀i l,i < mix.length+k->l < mix.length+k->held.getD i 0=held.getD l 0->i=l:=fun i l hi hl e=>v.inj hi hl e
 have fr:=v.fresh en.ng
 have x0:∀x,Xj (toS rows held q) (mix.length+k) c x<=0:=fun x=>by
  have:=Wg.d3 (n:=mix.length+k) (f:=fun i=>-(if (toS rows held q).held i=x then (toS rows held q).T i c else 0)) (fun i hi=>by
   split
   ·have:=hno i hi;omega
   ·simp)
  rw[Wg.fE]at this
  unfold Xj
  omega
 have xc:Xj (toS rows held q) (mix.length+k) c c=0:=Wg.bi fun i hi=>if_neg fun e=>fr ⟨i,hi,e⟩
 let y:Nat->Int:=fun x=>(if x=c then q else 0) - Xj (toS rows held q) (mix.length+k) c x
 have y0:∀x,0<=y x:=fun x=>by
  show 0<=(if x=c then q else 0) - _
  have:=x0 x
  split<;>omega
 let y':Nat->Int:=fun j=>if j=cs.length+k then 0 else y j
 have y1:∀j,j < cs.length+k->y' j=y j:=fun j hj=>if_neg (by omega)
 have y2:y' (cs.length+k)=0:=if_pos rfl
 have HK:∀i,i<=mix.length+k->Wg.sm (cs.length+k+1) (fun j=>(toS rows held q).T i j * y' j)=(toS rows held q).T i c * q - Wg.sm (mix.length+k) fun l=>(toS rows held q).T i ((toS rows held q).held l) * (toS rows held q).T l c:=fun i hi=>by
  simp only[Wg.sm]
  rw[y2,Int.mul_zero,Int.add_zero,Wg.ao (g:=fun j=>(if j=c then (toS rows held q).T i j * q else 0) + -((toS rows held q).T i j * Xj (toS rows held q) (mix.length+k) c j)) (fun j hj=>by
   rw[y1 j hj]
   show(toS rows held q).T i j * ((if j=c then q else 0) - _)=_
   rw[Int.mul_sub,Int.sub_eq_add_neg]
   congr 1
   split<;>simp),Wg.gG,Wg.fE,along v ((toS rows held q).T i) (fun _=>0),Wg.bp hcl (fun j _ hj=>if_neg hj),if_pos rfl,Int.sub_eq_add_neg]
 have z:∀i,i < mix.length+k->Wg.sm (cs.length+k+1) (fun j=>(toS rows held q).T i j * y' j)=0:=fun i hi=>by
  rw[HK i (by omega),Wg.bp hi (fun l hl hne=>by rw[v.GW (by omega) hl,if_neg (Ne.symm hne),Int.zero_mul]),v.GW (by omega) hi,if_pos rfl]
  show _ * q - q * _=0
  rw[Int.mul_comm];omega
 obtain⟨b1,b2⟩:=v.tab.back y' z
 have cy:∀f:Cl->Int,dC cs f y'=dC cs f y:=fun f=>by
  rw[bX,bX]
  exact Wg.ao fun j hj=>by rw[y1 j (by omega)]
 refine⟨y,⟨?_,hq,Yq.q1,y0,fun x=>?_,fun j cl hj hw=>?_,fun t ht=>?_,?_⟩⟩
 ·unfold qX wf
  rw[xa D inj]
  congr 2
  refine congrArg (fun l=>[PV.tup l]) ?_
  have e1:∀x,x≠c->cq q (-1 * Xj (toS rows held q) (mix.length+k) c x)=cq q (y x):=fun x hx=>by
   have:y x = -1 * Xj (toS rows held q) (mix.length+k) c x:=by show(if x=c then q else 0) - _=_;rw[if_neg hx];omega
   rw[this]
  refine List.ext_getElem? fun x=>?_
  by_cases hx:x < cs.length
  ·rw[List.getElem?_map,List.getElem?_range hx]
   by_cases hc:c < cs.length
   ·rw[if_pos hc,List.getElem?_set]
    by_cases e:c=x
    ·rw[if_pos e,if_pos (by simp;exact hc)]
     have:y x=q:=by show(if x=c then q else 0) - _=_;rw[if_pos e.symm,<-e,xc];omega
     show some (cq q q)=some (cq q (y x))
     rw[this]
    ·rw[if_neg e,List.getElem?_map,List.getElem?_range hx]
     exact congrArg some (e1 x (Ne.symm e))
   ·rw[if_neg hc,List.getElem?_map,List.getElem?_range hx]
    exact congrArg some (e1 x (by omega))
  ·rw[List.getElem?_eq_none (by split<;>simp<;>omega),List.getElem?_eq_none (by simp;omega)]
 ·have a:=Wg.nY (n:=mix.length+k) (B:=Kq) (f:=fun i=>if (toS rows held q).held i=x then (toS rows held q).T i c else 0) (fun i hi=>by
   show(if (toS rows held q).held i=x then (toS rows held q).T i c else 0).natAbs<=Kq
   split
   ·exact bT i _ (by omega) (by omega)
   ·exact Nat.zero_le _)
  have a2:(Xj (toS rows held q) (mix.length+k) c x).natAbs<=16 * Kq:=Nat.le_trans a (Nat.mul_le_mul (by have:=P.k1;have:=P.d1;omega) (Nat.le_refl _))
  have a3:=Yq.q1
  show((if x=c then q else 0) - Xj (toS rows held q) (mix.length+k) c x).natAbs<=Kq * 17
  generalize Kq=z at a2 a3
  split<;>omega
 ·cases hw':cl.who with
  |none=>exact absurd hw' hw
  |some d=>
   have hd:=P.wd cl (List.mem_of_getElem? hj) d hw'
   have hlt:=(List.getElem?_eq_some_iff.mp hj).1
   have:=b1 d (by omega)
   rw[xg hd,cy,y2,Int.mul_zero,Int.add_zero,bX]at this
   have hz:=oi (fun i hi=>Int.mul_nonneg (by
    rw[cQ (List.getElem?_eq_getElem hi)];unfold w1;split<;>decide) (y0 i)) this j hlt
   rw[cQ hj]at hz
   unfold w1 at hz
   rw[if_pos hw',Int.one_mul]at hz
   exact hz
 ·have:=b1 (mix.length+t) (by omega)
  rw[xi ht,cy,y1 _ (by omega)]at this
  have:=y0 (cs.length+t)
  omega
 ·rw[xj,cy,HK _ (Nat.le_refl _),Wg.bi (fun l hl=>by rw[v.GW (Nat.le_refl _) hl,if_neg (by omega),Int.zero_mul]),Int.sub_zero,Int.mul_comm _ q]at b2
  have:=Wg.w5 hq b2
  have:=en.ng
  omega
def Out.right(P:bW cs mix k){v:PV}(h:Out cs mix k v):(∃q g X Y pr,xn cs mix k v q g X Y pr)\/∃q y,zx cs k v q y:=by
 obtain⟨n,rows,held,q,pt,⟨hg,rfl⟩|⟨c,en,hno,rfl⟩⟩:=h
 ·obtain⟨g,X,Y,pr,h⟩:=oh P pt hg
  exact .inl ⟨q,g,X,Y,pr,h⟩
 ·obtain⟨y,h⟩:=qY P pt en hno
  exact .inr ⟨q,y,h⟩
end
def wk{i j k l:Int}{neg:Bool}{S:av}{Q:bH}(q:Q (.bl (neg != decide (i=k/\j=l))) S):e9 neg (.tup [.int i,.int j]) (.tup [.int k,.int l]) S Q:=by
 unfold e9
 refine⟨.tuple [.int i,.int j],.tuple [.int k,.int l],.tup (.cons (.int _) (.cons (.int _) .nil)),.tup (.cons (.int _) (.cons (.int _) .nil)),by simp[PyData.canLay0,PyData.canLayAll0],by simp[PyData.canLay0,PyData.canLayAll0],by simp[PyData.depth,PyData.depthAll],?_⟩
 have e:PyData.eqv (.tuple [.int i,.int j]) (.tuple [.int k,.int l])=decide (i=k/\j=l):=by
  simp only[PyData.eqv,PyData.eqvAll,Bool.and_true]
  rw[Bool.eq_iff_iff]
  simp
 rw[e]
 exact q
def Bn{neg:Bool}{A B n m:Int}{S:av}{Q:bH}(e:cq A n=cq B m)(q:Q (.bl (!neg)) S):e9 neg (cq A n) (cq B m) S Q:=by
 rw[<-e]
 unfold cq
 refine wk ?_
 simpa using q
def Bo{xp:aH}(Fk:mo xp){S:av}{B f m c d:Int}{Q:bH}{E:b9}(hf:Fq B f)(hd:0 < d)(h1:c.natAbs<=dS)(h2:d.natAbs < dS)(e:c * B=m * d)(k:Q (cq B (f+m)) S):xp [cq B f,.tup [.int c,.int d]] S Q E:=by
 have sz:=hf.sz
 have:=hf.q1;have:=hf.n1;have q0:=hf.q0
 refine Fk sz.2.2 hd (by omega) (by omega) h1 h2 ?_
 have w:=M3.aY (t:=f) (b:=B) (by omega)
 rw[eZ (m:=f+m) (R:=B) (Int.mul_pos sz.2.2 hd) q0 (by
  calc (M3.aK f B * d+c * M3.aB f B) * B=(M3.aK f B * B) * d+(c * B) * M3.aB f B:=by grind
   _=_:=by rw[w,e];grind)]
 exact k
section
variable {cs:List Cl} {mix:Vu} {k:Nat}
def weak(P:bW cs mix k){X M p:Nat->Int}{b:Int}{Z:Vu}(x0:∀x,0<=X x)(hM:∀d,d < mix.length->dC cs (w1 d) X=M d)(hj:∀t,t < k->0<=dC cs (fun c=>c.eff.getD t 0) X)(zl:Z.length=k)(z0:∀z∈Z,0<=z)
  (non:∀c∈cs,c.who=none->b * Cn cs c+bL c.eff Z<=0) (Jg:∀c∈cs,∀d,c.who=some d->b * Cn cs c+bL c.eff Z<=p d):b * dC cs (Cn cs) X<=Wg.sm mix.length fun d=>M d * p d:=by
 have each:∀j,j < cs.length->b * ((cs.map (Cn cs)).getD j 0 * X j)+Wg.sm k (fun t=>Z.getD t 0 * ((cs.map fun c=>c.eff.getD t 0).getD j 0 * X j))<=Wg.sm mix.length fun d=>p d * ((cs.map (w1 d)).getD j 0 * X j):=fun j hj=>by
  have hc:=List.getElem?_eq_getElem hj
  have hm:=List.getElem_mem hj
  generalize cs[j]=c at hc hm
  have R:b * Cn cs c+bL c.eff Z<=Wg.sm mix.length fun d=>p d * w1 d c:=by
   cases hw:c.who with
   |none=>
    rw[Wg.bi fun d hd=>by unfold w1;rw[hw,if_neg (by simp),Int.mul_zero]]
    exact non c hm hw
   |some d=>
    rw[Wg.bp (P.wd c hm d hw) fun e he hne=>by unfold w1;rw[hw,if_neg (fun h=>hne (Option.some.inj h).symm),Int.mul_zero]]
    unfold w1
    rw[hw,if_pos rfl,Int.mul_one]
    exact Jg c hm d hw
  have m:=Int.mul_le_mul_of_nonneg_left R (x0 j)
  rw[eL _ _ (by rw[P.ef c hm,zl]),P.ef c hm,Int.mul_add,<-Wg.bo,<-Wg.bo]at m
  rw[cQ hc]
  have e1:Wg.sm k (fun t=>Z.getD t 0 * ((cs.map fun c=>c.eff.getD t 0).getD j 0 * X j))=Wg.sm k fun t=>X j * (c.eff.getD t 0 * Z.getD t 0):=Wg.ao fun t _=>by rw[cQ hc];grind
  have e2:Wg.sm mix.length (fun d=>p d * ((cs.map (w1 d)).getD j 0 * X j))=Wg.sm mix.length fun d=>X j * (p d * w1 d c):=Wg.ao fun t _=>by rw[cQ hc];grind
  rw[e1,e2]
  have e3:b * (Cn cs c * X j)=X j * (b * Cn cs c):=by grind
  rw[e3]
  exact m
 have s:=Wg.Bd each
 rw[Wg.gG,Wg.bo,Wg.hJ cs.length k,Wg.hJ cs.length mix.length,<-bX]at s
 have e1:Wg.sm k (fun t=>Wg.sm cs.length fun j=>Z.getD t 0 * ((cs.map fun c=>c.eff.getD t 0).getD j 0 * X j))=Wg.sm k fun t=>Z.getD t 0 * dC cs (fun c=>c.eff.getD t 0) X:=Wg.ao fun t _=>by rw[Wg.bo,<-bX]
 have e2:Wg.sm mix.length (fun d=>Wg.sm cs.length fun j=>p d * ((cs.map (w1 d)).getD j 0 * X j))=Wg.sm mix.length fun d=>M d * p d:=Wg.ao fun d hd=>by rw[Wg.bo,<-bX,hM d hd,Int.mul_comm]
 rw[e1,e2]at s
 have nn:0<=Wg.sm k fun t=>Z.getD t 0 * dC cs (fun c=>c.eff.getD t 0) X:=Wg.d3 fun t ht=>by
  refine Int.mul_nonneg ?_ (hj t ht)
  have hl:t < Z.length:=by omega
  rw[aC (List.getElem?_eq_getElem hl)]
  exact z0 _ (List.getElem_mem hl)
 omega
structure IY (cs:List Cl) (D k:Nat) (b:Int) (Z:Vu) (p:Nat->Int):Prop where
 b0:0 < b
 zl:Z.length=k
 z0:∀z∈Z,0<=z
 non:∀c∈cs,c.who=none->b * Cn cs c+bL c.eff Z<=0
 Jg:∀c∈cs,∀d,c.who=some d->b * Cn cs c+bL c.eff Z<=p d
def IY.IZ(P:bW cs mix k){b:Int}{Z:Vu}{p:Nat->Int}(h:IY cs mix.length k b Z p){v:PV}{q:Int}{y:Nat->Int}(e:zx cs k v q y):False:=by
 have w:=weak P (M:=fun _=>0) (p:=p) e.y0 (fun d hd=>by
  rw[bX]
  refine Wg.bi fun j hj=>?_
  have hc:=List.getElem?_eq_getElem hj
  rw[cQ hc]
  by_cases hw:cs[j].who=none
  ·unfold w1;rw[hw,if_neg (by simp),Int.zero_mul]
  ·rw[e.F0 j _ hc hw,Int.mul_zero]) e.Iq h.zl h.z0 h.non h.Jg
 rw[Wg.bi fun d _=>Int.zero_mul _]at w
 have:=Int.mul_pos h.b0 e.cost
 omega
def zz{pr:Nat->Int}:bL mix ((List.range mix.length).map pr)=Wg.sm mix.length fun d=>mix.getD d 0 * pr d:=by
 rw[eL _ _ (by simp)]
 exact Wg.ao fun d hd=>by rw[show((List.range mix.length).map pr).getD d 0=pr d from aC (by rw[List.getElem?_map,List.getElem?_range hd];rfl)]
end
def t6{a b:Vu}(h:a.Perm b):a.sum=b.sum:=by
 induction h with
 |nil=>rfl
 |cons x _ ih=>simp[ih]
 |swap x y l=>simp;omega
 |trans _ _ i j=>rw[i,j]
def t7{t b:Int}(hb:0 < b):(M3.aB t b).natAbs ∣ b.natAbs:=by
 have L:=M3.cj (t:=t) (b:=b) (by omega)
 have w:=M3.aY (t:=t) (b:=b) (by omega)
 have c:Nat.Coprime (M3.aB t b).natAbs (M3.aK t b).natAbs:=by
  have:=L.one
  unfold Int.gcd at this
  exact Nat.Coprime.symm this
 refine c.dvd_of_dvd_mul_left ?_
 rw[<-Int.natAbs_mul,w,Int.natAbs_mul]
 exact Nat.dvd_mul_left _ _
theorem d6(a:Int):∀(xs ys:Vu),bL xs (ys.map (a * ·))=a * bL xs ys
 |[],_=>by simp[bL]
 |_::_,[]=>by simp[bL]
 |x::r,y::s=>by
  show x * (a * y)+bL r (s.map (a * ·))=a * (x * y+bL r s)
  rw[d6 a r s];grind
structure Cc where
 who:Option Nat
 n:Int
 eff:List Int
noncomputable def Cc.cl(p:Cc):Cl:=⟨p.who,M3.aK p.n 2520,(M3.aB p.n 2520).natAbs,p.eff⟩
noncomputable def Cc.v(p:Cc):PV:=.tup [jF p.who,cq 2520 p.n,.tup (p.eff.map PV.int)]
theorem Cc.pv(p:Cc):p.cl.pv=p.v:=by
 unfold Cc.cl Cl.pv Cc.v cq
 have L:=(M3.cj (t:=p.n) (b:=2520) (by decide)).pos
 rw[show((M3.aB p.n 2520).natAbs:Int)=M3.aB p.n 2520 by omega]
def Cc.MP(L:List Cc):(L.map Cc.cl).map Cl.pv=L.map Cc.v:=by rw[List.map_map];exact List.map_congr_left fun c _=>Cc.pv c
structure j2 (k D:Nat) (c:Cc):Prop where
 el:c.eff.length=k
 eb:∀e∈c.eff,e.natAbs<=2 ^ 30
 n0:0<=c.n
 n1:c.n<=2 ^ 30
 wd:∀d,c.who=some d->d < D
def qZ(d:Nat)(c:Cc):Prop:=c.who=some d/\∀e∈c.eff,0<=e
structure Cp (k:Nat) (mix:Vu) (L:List Cc):Prop where
 ok:∀c∈L,j2 k mix.length c
 fx:∀d,d < mix.length->∃c∈L,qZ d c
 k1:k<=8
 d1:mix.length<=8
 n1:1<=L.length
 n2:L.length<=100
 m0:∀x∈mix,0<=x/\x<=2 ^ 30
def Cp.JF{k:Nat}{mix:Vu}{L:List Cc}(h:Cp k mix L):bW (L.map Cc.cl) mix k:=by
 have mem:∀c∈L.map Cc.cl,∃p∈L,j2 k mix.length p/\p.cl=c:=fun c hc=>by obtain⟨p,hp,e⟩:=List.mem_map.mp hc;exact⟨p,hp,h.ok p hp,e⟩
 constructor
 ·simpa using h.n1
 ·simpa using h.n2
 ·exact h.k1
 ·exact h.d1
 ·intro c hc;obtain⟨p,_,o,rfl⟩:=mem c hc;exact o.el
 ·intro c hc;obtain⟨p,_,o,rfl⟩:=mem c hc;exact o.eb
 ·intro c hc
  obtain⟨p,_,o,rfl⟩:=mem c hc
  have L:=M3.cj (t:=p.n) (b:=2520) (by decide)
  have:=L.pos
  show M3.yx (M3.aK p.n 2520) ((M3.aB p.n 2520).natAbs:Int)
  rw[show((M3.aB p.n 2520).natAbs:Int)=M3.aB p.n 2520 by omega]
  exact L
 ·intro c hc
  obtain⟨p,_,o,rfl⟩:=mem c hc
  have n0:=o.n0;have n1:=o.n1
  have ct:=zn (n:=p.n) (Q:=2520) (by decide)
  have z:=M3.gS (t:=p.n) (b:=2520) (T:=p.n) (B:=2520) (by decide) (by omega) (by omega) (by omega) (by omega) (by omega) (by omega)
  exact⟨Int.not_lt.mp fun hh=>by have:=ct.1.mp hh;omega,show M3.aK p.n 2520<=_ by omega⟩
 ·intro c hc
  obtain⟨p,_,o,rfl⟩:=mem c hc
  have L:=(M3.cj (t:=p.n) (b:=2520) (by decide)).pos
  exact⟨show 0 < (M3.aB p.n 2520).natAbs by omega,t7 (t:=p.n) (b:=2520) (by decide)⟩
 ·intro c hc d hd;obtain⟨p,_,o,rfl⟩:=mem c hc;exact o.wd d hd
 ·intro d hd
  obtain⟨p,hp,f⟩:=h.fx d hd
  refine⟨p.cl,List.mem_map.mpr ⟨p,hp,rfl⟩,?_⟩
  unfold jc Cc.cl
  simp only[f.1,decide_true,Bool.true_and,List.all_eq_true,decide_eq_true_eq]
  exact f.2
 ·exact h.m0
def Cc.cn{cs:List Cl}{mix:Vu}{k:Nat}(P:bW cs mix k){p:Cc}(hp:p.cl∈cs):2520 * Cn cs p.cl=p.n * (cbO cs:Int):=by
 obtain⟨z,hz⟩:=(i5 P).2.2 p.cl hp
 have y0:=(P.yd p.cl hp).1
 have w:=M3.aY (t:=p.n) (b:=2520) (by decide)
 have L:=(M3.cj (t:=p.n) (b:=2520) (by decide)).pos
 have ey:(p.cl.y:Int)=M3.aB p.n 2520:=by show((M3.aB p.n 2520).natAbs:Int)=_;omega
 have ez:(cbO cs:Int)=M3.aB p.n 2520 * (z:Int):=by rw[hz,Int.natCast_mul,ey]
 unfold Cn
 rw[hz,Nat.mul_div_cancel_left _ y0,Int.natCast_mul,ey]
 show 2520 * (M3.aK p.n 2520 * (z:Int))=_
 calc 2520 * (M3.aK p.n 2520 * (z:Int))=(M3.aK p.n 2520 * 2520) * z:=by grind
  _=_:=by rw[w];grind
noncomputable def wp(p:Nat->Int):Option Nat->Int
 |none=>0
 |some d=>p d
structure Du (L:List Cc) (k:Nat) (B:Int) (Z:Vu) (p:Nat->Int):Prop where
 b0:0 < B
 zl:Z.length=k
 z0:∀z∈Z,0<=z
 le:∀c∈L,B * c.n+bL c.eff Z<=wp p c.who
noncomputable def Vl(mix:Vu)(p:Nat->Int):Int:=Wg.sm mix.length fun d=>mix.getD d 0 * p d
def Du.JG{L:List Cc}{mix:Vu}{k:Nat}{B:Int}{Z:Vu}{p:Nat->Int}(h:Du L k B Z p)(P:bW (L.map Cc.cl) mix k):IY (L.map Cc.cl) mix.length k (2520 * B) (Z.map ((cbO (L.map Cc.cl):Int) * ·)) (fun d=>(cbO (L.map Cc.cl):Int) * p d):=by
 have cb:=(i5 P).1
 have b0:=h.b0
 have key:∀c∈L,2520 * B * Cn (L.map Cc.cl) c.cl+bL c.cl.eff (Z.map ((cbO (L.map Cc.cl):Int) * ·))<=(cbO (L.map Cc.cl):Int) * wp p c.who:=fun c hc=>by
  have cn:=Cc.cn P (List.mem_map.mpr ⟨c,hc,rfl⟩)
  rw[d6,show c.cl.eff=c.eff from rfl]
  calc 2520 * B * Cn (L.map Cc.cl) c.cl+(cbO (L.map Cc.cl):Int) * bL c.eff Z=B * (2520 * Cn (L.map Cc.cl) c.cl)+(cbO (L.map Cc.cl):Int) * bL c.eff Z:=by grind
   _=(cbO (L.map Cc.cl):Int) * (B * c.n+bL c.eff Z):=by rw[cn];grind
   _<=_:=Int.mul_le_mul_of_nonneg_left (h.le c hc) (by omega)
 refine⟨by omega,by simpa using h.zl,fun z hz=>?_,fun c hc hw=>?_,fun c hc d hw=>?_⟩
 ·obtain⟨w,hw,rfl⟩:=List.mem_map.mp hz
  exact Int.mul_nonneg (by omega) (h.z0 w hw)
 ·obtain⟨c,h2,rfl⟩:=List.mem_map.mp hc
  have:=key c h2
  rw[show c.who=none from hw]at this
  simpa [wp]using this
 ·obtain⟨c,h2,rfl⟩:=List.mem_map.mp hc
  have:=key c h2
  rw[show c.who=some d from hw]at this
  exact this
noncomputable def Tl(L:List Cc)(mix:Vu)(k:Nat):Option (Int×Int)->Prop
 |none=>¬∃B Z p,Du L k B Z p
 |some (g,Q)=>Fq Q g/\g.natAbs<=Kq/\(∃B Z p,Du L k B Z p/\Vl mix p * Q=g * (2520 * B))/\∀B Z p,Du L k B Z p->g * (2520 * B)<=Q * Vl mix p
noncomputable def tv:Option (Int×Int)->PV
 |none=>.non
 |some (g,Q)=>cq Q g
def Tl.of{k:Nat}{mix:Vu}{L:List Cc}(C:Cp k mix L){v:PV}(o:Out (L.map Cc.cl) mix k v):∃t,Tl L mix k t/\((t=none/\∃w,v = .tup [.str "endless",w])\/∃g Q a b c,t=some (g,Q)/\v = .tup [.str "most",cq Q g,a,b,c]):=by
 have P:=C.JF
 rcases o.right P with⟨q,g,X,Y,pr,m⟩|⟨q,y,e⟩
 ·have cb:=(i5 P).1
  have cb2:=(i5 P).2.1
  have q0:=m.qy.q0
  have Q0:0 < q * (cbO (L.map Cc.cl):Int):=Int.mul_pos q0 (by omega)
  refine⟨some (g,q * (cbO (L.map Cc.cl):Int)),⟨⟨Q0,?_,Nat.lt_of_le_of_lt m.g1 ?_⟩,m.g1,⟨q * (cbO (L.map Cc.cl):Int),Y.map (2520 * ·),fun d=>2520 * pr d,⟨Q0,by simpa using m.qy.l,fun z hz=>?_,fun c hc=>?_⟩,?_⟩,fun B Z p h=>?_⟩,.inr ⟨_,_,_,_,_,rfl,m.v⟩⟩
  ·rw[Int.natAbs_mul]
   exact Nat.lt_of_le_of_lt (Nat.mul_le_mul m.qy.q1 (show((cbO (L.map Cc.cl):Int)).natAbs<=2 ^ 12 by omega)) (show Kq * 2 ^ 12 < dS by unfold Kq dS;rw[<-Nat.pow_add];exact Nat.pow_lt_pow_right (by decide) (by decide))
  ·exact show Kq < dS from Nat.pow_lt_pow_right (by decide) (by decide)
  ·obtain⟨w,hw,rfl⟩:=List.mem_map.mp hz
   exact Int.mul_nonneg (by decide) (m.y0 w hw)
  ·have cn:=Cc.cn P (List.mem_map.mpr ⟨c,hc,rfl⟩)
   rw[d6]
   have e:q * (cbO (L.map Cc.cl):Int) * c.n+2520 * bL c.eff Y=2520 * (q * Cn (L.map Cc.cl) c.cl+bL c.cl.eff Y):=by
    show _=2520 * (q * Cn (L.map Cc.cl) c.cl+bL c.eff Y)
    calc q * (cbO (L.map Cc.cl):Int) * c.n+2520 * bL c.eff Y=q * (c.n * (cbO (L.map Cc.cl):Int))+2520 * bL c.eff Y:=by grind
     _=_:=by rw[<-cn];grind
   rw[e]
   cases hw:c.who with
   |none=>
    have:=m.non c.cl (List.mem_map.mpr ⟨c,hc,rfl⟩) hw
    show _<=0
    omega
   |some d=>
    have:=m.Jg c.cl (List.mem_map.mpr ⟨c,hc,rfl⟩) d hw
    show _<=2520 * pr d
    omega
  ·have e:Vl mix (fun d=>2520 * pr d)=2520 * g:=by
    unfold Vl
    rw[<-m.sum,zz,<-Wg.bo]
    exact Wg.ao fun d _=>by grind
   rw[e];grind
  ·have D:=h.JG P
   have w:=weak P (M:=fun d=>mix.getD d 0 * q) m.x0 m.F0 m.Iq D.zl D.z0 D.non D.Jg
   rw[m.cost]at w
   have e:Wg.sm mix.length (fun d=>mix.getD d 0 * q * ((cbO (L.map Cc.cl):Int) * p d))=q * (cbO (L.map Cc.cl):Int) * Vl mix p:=by
    unfold Vl
    rw[<-Wg.bo]
    exact Wg.ao fun d _=>by grind
   rw[e]at w
   rw[Int.mul_comm g]
   exact w
 ·refine⟨none,fun⟨B,Z,p,h⟩=>(h.JG P).IZ P e,.inl ⟨rfl,_,e.v⟩⟩
def Tr(L:List Cc)(mix:Vu)(k:Nat)(L':List Cc)(EW:Vu)(k':Nat)(r s:Int):Prop:=∀B Z p,Du L k B Z p->∃B' Z' p',Du L' k' B' Z' p'/\r * Vl EW p' * B<=s * Vl mix p * B'
theorem Tl.le{L L':List Cc}{mix EW:Vu}{k k':Nat}{t t':Option (Int×Int)}(a:Tl L mix k t)(b:Tl L' EW k' t'){r s:Int}(r0:0 < r)(tr:Tr L mix k L' EW k' r s):t=none\/∃g Q g' Q',t=some (g,Q)/\t'=some (g',Q')/\r * g' * Q<=s * g * Q':=by
 match t,a with
 |none,_=>exact .inl rfl
 |some (g,Q),⟨F,_,⟨B,Z,p,h,e⟩,_⟩=>
  obtain⟨B',Z',p',h',le⟩:=tr B Z p h
  match t',b with
  |none,b=>exact(b ⟨B',Z',p',h'⟩).elim
  |some (g',Q'),⟨F',_,_,w⟩=>
   refine .inr ⟨g,Q,g',Q',rfl,rfl,?_⟩
   have w:=w B' Z' p' h'
   have b0:=h.b0;have MQ:=h'.b0;have q0:=F.q0;have MR:=F'.q0
   have m1:=Int.mul_le_mul_of_nonneg_left w (show 0<=r * B * Q from Int.le_of_lt (Int.mul_pos (Int.mul_pos r0 b0) q0))
   have m2:=Int.mul_le_mul_of_nonneg_left le (show 0<=Q' * Q from Int.le_of_lt (Int.mul_pos MR q0))
   have e1:r * B * Q * (g' * (2520 * B'))=(2520 * B * B') * (r * g' * Q):=by grind
   have e2:r * B * Q * (Q' * Vl EW p')=Q' * Q * (r * Vl EW p' * B):=by grind
   have e3:Q' * Q * (s * Vl mix p * B')=Q' * s * B' * (Vl mix p * Q):=by grind
   have e4:Q' * s * B' * (g * (2520 * B))=(2520 * B * B') * (s * g * Q'):=by grind
   rw[e1,e2]at m1
   rw[e3,e,e4]at m2
   exact Int.le_of_mul_le_mul_left (Int.le_trans m1 m2) (Int.mul_pos (Int.mul_pos (by decide) b0) MQ)
def Tl.same{L L':List Cc}{mix EW:Vu}{k k':Nat}{t t':Option (Int×Int)}(a:Tl L mix k t)(b:Tl L' EW k' t'){s:Int}(s0:0 < s)(tr:Tr L mix k L' EW k' 1 s)(Jh:Tr L' EW k' L mix k s 1):(t=none/\t'=none)\/∃g Q g' Q',t=some (g,Q)/\t'=some (g',Q')/\cq Q' g'=cq Q (s * g):=by
 rcases Tl.le a b (by decide) tr with h|⟨g,Q,g',Q',rfl,rfl,h⟩
 ·subst h
  rcases Tl.le b a s0 Jh with h|⟨_,_,_,_,_,e,_⟩
  ·exact .inl ⟨rfl,h⟩
  ·cases e
 ·rcases Tl.le b a s0 Jh with h2|⟨_,_,_,_,e1,e2,h2⟩
  ·cases h2
  ·cases e1;cases e2
   refine .inr ⟨g,Q,g',Q',rfl,rfl,eZ b.1.q0 a.1.q0 ?_⟩
   rw[Int.one_mul]at h h2
   omega
def Tl.eq{L L':List Cc}{mix EW:Vu}{k k':Nat}{t t':Option (Int×Int)}(a:Tl L mix k t)(b:Tl L' EW k' t')(tr:Tr L mix k L' EW k' 1 1)(Jh:Tr L' EW k' L mix k 1 1):tv t'=tv t:=by
 rcases Tl.same a b (by decide) tr Jh with⟨rfl,rfl⟩|⟨g,Q,g',Q',rfl,rfl,e⟩
 ·rfl
 ·rw[Int.one_mul]at e;exact e
noncomputable def oj:List Int->List Int->Prop
 |[],[]=>True
 |a::r,b::s=>a<=b/\oj r s
 |_,_=>False
theorem fH:∀l,oj l l
 |[]=>trivial
 |_::r=>⟨Int.le_refl _,fH r⟩
theorem pJ:∀(a b Z:Vu),oj a b->(∀z∈Z,0<=z)->bL a Z<=bL b Z
 |[],[],_,_,_=>Int.le_refl _
 |_::_,_::_,[],_,_=>by simp[bL]
 |x::r,y::s,z::t,h,g=>by
  have:=pJ r s t h.2 fun z hz=>g z (by simp[hz])
  have:=Int.mul_le_mul_of_nonneg_right h.1 (g z (by simp))
  show x * z+bL r t<=y * z+bL s t
  omega
def om{L L':List Cc}{mix:Vu}{k:Nat}(h:∀c'∈L',∃c∈L,c'.who=c.who/\c'.n<=c.n/\oj c'.eff c.eff):Tr L mix k L' mix k 1 1:=fun B Z p d=>⟨B,Z,p,⟨d.b0,d.zl,d.z0,fun c' hc'=>by
 obtain⟨c,hc,hw,hn,he⟩:=h c' hc'
 have:=d.le c hc
 have:=pJ c'.eff c.eff Z he d.z0
 have:=Int.mul_le_mul_of_nonneg_left hn (Int.le_of_lt d.b0)
 rw[hw];omega⟩,Int.le_refl _⟩
def lB{L L':List Cc}{mix:Vu}{k:Nat}(h:∀c'∈L',c'∈L):Tr L mix k L' mix k 1 1:=om fun c' hc'=>⟨c',h c' hc',rfl,Int.le_refl _,fH _⟩
def t8(s:Int)(p:Nat->Int)(w:Option Nat):wp (fun d=>s * p d) w=s * wp p w:=by cases w<;>simp[wp]
def t9(mix:Vu)(s:Int)(p:Nat->Int):Vl mix (fun d=>s * p d)=s * Vl mix p:=by
 unfold Vl
 rw[<-Wg.bo]
 exact Wg.ao fun d _=>by grind
noncomputable def Cc.cost(s:Int)(c:Cc):Cc:=⟨c.who,s * c.n,c.eff⟩
def wm{L:List Cc}{mix:Vu}{k:Nat}{s:Int}(s0:0 < s):Tr L mix k (L.map (Cc.cost s)) mix k 1 s:=fun B Z p d=>⟨B,Z.map (s * ·),fun e=>s * p e,⟨d.b0,by simpa using d.zl,fun z hz=>by
  obtain⟨w,hw,rfl⟩:=List.mem_map.mp hz
  exact Int.mul_nonneg (Int.le_of_lt s0) (d.z0 w hw),fun c' hc'=>by
  obtain⟨c,hc,rfl⟩:=List.mem_map.mp hc'
  have:=Int.mul_le_mul_of_nonneg_left (d.le c hc) (Int.le_of_lt s0)
  rw[d6,t8]
  show B * (s * c.n)+s * bL c.eff Z<=s * wp p c.who
  grind⟩,by rw[t9];exact Int.le_of_eq (by grind)⟩
def t_{L:List Cc}{mix:Vu}{k:Nat}{s:Int}(s0:0 < s):Tr (L.map (Cc.cost s)) mix k L mix k s 1:=fun B Z p d=>⟨s * B,Z,p,⟨Int.mul_pos s0 d.b0,d.zl,d.z0,fun c hc=>by
  have:=d.le _ (List.mem_map.mpr ⟨c,hc,rfl⟩)
  have e:B * (s * c.n)+bL c.eff Z<=wp p c.who:=this
  grind⟩,Int.le_of_eq (by grind)⟩
noncomputable def Cc.wide(s:Int)(c:Cc):Cc:=⟨c.who,c.n,c.eff.map (s * ·)⟩
theorem gJ(a:Int):∀(xs ys:Vu),bL (xs.map (a * ·)) ys=a * bL xs ys
 |[],_=>by simp[bL]
 |_::_,[]=>by simp[bL]
 |x::r,y::s=>by
  show a * x * y+bL (r.map (a * ·)) s=a * (x * y+bL r s)
  rw[gJ a r s];grind
def wn{L:List Cc}{mix:Vu}{k:Nat}{s:Int}(s0:0 < s):Tr L mix k (L.map (Cc.wide s)) mix k 1 1:=fun B Z p d=>⟨s * B,Z,fun e=>s * p e,⟨Int.mul_pos s0 d.b0,d.zl,d.z0,fun c' hc'=>by
  obtain⟨c,hc,rfl⟩:=List.mem_map.mp hc'
  have:=Int.mul_le_mul_of_nonneg_left (d.le c hc) (Int.le_of_lt s0)
  show s * B * c.n+bL (c.eff.map (s * ·)) Z<=wp (fun e=>s * p e) c.who
  rw[gJ,t8]
  grind⟩,by rw[t9];exact Int.le_of_eq (by grind)⟩
def ua{L:List Cc}{mix:Vu}{k:Nat}{s:Int}(s0:0 < s):Tr (L.map (Cc.wide s)) mix k L mix k 1 1:=fun B Z p d=>⟨B,Z.map (s * ·),p,⟨d.b0,by simpa using d.zl,fun z hz=>by
  obtain⟨w,hw,rfl⟩:=List.mem_map.mp hz
  exact Int.mul_nonneg (Int.le_of_lt s0) (d.z0 w hw),fun c hc=>by
  have e:B * c.n+bL (c.eff.map (s * ·)) Z<=wp p c.who:=d.le _ (List.mem_map.mpr ⟨c,hc,rfl⟩)
  rw[gJ]at e
  rw[d6];exact e⟩,Int.le_refl _⟩
def ub(mix:Vu)(s:Int)(p:Nat->Int):Vl (mix.map (s * ·)) p=s * Vl mix p:=by
 unfold Vl
 rw[List.length_map,<-Wg.bo]
 refine Wg.ao fun d hd=>?_
 rw[show(mix.map (s * ·)).getD d 0=s * mix.getD d 0 by rw[List.getD_eq_getElem?_getD,List.getElem?_map,List.getElem?_eq_getElem hd,List.getD_eq_getElem?_getD,List.getElem?_eq_getElem hd];rfl]
 grind
def zA{L:List Cc}{mix:Vu}{k:Nat}{s:Int}:Tr L mix k L (mix.map (s * ·)) k 1 s:=fun B Z p d=>⟨B,Z,p,d,by rw[ub];exact Int.le_of_eq (by grind)⟩
def wo{L:List Cc}{mix:Vu}{k:Nat}{s:Int}:Tr L (mix.map (s * ·)) k L mix k s 1:=fun B Z p d=>⟨B,Z,p,d,by rw[ub];exact Int.le_of_eq (by grind)⟩
def lC{n:Nat}{js:List Nat}(h:js.Perm (List.range n))(F:Nat->Int):(js.map F).sum=Wg.sm n F:=by
 rw[t6 (h.map F)]
 clear h
 induction n with
 |zero=>rfl
 |succ n ih=>rw[List.range_succ,List.map_append,List.sum_append,ih];simp[Wg.sm]
def jL(js:List Nat)(F G:Nat->Int):bL (js.map F) (js.map G)=(js.map fun j=>F j * G j).sum:=by
 induction js with
 |nil=>rfl
 |cons a r ih=>show F a * G a+bL (r.map F) (r.map G)=_;rw[ih];simp
noncomputable def gb(ds js:List Nat)(c:Cc):Cc:=⟨c.who.map ds.idxOf,c.n,js.map fun j=>c.eff.getD j 0⟩
def uc{n:Nat}{ds:List Nat}(h:ds.Perm (List.range n)){d:Nat}(hd:d < n):ds.getD (ds.idxOf d) 0=d/\ds.idxOf d < n:=by
 have m:d∈ds:=h.mem_iff.mpr (List.mem_range.mpr hd)
 have l:=List.idxOf_lt_length_of_mem m
 have hl:ds.length=n:=by rw[h.length_eq,List.length_range]
 refine⟨?_,by omega⟩
 rw[List.getD_eq_getElem?_getD,List.getElem?_eq_getElem l,Option.getD_some]
 exact List.getElem_idxOf l
def pK{n:Nat}{ds:List Nat}(h:ds.Perm (List.range n)){i:Nat}(hi:i < n):ds.idxOf (ds.getD i 0)=i:=by
 have hl:ds.length=n:=by rw[h.length_eq,List.length_range]
 have nd:ds.Nodup:=h.nodup_iff.mpr List.nodup_range
 rw[List.getD_eq_getElem?_getD,List.getElem?_eq_getElem (by omega),Option.getD_some]
 exact nd.idxOf_getElem i (by omega)
def zB{n:Nat}{js:List Nat}(h:js.Perm (List.range n)){Z:Vu}(hz:Z.length=n):js.map (fun j=>Z.getD (js.idxOf j) 0)=Z:=by
 have hl:js.length=n:=by rw[h.length_eq,List.length_range]
 refine List.ext_getElem? fun i=>?_
 by_cases hi:i < n
 ·rw[List.getElem?_map,List.getElem?_eq_getElem (by omega)]
  have:=pK h hi
  rw[List.getD_eq_getElem?_getD,List.getElem?_eq_getElem (by omega),Option.getD_some]at this
  rw[Option.map_some,this,List.getD_eq_getElem?_getD,List.getElem?_eq_getElem (by omega),Option.getD_some]
 ·rw[List.getElem?_eq_none (by simp;omega),List.getElem?_eq_none (by omega)]
def q9{k:Nat}{js:List Nat}(h:js.Perm (List.range k)){e Z:Vu}(he:e.length=k)(hz:Z.length=k):bL (js.map fun j=>e.getD j 0) (js.map fun j=>Z.getD j 0)=bL e Z:=by
 rw[jL,lC h,eL _ _ (by omega),he]
def ue{k:Nat}{js:List Nat}(h:js.Perm (List.range k)){e Z:Vu}(he:e.length=k)(hz:Z.length=k):bL (js.map fun j=>e.getD j 0) Z=bL e ((List.range k).map fun j=>Z.getD (js.idxOf j) 0):=by
 have:=zB h hz
 conv=>lhs;rw[<-this]
 rw[jL,lC h,eL _ _ (by simp[he]),he]
 exact Wg.ao fun j hj=>by rw[show((List.range k).map fun j=>Z.getD (js.idxOf j) 0).getD j 0=Z.getD (js.idxOf j) 0 from aC (by rw[List.getElem?_map,List.getElem?_range hj];rfl)]
def pL{mix:Vu}{ds:List Nat}(h:ds.Perm (List.range mix.length))(p:Nat->Int):Vl (ds.map fun d=>mix.getD d 0) (fun i=>p (ds.getD i 0))=Vl mix p:=by
 have hl:ds.length=mix.length:=by rw[h.length_eq,List.length_range]
 unfold Vl
 rw[List.length_map,hl,<-lC h fun d=>mix.getD d 0 * p d]
 rw[<-jL,eL _ _ (by simp),List.length_map,hl]
 refine Wg.ao fun i hi=>?_
 have e:∀F:Nat->Int,(ds.map F).getD i 0=F (ds.getD i 0):=fun F=>by rw[List.getD_eq_getElem?_getD,List.getElem?_map,List.getD_eq_getElem?_getD,List.getElem?_eq_getElem (by omega)];rfl
 rw[e,e]
def wq{L L':List Cc}{mix:Vu}{k:Nat}{ds js:List Nat}(C:∀c∈L,j2 k mix.length c)(hd:ds.Perm (List.range mix.length))(hj:js.Perm (List.range k))(m:∀c'∈L',∃c∈L,c'=gb ds js c):Tr L mix k L' (ds.map fun d=>mix.getD d 0) k 1 1:=fun B Z p d=>⟨B,js.map (fun j=>Z.getD j 0),fun i=>p (ds.getD i 0),⟨d.b0,by rw[List.length_map,hj.length_eq,List.length_range],fun z hz=>by
  obtain⟨j,hj',rfl⟩:=List.mem_map.mp hz
  rw[List.getD_eq_getElem?_getD]
  cases e:Z[j]? with
  |none=>exact Int.le_refl _
  |some w=>exact d.z0 w (List.mem_of_getElem? e),fun c' hc'=>by
  obtain⟨c,hc,rfl⟩:=m c' hc'
  have o:=C c hc
  show B * c.n+bL (js.map fun j=>c.eff.getD j 0) (js.map fun j=>Z.getD j 0)<=wp _ (c.who.map ds.idxOf)
  rw[q9 hj o.el d.zl]
  have:=d.le c hc
  cases hw:c.who with
  |none=>rw[hw]at this;exact this
  |some e=>
   rw[hw]at this
   show _<=p (ds.getD (ds.idxOf e) 0)
   rw[(uc hd (o.wd e hw)).1]
   exact this⟩,by rw[pL hd];exact Int.le_refl _⟩
def uf{L L':List Cc}{mix:Vu}{k:Nat}{ds js:List Nat}(C:∀c∈L,j2 k mix.length c)(hd:ds.Perm (List.range mix.length))(hj:js.Perm (List.range k))(m:∀c∈L,gb ds js c∈L'):Tr L' (ds.map fun d=>mix.getD d 0) k L mix k 1 1:=fun B Z p d=>⟨B,(List.range k).map (fun j=>Z.getD (js.idxOf j) 0),fun e=>p (ds.idxOf e),⟨d.b0,by simp,fun z hz=>by
  obtain⟨j,_,rfl⟩:=List.mem_map.mp hz
  rw[List.getD_eq_getElem?_getD]
  cases e:Z[js.idxOf j]? with
  |none=>exact Int.le_refl _
  |some w=>exact d.z0 w (List.mem_of_getElem? e),fun c hc=>by
  have o:=C c hc
  have:B * c.n+bL (js.map fun j=>c.eff.getD j 0) Z<=wp p (c.who.map ds.idxOf):=d.le _ (m c hc)
  rw[ue hj o.el d.zl]at this
  cases hw:c.who with
  |none=>rw[hw]at this;exact this
  |some e=>rw[hw]at this;exact this⟩,by
  have e:Vl (ds.map fun d=>mix.getD d 0) p=Vl mix fun e=>p (ds.idxOf e):=by
   rw[<-pL hd]
   unfold Vl
   rw[List.length_map]
   refine Wg.ao fun i hi=>?_
   show _=_ * p (ds.idxOf (ds.getD i 0))
   rw[pK hd (by rw[<-List.length_range (n:=mix.length),<-hd.length_eq];exact hi)]
  rw[e];exact Int.le_refl _⟩
end CW
namespace L2
open PySem PySem.Spec PyProof.Rows
section
variable {X:Cx}
noncomputable def q_(n:Nat):List V:=(List.range n).map fun(i:Nat)=>V.int (i:Int)
def ug{n:Nat}{acc:Vw}(h:ItemsOf (fun i v=>∃t,v = .int (0+i * 1) t) acc n):Vals (q_ n) acc.toList:=by
 have key:∀(vs:Vv) (a:Nat),(∀(j:Nat) (v:Value),vs[j]?=some v->∃t,v = .int ((a+j:Nat):Int) t)->Vals ((List.range' a vs.length).map fun(i:Nat)=>V.int (i:Int)) vs:=by
  intro vs
  induction vs with
  |nil=>intro a _;exact .nil
  |cons v r ih=>
   intro a hh
   rw[List.length_cons,List.range'_succ,List.map_cons]
   refine .cons ?_ (ih (a+1) fun j v hj=>?_)
   ·obtain⟨t,rfl⟩:=hh 0 v rfl
    exact⟨t,by simp⟩
   ·obtain⟨t,rfl⟩:=hh (j+1) v hj
    exact⟨t,by congr 1;omega⟩
 have:=key acc.toList 0 fun j v hj=>by
  obtain⟨t,rfl⟩:=h.2 j v (by rw[<-hj,Array.getElem?_toList])
  exact⟨t,by congr 1;omega⟩
 rw[Array.length_toList,h.1,<-List.range_eq_range']at this
 exact this
def uh(te:TE):TE:=fun σ H Q=>te σ H fun x H1=>∃j:Int,x = .int j/\0<=j/\j<=2 ^ 20/\∀q,H1 q=none->Q (.ref q) (upd H1 q (.lst (q_ j.toNat)))
def on{e:Expr}{te:TE}{p1 p2 q1 q2:Pos}(hc:X.calm=true)(he:PE X e te)(IK:Gl X "list")(hm1:X.mg "list" = none)(IL:Gl X "range")(hm2:X.mg "range" = none)
  (hs:starEach [e] X.env=[(false,eval e X.env)]:=by rfl) (hs2:starEach [.Call (.Name "range" p2) [e] [] q2] X.env=[(false,eval (.Call (.Name "range" p2) [e] [] q2) X.env)]:=by rfl) :
  PE X (.Call (.Name "list" p1) [.Call (.Name "range" p2) [e] [] q2] [] q1) (uh te):=by
 intro pins s σ H Q I h
 refine wpAny_Call_Name_kw (dM I IK hm1 (u:=.type "list") (by decide +kernel) ?_)
 refine PyProof.Rows.callWith_type1 ?_ hs2 rfl
 rw[hs2]
 show wpAny _ _ (spliced ((false,eval (.Call (.Name "range" p2) [e] [] q2) X.env)::backTo q1 [])) _ _ s
 refine Calls.spliced_cons ?_
 refine wpAny_Call_Name_kw (dM I IL hm2 (u:=.type "range") boot_range ?_)
 refine PyProof.Rows.callWith_type1 ?_ hs rfl
 rw[hs]
 show wpAny _ _ (spliced ((false,eval e X.env)::backTo q2 [])) _ _ s
 refine Calls.spliced_cons (bA (he pins s σ H _ I h) fun u s1 ⟨x,H1,I1,r1,j,ex,h0,hj,q⟩=>?_)
 subst ex
 obtain⟨t,rfl⟩:=r1
 refine Calls.spliced_nil (call_range_1 ?_)
 refine Calls.spliced_nil ?_
 have hsz:(s1.heap.push { cls:=.type "range",data:=.fields #[.int 0 s1.toks,.int j t,.int 1 (s1.toks+1)] }).objs.size=s1.heap.objs.size+1:=Heap.size_push _ _
 have hle:s1.heap.objs.size<=(s1.heap.push { cls:=.type "range",data:=.fields #[.int 0 s1.toks,.int j t,.int 1 (s1.toks+1)] }).objs.size:=by rw[hsz];exact Nat.le_succ _
 refine call_list_range (n:=j.toNat) (I.ok.hd hc) (IsRange.new ..) (small_one (by omega) (by omega) (by omega) (by omega)) (by rw[rangeSize_one];split<;>omega) (by omega) fun h' tk acc c hk hS ha=>?_
 refine⟨.ref _,_,I1.laid (a:=(s1.heap.push { cls:=.type "range",data:=.fields #[.int 0 s1.toks,.int j t,.int 1 (s1.toks+1)] }).objs.size) (o:=.lst (q_ j.toNat)) (h':=h') (t':=tk) (fun b u e=>hk b u (Heap.get?_push_of_some _ e)) hle ?_,rfl,q _ (I1.hok.fresh hle)⟩
 have hl:(2:Nat) ^ 20<=sizeLine:=by decide
 refine⟨?_,acc.toList,c,ug ha,?_⟩
 ·unfold q_
  rw[List.length_map,List.length_range]
  omega
 rw[hS,Array.toArray_toList]
noncomputable def wt:V->List V->Hp->VK->Prop:=fun x vs H Q=>∃(l:Addr) (ns:Vu) (i:Int) (k:Nat),x = .ref l/\vs=[.int i]/\H l=some (.lst (ns.map V.int))/\ns[k]?=some i/\(∀j:Nat,j < k->ns[j]?≠some i)/\Q (.int k) H
def rc:BW X "list.index" wt:=by
 intro pins s σ H x vs v us Q I rx rv h
 obtain⟨l,ns,i,k,rfl,rfl,hH,hk,hf,q⟩:=h
 cases rx
 obtain⟨u,rfl,t,rfl⟩:=rv.one
 obtain⟨z,its,n,r,hl,e⟩:=I.Gv hH
 have hi:IntsAre its ns:=ee r
 have hlen:ns.length=its.length:=by have:=r.length;rw[List.length_map]at this;exact this
 have at_:∀(j:Nat) (hj:j < its.length),∃t,its[j] = .int (ns[j]'(by omega)) t:=fun j hj=>by
  obtain⟨v,hv,t,rfl⟩:=r.get (i:=j) (x:=.int (ns[j]'(by omega))) (by rw[List.getElem?_map,List.getElem?_eq_getElem (by omega)];rfl)
  rw[List.getElem?_eq_getElem hj]at hv
  exact⟨t,Option.some.inj hv⟩
 have kl:k < ns.length:=(List.getElem?_eq_some_iff.mp hk).1
 have big:sizeLine < 2 ^ 62:=by decide
 rw[List.length_map]at z
 refine call_meets PySem.F.slot_list_index ⟨_,e,rfl⟩ PySem.F.entry_list_index (PySem.F.args_list_index_2 _ _)
  (MeetsSeq.list_index l its.toArray n (.int i t) (isInt i) (fun y hy=>eq_isInt i t hi y (by simpa using hy)) k (by rw[List.size_toArray];omega) (by omega) ?_ fun m hm hlt=>?_) ⟨e,.int k,H,I.tok _,⟨_,rfl⟩,q⟩
 ·obtain⟨t',ht⟩:=at_ k (by omega)
  have:ns[k]=i:=by rw[List.getElem?_eq_getElem kl]at hk;exact Option.some.inj hk
  rw[List.getElem_toArray,ht]
  show(ns[k] == i)=true
  simp[this]
 ·rw[List.size_toArray]at hm
  obtain⟨t',ht⟩:=at_ m hm
  have ne:=hf m hlt
  rw[List.getElem?_eq_getElem (by omega)]at ne
  have ne:ns[m]'(by omega)≠i:=fun h=>ne (by rw[h])
  rw[List.getElem_toArray,ht]
  show(ns[m]'(by omega) == i)=false
  simpa using ne
end
end L2
namespace L3
open PySem PySem.Spec PyProof.Rows L2
section
variable {X:Cx} {e:Expr} {te:aT}
def uk(te:aT):aT:=fun σ S Q E=>te σ S (fun x S1=>match x with
 | .int j=>0<=j/\j<=2 ^ 20/\∀p,S1 p=none->Q (.ref p) (Ee S1 p (.lst (a_ 0 j.toNat)))
 |_=>False) E
def ul{K:Vo}{H:Hp}(n:Nat):Reps K H (q_ n) (a_ 0 n):=by
 unfold q_ a_
 generalize List.range n=l
 induction l with
 |nil=>exact .nil
 |cons a r ih=>exact .cons (by show Rep K H (V.int (a:Int)) (PV.int (0+(a:Int)));rw[Int.zero_add];exact .int _) ih
def zC{p1 p2 q1 q2:Pos}(hs:starEach [e] X.env=[(false,eval e X.env)])(hc:X.calm=true)(he:bj X e te)(IK:Gl X "list")(hm1:X.mg "list" = none)(IL:Gl X "range")(hm2:X.mg "range" = none):bj X (.Call (.Name "list" p1) [.Call (.Name "range" p2) [e] [] q2] [] q1) (uk te):=
 ⟨aR (on hc he.ok IK hm1 IL hm2 hs rfl) fun σ H Q ⟨σ3,S,Q3,E3,rσ,rS,h,xo,k⟩=>⟨σ3,S,_,E3,rσ,rS,h,xo,fun x S1 v H1 h1 rx Er g1=>by
  dsimp only at h1
  split at h1
  ·cases rx
   exact⟨_,rfl,h1.1,h1.2.1,fun q hq=>k _ _ _ _ (h1.2.2 q (Er.free hq)) (.ref q) (Er.new hq ⟨_,ay,ul _⟩) (g1.trans (.new hq))⟩
  ·exact h1.elim⟩⟩
def ic:uM:=fun x ps S Q=>match x,ps with
 | .ref a,[.int i]=>(match S a with|some (.lst xs)=>(match dN xs with|some ns=>∃k:Nat,ns[k]?=some i/\(∀j:Nat,j < k->ns[j]?≠some i)/\Q (.int k) S|none=>False)|_=>False)
 |_,_=>False
def um:wU X "list.index" ic:=⟨fun pins s σ H x xs v us Q I rx rs ⟨px,ps,S,Q3,r1,rp,rS,q,k⟩=>by
 unfold ic at q
 split at q
 ·split at q
  ·rename_i e
   split at q
   ·rename_i eb
    cases r1
    cases rp with
    |cons b rr=>
     cases rr;cases b
     obtain⟨vs,hv,rl⟩:=rS _ _ e
     have e2:=dZ rl eb
     subst e2
     obtain⟨j,h1,h2,h3⟩:=q
     exact rc pins s σ H _ _ v us Q I rx rs ⟨_,_,_,j,rfl,rfl,hv,h1,h2,k _ S _ H h3 (.int _) rS .refl⟩
   ·exact q.elim
  ·exact q.elim
 ·exact q.elim⟩
def rd:zY "list" "index" "list.index":=⟨PySem.F.plainAttrs_list,PySem.F.slot_list_index,PySem.F.type_list_index⟩
end
end L3
namespace G37
open PySem L2 L3
noncomputable def bY(i:Nat):Stmt:=PySem.Challenge.pw_dueworth_k37_whole_the_same_weighed.main.body.getD i (.Pass ⟨0,0,0,0⟩)
noncomputable def mt(i j:Nat):Stmt:=(vS (bY i)).getD j (.Pass ⟨0,0,0,0⟩)
structure Txt (P:Program) (w:World) (K:Vo) (mg:Vr):Prop where
 o_common:bS K mg "common" (bY 1) ["one","other"]
 o_fraction:bS K mg "fraction" (bY 2) ["top","bottom"]
 o_plus:bS K mg "plus" (bY 3) ["one","other"]
 o_times:bS K mg "times" (bY 4) ["one","other"]
 o_less:bS K mg "less" (bY 5) ["one","other"]
 o_highest:bS K mg "highest" (bY 6) ["fractions"]
 o_together:bS K mg "together" (bY 7) ["fractions"]
 o_worth_of:bS K mg "worth_of" (bY 8) ["numbers","fractions"]
 o_common_bottom:bS K mg "common_bottom" (bY 10) ["fractions"]
 o_row_of_deed:bS K mg "row_of_deed" (bY 11) ["columns","jars","mix","d"]
 o_row_of_jar:bS K mg "row_of_jar" (bY 12) ["columns","jars","jar"]
 o_without:bS K mg "without" (bY 13) ["row","chosen","place","bottom"]
 o_Balance___init__:mn K "Balance" "__init__" "Balance.__init__" (mt 14 0) ["self","rows","held"]
 o_Balance_hold:mn K "Balance" "hold" "Balance.hold" (mt 14 1) ["self","number","place"]
 o_Balance_gaining:mn K "Balance" "gaining" "Balance.gaining" (mt 14 2) ["self"]
 o_Balance_sooner:mn K "Balance" "sooner" "Balance.sooner" (mt 14 3) ["self","one","other","place"]
 o_Balance_used_up:mn K "Balance" "used_up" "Balance.used_up" (mt 14 4) ["self","place"]
 o_Balance_held_by:mn K "Balance" "held_by" "Balance.held_by" (mt 14 5) ["self","count","place","sign"]
 o_balance_of:bS K mg "balance_of" (bY 15) ["columns","jars","mix"]
 o_first_that_takes_nothing:bS K mg "first_that_takes_nothing" (bY 16) ["columns","d"]
 o_price_of:bS K mg "price_of" (bY 17) ["columns","worths","d"]
 o_endless:bS K mg "endless" (bY 18) ["balance","columns","place"]
 o_most:bS K mg "most" (bY 19) ["balance","columns","mix"]
 o_weighed:bS K mg "weighed" (bY 20) ["columns","mix"]
 o__law_deal:bS K mg "_law_deal" (bY 22) ["_law_script","_law_base"]
 o__law_draw:bS K mg "_law_draw" (bY 23) ["_law_deal_here","_law_many_here"]
 o__law_low:bS K mg "_law_low" (bY 24) ["_law_top","_law_bottom"]
 o__law_plus:bS K mg "_law_plus" (bY 25) ["_law_one","_law_other"]
 o__law_cost:bS K mg "_law_cost" (bY 26) ["_law_deal_here"]
 o__law_effect:bS K mg "_law_effect" (bY 27) ["_law_deal_here","_law_jars","_law_wide"]
 o__law_column:bS K mg "_law_column" (bY 28) ["_law_deal_here","_law_jars","_law_deeds","_law_wide"]
 o__law_columns:bS K mg "_law_columns" (bY 29) ["_law_deal_here"]
 o__law_told:bS K mg "_law_told" (bY 30) ["_law_columns_here","_law_mix"]
 o__law_order:bS K mg "_law_order" (bY 31) ["_law_deal_here","_law_many_here"]
 o__law_otherwise:bS K mg "_law_otherwise" (bY 32) ["_law_deal_here","_law_columns_here","_law_mix"]
 o__law_below:bS K mg "_law_below" (bY 33) ["_law_deal_here","_law_column_here"]
 o__law_above:bS K mg "_law_above" (bY 34) ["_law_deal_here","_law_column_here"]
 o__law_is_no_more:bS K mg "_law_is_no_more" (bY 35) ["_law_one","_law_other"]
 o__law_many:bS K mg "_law_many" (bY 36) ["_law_most","_law_many_here"]
 Eh:zW K mg "Balance" ["rows","held","bottom"]
 JH:mg "abs" = none
 F4:mg "enumerate" = none
 JI:mg "int" = none
 Ey:mg "len" = none
 HL:mg "list" = none
 Iw:mg "max" = none
 Ix:mg "min" = none
 Es:mg "range" = none
 G5:mg "reversed" = none
 EG:mg "tuple" = none
 HM:mg "zip" = none
section
variable {P:Program} {w:World} {K:Vo} {mg:Vr} {base:Heap}
def Bp:(["number","one"]:Vs).Nodup:=by decide +kernel
def De:(["column","d"]:Vs).Nodup:=by decide +kernel
def Df:(["other","jar"]:Vs).Nodup:=by decide +kernel
def Dg:(["column","jar"]:Vs).Nodup:=by decide +kernel
def Bq:(["one","other","bottom","chosen","place","row"]:Vs).Nodup:=by decide +kernel
def Dh:(["row","chosen","place","self"]:Vs).Nodup:=by decide +kernel
def Br:(["place","column","d"]:Vs).Nodup:=by decide +kernel
def Bt:(["column"]:Vs).Nodup:=by decide +kernel
def Di:(["column","bottom"]:Vs).Nodup:=by decide +kernel
def Dj:(["d","columns","jars","mix"]:Vs).Nodup:=by decide +kernel
def Bu:(["jar","columns","jars"]:Vs).Nodup:=by decide +kernel
def Bv:(["number","columns","mix"]:Vs).Nodup:=by decide +kernel
def Bw:(["column","d","worths"]:Vs).Nodup:=by decide +kernel
def Bx:(["number","bottom"]:Vs).Nodup:=by decide +kernel
def By:(["d","columns","worths"]:Vs).Nodup:=by decide +kernel
def xq:(["_law_one"]:Vs).Nodup:=by decide +kernel
def xr:(["_law_j","_law_deal_here","_law_wide"]:Vs).Nodup:=by decide +kernel
def Bz:(["_law_deed","_law_deal_here"]:Vs).Nodup:=by decide +kernel
def BA:(["_law_j","_law_effect_here"]:Vs).Nodup:=by decide +kernel
def BB:(["_law_deed","_law_mix"]:Vs).Nodup:=by decide +kernel
def xu:(["_law_number","_law_deal_here"]:Vs).Nodup:=by decide +kernel
def kE:(["_law_who","_law_cost_here","_law_effect_here"]:Vs).Nodup:=by decide +kernel
def BC:(["_law_many_here"]:Vs).Nodup:=by decide +kernel
def BD:(["_law_number"]:Vs).Nodup:=by decide +kernel
def ie:aH:=bf 3 C.jD
def kF(T:Txt P w K mg):fz P w K mg base 1 "common" 2 ie:=fS ["one","other","left"] T.o_common (fun _ _ _ _ _ _ _ hr nd=>(ad (g7 PassesOwn.never (zd hr (ab 1) ae) (ad (s4 2 nd (au ga (ab 0) (ab 1)))
  (ad (s4 0 nd (ab 1))
  (ap (s4 1 nd (ab 2))))))
  (ap (aE (cB AW T.JH (l1 (ab 0))))))) rfl
def cR:aH:=bf 3 (C.gC ie)
def cZ(T:Txt P w K mg):fz P w K mg base 2 "fraction" 2 cR:=fS ["top","bottom","part"] T.o_fraction (fun _ _ _ _ _ _ _ hr nd=>(ad (s4 2 nd (c4 (kF T) hr (lc (ab 0) (l1 (ab 1)))))
  (ad (da (bv nH (ab 1) ae (aQ _)) (ap (s4 2 nd (ja c_ (ab 2)))) bD)
  (ap (aE (bm (lc (au fq (ab 0) (ab 2)) (l1 (au fq (ab 1) (ab 2)))))))))) rfl
def lD:aH:=bf 2 (C.fw cR)
def pM(T:Txt P w K mg):fz P w K mg base 3 "plus" 2 lD:=fS ["one","other"] T.o_plus (fun _ _ _ _ _ _ _ hr nd=>(ap (aE (c4 (cZ T) hr (lc (au aI (au aJ (de hr (ab 0)) (de hr (ab 1))) (au aJ (de hr (ab 1)) (de hr (ab 0)))) (l1 (au aJ (de hr (ab 0)) (de hr (ab 1))))))))) rfl
def pN:aH:=bf 2 (C.k7 cR)
def uo(T:Txt P w K mg):fz P w K mg base 3 "times" 2 pN:=fS ["one","other"] T.o_times (fun _ _ _ _ _ _ _ hr nd=>(ap (aE (c4 (cZ T) hr (lc (au aJ (de hr (ab 0)) (de hr (ab 1))) (l1 (au aJ (de hr (ab 0)) (de hr (ab 1))))))))) rfl
def uq:aH:=bf 2 CW.nL
def wu(T:Txt P w K mg):fz P w K mg base 1 "less" 2 uq:=fS ["one","other"] T.o_less (fun _ _ _ _ _ _ _ hr nd=>(ap (aE (l4 nH (au aJ (de hr (ab 0)) (de hr (ab 1))) (au aJ (de hr (ab 1)) (de hr (ab 0))) (aQ _))))) rfl
def kG:aH:=bf 3 (CW.iE uq)
def oo(T:Txt P w K mg):fz P w K mg base 2 "highest" 1 kG:=fS ["fractions","found","one"] T.o_highest (fun _ _ _ _ _ _ _ hr nd=>(ad (s4 1 nd (de hr (ab 0)))
  (ad (eX PassesOwn.never rfl (bP (ab 0)) (gn 2 nd) (ap (da (oS (c4 (wu T) hr (lc (ab 1) (l1 (ab 2))))) (ap (s4 1 nd (ab 2))) bD)))
  (ap (aE (ab 1)))))) rfl
def jM:aH:=bf 3 (CW.gD lD)
def mI(T:Txt P w K mg):fz P w K mg base 4 "together" 1 jM:=fS ["fractions","found","one"] T.o_together (fun _ _ _ _ _ _ _ hr nd=>(ad (s4 1 nd (bm (lc ae (l1 ae))))
  (ad (eX PassesOwn.never rfl (bP (ab 0)) (gn 2 nd) (ap (s4 1 nd (c4 (pM T) hr (lc (ab 1) (l1 (ab 2)))))))
  (ap (aE (ab 1)))))) rfl
def jN:aH:=bf 2 (CW.gE jM pN)
def mJ(T:Txt P w K mg):fz P w K mg base 5 "worth_of" 2 jN:=fS ["numbers","fractions"] T.o_worth_of (fun _ _ _ _ _ _ _ hr nd=>(ap (aE (c4 (mI T) hr (l1 (jW [] 2 [] ["number","one"] (A0 rfl rfl rfl T.HM (by decide +kernel) (lc (ab 0) (l1 (ab 1)))) (fun _=>(rj rfl (aS (gn 0 Bp) (aS (gn 1 Bp) eW)))) (fun _=>bx) (fun _=>(c4 (uo T) hr (lc (bm (lc (ab 0) (l1 ae))) (l1 (ab 1))))))))))) rfl
def cv:aH:=bf 3 (CW.df ie)
def d8(T:Txt P w K mg):fz P w K mg base 2 "common_bottom" 1 cv:=fS ["fractions","found","one"] T.o_common_bottom (fun _ _ _ _ _ _ _ hr nd=>(ad (s4 1 nd ae)
  (ad (eX PassesOwn.never rfl (bP (ab 0)) (gn 2 nd) (ap (s4 1 nd (au fq (au aJ (ab 1) (de hr (ab 2))) (c4 (kF T) hr (lc (ab 1) (l1 (de hr (ab 2)))))))))
  (ap (aE (ab 1)))))) rfl
def gf:aH:=bf 4 CW.dO
def jO(T:Txt P w K mg):fz P w K mg base 1 "row_of_deed" 4 gf:=fS ["columns","jars","mix","d"] T.o_row_of_deed (fun _ _ _ _ _ _ _ hr nd=>(ap (aE (au aI (au aI (jW ["d"] 1 [3] ["column","d"] (bP (ab 0)) (fun _=>(gn 0 De)) (fun _=>bx) (fun _=>(wT (vT hr (de hr (ab 0)) (ab 1)) ae ae))) (au aJ (dD (l1 ae)) (ab 1))) (dD (l1 (fc hr (ab 2) (ab 3)))))))) rfl
def ig:aH:=bf 4 CW.eJ
def j3(T:Txt P w K mg):fz P w K mg base 1 "row_of_jar" 3 ig:=fS ["columns","jars","jar","over"] T.o_row_of_jar (fun _ _ _ _ _ _ _ hr nd=>(ad (zf ["jar"] 1 [2] ["other","jar"] 3 nd (bn rfl rfl T.Es (l1 (ab 1))) (fun _=>(gn 0 Df)) (fun _=>bx) (fun _=>(wT (vT hr (ab 0) (ab 1)) ae ae)))
  (ap (aE (au aI (au aI (jW ["jar"] 1 [2] ["column","jar"] (bP (ab 0)) (fun _=>(gn 0 Dg)) (fun _=>bx) (fun _=>(ja c_ (fc hr (de hr (ab 0)) (ab 1))))) (ab 3)) (dD (l1 ae))))))) rfl
def kH:aH:=bf 4 CW.iF
def oq(T:Txt P w K mg):fz P w K mg base 1 "without" 4 kH:=fS ["row","chosen","place","bottom"] T.o_without (fun _ _ _ _ _ _ _ hr nd=>(ap (aE (jW ["row","place","chosen","bottom"] 2 [3,1,2,0] ["one","other","bottom","chosen","place","row"] (sX rfl rfl rfl T.HM (by decide +kernel) (lc (ab 0) (l1 (ab 1)))) (fun _=>(rj rfl (aS (gn 0 Bq) (aS (gn 1 Bq) eW)))) (fun _=>bx) (fun _=>(au fq (au f_ (au aJ (ab 0) (fc hr (ab 3) (ab 4))) (au aJ (fc hr (ab 5) (ab 4)) (ab 1))) (ab 2))))))) rfl
def du:aH:=bf 3 CW.cx
def fT(T:Txt P w K mg):uP P w K mg base 1 "Balance" "__init__" 3 du:=zX ["self","rows","held"] T.o_Balance___init__ (fun _ _ _ _ _ _ _ hr nd=>(ad (A6 T.Eh (ab 1) (ab 0))
  (ad (A6 T.Eh (ab 2) (ab 0))
  (ap (A6 T.Eh ae (ab 0)))))) rfl
def cI:aH:=bf 5 (CW.dm kH)
def e7(T:Txt P w K mg):uP P w K mg base 2 "Balance" "hold" 3 cI:=zX ["self","number","place","chosen","others"] T.o_Balance_hold (fun _ _ _ _ _ _ _ hr nd=>(ad (s4 3 nd (fc hr (lN T.Eh (ab 0)) (ab 1)))
  (ad (zf ["self","place","chosen"] 1 [3,2,0] ["row","chosen","place","self"] 4 nd (bP (lN T.Eh (ab 0))) (fun _=>(gn 0 Dh)) (fun _=>bx) (fun _=>(c4 (oq T) hr (lc (ab 0) (lc (ab 1) (lc (ab 2) (l1 (lN T.Eh (ab 3)))))))))
  (ad (A6 T.Eh (au aI (au aI (ck (ab 4) eC (cw (ab 1))) (dD (l1 (ab 3)))) (ck (ab 4) (cw (au aI (ab 1) ae)) eC)) (ab 0))
  (ad (A6 T.Eh (fc hr (ab 3) (ab 2)) (ab 0))
  (ap (kq (wW hr) (ab 2) (lN T.Eh (ab 0)) (ab 1)))))))) rfl
def dG:aH:=bf 3 CW.cF
def dv(T:Txt P w K mg):uP P w K mg base 1 "Balance" "gaining" 1 dG:=zX ["self","place","number"] T.o_Balance_gaining (fun _ _ _ _ _ _ _ hr nd=>(ad (eX PassesOwn.never rfl (sO rfl rfl T.F4 (by decide +kernel) (l1 (ck (fc hr (lN T.Eh (ab 0)) (ja c_ ae)) eC (cw (ja c_ ae))))) (rj rfl (aS (gn 1 nd) (aS (gn 2 nd) eW))) (ap (da (bv nH (ab 2) ae (aQ _)) (ap (aE (ab 1))) bD)))
  (ap (aE dX)))) rfl
def d9:aH:=bf 6 CW.cP
def ii(T:Txt P w K mg):uP P w K mg base 1 "Balance" "sooner" 4 d9:=zX ["self","one","other","place","first","second"] T.o_Balance_sooner (fun _ _ _ _ _ _ _ hr nd=>(ad (s4 4 nd (au aJ (fc hr (fc hr (lN T.Eh (ab 0)) (ab 1)) (ja c_ ae)) (fc hr (fc hr (lN T.Eh (ab 0)) (ab 2)) (ab 3))))
  (ad (s4 5 nd (au aJ (fc hr (fc hr (lN T.Eh (ab 0)) (ab 2)) (ja c_ ae)) (fc hr (fc hr (lN T.Eh (ab 0)) (ab 1)) (ab 3))))
  (ap (aE (l4 (A8 (sR hr)) (bm (lc (ab 4) (l1 (fc hr (lN T.Eh (ab 0)) (ab 1))))) (bm (lc (ab 5) (l1 (fc hr (lN T.Eh (ab 0)) (ab 2))))) (aQ _))))))) rfl
def dH:aH:=bf 4 (CW.cG d9)
def gK(T:Txt P w K mg):uP P w K mg base 2 "Balance" "used_up" 2 dH:=zX ["self","place","found","number"] T.o_Balance_used_up (fun _ _ _ _ _ _ _ hr nd=>(ad (s4 2 nd dX)
  (ad (eX PassesOwn.never rfl (bn rfl rfl T.Es (l1 (cB b6 T.Ey (l1 (lN T.Eh (ab 0)))))) (gn 3 nd) (ap (da (wR (kn (bv k6 (fc hr (fc hr (lN T.Eh (ab 0)) (ab 3)) (ab 1)) ae (aQ _)) (jx (wR (yA (bv ko (ab 2) dX (aQ _)) (sF (oS (zZ (ii T) hr (ab 0) (lc (ab 3) (lc (ab 2) (l1 (ab 1)))))))))))) (ap (s4 2 nd (ab 3))) bD)))
  (ap (aE (ab 2)))))) rfl
def bM:aH:=bf 7 (CW.cH cR)
def dw(T:Txt P w K mg):uP P w K mg base 3 "Balance" "held_by" 4 bM:=zX ["self","count","place","sign","found","row","held"] T.o_Balance_held_by (fun _ _ _ _ _ _ _ hr nd=>(ad (s4 4 nd (au aJ (dD (l1 (bm (lc ae (l1 ae))))) (ab 1)))
  (ad (eX PassesOwn.never rfl (sX rfl rfl rfl T.HM (by decide +kernel) (lc (lN T.Eh (ab 0)) (l1 (lN T.Eh (ab 0))))) (rj rfl (aS (gn 5 nd) (aS (gn 6 nd) eW))) (ap (da (bv nH (ab 6) (ab 1) (aQ _)) (ap (kq (wW hr) (c4 (cZ T) hr (lc (au aJ (ab 3) (fc hr (ab 5) (ab 2))) (l1 (lN T.Eh (ab 0))))) (ab 4) (ab 6))) bD)))
  (ap (aE (ab 4)))))) rfl
def bU:aH:=bf 3 CW.bc
def dj(T:Txt P w K mg):fz P w K mg base 1 "first_that_takes_nothing" 2 bU:=fS ["columns","d","fit"] T.o_first_that_takes_nothing (fun _ _ _ _ _ _ _ hr nd=>(ad (zf ["d"] 2 [1] ["place","column","d"] 2 nd (sO rfl rfl T.F4 (by decide +kernel) (l1 (ab 0))) (fun _=>(rj rfl (aS (gn 0 Br) (aS (gn 1 Br) eW)))) (fun _=>(sP (wR (kn (vT hr (de hr (ab 1)) (ab 2)) (jx (bv yQ (DW (zk rfl) T.Ix (de hr (ab 1)) ae) ae (aQ _))))))) (fun _=>(ab 0)))
  (ap (aE (de hr (ab 2)))))) rfl
def eM:aH:=bf 8 (CW.eK cv gf ig du cI bU)
def j4(T:Txt P w K mg):fz P w K mg base 3 "balance_of" 3 eM:=fS ["columns","jars","mix","bottom","goal","d","rows","balance"] T.o_balance_of (fun _ _ _ _ _ _ _ hr nd=>(ad (s4 3 nd (c4 (d8 T) hr (l1 (jW [] 1 [] ["column"] (bP (ab 0)) (fun _=>(gn 0 Bt)) (fun _=>bx) (fun _=>(de hr (ab 0)))))))
  (ad (s4 4 nd (au aI (jW ["bottom"] 1 [3] ["column","bottom"] (bP (ab 0)) (fun _=>(gn 0 Di)) (fun _=>bx) (fun _=>(au aJ (ja c_ (de hr (de hr (ab 0)))) (au fq (ab 1) (de hr (de hr (ab 0))))))) (au aJ (dD (l1 ae)) (au aI (ab 1) ae))))
  (ad (zf ["mix","jars","columns"] 1 [0,1,2] ["d","columns","jars","mix"] 6 nd (bn rfl rfl T.Es (l1 (cB b6 T.Ey (l1 (ab 2))))) (fun _=>(gn 0 Dj)) (fun _=>bx) (fun _=>(c4 (jO T) hr (lc (ab 1) (lc (ab 2) (lc (ab 3) (l1 (ab 0))))))))
  (ad (gx (ze qI sK (ab 6) (l1 (jW ["jars","columns"] 1 [0,1] ["jar","columns","jars"] (bn rfl rfl T.Es (l1 (ab 1))) (fun _=>(gn 0 Bu)) (fun _=>bx) (fun _=>(c4 (j3 T) hr (lc (ab 1) (lc (ab 2) (l1 (ab 0))))))))))
  (ad (s4 7 nd (DV T.Eh (fT T) hr (lc (au aI (ab 6) (dD (l1 (ab 4)))) (l1 (jW ["mix","columns"] 1 [0,2] ["number","columns","mix"] (bn rfl rfl T.Es (l1 (cB b6 T.Ey (l1 (ab 6))))) (fun _=>(gn 0 Bv)) (fun _=>bx) (fun _=>(au f_ (au aI (cB b6 T.Ey (l1 (ab 1))) (ab 0)) (cB b6 T.Ey (l1 (ab 2))))))))))
  (ad (eX PassesOwn.never rfl (bn rfl rfl T.Es (l1 (cB b6 T.Ey (l1 (ab 2))))) (gn 5 nd) (ap (gx (zZ (e7 T) hr (ab 7) (lc (ab 5) (l1 (c4 (dj T) hr (lc (ab 0) (l1 (ab 5))))))))))
  (ap (aE (ab 7)))))))))) rfl
def gL:aH:=bf 3 (CW.gF kG lD jN)
def mK(T:Txt P w K mg):fz P w K mg base 6 "price_of" 3 gL:=fS ["columns","worths","d"] T.o_price_of (fun _ _ _ _ _ _ _ hr nd=>(ap (aE (c4 (oo T) hr (l1 (jW ["worths","d"] 1 [2,1] ["column","d","worths"] (bP (ab 0)) (fun _=>(gn 0 Bw)) (fun _=>(sP (vT hr (de hr (ab 0)) (ab 1)))) (fun _=>(c4 (pM T) hr (lc (de hr (ab 0)) (l1 (c4 (mJ T) hr (lc (de hr (ab 0)) (l1 (ab 2)))))))))))))) rfl
def kI:aH:=bf 4 (CW.iG bM)
def ot(T:Txt P w K mg):fz P w K mg base 4 "endless" 3 kI:=fS ["balance","columns","place","shares"] T.o_endless (fun _ _ _ _ _ _ _ hr nd=>(ad (s4 3 nd (zZ (dw T) hr (ab 0) (lc (cB b6 T.Ey (l1 (ab 1))) (lc (ab 2) (l1 (ja c_ ae))))))
  (ad (da (bv nH (ab 2) (cB b6 T.Ey (l1 (ab 1))) (aQ _)) (ap (kq (wW hr) (bm (lc ae (l1 ae))) (ab 3) (ab 2))) bD)
  (ap (aE (bm (lc dh (l1 (cT cr T.EG (l1 (ab 3))))))))))) rfl
def ur:aH:=bf 8 (CW.nM cv cR gL bM)
def wv(T:Txt P w K mg):fz P w K mg base 7 "most" 3 ur:=fS ["balance","columns","mix","bottom","goal","worths","prices","shares"] T.o_most (fun _ _ _ _ _ _ _ hr nd=>(ad (s4 3 nd (au aJ (lN T.Eh (ab 0)) (c4 (d8 T) hr (l1 (jW [] 1 [] ["column"] (bP (ab 1)) (fun _=>(gn 0 Bt)) (fun _=>bx) (fun _=>(de hr (ab 0))))))))
  (ad (s4 4 nd (fc hr (lN T.Eh (ab 0)) (ja c_ ae)))
  (ad (s4 5 nd (cT cr T.EG (l1 (jW ["bottom"] 1 [3] ["number","bottom"] (bP (ck (ab 4) (cw (cB b6 T.Ey (l1 (ab 1)))) (cw (ja c_ ae)))) (fun _=>(gn 0 Bx)) (fun _=>bx) (fun _=>(c4 (cZ T) hr (lc (ab 0) (l1 (ab 1)))))))))
  (ad (s4 6 nd (cT cr T.EG (l1 (jW ["worths","columns"] 1 [1,5] ["d","columns","worths"] (bn rfl rfl T.Es (l1 (cB b6 T.Ey (l1 (ab 2))))) (fun _=>(gn 0 By)) (fun _=>bx) (fun _=>(c4 (mK T) hr (lc (ab 1) (lc (ab 2) (l1 (ab 0))))))))))
  (ad (s4 7 nd (cT cr T.EG (l1 (zZ (dw T) hr (ab 0) (lc (cB b6 T.Ey (l1 (ab 1))) (lc (ja c_ ae) (l1 ae)))))))
  (ap (aE (bm (lc dh (lc (c4 (cZ T) hr (lc (fc hr (ab 4) (ja c_ ae)) (l1 (ab 3)))) (lc (ab 7) (lc (ab 6) (l1 (ab 5))))))))))))))) rfl
def iR:aH:=bf 6 (CW.iH eM dG dH kI cI ur)
def ou(T:Txt P w K mg):fz P w K mg base 8 "weighed" 2 iR:=fS ["columns","mix","jars","balance","place","number"] T.o_weighed (fun _ _ _ _ _ _ _ hr nd=>(ad (s4 2 nd (cB b6 T.Ey (l1 (de hr (de hr (ab 0))))))
  (ad (s4 3 nd (c4 (j4 T) hr (lc (ab 0) (lc (ab 2) (l1 (ab 1))))))
  (ad (s4 4 nd (A7 (dv T) hr (ab 3)))
  (ad (g7 PassesOwn.never (bv l8 (ab 4) dX (aQ _)) (ad (s4 5 nd (zZ (gK T) hr (ab 3) (l1 (ab 4))))
  (ad (da (bv ko (ab 5) dX (aQ _)) (ap (aE (c4 (ot T) hr (lc (ab 3) (lc (ab 0) (l1 (ab 4))))))) bD)
  (ad (gx (zZ (e7 T) hr (ab 3) (lc (ab 5) (l1 (ab 4)))))
  (ap (s4 4 nd (A7 (dv T) hr (ab 3))))))))
  (ap (aE (c4 (wv T) hr (lc (ab 3) (lc (ab 0) (l1 (ab 1)))))))))))) rfl
def i6:aH:=bf 5 C.ft
def lE(T:Txt P w K mg):fz P w K mg base 1 "_law_deal" 2 i6:=fS ["_law_script","_law_base","_law_one","_law_some","_law_number"] T.o__law_deal (fun _ _ _ _ _ _ _ hr nd=>(ad (zf [] 1 [] ["_law_one"] 3 nd (bP (ck (ab 0) (cw (ab 1)) (cw ae))) (fun _=>(gn 0 xq)) (fun _=>bx) (fun _=>(cB (sI rfl) T.Iw (lc (ab 0) (l1 (au f_ ae (ab 0)))))))
  (ad (s4 4 nd (au aI ae (ab 1)))
  (ad (eX PassesOwn.never rfl (bP (ab 3)) (gn 2 nd) (ap (s4 4 nd (au ga (au aI (au aJ (ab 4) ae) (au ga (ab 2) ae)) ae))))
  (ap (aE (yO (k5 dh (ab 4) (k5 dh ae (k5 dh (yP qw rfl (jW [] 1 [] ["_law_one"] (bP (ab 3)) (fun _=>(gn 0 xq)) (fun _=>(sP (bv yQ (ab 0) (au A2 ae ae) (aQ _)))) (fun _=>(ab 0))) rfl T.HL rfl T.G5) yN)))))))))) rfl
def a7:aH:=bf 5 C.fu
def am(T:Txt P w K mg):fz P w K mg base 1 "_law_draw" 2 a7:=fS ["_law_deal_here","_law_many_here","_law_number","_law_one","_law_other"] T.o__law_draw (fun _ _ _ _ _ _ _ hr nd=>(ad (g7 PassesOwn.never (wR (kn (vT hr (fc hr (ab 0) dh) ae) (jx (bv k6 (cB b6 T.Ey (l1 (fc hr (ab 0) dh))) ae (aQ _))))) (ap (kq (wW hr) (C2 sY wV (fc hr (ab 0) dh)) (ab 0) dh)))
  (ad (s4 2 nd (fc hr (ab 0) dh))
  (ad (da (bv k6 (ab 2) ae (aQ _)) (ad (kq (wW hr) (au fq (ab 2) (ab 1)) (ab 0) dh)
  (ap (aE (au ga (ab 2) (ab 1))))) bD)
  (ad (s4 3 nd (au ga (au aI (au aJ (fc hr (ab 0) dh) ae) ae) ae))
  (ad (kq (wW hr) (au ga (au aI (au aJ (ab 3) ae) ae) ae) (ab 0) dh)
  (ad (s4 4 nd (au ga (au aJ (fc hr (ab 0) dh) (fc hr (ab 0) dh)) ae))
  (ap (aE (au ga (au aI (au aJ (au ga (au aJ (ab 3) (ab 3)) ae) ae) (ab 4)) (ab 1))))))))))) rfl
def cz:aH:=bf 4 C.gy
def dI(T:Txt P w K mg):fz P w K mg base 1 "_law_low" 2 cz:=fS ["_law_top","_law_bottom","_law_one","_law_other"] T.o__law_low (fun _ _ _ _ _ _ _ hr nd=>(ad (oV (i:=2) (j:=3) rfl nd rfl rfl (by decide) rfl rfl (lc (cB (sI rfl) T.Iw (lc (ab 0) (l1 (au f_ ae (ab 0))))) (l1 (ab 1))))
  (ad (g7 PassesOwn.never (bv k6 (ab 3) ae (aQ _)) (ap (oV (i:=2) (j:=3) rfl nd rfl rfl (by decide) rfl rfl (lc (ab 3) (l1 (au ga (ab 2) (ab 3)))))))
  (ap (aE (bm (lc (au fq (ab 0) (ab 2)) (l1 (au fq (ab 1) (ab 2)))))))))) rfl
def fI:aH:=bf 2 (C.fy cz)
def lF(T:Txt P w K mg):fz P w K mg base 2 "_law_plus" 2 fI:=fS ["_law_one","_law_other"] T.o__law_plus (fun _ _ _ _ _ _ _ hr nd=>(ap (aE (c4 (dI T) hr (lc (au aI (au aJ (de hr (ab 0)) (de hr (ab 1))) (au aJ (de hr (ab 1)) (de hr (ab 0)))) (l1 (au aJ (de hr (ab 0)) (de hr (ab 1))))))))) rfl
def dJ:aH:=bf 2 (C.fv a7 cz)
def ij(T:Txt P w K mg):fz P w K mg base 2 "_law_cost" 1 dJ:=fS ["_law_deal_here","_law_form"] T.o__law_cost (fun _ _ _ _ _ _ _ hr nd=>(ad (s4 1 nd (c4 (am T) hr (lc (ab 0) (l1 ae))))
  (ad (da (vT hr (ab 1) ae) (ap (aE (bm (lc ae (l1 ae))))) bD)
  (ad (da (bv nH (ab 1) ae (aQ _)) (ap (aE (bm (lc (au aI ae (c4 (am T) hr (lc (ab 0) (l1 ae)))) (l1 ae))))) bD)
  (ap (aE (c4 (dI T) hr (lc (c4 (am T) hr (lc (ab 0) (l1 ae))) (l1 (au aI ae (c4 (am T) hr (lc (ab 0) (l1 ae))))))))))))) rfl
def dP(Ef:aH):bO:=(aw (aj aD [(ar (cC (v3 1)) (.n 0) a8 (af aO (af b_ (ac Ef [(v3 1),(af aL (af aO (c3 (.int 2)) (v3 2)) (c3 (.int 1)))]) (v3 2)) (aj jA [(af lL (ac Ef [(v3 1),(c3 (.int 3))]) (c3 (.int 0)))])) 1 [0,2])]))
def gh:aH:=bf 3 (dP a7)
def jP(T:Txt P w K mg):fz P w K mg base 2 "_law_effect" 3 gh:=fS ["_law_deal_here","_law_jars","_law_wide"] T.o__law_effect (fun _ _ _ _ _ _ _ hr nd=>(ap (aE (cT cr T.EG (l1 (jW ["_law_wide","_law_deal_here"] 1 [0,2] ["_law_j","_law_deal_here","_law_wide"] (bn rfl rfl T.Es (l1 (ab 1))) (fun _=>(gn 0 xr)) (fun _=>bx) (fun _=>(au aJ (au f_ (c4 (am T) hr (lc (ab 1) (l1 (au aI (au aJ ae (ab 2)) ae)))) (ab 2)) (cT AX T.JI (l1 (l4 k6 (c4 (am T) hr (lc (ab 1) (l1 ae))) ae (aQ _)))))))))))) rfl
def dQ(Ef Fz Gq:aH):bO:=(ah (aq 4 (ac Ef [(v3 0),(af aO (c3 (.int 2)) (v3 2))]))
  (ah (aq 5 (ac Fz [(v3 0)]))
  (ah (aq 6 (ac Gq [(v3 0),(v3 1),(v3 3)]))
  (ah (cN (br (af mQ (v3 4) (v3 2))) (aw (aV [(v3 4),(v3 5),(v3 6)])) bd)
  (ah (cN (gU (br (af (e9 false) (v3 1) (c3 (.int 0)))) (br (af lL (ac Ef [(v3 0),(c3 (.int 3))]) (c3 (.int 0))))) (aq 5 (aV [(c3 (.int 0)),(c3 (.int 1))])) bd)
  (ah (cN (gU (br (af lL (v3 1) (c3 (.int 0)))) (gU (br (af vP (aj oX [(v3 6)]) (c3 (.int 0)))) (br (af lL (ac Ef [(v3 0),(c3 (.int 6))]) (c3 (.int 0)))))) (ah (aq 7 (ac Ef [(v3 0),(v3 1)]))
  (aq 6 (af aL (af aL (aU (v3 6) jU (fY (v3 7))) (aV [(af b_ (af b_ (c3 (.int 0)) (c3 (.int 1))) (ac Ef [(v3 0),(v3 3)]))])) (aU (v3 6) (fY (af aL (v3 7) (c3 (.int 1)))) jU)))) bd)
  (aw (aV [(c3 .non),(v3 5),(v3 6)]))))))))
def gj:aH:=bf 8 (dQ a7 dJ gh)
def jQ(T:Txt P w K mg):fz P w K mg base 3 "_law_column" 4 gj:=fS ["_law_deal_here","_law_jars","_law_deeds","_law_wide","_law_who","_law_cost_here","_law_effect_here","_law_at"] T.o__law_column (fun _ _ _ _ _ _ _ hr nd=>(ad (s4 4 nd (c4 (am T) hr (lc (ab 0) (l1 (au aJ ae (ab 2))))))
  (ad (s4 5 nd (c4 (ij T) hr (l1 (ab 0))))
  (ad (s4 6 nd (c4 (jP T) hr (lc (ab 0) (lc (ab 1) (l1 (ab 3))))))
  (ad (da (bv nH (ab 4) (ab 2) (aQ _)) (ap (aE (bm (lc (ab 4) (lc (ab 5) (l1 (ab 6))))))) bD)
  (ad (da (wR (kn (vT hr (ab 1) ae) (jx (bv k6 (c4 (am T) hr (lc (ab 0) (l1 ae))) ae (aQ _))))) (ap (s4 5 nd (bm (lc ae (l1 ae))))) bD)
  (ad (da (wR (kn (bv k6 (ab 1) ae (aQ _)) (kn (bv yQ (cB (zi rfl) T.Ix (l1 (ab 6))) ae (aQ _)) (jx (bv k6 (c4 (am T) hr (lc (ab 0) (l1 ae))) ae (aQ _)))))) (ad (s4 7 nd (c4 (am T) hr (lc (ab 0) (l1 (ab 1)))))
  (ap (s4 6 nd (au aI (au aI (ck (ab 6) eC (cw (ab 7))) (bm (l1 (au f_ (au f_ ae ae) (c4 (am T) hr (lc (ab 0) (l1 (ab 3)))))))) (ck (ab 6) (cw (au aI (ab 7) ae)) eC))))) bD)
  (ap (aE (bm (lc dX (lc (ab 5) (l1 (ab 6)))))))))))))) rfl
def dy(Ef Fz Gr:aH):bO:=(ah (j1 1 2 (ac Ef [(v3 0),(c3 (.int 5))]) (af aL (c3 (.int 1)) (ac Ef [(v3 0),(c3 (.int 4))])))
  (ah (aq 3 (af ak (bV [(c3 (.int 1)),(c3 (.int 3)),(c3 (.int 10)),(c3 (.int 90))]) (ac Ef [(v3 0),(c3 (.int 4))])))
  (ah (aq 4 (bV []))
  (ah (cO (cC (v3 2)) (.n 5) (ah (aq 6 (aj aD [(ar (cC (v3 1)) (.n 0) a8 (af aO (ac Ef [(v3 1),(af aL (v3 2) (c3 (.int 1)))]) (ac Ef [(v3 1),(c3 (.int 2))])) 1 [0,3])]))
  (cE (jV "list" bJ (v3 4) [(aV [(v3 5),(ac Fz [(v3 0)]),(v3 6)])]))))
  (ah (cO (cC (af aL (c3 (.int 1)) (ac Ef [(v3 0),(af b_ (c3 (.int 10)) (v3 2))]))) (.n 7) (cE (jV "list" bJ (v3 4) [(ac Gr [(v3 0),(v3 1),(v3 2),(v3 3)])])))
  (aw (aV [(v3 4),(ar (cC (v3 2)) (.n 0) a8 (ac Ef [(v3 1),(c3 (.int 5))]) 1 [0])])))))))
def dz:aH:=bf 8 (dy a7 dJ gj)
def jd(T:Txt P w K mg):fz P w K mg base 4 "_law_columns" 1 dz:=fS ["_law_deal_here","_law_jars","_law_deeds","_law_wide","_law_columns_here","_law_deed","_law_effect_here","_law_k"] T.o__law_columns (fun _ _ _ _ _ _ _ hr nd=>(ad (oV (i:=1) (j:=2) rfl nd rfl rfl (by decide) rfl rfl (lc (c4 (am T) hr (lc (ab 0) (l1 ae))) (l1 (au aI ae (c4 (am T) hr (lc (ab 0) (l1 ae)))))))
  (ad (s4 3 nd (fc hr (dD (lc ae (lc ae (lc ae (l1 ae))))) (c4 (am T) hr (lc (ab 0) (l1 ae)))))
  (ad (s4 4 nd (dD oR))
  (ad (eX PassesOwn.never rfl (bn rfl rfl T.Es (l1 (ab 2))) (gn 5 nd) (ad (s4 6 nd (cT cr T.EG (l1 (jW ["_law_wide","_law_deal_here"] 1 [0,3] ["_law_j","_law_deal_here","_law_wide"] (bn rfl rfl T.Es (l1 (ab 1))) (fun _=>(gn 0 xr)) (fun _=>bx) (fun _=>(au aJ (c4 (am T) hr (lc (ab 1) (l1 (au aI (ab 2) ae)))) (c4 (am T) hr (lc (ab 1) (l1 ae)))))))))
  (ap (gx (ze fN gX (ab 4) (l1 (bm (lc (ab 5) (lc (c4 (ij T) hr (l1 (ab 0))) (l1 (ab 6)))))))))))
  (ad (eX PassesOwn.never rfl (bn rfl rfl T.Es (l1 (au aI ae (c4 (am T) hr (lc (ab 0) (l1 (au f_ ae (ab 2)))))))) (gn 7 nd) (ap (gx (ze fN gX (ab 4) (l1 (c4 (jQ T) hr (lc (ab 0) (lc (ab 1) (lc (ab 2) (l1 (ab 3)))))))))))
  (ap (aE (bm (lc (ab 4) (l1 (jW ["_law_deal_here"] 1 [0] ["_law_deed","_law_deal_here"] (bn rfl rfl T.Es (l1 (ab 2))) (fun _=>(gn 0 Bz)) (fun _=>bx) (fun _=>(c4 (am T) hr (lc (ab 1) (l1 ae)))))))))))))))) rfl
def fJ(Hq:aH):bO:=(ah (aq 2 (ac Hq [(aj aD [(v3 0)]),(aj aD [(v3 1)])]))
  (ah (cN (br (af (e9 false) (af ak (v3 2) (c3 (.int 0))) (c3 (.str "endless")))) (aw (c3 .non)) bd)
  (aw (af ak (v3 2) (c3 (.int 1))))))
def i7:aH:=bf 3 (fJ iR)
def aZ(T:Txt P w K mg):fz P w K mg base 9 "_law_told" 2 i7:=fS ["_law_columns_here","_law_mix","_law_found"] T.o__law_told (fun _ _ _ _ _ _ _ hr nd=>(ad (s4 2 nd (c4 (ou T) hr (lc (cT cr T.EG (l1 (ab 0))) (l1 (cT cr T.EG (l1 (ab 1)))))))
  (ad (da (vT hr (de hr (ab 2)) dh) (ap (aE dX)) bD)
  (ap (aE (de hr (ab 2))))))) rfl
def eN(Ef:aH):bO:=(ah (aq 2 (uk (v3 1)))
  (ah (aq 3 (bV []))
  (ah (iC (br (af lL (aj bg [(v3 2)]) (c3 (.int 0)))) (cE (jV "list" bJ (v3 3) [(jV "list" l9 (v3 2) [(ac Ef [(v3 0),(aj bg [(v3 2)])])])])))
  (aw (v3 3)))))
def ik:aH:=bf 4 (eN a7)
def dR(T:Txt P w K mg):fz P w K mg base 2 "_law_order" 2 ik:=fS ["_law_deal_here","_law_many_here","_law_left","_law_found"] T.o__law_order (fun _ _ _ _ _ _ _ hr nd=>(ad (s4 2 nd (zC vC rfl (ab 1) rfl T.HL rfl T.Es))
  (ad (s4 3 nd (dD oR))
  (ad (g7 PassesOwn.never (bv k6 (cB b6 T.Ey (l1 (ab 2))) ae (aQ _)) (ap (gx (ze fN gX (ab 3) (l1 (ze sY wV (ab 2) (l1 (c4 (am T) hr (lc (ab 0) (l1 (cB b6 T.Ey (l1 (ab 2)))))))))))))
  (ap (aE (ab 3))))))) rfl
def cS(Fl:aH):bO:=(ah (j1 3 4 (ac Fl [(v3 0),(aj bg [(v3 2)])]) (ac Fl [(v3 0),(aj bg [(af ak (af ak (v3 1) (c3 (.int 0))) (c3 (.int 2)))])]))
  (ah (aq 5 (bV []))
  (ah (cO (aF (ac Fl [(v3 0),(aj bg [(v3 1)])])) (.n 6) (ah (gY (af ak (v3 1) (v3 6)) (.tp (.cons (.n 7) (.cons (.n 8) (.cons (.n 9) .nil)))))
  (ah (cN (br (af (iA true) (v3 7) (c3 .non))) (aq 7 (jV "list" ic (v3 3) [(v3 7)])) bd)
  (cE (jV "list" bJ (v3 5) [(aV [(v3 7),(v3 8),(aj aD [(ar (aF (v3 4)) (.n 0) a8 (af ak (v3 1) (v3 0)) 1 [9])])])])))))
  (aw (aV [(v3 5),(ar (aF (v3 3)) (.n 0) a8 (af ak (v3 1) (v3 0)) 1 [2])])))))
def cU:aH:=bf 10 (cS ik)
def il(T:Txt P w K mg):fz P w K mg base 3 "_law_otherwise" 3 cU:=fS ["_law_deal_here","_law_columns_here","_law_mix","_law_deeds","_law_jars","_law_found","_law_k","_law_who","_law_cost_here","_law_effect_here"] T.o__law_otherwise (fun _ _ _ _ _ _ _ hr nd=>(ad (oV (i:=3) (j:=4) rfl nd rfl rfl (by decide) rfl rfl (lc (c4 (dR T) hr (lc (ab 0) (l1 (cB b6 T.Ey (l1 (ab 2)))))) (l1 (c4 (dR T) hr (lc (ab 0) (l1 (cB b6 T.Ey (l1 (de hr (de hr (ab 1)))))))))))
  (ad (s4 5 nd (dD oR))
  (ad (eX PassesOwn.never rfl (bP (c4 (dR T) hr (lc (ab 0) (l1 (cB b6 T.Ey (l1 (ab 1))))))) (gn 6 nd) (ad (l_ (fc hr (ab 1) (ab 6)) (rj rfl (aS (gn 7 nd) (aS (gn 8 nd) (aS (gn 9 nd) eW)))))
  (ad (da (bv l8 (ab 7) dX (aQ _)) (ap (s4 7 nd (ze rd um (ab 3) (l1 (ab 7))))) bD)
  (ap (gx (ze fN gX (ab 5) (l1 (bm (lc (ab 7) (lc (ab 8) (l1 (cT cr T.EG (l1 (jW ["_law_effect_here"] 1 [9] ["_law_j","_law_effect_here"] (bP (ab 4)) (fun _=>(gn 0 BA)) (fun _=>bx) (fun _=>(fc hr (ab 1) (ab 0)))))))))))))))))
  (ap (aE (bm (lc (ab 5) (l1 (jW ["_law_mix"] 1 [2] ["_law_deed","_law_mix"] (bP (ab 3)) (fun _=>(gn 0 BB)) (fun _=>bx) (fun _=>(fc hr (ab 1) (ab 0))))))))))))) rfl
def eO(Ef:aH):bO:=(ah (gY (v3 1) (.tp (.cons (.n 2) (.cons (.n 3) (.cons (.n 4) .nil)))))
  (ah (aq 5 (aj aD [(ar (aF (v3 4)) (.n 0) a8 (af b_ (v3 0) (ac Ef [(v3 1),(c3 (.int 3))])) 1 [0])]))
  (aw (aV [(v3 2),(af ak (bV [(v3 3),(aV [(c3 (.int 0)),(c3 (.int 1))])]) (ac Ef [(v3 0),(c3 (.int 2))])),(v3 5)]))))
def im:aH:=bf 6 (eO a7)
def j5(T:Txt P w K mg):fz P w K mg base 2 "_law_below" 2 im:=fS ["_law_deal_here","_law_column_here","_law_who","_law_cost_here","_law_effect_here","_law_lesser"] T.o__law_below (fun _ _ _ _ _ _ _ hr nd=>(ad (l_ (ab 1) (rj rfl (aS (gn 2 nd) (aS (gn 3 nd) (aS (gn 4 nd) eW)))))
  (ad (s4 5 nd (cT cr T.EG (l1 (jW ["_law_deal_here"] 1 [0] ["_law_number","_law_deal_here"] (bP (ab 4)) (fun _=>(gn 0 xu)) (fun _=>bx) (fun _=>(au f_ (ab 0) (c4 (am T) hr (lc (ab 1) (l1 ae)))))))))
  (ap (aE (bm (lc (ab 2) (lc (fc hr (dD (lc (ab 3) (l1 (bm (lc ae (l1 ae)))))) (c4 (am T) hr (lc (ab 0) (l1 ae)))) (l1 (ab 5)))))))))) rfl
def eP(Ef GT:aH):bO:=(ah (gY (v3 1) (.tp (.cons (.n 2) (.cons (.n 3) (.cons (.n 4) .nil)))))
  (ah (cN (br (af (e9 false) (ac Ef [(v3 0),(c3 (.int 2))]) (c3 (.int 0)))) (aw (aV [(v3 2),(ac GT [(v3 3),(aV [(c3 (.int 1)),(af aL (c3 (.int 1)) (ac Ef [(v3 0),(c3 (.int 3))]))])]),(v3 4)])) bd)
  (aw (aV [(v3 2),(v3 3),(aj aD [(ar (aF (v3 4)) (.n 0) a8 (af aL (v3 0) (ac Ef [(v3 1),(c3 (.int 3))])) 1 [0])])]))))
def io:aH:=bf 5 (eP a7 fI)
def j6(T:Txt P w K mg):fz P w K mg base 3 "_law_above" 2 io:=fS ["_law_deal_here","_law_column_here","_law_who","_law_cost_here","_law_effect_here"] T.o__law_above (fun _ _ _ _ _ _ _ hr nd=>(ad (l_ (ab 1) (rj rfl (aS (gn 2 nd) (aS (gn 3 nd) (aS (gn 4 nd) eW)))))
  (ad (da (vT hr (c4 (am T) hr (lc (ab 0) (l1 ae))) ae) (ap (aE (bm (lc (ab 2) (lc (c4 (lF T) hr (lc (ab 3) (l1 (bm (lc ae (l1 (au aI ae (c4 (am T) hr (lc (ab 0) (l1 ae)))))))))) (l1 (ab 4))))))) bD)
  (ap (aE (bm (lc (ab 2) (lc (ab 3) (l1 (cT cr T.EG (l1 (jW ["_law_deal_here"] 1 [0] ["_law_number","_law_deal_here"] (bP (ab 4)) (fun _=>(gn 0 xu)) (fun _=>bx) (fun _=>(au aI (ab 0) (c4 (am T) hr (lc (ab 1) (l1 ae))))))))))))))))) rfl
def cJ:bO:=(ah (cN (sE (br (af (iA false) (v3 1) (c3 .non))) (br (af (iA false) (v3 0) (c3 .non)))) (aw (af (iA false) (v3 1) (c3 .non))) bd)
  (aw (af zV (af aO (af ak (v3 0) (c3 (.int 0))) (af ak (v3 1) (c3 (.int 1)))) (af aO (af ak (v3 1) (c3 (.int 0))) (af ak (v3 0) (c3 (.int 1)))))))
def dL:aH:=bf 2 cJ
def dA(T:Txt P w K mg):fz P w K mg base 1 "_law_is_no_more" 2 dL:=fS ["_law_one","_law_other"] T.o__law_is_no_more (fun _ _ _ _ _ _ _ hr nd=>(ad (da (wR (yA (bv ko (ab 1) dX (aQ _)) (sF (bv ko (ab 0) dX (aQ _))))) (ap (aE (l4 ko (ab 1) dX (aQ _)))) bD)
  (ap (aE (l4 CZ (au aJ (de hr (ab 0)) (de hr (ab 1))) (au aJ (de hr (ab 1)) (de hr (ab 0))) (aQ _)))))) rfl
def fK(EH:aH):bO:=(ah (cN (br (af (iA false) (v3 0) (c3 .non))) (aw (c3 .non)) bd)
  (aw (ac EH [(af aO (af ak (v3 0) (c3 (.int 0))) (v3 1)),(af ak (v3 0) (c3 (.int 1)))])))
def i8:aH:=bf 2 (fK cz)
def ip(T:Txt P w K mg):fz P w K mg base 2 "_law_many" 2 i8:=fS ["_law_most","_law_many_here"] T.o__law_many (fun _ _ _ _ _ _ _ hr nd=>(ad (da (bv ko (ab 0) dX (aQ _)) (ap (aE dX)) bD)
  (ap (aE (c4 (dI T) hr (lc (au aJ (de hr (ab 0)) (ab 1)) (l1 (de hr (ab 0))))))))) rfl
def ut(GU Gi El Ef F1 GJ EH F6 Fc GK:aH):bO:=(ah (aq 1 (ac GU [(v3 0),(c3 (.int 0))]))
  (ah (cO (cC (c3 (.int 2))) (.n 2) (ah (gY (ac Gi [(v3 1)]) (.tp (.cons (.n 3) (.cons (.n 4) .nil))))
  (ah (aq 5 (ac El [(v3 3),(v3 4)]))
  (ah (aq 6 (ac Ef [(v3 1),(aj bg [(v3 3)])]))
  (ah (gY (ac F1 [(v3 1),(v3 3),(v3 4)]) (.tp (.cons (.n 7) (.cons (.n 8) .nil))))
  (ah (cN (sE (br (af (e9 true) (ac El [(v3 7),(v3 8)]) (v3 5))) (br (af (e9 true) (ac El [(af aL (v3 3) (aU (v3 3) (fY (v3 6)) (fY (af aL (v3 6) (c3 (.int 1)))))),(v3 4)]) (v3 5)))) (aw (c3 (.bl false))) bd)
  (ah (cN (br (af (e9 true) (ac El [(af aL (v3 3) (bV [(ac GJ [(v3 1),(af ak (v3 3) (v3 6))])])),(v3 4)]) (v3 5))) (aw (c3 (.bl false))) bd)
  (ah (aq 9 (ar (aF (v3 3)) (.tp (.cons (.n 0) (.cons (.n 1) (.cons (.n 2) .nil)))) a8 (aV [(v3 0),(ac EH [(af aO (c3 (.int 3)) (af ak (v3 1) (c3 (.int 0)))),(af ak (v3 1) (c3 (.int 1)))]),(v3 2)]) 3 []))
  (ah (cN (br (af (e9 true) (ac El [(v3 9),(v3 4)]) (ac F6 [(v3 5),(c3 (.int 3))]))) (aw (c3 (.bl false))) bd)
  (ah (cN (br (af (e9 true) (ac El [(v3 3),(ar (aF (v3 4)) (.n 0) a8 (af aO (c3 (.int 2)) (v3 0)) 1 [])]) (ac F6 [(v3 5),(c3 (.int 2))]))) (aw (c3 (.bl false))) bd)
  (ah (aq 10 (ar (aF (v3 3)) (.tp (.cons (.n 0) (.cons (.n 1) (.cons (.n 2) .nil)))) a8 (aV [(v3 0),(v3 1),(aj aD [(ar (aF (v3 2)) (.n 0) a8 (af aO (c3 (.int 2)) (v3 0)) 1 [])])]) 3 []))
  (ah (cN (br (af (e9 true) (ac El [(v3 10),(v3 4)]) (v3 5))) (aw (c3 (.bl false))) bd)
  (ah (aq 11 (af aL (aj bg [(v3 4)]) (ac Ef [(v3 1),(af b_ (aj bg [(v3 3)]) (aj bg [(v3 4)]))])))
  (ah (cN (l6 (br (ac Fc [(ac El [(af aL (aU (v3 3) jU (fY (v3 11))) (aU (v3 3) (fY (af aL (v3 11) (c3 (.int 1)))) jU)),(v3 4)]),(v3 5)]))) (aw (c3 (.bl false))) bd)
  (ah (aq 12 (af aL (af aL (aU (v3 3) jU (fY (v3 6))) (bV [(ac GK [(v3 1),(af ak (v3 3) (v3 6))])])) (aU (v3 3) (fY (af aL (v3 6) (c3 (.int 1)))) jU)))
  (cN (l6 (br (ac Fc [(v3 5),(ac El [(v3 12),(v3 4)])]))) (aw (c3 (.bl false))) bd))))))))))))))))
  (aw (c3 (.bl true)))))
def mL:aH:=bf 13 (ut i6 dz i7 a7 cU im cz i8 dL io)
def zD(T:Txt P w K mg){f:Addr}{fd:FuncData}(O:B8 K mg "law" (bY 37) ["_law_script"] f fd):zU P w K mg base 10 f fd ["_law_script"] mL:=DU ["_law_script","_law_deal_here","_law_k","_law_columns_here","_law_mix","_law_most","_law_at","_law_other","_law_turned","_law_thrice","_law_twice","_law_out","_law_more"] O (fun _ _ _ _ _ _ _ hr nd=>(ad (s4 1 nd (c4 (lE T) hr (lc (ab 0) (l1 ae))))
  (ad (eX PassesOwn.never rfl (bn rfl rfl T.Es (l1 ae)) (gn 2 nd) (ad (l_ (c4 (jd T) hr (l1 (ab 1))) (rj rfl (aS (gn 3 nd) (aS (gn 4 nd) eW))))
  (ad (s4 5 nd (c4 (aZ T) hr (lc (ab 3) (l1 (ab 4)))))
  (ad (s4 6 nd (c4 (am T) hr (lc (ab 1) (l1 (cB b6 T.Ey (l1 (ab 3)))))))
  (ad (l_ (c4 (il T) hr (lc (ab 1) (lc (ab 3) (l1 (ab 4))))) (rj rfl (aS (gn 7 nd) (aS (gn 8 nd) eW))))
  (ad (da (wR (yA (zd hr (c4 (aZ T) hr (lc (ab 7) (l1 (ab 8)))) (ab 5)) (sF (zd hr (c4 (aZ T) hr (lc (au aI (ab 3) (ck (ab 3) (cw (ab 6)) (cw (au aI (ab 6) ae)))) (l1 (ab 4)))) (ab 5))))) (ap (aE l3)) bD)
  (ad (da (zd hr (c4 (aZ T) hr (lc (au aI (ab 3) (dD (l1 (c4 (j5 T) hr (lc (ab 1) (l1 (fc hr (ab 3) (ab 6)))))))) (l1 (ab 4)))) (ab 5)) (ap (aE l3)) bD)
  (ad (zf [] 3 [] ["_law_who","_law_cost_here","_law_effect_here"] 9 nd (bP (ab 3)) (fun _=>(rj rfl (aS (gn 0 kE) (aS (gn 1 kE) (aS (gn 2 kE) eW))))) (fun _=>bx) (fun _=>(bm (lc (ab 0) (lc (c4 (dI T) hr (lc (au aJ ae (de hr (ab 1))) (l1 (de hr (ab 1))))) (l1 (ab 2)))))))
  (ad (da (zd hr (c4 (aZ T) hr (lc (ab 9) (l1 (ab 4)))) (c4 (ip T) hr (lc (ab 5) (l1 ae)))) (ap (aE l3)) bD)
  (ad (da (zd hr (c4 (aZ T) hr (lc (ab 3) (l1 (jW [] 1 [] ["_law_many_here"] (bP (ab 4)) (fun _=>(gn 0 BC)) (fun _=>bx) (fun _=>(au aJ ae (ab 0))))))) (c4 (ip T) hr (lc (ab 5) (l1 ae)))) (ap (aE l3)) bD)
  (ad (zf [] 3 [] ["_law_who","_law_cost_here","_law_effect_here"] 10 nd (bP (ab 3)) (fun _=>(rj rfl (aS (gn 0 kE) (aS (gn 1 kE) (aS (gn 2 kE) eW))))) (fun _=>bx) (fun _=>(bm (lc (ab 0) (lc (ab 1) (l1 (cT cr T.EG (l1 (jW [] 1 [] ["_law_number"] (bP (ab 2)) (fun _=>(gn 0 BD)) (fun _=>bx) (fun _=>(au aJ ae (ab 0))))))))))))
  (ad (da (zd hr (c4 (aZ T) hr (lc (ab 10) (l1 (ab 4)))) (ab 5)) (ap (aE l3)) bD)
  (ad (s4 11 nd (au aI (cB b6 T.Ey (l1 (ab 4))) (c4 (am T) hr (lc (ab 1) (l1 (au f_ (cB b6 T.Ey (l1 (ab 3))) (cB b6 T.Ey (l1 (ab 4)))))))))
  (ad (da (wS (oS (c4 (dA T) hr (lc (c4 (aZ T) hr (lc (au aI (ck (ab 3) eC (cw (ab 11))) (ck (ab 3) (cw (au aI (ab 11) ae)) eC)) (l1 (ab 4)))) (l1 (ab 5)))))) (ap (aE l3)) bD)
  (ad (s4 12 nd (au aI (au aI (ck (ab 3) eC (cw (ab 6))) (dD (l1 (c4 (j6 T) hr (lc (ab 1) (l1 (fc hr (ab 3) (ab 6)))))))) (ck (ab 3) (cw (au aI (ab 6) ae)) eC)))
  (ap (da (wS (oS (c4 (dA T) hr (lc (ab 5) (l1 (c4 (aZ T) hr (lc (ab 12) (l1 (ab 4))))))))) (ap (aE l3)) bD)))))))))))))))))
  (ap (aE l3))))) rfl
end
end G37
namespace G37
open PySem L2 L3 Wd
open C CW
def uu:∀n,n < 10->1<=n->n ∣ 2520:=by decide
def zE{x y:Int}(h:A5 x y):∃n:Int,PV.tup [.int x,.int y]=cq 2520 n/\0<=n/\n<=2 ^ 22:=by
 have y0:=h.low.pos;have y1:=h.y1;have x0:=h.x0;have x1:=h.x1
 obtain⟨z,hz⟩:=uu y.natAbs (by omega) (by omega)
 have e:2520=y * (z:Int):=by
  have:((y.natAbs:Nat):Int)=y:=by omega
  rw[<-this,<-Int.natCast_mul,<-hz];rfl
 have z0:0<=(z:Int):=Int.natCast_nonneg _
 have z1:(z:Int)<=2520:=by
  have:=Int.mul_le_mul_of_nonneg_right (show 1<=y by omega) z0
  omega
 refine⟨x * (z:Int),?_,Int.mul_nonneg x0 z0,?_⟩
 ·rw[nN h.low]
  exact eZ y0 (by decide) (by rw[e];grind)
 ·have:=Int.mul_le_mul x1 z1 z0 (by decide)
  omega
abbrev pO(w:aH):Prop:=∀{S:av} {d l:Addr} {Q:bH} {E:b9},Ei S d l->(∀n S',0<=n->n<=2 ^ 22->Ei S' d l->EE d l S S'->Q (cq 2520 n) S')->w [.ref d] S Q E
def uv{w:aH}(h:ml w):pO w:=fun D k=>h D fun x y S' c D' O'=>by
 obtain⟨n,e,n0,n1⟩:=zE c
 rw[e];exact k n S' n0 n1 D' O'
abbrev pP(w:aH):Prop:=∀{S:av} {d l:Addr} {k:Nat} {wi:Int} {Q:bH} {E:b9},Ei S d l->k<=4->1<=wi->wi<=200->(∀es:List Int,∀S',es.length=k->(∀e∈es,e.natAbs<=200)->Ei S' d l->EE d l S S'->Q (.tup (es.map PV.int)) S')->w [.ref d,.int (k:Int),.int wi] S Q E
def G6{x0:aH}(Eg:cf x0):pP (bf 3 (dP x0)):=by
 intro S d l k wi Q E D hk w0 w1 kk
 unfold dP
 refine fb ?_
 rw[show ax 3 [PV.ref d,.int (k:Int),.int wi]=[some (.ref d),some (.int (k:Int)),some (.int wi)] from rfl]
 simp only[aw,aj,ag,ar,cC,v3,lk]
 refine⟨by omega,by omega,?_⟩
 rw[Int.toNat_natCast]
 refine bG (fun done ys S'=>∃es:List Int,ys=es.map PV.int/\es.length=done.length/\done.length<=k/\(∀e∈es,e.natAbs<=200)/\Ei S' d l/\EE d l S S') ⟨[],rfl,rfl,Nat.zero_le _,(fun e he=>by cases he),D,.refl⟩ ?_ ?_ ?_
 ·rintro done ys S' ⟨es,rfl,e,hd,_⟩
  exact⟨trivial,aP (by rw[List.length_map,e];omega)⟩
 ·rintro done x rest ys S' K e ⟨es,rfl,e2,hd,he,D',O'⟩ hK
  obtain⟨rfl,hi⟩:=cW e
  simp only[Tg.put,bQ,List.reduceReplicate,List.map_cons,List.map_nil,List.cons_append,List.nil_append,List.set_cons_zero,a8,if_true,af,ac,aj,ag,v3,lk,c3,List.getElem?_cons_zero,List.getElem?_cons_succ,Option.join]
  simp only[aO,aL,b_,bN]
  refine⟨k_ (by decide) (by decide),Eg D' (by omega) (by omega) fun a S1 a0 a1 D1 O1=>Eg D1 (by decide) (by decide) fun b S2 b0 b1 D2 O2=>?_⟩
  simp only[lL,bN,jA]
  refine⟨k_ (by omega) (by omega),hK _ _ ⟨es++[(a - wi) * (if decide (0 < b)=true then 1 else 0)],by simp,by simp[e2],by rw[List.length_append];exact hi,fun y hy=>?_,D2,O'.trans (O1.trans O2)⟩⟩
  rcases List.mem_append.mp hy with hy|hy
  ·exact he y hy
  ·rw[List.mem_singleton.mp hy]
   split
   ·rw[Int.mul_one];omega
   ·rw[Int.mul_zero];decide
 ·rintro ys S4 ⟨es,rfl,e2,hd,he,D4,O4⟩ p hp
  simp only[aD,e_,aa]
  rw[bR]at e2
  exact kk es _ e2 he (D4.new hp) (O4.trans (.new hp))
structure Ii (k D:Nat) (c:Cc):Prop where
 el:c.eff.length=k
 eb:∀e∈c.eff,e.natAbs<=200
 n0:0<=c.n
 n1:c.n<=2 ^ 22
 wd:∀d,c.who=some d->d < D
def BE:PV.tup [.int 0,.int 1]=cq 2520 0:=by rw[li];exact eZ (by decide) (by decide) (by decide)
abbrev pQ(w:aH):Prop:=∀{S:av} {d l:Addr} {k D:Nat} {wi:Int} {Q:bH} {E:b9},Ei S d l->k<=4->1<=D->D<=4->1<=wi->wi<=200->(∀c S',Ii k D c->Ei S' d l->EE d l S S'->Q c.v S')->w [.ref d,.int (k:Int),.int (D:Int),.int wi] S Q E
def G7{x0 x1 x2:aH}(Eg:cf x0)(GL:pO x1)(G6:pP x2):pQ (bf 8 (dQ x0 x1 x2)):=by
 intro S d l k D wi Q E DL hk LB hD w0 w1 kk
 unfold dQ
 refine fb ?_
 rw[show ax 8 [PV.ref d,.int (k:Int),.int (D:Int),.int wi]=[some (.ref d),some (.int (k:Int)),some (.int (D:Int)),some (.int wi),none,none,none,none] from rfl]
 refine az fun N hN=>?_
 simp only[aq,ac,ag,af,v3,lk,c3,aO]
 refine⟨k_ (by decide) (by decide),Eg DL (by omega) (by omega) fun r S1 r0 r1 D1 O1=>?_⟩
 simp only[List.set_cons_succ,List.set_cons_zero]
 refine hN _ _ (az fun N hN=>?_)
 simp only[aq,ac,ag,v3,lk]
 refine GL D1 fun x S2 f0 f1 D2 O2=>?_
 simp only[List.set_cons_succ,List.set_cons_zero]
 refine hN _ _ (az fun N hN=>?_)
 simp only[aq,ac,ag,v3,lk]
 refine G6 D2 hk w0 w1 fun es S3 el eb D3 O3=>?_
 have J7:=O1.trans (O2.trans O3)
 simp only[List.set_cons_succ,List.set_cons_zero]
 refine hN _ _ (az fun N hN=>?_)
 have eb':∀e∈es,e.natAbs<=200:=eb
 simp only[cN,br,af,v3,lk,mQ,bN,decide_eq_true_eq,bd]
 split
 ·obtain⟨n,rfl⟩:∃n:Nat,r=(n:Int):=⟨r.toNat,by omega⟩
  simp only[aw,aV,ag,v3,lk]
  exact kk ⟨some n,x,es⟩ S3 ⟨el,eb',f0,f1,fun e he=>by cases he;omega⟩ D3 J7
 refine hN _ _ (az fun N hN=>?_)
 -- the last
 have fin:∀(x:Int) (es:Vu) (x4 x7:Option PV) (S':av),0<=x->x<=2 ^ 22->es.length=k->(∀e∈es,e.natAbs<=200)->Ei S' d l->EE d l S S'->(aw (aV [c3 .non,v3 5,v3 6])) { nx:=fun _ S=>Q .non S,rt:=Q,ex:=fZ } [some (.ref d),some (.int (k:Int)),some (.int (D:Int)),some (.int wi),x4,some (cq 2520 x),some (.tup (es.map PV.int)),x7] S':=by
  intro x es x4 x7 S' f0 f1 el eb D' O'
  simp only[aw,aV,ag,v3,lk,c3]
  exact kk ⟨none,x,es⟩ S' ⟨el,eb,f0,f1,fun e he=>by cases he⟩ D' O'
 have next:∀(x:Int) (S4:av),0<=x->x<=2 ^ 22->Ei S4 d l->EE d l S S4->N [some (.ref d),some (.int (k:Int)),some (.int (D:Int)),some (.int wi),some (.int r),some (cq 2520 x),some (.tup (es.map PV.int)),none] S4:=by
  intro x S4 f0 f1 D4 O4
  refine hN _ _ (az fun N hN=>?_)
  simp only[cN,gU,br,af,aj,ac,ag,v3,lk,c3,lL,bN,decide_eq_true_eq,bd]
  split
  ·rename_i k0
   simp only[oX,lh,hG]
   refine⟨by omega,fun M hM _=>?_⟩
   simp only[vP,bN,decide_eq_true_eq]
   split
   ·refine Eg D4 (by decide) (by decide) fun b S5 b0 b1 D5 O5=>?_
    simp only[decide_eq_true_eq]
    split
    ·refine az fun N2 Fb=>?_
     simp only[aq,ac,ag,v3,lk]
     refine Eg D5 k0 (by omega) fun a S6 a0 a1 D6 O6=>?_
     obtain⟨i,rfl⟩:∃i:Nat,a=(i:Int):=⟨a.toNat,by omega⟩
     simp only[List.set_cons_succ,List.set_cons_zero]
     refine Fb _ _ ?_
     simp only[aq,af,aU,jU,fY,v3,lk,c3,fm,aV,ag,ac,b_,bN]
     refine Eg D6 (by omega) (by omega) fun g S7 g0 g1 D7 O7=>?_
     simp only[aL,bN,fm]
     rw[ld (by rw[List.length_map];omega),<-Int.natCast_succ,lg (by rw[List.length_map];omega),<-List.map_take,<-List.map_drop]
     refine⟨aP (by simp;omega),aP (by simp;omega),?_⟩
     simp only[List.set_cons_succ,List.set_cons_zero]
     refine hN _ _ ?_
     have e:(es.take i).map PV.int++[PV.int (0 - 1 - g)]++(es.drop (i+1)).map PV.int=(es.take i++[0 - 1 - g]++es.drop (i+1)).map PV.int:=by simp
     rw[e]
     refine fin x _ _ _ S7 f0 f1 (by simp;omega) (fun z hz=>?_) D7 (O4.trans (O5.trans (O6.trans O7)))
     rcases List.mem_append.mp hz with hz|hz
     ·rcases List.mem_append.mp hz with hz|hz
      ·exact eb' z (List.mem_of_mem_take hz)
      ·rw[List.mem_singleton.mp hz];omega
     ·exact eb' z (List.mem_of_mem_drop hz)
    ·exact hN _ _ (fin x es _ _ S5 f0 f1 el eb' D5 (O4.trans O5))
   ·exact hN _ _ (fin x es _ _ S4 f0 f1 el eb' D4 O4)
  ·exact hN _ _ (fin x es _ _ S4 f0 f1 el eb' D4 O4)
 simp only[cN,gU,br,af,ac,ag,v3,lk,c3,e9,Bool.false_bne,decide_eq_true_eq,bd]
 split
 ·refine Eg D3 (by decide) (by decide) fun b S4 b0 b1 D4 O4=>?_
  simp only[lL,bN,decide_eq_true_eq]
  split
  ·simp only[aq,aV,ag,c3,List.set_cons_succ,List.set_cons_zero]
   rw[show PV.tup [.int 0,.int 1]=cq 2520 0 from BE]
   exact next 0 S4 (by decide) (by decide) D4 (J7.trans O4)
  ·exact next x S4 f0 f1 D4 (J7.trans O4)
 ·exact next x S3 f0 f1 D3 J7
structure Bs (k:Nat) (mix:Vu) (L:List Cc):Prop where
 ok:∀c∈L,Ii k mix.length c
 fx:∀d,d < mix.length->∃c,L[d]?=some c/\qZ d c
 k1:k<=4
 d0:1<=mix.length
 d1:mix.length<=4
 l1:mix.length < L.length
 l2:L.length<=10
 m0:∀x∈mix,0<=x/\x<=4
abbrev uw(w:aH):Prop:=∀{S:av} {d l:Addr} {Q:bH} {E:b9},Ei S d l->(∀k mix L pc pm S',Bs k mix L->S' pc=some (.lst (L.map Cc.v))->S' pm=some (.lst (mix.map PV.int))->pc≠d/\pc≠l->pm≠d/\pm≠l->Ei S' d l->Q (.tup [.ref pc,.ref pm]) S')->w [.ref d] S Q E
def GM{x0 x1 x2:aH}(Eg:cf x0)(GL:pO x1)(G7:pQ x2):uw (bf 8 (dy x0 x1 x2)):=by
 intro S d l Q E DL kk
 unfold dy
 refine fb ?_
 rw[show ax 8 [PV.ref d]=[some (.ref d),none,none,none,none,none,none,none] from rfl]
 refine az fun N hN=>?_
 simp only[j1,ac,ag,af,v3,lk,c3]
 refine Eg DL (by decide) (by decide) fun a S1 a0 a1 D1 _=>Eg D1 (by decide) (by decide) fun b S2 b0 b1 D2 _=>?_
 obtain⟨k,rfl⟩:∃k:Nat,a=(k:Int):=⟨a.toNat,by omega⟩
 obtain⟨D,eD⟩:∃D:Nat,1+b=(D:Int):=⟨(1+b).toNat,by omega⟩
 have hk:k<=4:=by omega
 have LB:1<=D:=by omega
 have hD:D<=4:=by omega
 simp only[aL,eD,List.set_cons_succ,List.set_cons_zero]
 refine hN _ _ (az fun N hN=>?_)
 simp only[aq,af,bV,ac,ag,v3,lk,c3]
 intro pw LD
 have nw:=D2.free LD
 refine Eg (D2.new LD) (by decide) (by decide) fun g S3 g0 g1 D3 O3=>?_
 have e3:=O3 _ _ (aa (S:=S2) (o:=.lst [.int 1,.int 3,.int 10,.int 90])) nw.1 nw.2
 simp only[ak,e3]
 obtain⟨v,hv,LF⟩:=vR (xs:=[PV.int 1,.int 3,.int 10,.int 90]) g0 (by simpa using g1)
 rw[hv]
 obtain⟨wi,rfl,MS,MT⟩:∃g:Int,v = .int g/\1<=g/\g<=200:=by
  simp only[List.mem_cons,List.not_mem_nil,or_false]at LF
  rcases LF with rfl|rfl|rfl|rfl
  ·exact⟨1,rfl,by omega,by omega⟩
  ·exact⟨3,rfl,by omega,by omega⟩
  ·exact⟨10,rfl,by omega,by omega⟩
  ·exact⟨90,rfl,by omega,by omega⟩
 simp only[List.set_cons_succ,List.set_cons_zero]
 refine hN _ _ (az fun N hN=>?_)
 simp only[aq,bV,ag]
 intro pl hpl
 have nl:=D3.free hpl
 have D4:=D3.new (o:=.lst []) hpl
 have f4:(Ee S3 pl (.lst [])) pl=some (.lst (([]:List Cc).map Cc.v)):=aa
 generalize Ee S3 pl (.lst [])=S4 at D4 f4
 simp only[List.set_cons_succ,List.set_cons_zero]
 refine hN _ _ (az fun N hN=>?_)
 simp only[cO,cC,v3,lk]
 refine⟨by omega,by omega,?_⟩
 rw[Int.toNat_natCast]
 refine cu (fun done σ S'=>∃(cs:List Cc) (x5 x6:Option PV),σ=[some (.ref d),some (.int (k:Int)),some (.int (D:Int)),some (.int wi),some (.ref pl),x5,x6,none]/\S' pl=some (.lst (cs.map Cc.v))/\cs.length=done.length/\(∀c∈cs,Ii k D c)/\(∀e,e < done.length->∃c,cs[e]?=some c/\qZ e c)/\Ei S' d l) ⟨[],_,_,rfl,f4,rfl,(fun c hc=>by cases hc),(fun e he=>absurd he (Nat.not_lt_zero _)),D4⟩ (fun _ _ _ _=>trivial) ?_ ?_
 ·rintro done x rest σ S5 K e ⟨cs,x6,x7,rfl,f5,lc,C5,F5,D5⟩ hK
  obtain⟨rfl,hi⟩:=cW e
  simp only[Tg.put,List.set_cons_succ,List.set_cons_zero]
  refine az fun N2 Fb=>?_
  simp only[aq,aj,ag,ar,cC,v3,lk]
  refine⟨by omega,by omega,?_⟩
  rw[Int.toNat_natCast]
  refine bG (fun done ys S'=>∃es:List Int,ys=es.map PV.int/\es.length=done.length/\done.length<=k/\(∀e∈es,0<=e/\e<=200)/\Ei S' d l/\S' pl=some (.lst (cs.map Cc.v))) ⟨[],rfl,rfl,Nat.zero_le _,(fun e he=>by cases he),D5,f5⟩ ?_ ?_ ?_
  ·rintro done ys S' ⟨es,rfl,e,hd,_⟩
   exact⟨trivial,aP (by rw[List.length_map,e];omega)⟩
  ·rintro JJ x rest ys S' K2 e ⟨es,rfl,e2,hd,he,D',f'⟩ KR
   obtain⟨rfl,hi2⟩:=cW e
   simp only[Tg.put,bQ,List.reduceReplicate,List.map_cons,List.map_nil,List.cons_append,List.nil_append,List.set_cons_zero,a8,if_true,af,ac,ag,v3,lk,c3,List.getElem?_cons_zero,List.getElem?_cons_succ,Option.join]
   simp only[aL]
   refine Eg D' (by omega) (by omega) fun a S6 a0 a1 D6 O6=>Eg D6 (by decide) (by decide) fun b S7 b0 b1 D7 O7=>?_
   simp only[aO]
   refine⟨k_ (by omega) (by omega),KR _ _ ⟨es++[a * b],by simp,by simp[e2],by rw[List.length_append];exact hi2,fun y hy=>?_,D7,O7 _ _ (O6 _ _ f' nl.1 nl.2) nl.1 nl.2⟩⟩
   rcases List.mem_append.mp hy with hy|hy
   ·exact he y hy
   ·rw[List.mem_singleton.mp hy]
    obtain rfl|rfl:b=0\/b=1:=by omega
    ·rw[Int.mul_zero];decide
    ·rw[Int.mul_one];omega
  ·rintro ys S6 ⟨es,rfl,e2,hd,he,D6,f6⟩ p hp
   rw[bR]at e2
   simp only[aD,e_,aa,List.set_cons_succ,List.set_cons_zero]
   have MU:pl≠p:=fun h=>by rw[h,hp]at f6;cases f6
   have f7:(Ee S6 p (.lst (es.map PV.int))) pl=some (.lst (cs.map Cc.v)):=by rw[al MU];exact f6
   have D7:=D6.new (o:=.lst (es.map PV.int)) hp
   generalize Ee S6 p (.lst (es.map PV.int))=S7 at f7 D7
   refine Fb _ _ ?_
   simp only[cE,jV,rh,aV,ag,ac,v3,lk,f7,true_and]
   refine GL D7 fun x S8 x0 x1 D8 O8=>?_
   have f8:=O8 _ _ f7 nl.1 nl.2
   simp only[bJ,f8,List.length_map]
   have hcl:Ii k D ⟨some done.length,x,es⟩:=⟨e2,fun e h=>by have:=he e h;omega,x0,x1,fun e h=>by cases h;exact hi⟩
   refine⟨Nat.lt_of_lt_of_le (show cs.length < 1000 by omega) (aP (Nat.le_refl _)),hK _ _ ⟨cs++[⟨some done.length,x,es⟩],_,_,rfl,by rw[aa,List.map_append];rfl,by simp[lc],fun c hc=>?_,fun e h=>?_,D8.upd nl.1 nl.2⟩⟩
   ·rcases List.mem_append.mp hc with hc|hc
    ·exact C5 c hc
    ·rw[List.mem_singleton.mp hc];exact hcl
   ·rw[List.length_append,List.length_singleton]at h
    by_cases hd:e < done.length
    ·obtain⟨c,h1,h2⟩:=F5 e hd
     exact⟨c,by rw[List.getElem?_append_left (by omega)];exact h1,h2⟩
    ·obtain rfl:e=done.length:=by omega
     exact⟨⟨some done.length,x,es⟩,by rw[List.getElem?_append_right (by omega),lc,Nat.sub_self];rfl,rfl,fun z hz=>(he z hz).1⟩
 rintro σ S5 ⟨MV,x6,x7,rfl,f5,lc,C5,F5,D5⟩
 rw[bR]at lc F5
 refine hN _ _ (az fun N hN=>?_)
 simp only[cO,cC,af,ac,ag,v3,lk,c3,b_,bN]
 refine Eg D5 (by omega) (by omega) fun g S6 g0 g1 D6 O6=>?_
 have f6:=O6 _ _ f5 nl.1 nl.2
 simp only[aL]
 obtain⟨n,en⟩:∃n:Nat,1+g=(n:Int):=⟨(1+g).toNat,by omega⟩
 rw[en]
 refine⟨by omega,by omega,?_⟩
 rw[Int.toNat_natCast]
 refine cu (fun done σ S'=>∃(cs:List Cc) (MW:Option PV),σ=[some (.ref d),some (.int (k:Int)),some (.int (D:Int)),some (.int wi),some (.ref pl),x6,x7,MW]/\S' pl=some (.lst (cs.map Cc.v))/\cs.length=D+done.length/\(∀c∈cs,Ii k D c)/\(∀e,e < D->∃c,cs[e]?=some c/\qZ e c)/\Ei S' d l) ⟨MV,_,rfl,f6,lc,C5,F5,D6⟩ (fun _ _ _ _=>trivial) ?_ ?_
 ·rintro done x rest σ S7 K e ⟨cs,x8,rfl,f7,LG,C7,F7,D7⟩ hK
  obtain⟨rfl,hi⟩:=cW e
  simp only[Tg.put,List.set_cons_succ,List.set_cons_zero,cE,jV,rh,ag,ac,v3,lk,f7,true_and]
  refine G7 D7 hk LB hD MS MT fun c S8 hc D8 O8=>?_
  have f8:=O8 _ _ f7 nl.1 nl.2
  simp only[bJ,f8,List.length_map]
  refine⟨Nat.lt_of_lt_of_le (show cs.length < 1000 by omega) (aP (Nat.le_refl _)),hK _ _ ⟨cs++[c],_,rfl,by rw[aa,List.map_append];rfl,by simp;omega,fun c' hc'=>?_,fun e he=>?_,D8.upd nl.1 nl.2⟩⟩
  ·rcases List.mem_append.mp hc' with hc'|hc'
   ·exact C7 c' hc'
   ·rw[List.mem_singleton.mp hc'];exact hc
  ·obtain⟨c,h1,h2⟩:=F7 e he
   exact⟨c,by rw[List.getElem?_append_left (by omega)];exact h1,h2⟩
 rintro σ S7 ⟨cs,x8,rfl,f7,LG,C7,F7,D7⟩
 rw[bR]at LG
 refine hN _ _ ?_
 simp only[aw,aV,ag,v3,lk,ar,cC]
 refine⟨by omega,by omega,?_⟩
 rw[Int.toNat_natCast]
 refine bG (fun done ys S'=>∃es:List Int,ys=es.map PV.int/\es.length=done.length/\done.length<=D/\(∀e∈es,0<=e/\e<=4)/\Ei S' d l/\EE d l S7 S') ⟨[],rfl,rfl,Nat.zero_le _,(fun e he=>by cases he),D7,.refl⟩ ?_ ?_ ?_
 ·rintro done ys S' ⟨es,rfl,e,hd,_⟩
  exact⟨trivial,aP (by rw[List.length_map,e];omega)⟩
 ·rintro JJ x rest ys S' K2 e ⟨es,rfl,e2,hd,he,D',O'⟩ KR
  obtain⟨rfl,hi2⟩:=cW e
  simp only[Tg.put,bQ,List.reduceReplicate,List.map_cons,List.map_nil,List.cons_append,List.nil_append,List.set_cons_zero,a8,if_true,ac,ag,v3,lk,c3,List.getElem?_cons_zero,List.getElem?_cons_succ,Option.join]
  refine Eg D' (by omega) (by omega) fun a S8 a0 a1 D8 O8=>KR _ _ ⟨es++[a],by simp,by simp[e2],by rw[List.length_append];exact hi2,fun y hy=>?_,D8,O'.trans O8⟩
  rcases List.mem_append.mp hy with hy|hy
  ·exact he y hy
  ·rw[List.mem_singleton.mp hy];omega
 ·rintro ys S8 ⟨es,rfl,e2,hd,he,D8,O8⟩ p hp
  rw[bR]at e2
  have f8:=O8 _ _ f7 nl.1 nl.2
  exact kk k es cs pl p _ ⟨fun c hc=>by rw[e2];exact C7 c hc,fun e h=>F7 e (by omega),hk,by omega,by omega,by omega,by omega,he⟩ (by rw[al (fun h=>by rw[h,hp]at f8;cases f8)];exact f8) aa nl (D8.free hp) (D8.new hp)
abbrev ux(w:aH):Prop:=∀{S:av} {pc pm:Addr} {L:List Cc} {mix:Vu} {k:Nat} {Q:bH} {E:b9},S pc=some (.lst (L.map Cc.v))->S pm=some (.lst (mix.map PV.int))->Cp k mix L->(∀t S',Ext S S'->Tl L mix k t->Q (tv t) S')->w [.ref pc,.ref pm] S Q E
def Ex{x0:aH}(Gh:iQ x0):ux (bf 3 (fJ x0)):=by
 intro S pc pm L mix k Q E hc hm C kk
 unfold fJ
 refine fb ?_
 rw[show ax 3 [PV.ref pc,.ref pm]=[some (.ref pc),some (.ref pm),none] from rfl]
 refine az fun N hN=>?_
 simp only[aq,ac,aj,ag,v3,lk,aD,e_,hc,hm]
 rw[<-Cc.MP]
 refine Gh C.JF fun v S1 X1 o=>?_
 obtain⟨t,ht,⟨rfl,w,rfl⟩|⟨g,q,a,b,c,rfl,rfl⟩⟩:=Tl.of C o
 ·simp only[List.set_cons_succ,List.set_cons_zero]
  refine hN _ _ (az fun N hN=>?_)
  simp only[cN,br,af,v3,lk,c3,ak,lM,e9,decide_true,Bool.false_bne,if_true,aw]
  exact kk none S1 X1 ht
 ·simp only[List.set_cons_succ,List.set_cons_zero]
  refine hN _ _ (az fun N hN=>?_)
  simp only[cN,br,af,v3,lk,c3,ak,lM,e9,Bool.false_bne,bd]
  rw[decide_eq_false (by decide +kernel)]
  simp only[Bool.false_eq_true,if_false]
  refine hN _ _ ?_
  simp only[aw,af,v3,lk,c3,ak,nI]
  exact kk (some (g,q)) S1 X1 ht
def iS{d l p:Addr}{S S':av}{o:SO}(h:EE d l S S')(fp:S p=none):EE d l S (Ee S' p o):=fun a x e h1 h2=>by rw[al (fun q=>by rw[q,fp]at e;cases e)];exact h a x e h1 h2
def mM{d l p:Addr}{S S':av}(h:EE d l S S')(D:Ei S' d l)(fp:S' p=none):S p=none:=by
 cases e:S p with
 |none=>rfl
 |some o=>
  have n:=D.free fp
  rw[h _ _ e n.1 n.2]at fp;cases fp
noncomputable def nV(j:Nat):PV:=.int (j:Int)
def D_{r n:Nat}(h:r < n):seqIndex? (r:Int) n=some r:=by
 unfold seqIndex?
 simp
 omega
theorem jR{α β:Type}(f:α->β):∀(xs:List α) (i:Nat),(xs.map f).eraseIdx i=(xs.eraseIdx i).map f
 |[],_=>rfl
 |_::_,0=>rfl
 |a::r,i+1=>by simp[List.eraseIdx,jR f r i]
theorem jS{α:Type}:∀(rs:List α) (i:Nat) (hi:i < rs.length),(rs[i]::rs.eraseIdx i).Perm rs
 |_::_,0,_=>.refl _
 |a::r,i+1,hi=>(List.Perm.swap a _ _).trans ((jS r i (Nat.lt_of_succ_lt_succ hi)).cons a)
def uy{α:Type}{os rs L:List α}(h:(os++rs).Perm L){i:Nat}(hi:i < rs.length):((os++[rs[i]])++rs.eraseIdx i).Perm L:=by
 refine List.Perm.trans ?_ h
 rw[List.append_assoc]
 exact(jS rs i hi).append_left os
abbrev uz(w:aH):Prop:=∀{S:av} {d l:Addr} {n:Nat} {Q:bH} {E:b9},Ei S d l->n<=100->(∀(js:List Nat) pf S',js.Perm (List.range n)->S pf=none->S' pf=some (.lst (js.map nV))->Ei S' d l->EE d l S S'->pf≠d/\pf≠l->Q (.ref pf) S')->w [.ref d,.int (n:Int)] S Q E
def FA{x0:aH}(Eg:cf x0):uz (bf 4 (eN x0)):=by
 intro S d l n Q E D hn kk
 unfold eN
 refine fb ?_
 rw[show ax 4 [PV.ref d,.int (n:Int)]=[some (.ref d),some (.int (n:Int)),none,none] from rfl]
 refine az fun N hN=>?_
 simp only[aq,uk,v3,lk]
 refine⟨by omega,by omega,fun pl hpl=>?_⟩
 rw[Int.toNat_natCast,show a_ 0 n=(List.range n).map nV from List.map_congr_left fun i _=>by unfold nV;rw[Int.zero_add]]
 have nl:=D.free hpl
 have D1:=D.new (o:=.lst ((List.range n).map nV)) hpl
 have O1:EE d l S (Ee S pl (.lst ((List.range n).map nV))):=.new hpl
 have f1:(Ee S pl (.lst ((List.range n).map nV))) pl=some (.lst ((List.range n).map nV)):=aa
 generalize Ee S pl (.lst ((List.range n).map nV))=S1 at D1 O1 f1
 simp only[List.set_cons_succ,List.set_cons_zero]
 refine hN _ _ (az fun N hN=>?_)
 simp only[aq,bV,ag]
 intro pn JK
 have nn:=D1.free JK
 have LH:=mM O1 D1 JK
 have KS:pl≠pn:=fun h=>by rw[h,JK]at f1;cases f1
 have D2:=D1.new (o:=.lst []) JK
 have O2:EE d l S (Ee S1 pn (.lst [])):=O1.trans (.new JK)
 have f2:(Ee S1 pn (.lst [])) pl=some (.lst ((List.range n).map nV)):=by rw[al KS];exact f1
 have g2:(Ee S1 pn (.lst [])) pn=some (.lst (([]:List Nat).map nV)):=aa
 generalize Ee S1 pn (.lst [])=S2 at D2 O2 f2 g2
 simp only[List.set_cons_succ,List.set_cons_zero]
 refine hN _ _ (az fun N hN=>?_)
 refine⟨fun m σ S'=>∃rs os:List Nat,σ=[some (.ref d),some (.int (n:Int)),some (.ref pl),some (.ref pn)]/\S' pl=some (.lst (rs.map nV))/\S' pn=some (.lst (os.map nV))/\rs.length=m/\(os++rs).Perm (List.range n)/\Ei S' d l/\EE d l S S',⟨_,List.range n,[],rfl,f2,g2,rfl,.refl _,D2,O2⟩,?_⟩
 rintro n2 σ S3 ⟨rs,os,rfl,f3,g3,ln,hp,D3,O3⟩
 have MX:=hp.length_eq
 rw[List.length_append,List.length_range]at MX
 simp only[br,af,aj,ag,v3,lk,c3,bg,f3,List.length_map,lL,bN,decide_eq_true_eq]
 split
 ·rename_i hp0
  refine⟨fun σ' S'=>∃rs os:List Nat,σ'=[some (.ref d),some (.int (n:Int)),some (.ref pl),some (.ref pn)]/\S' pl=some (.lst (rs.map nV))/\S' pn=some (.lst (os.map nV))/\rs.length < n2/\(os++rs).Perm (List.range n)/\Ei S' d l/\EE d l S S',?_,?_⟩
  ·rintro σ' S' ⟨rs,os,a,b,c,lt',r⟩
   exact⟨_,lt',rs,os,a,b,c,rfl,r⟩
  ·simp only[cE,jV,rh,ag,ac,aj,v3,lk,g3,f3,bg,List.length_map,true_and]
   refine Eg D3 (by omega) (by omega) fun r SA r0 r1 DA OA=>?_
   obtain⟨i,rfl⟩:∃i:Nat,r=(i:Int):=⟨r.toNat,by omega⟩
   have hi:i < rs.length:=by omega
   have fA:=OA _ _ f3 nl.1 nl.2
   have gA:=OA _ _ g3 nn.1 nn.2
   simp only[l9,fA,List.length_map,D_ hi,List.getElem?_map,List.getElem?_eq_getElem hi,Option.map_some]
   refine⟨by omega,by omega,?_⟩
   have gB:(Ee SA pl (.lst ((rs.map nV).eraseIdx i))) pn=some (.lst (os.map nV)):=by rw[al (Ne.symm KS)];exact gA
   simp only[bJ,gB,List.length_map]
   exact⟨Nat.lt_of_lt_of_le (show os.length < 1000 by omega) (aP (Nat.le_refl _)),rs.eraseIdx i,os++[rs[i]],by rw[al KS,aa,jR],by rw[aa,List.map_append];rfl,by rw[List.length_eraseIdx_of_lt hi];omega,uy hp hi,(DA.upd nl.1 nl.2).upd nn.1 nn.2,iS (iS (O3.trans OA) hpl) LH⟩
 ·rename_i hp0
  obtain rfl:rs=[]:=List.length_eq_zero_iff.mp (by omega)
  rw[List.append_nil]at hp
  refine hN _ _ ?_
  simp only[aw,v3,lk]
  exact kk os pn S3 hp LH g3 D3 O3 nn
theorem lG:∀{a b:Vu} {x y:Int},oj a b->x<=y->oj (a++[x]) (b++[y])
 |[],[],_,_,_,h=>⟨h,trivial⟩
 |_::_,_::_,_,_,h,g=>⟨h.1,lG h.2 g⟩
theorem fP:∀{a b:Vu},oj a b->a.length=b.length
 |[],[],_=>rfl
 |_::_,_::_,h=>by rw[List.length_cons,List.length_cons,fP h.2]
def lH{a b:Vu}(h:a.map PV.int=b.map PV.int):a=b:=List.map_inj_right (fun x y e=>by cases e;rfl) |>.mp h
def pS{es:Vu}{d1:Vu}{x:PV}{rest:List PV}(e:es.map PV.int=d1.map PV.int++x::rest):∃i r,es=d1++i::r/\x = .int i:=by
 obtain⟨a,b,rfl,h1,h2⟩:=List.map_eq_append_iff.mp e
 obtain rfl:=lH h1
 obtain⟨i,r,rfl,rfl,_⟩:=List.map_eq_cons_iff.mp h2
 exact⟨i,r,rfl,rfl⟩
structure Cb (k D:Nat) (c:Cc):Prop where
 el:c.eff.length=k
 eb:∀e∈c.eff,e.natAbs<=202
 n0:0<=c.n
 n1:c.n<=2 ^ 23
 wd:∀d,c.who=some d->d < D
abbrev ow(w:aH):Prop:=∀{S:av} {d l:Addr} {k D:Nat} {c:Cc} {Q:bH} {E:b9},Ei S d l->Ii k D c->k<=4->(∀c' S',Cb k D c'->c'.who=c.who->c'.n<=c.n->oj c'.eff c.eff->Ei S' d l->EE d l S S'->Q c'.v S')->w [.ref d,c.v] S Q E
def FB{x0:aH}(Eg:cf x0):ow (bf 6 (eO x0)):=by
 intro S d l k D c Q E DL C hk kk
 obtain⟨who,n,es⟩:=c
 have el:es.length=k:=C.el
 have eb:∀e∈es,e.natAbs<=200:=C.eb
 unfold eO
 refine fb ?_
 rw[show ax 6 [PV.ref d,Cc.v ⟨who,n,es⟩]=[some (.ref d),some (.tup [jF who,cq 2520 n,.tup (es.map PV.int)]),none,none,none,none] from rfl]
 refine az fun N hN=>?_
 simp only[gY,v3,lk,Tg.put,Tg.EQ,List.set_cons_succ,List.set_cons_zero]
 refine hN _ _ (az fun N hN=>?_)
 simp only[aq,aj,ag,ar,aF,v3,lk,bE]
 refine bG (fun done ys S'=>∃d1 es':List Int,done=d1.map PV.int/\ys=es'.map PV.int/\oj es' d1/\(∀e∈es',e.natAbs<=202)/\d1.length<=k/\Ei S' d l/\EE d l S S') ⟨[],[],rfl,rfl,trivial,(fun e he=>by cases he),Nat.zero_le _,DL,.refl⟩ ?_ ?_ ?_
 ·rintro done ys S' ⟨d1,es',rfl,rfl,h1,_,h3,_⟩
  have:=fP h1
  exact⟨trivial,aP (by rw[List.length_map];omega)⟩
 ·rintro done x rest ys S' K e ⟨d1,es',rfl,rfl,h1,h2,h3,D',O'⟩ hK
  obtain⟨i,r,e',rfl⟩:=pS e
  have hi:i.natAbs<=200:=eb i (by rw[e'];simp)
  have hl:d1.length < k:=by rw[<-el,e'];simp
  simp only[Tg.put,bQ,List.reduceReplicate,List.map_cons,List.map_nil,List.cons_append,List.nil_append,List.set_cons_zero,a8,if_true,af,ac,ag,v3,lk,c3,List.getElem?_cons_zero,List.getElem?_cons_succ,Option.join]
  refine Eg D' (by decide) (by decide) fun a S1 a0 a1 D1 O1=>?_
  simp only[b_,bN]
  refine hK _ _ ⟨d1++[i],es'++[i - a],by simp,by simp,lG h1 (by omega),fun y hy=>?_,by rw[List.length_append];exact hl,D1,O'.trans O1⟩
  rcases List.mem_append.mp hy with hy|hy
  ·exact h2 y hy
  ·rw[List.mem_singleton.mp hy];omega
 rintro ys S1 ⟨d1,es',e,rfl,h1,h2,h3,D1,O1⟩ p hp
 obtain rfl:=lH e
 simp only[aD,e_,aa,List.set_cons_succ,List.set_cons_zero]
 have D2:=D1.new (o:=.lst (es'.map PV.int)) hp
 have O2:EE d l S (Ee S1 p (.lst (es'.map PV.int))):=O1.trans (.new hp)
 generalize Ee S1 p (.lst (es'.map PV.int))=S2 at D2 O2
 refine hN _ _ ?_
 simp only[aw,af,bV,aV,ac,ag,v3,lk,c3]
 intro pq hpq
 have nq:=D2.free hpq
 rw[BE]
 refine Eg (D2.new hpq) (by decide) (by decide) fun a S3 a0 a1 D3 O3=>?_
 have e3:=O3 _ _ (aa (S:=S2) (o:=.lst [cq 2520 n,cq 2520 0])) nq.1 nq.2
 simp only[ak,e3]
 have O4:=O2.trans ((EE.new (o:=.lst [cq 2520 n,cq 2520 0]) hpq).trans O3)
 have n0:=C.n0;have n1:=C.n1
 obtain rfl|rfl:a=0\/a=1:=by omega
 ·rw[lM]
  exact kk ⟨who,n,es'⟩ S3 ⟨(fP h1).trans el,h2,n0,by show n<=_;have:n<=2 ^ 22:=n1;omega,C.wd⟩ rfl (Int.le_refl _) h1 D3 O4
 ·rw[nI]
  exact kk ⟨who,0,es'⟩ S3 ⟨(fP h1).trans el,h2,Int.le_refl _,by show(0:Int)<=_;omega,C.wd⟩ rfl n0 h1 D3 O4
abbrev ox(w:aH):Prop:=∀{S:av} {d l:Addr} {k D:Nat} {c:Cc} {Q:bH} {E:b9},Ei S d l->Ii k D c->k<=4->(∀c' S',Cb k D c'->c.who=c'.who->c.n<=c'.n->oj c.eff c'.eff->Ei S' d l->EE d l S S'->Q c'.v S')->w [.ref d,c.v] S Q E
def ww{x:Int}(h:x.natAbs < 2 ^ 60):x.natAbs < dS:=Nat.lt_of_lt_of_le h (show 2 ^ 60<=2 ^ 2000 from Nat.pow_le_pow_right (by decide) (by decide))
def FC{x0 x1:aH}(Eg:cf x0)(Fk:mo x1):ox (bf 5 (eP x0 x1)):=by
 intro S d l k D c Q E DL C hk kk
 obtain⟨who,n,es⟩:=c
 have el:es.length=k:=C.el
 have eb:∀e∈es,e.natAbs<=200:=C.eb
 have n0:0<=n:=C.n0
 have n1:n<=2 ^ 22:=C.n1
 unfold eP
 refine fb ?_
 rw[show ax 5 [PV.ref d,Cc.v ⟨who,n,es⟩]=[some (.ref d),some (.tup [jF who,cq 2520 n,.tup (es.map PV.int)]),none,none,none] from rfl]
 refine az fun N hN=>?_
 simp only[gY,v3,lk,Tg.put,Tg.EQ,List.set_cons_succ,List.set_cons_zero]
 refine hN _ _ (az fun N hN=>?_)
 simp only[cN,br,af,ac,ag,v3,lk,c3,bd]
 refine Eg DL (by decide) (by decide) fun a S1 a0 a1 D1 O1=>?_
 simp only[e9,Bool.false_bne,decide_eq_true_eq]
 split
 ·simp only[aw,aV,af,ac,ag,v3,lk,c3]
  refine Eg D1 (by decide) (by decide) fun b S2 b0 b1 D2 O2=>?_
  simp only[aL]
  obtain⟨m,em,m0,m1⟩:∃m:Int,1 * 2520=m * (1+b)/\0<=m/\m<=2520:=by
   obtain rfl|rfl|rfl:b=0\/b=1\/b=2:=by omega
   ·exact⟨2520,by omega,by omega,by omega⟩
   ·exact⟨1260,by omega,by omega,by omega⟩
   ·exact⟨840,by omega,by omega,by omega⟩
  refine Bo Fk (m:=m) ⟨by decide,ww (by decide),ww (by omega)⟩ (by omega) (Nat.le_of_lt (ww (by omega))) (ww (by omega)) em ?_
  exact kk ⟨who,n+m,es⟩ S2 ⟨el,fun e he=>by have:=eb e he;omega,by show 0<=n+m;omega,by show n+m<=_;omega,C.wd⟩ rfl (by show n<=n+m;omega) (fH _) D2 (O1.trans O2)
 refine hN _ _ ?_
 simp only[aw,aV,aj,ag,ar,aF,v3,lk,bE]
 refine bG (fun done ys S'=>∃d1 es':List Int,done=d1.map PV.int/\ys=es'.map PV.int/\oj d1 es'/\(∀e∈es',e.natAbs<=202)/\d1.length<=k/\Ei S' d l/\EE d l S S') ⟨[],[],rfl,rfl,trivial,(fun e he=>by cases he),Nat.zero_le _,D1,O1⟩ ?_ ?_ ?_
 ·rintro done ys S' ⟨d1,es',rfl,rfl,h1,_,h3,_⟩
  have:=fP h1
  exact⟨trivial,aP (by rw[List.length_map];omega)⟩
 ·rintro done x rest ys S' K e ⟨d1,es',rfl,rfl,h1,h2,h3,D',O'⟩ hK
  obtain⟨i,r,e',rfl⟩:=pS e
  have hi:i.natAbs<=200:=eb i (by rw[e'];simp)
  have hl:d1.length < k:=by rw[<-el,e'];simp
  simp only[Tg.put,bQ,List.reduceReplicate,List.map_cons,List.map_nil,List.cons_append,List.nil_append,List.set_cons_zero,a8,if_true,af,ac,ag,v3,lk,c3,List.getElem?_cons_zero,List.getElem?_cons_succ,Option.join]
  refine Eg D' (by decide) (by decide) fun a S1 a0 a1 D1 O1=>?_
  simp only[aL]
  refine hK _ _ ⟨d1++[i],es'++[i+a],by simp,by simp,lG h1 (by omega),fun y hy=>?_,by rw[List.length_append];exact hl,D1,O'.trans O1⟩
  rcases List.mem_append.mp hy with hy|hy
  ·exact h2 y hy
  ·rw[List.mem_singleton.mp hy];omega
 rintro ys S2 ⟨d1,es',e,rfl,h1,h2,h3,D2,O2⟩ p hp
 obtain rfl:=lH e
 simp only[aD,e_,aa]
 exact kk ⟨who,n,es'⟩ _ ⟨(fP h1).symm.trans el,h2,n0,by show n<=_;omega,C.wd⟩ rfl (Int.le_refl _) h1 (D2.new hp) (O2.trans (.new hp))
abbrev lI(w:aH):Prop:=∀{S:av} {t u:Option (Int×Int)} {Q:bH} {E:b9},(u=none\/∃g q g' q',t=some (g,q)/\u=some (g',q')/\Fq q g/\Fq q' g'/\g * q'<=g' * q)->Q (.bl true) S->w [tv t,tv u] S Q E
def zF{g q g' q':Int}(h:0 < q)(h':0 < q')(l:g * q'<=g' * q):M3.aK g q * M3.aB g' q'<=M3.aK g' q' * M3.aB g q:=by
 have w:=M3.aY (t:=g) (b:=q) (by omega)
 have w':=M3.aY (t:=g') (b:=q') (by omega)
 have b:=(M3.cj (t:=g) (b:=q) (by omega)).pos
 have b':=(M3.cj (t:=g') (b:=q') (by omega)).pos
 refine Int.le_of_mul_le_mul_left ?_ (Int.mul_pos h h')
 have m:=Int.mul_le_mul_of_nonneg_left l (Int.le_of_lt (Int.mul_pos b b'))
 have e1:q * q' * (M3.aK g q * M3.aB g' q')=(M3.aK g q * q) * (M3.aB g' q' * q'):=by grind
 have e2:q * q' * (M3.aK g' q' * M3.aB g q)=(M3.aK g' q' * q') * (M3.aB g q * q):=by grind
 rw[e1,e2,w,w']
 have e3:g * M3.aB g q * (M3.aB g' q' * q')=M3.aB g q * M3.aB g' q' * (g * q'):=by grind
 have e4:g' * M3.aB g' q' * (M3.aB g q * q)=M3.aB g q * M3.aB g' q' * (g' * q):=by grind
 rw[e3,e4]
 exact m
def re:lI (bf 2 cJ):=by
 intro S t u Q E h k
 unfold cJ
 refine fb ?_
 rw[show ax 2 [tv t,tv u]=[some (tv t),some (tv u)] from rfl]
 refine az fun N hN=>?_
 rcases h with rfl|⟨g,q,g',q',rfl,rfl,F,F',le⟩
 ·simp only[cN,sE,br,af,v3,lk,c3,tv,iA,bd,aw]
  exact k
 ·have z:=(F.ok F').1
  have z':=(F'.ok F).1
  have l:=zF F.q0 F'.q0 le
  simp only[cN,sE,br,af,v3,lk,c3,tv,cq,iA,bd]
  simp only[bne_self_eq_false,Bool.false_eq_true,if_false]
  refine hN _ _ ?_
  simp only[aw,af,v3,lk,c3,ak,lM,nI]
  simp only[aO]
  refine⟨z,z',?_⟩
  simp only[zV,bN]
  rw[decide_eq_true l]
  exact k
noncomputable def uA(s:Int):Option (Int×Int)->Option (Int×Int)
 |none=>none
 |some (g,q)=>some (s * g,q)
abbrev uB(w:aH):Prop:=∀{S:av} {t:Option (Int×Int)} {s:Int} {Q:bH} {E:b9},(∀g q,t=some (g,q)->Fq q g)->0<=s->s<=9->Q (tv (uA s t)) S->w [tv t,.int s] S Q E
def FJ{x0:aH}(Fj:eI x0):uB (bf 2 (fK x0)):=by
 intro S t s Q E h s0 s1 k
 unfold fK
 refine fb ?_
 rw[show ax 2 [tv t,.int s]=[some (tv t),some (.int s)] from rfl]
 refine az fun N hN=>?_
 match t with
 |none=>
  simp only[cN,br,af,v3,lk,c3,tv,iA,bd,aw]
  exact k
 |some (g,q)=>
  have F:=h g q rfl
  have sz:=F.sz
  have w:=M3.aY (t:=g) (b:=q) (by have:=F.q0;omega)
  simp only[cN,br,af,v3,lk,c3,tv,cq,iA,bd]
  simp only[bne_self_eq_false,Bool.false_eq_true,if_false]
  refine hN _ _ ?_
  simp only[aw,ac,ag,af,v3,lk,c3,ak,lM,nI]
  simp only[aO]
  refine⟨mh (by omega) (by omega),Fj sz.2.2 (Nat.lt_of_le_of_lt sz.2.1 (Nat.lt_trans F.q1 (Nat.pow_lt_pow_right (by decide) (by decide)))) ?_⟩
  rw[show PV.tup [.int (M3.aK (M3.aK g q * s) (M3.aB g q)),.int (M3.aB (M3.aK g q * s) (M3.aB g q))]=cq q (s * g)from eZ sz.2.2 F.q0 (by rw[show M3.aK g q * s * q=s * (M3.aK g q * q) by grind,w];grind)]
  exact k
def G8(d l m:Addr)(S S':av):Prop:=∀a o,S a=some o->a≠d->a≠l->a≠m->S' a=some o
def G8.of{d l m:Addr}{S S' S2:av}(h:G8 d l m S S')(g:EE d l S' S2):G8 d l m S S2:=fun a o e h1 h2 h3=>g a o (h a o e h1 h2 h3) h1 h2
def G8.set{d l m:Addr}{S S':av}{o:SO}(h:G8 d l m S S'):G8 d l m S (Ee S' m o):=fun a x e h1 h2 h3=>by rw[al h3];exact h a x e h1 h2 h3
def xv{es:Vu}{j:Nat}(h:j < es.length):ER (es.map PV.int) (j:Int)=some (.int (es.getD j 0)):=(fG h).1
def zG{S:av}{pj:Addr}{js:List Nat}{es:Vu}{o0 o1 o2 o3 o5 o6 o7 o8:Option PV}{Q:bH}{E:b9}(hj:S pj=some (.lst (js.map nV)))(hl:js.length<=100)(hb:∀j∈js,j < es.length)(k:∀p o,S p=none->Q (.tup ((js.map fun j=>es.getD j 0).map PV.int)) (Ee S p o)) :
  (aj aD [ar (aF (v3 4)) (.n 0) a8 (af ak (v3 1) (v3 0)) 1 [9]]) [o0,o1,o2,o3,some (.ref pj),o5,o6,o7,o8,some (.tup (es.map PV.int))] S Q E:=by
 simp only[aj,ag,ar,aF,v3,lk,bE,hj]
 refine aW nV (fun j=>.int (es.getD j 0)) hj js [] (fun i hi=>⟨_,rfl,fun Q' q=>?_⟩) (aP (by simp;omega)) ?_
 ·simp only[bQ,List.reduceReplicate,List.map_cons,List.map_nil,List.cons_append,List.nil_append,List.set_cons_zero,af,v3,lk,nV,ak]
  rw[xv (hb i hi)]
  exact q
 intro p hp
 simp only[List.nil_append,aD,e_,aa]
 have:=k p (.lst (js.map fun j=>PV.int (es.getD j 0))) hp
 rw[List.map_map]at this
 exact this
def BF{S:av}{pj pm:Addr}{js:List Nat}{es:Vu}{o0 o1 o4 o5 o6 o7 o8 o9:Option PV}{Q:bH}{E:b9}(hj:S pj=some (.lst (js.map nV)))(hm:S pm=some (.lst (es.map PV.int)))(hl:js.length<=100)(hb:∀j∈js,j < es.length)(k:∀p,S p=none->Q (.ref p) (Ee S p (.lst ((js.map fun j=>es.getD j 0).map PV.int)))) :
  (ar (aF (v3 3)) (.n 0) a8 (af ak (v3 1) (v3 0)) 1 [2]) [o0,o1,some (.ref pm),some (.ref pj),o4,o5,o6,o7,o8,o9] S Q E:=by
 simp only[ar,aF,v3,lk,bE,hj]
 refine aW nV (fun j=>.int (es.getD j 0)) hj js [] (fun i hi=>⟨_,rfl,fun Q' q=>?_⟩) (aP (by simp;omega)) ?_
 ·simp only[bQ,List.reduceReplicate,List.map_cons,List.map_nil,List.cons_append,List.nil_append,List.set_cons_zero,af,v3,lk,nV,ak,hm]
  rw[xv (hb i hi)]
  exact q
 intro p hp
 have:=k p hp
 rw[List.map_map]at this
 exact this
def pT{L:List Cc}{i:Nat}{c:Cc}(h:L[i]?=some c):ER (L.map Cc.v) (i:Int)=some c.v:=bB (by rw[List.getElem?_map,h];rfl)
def BG(ds:List Nat):ds.map nV=(ds.map fun(j:Nat)=>(j:Int)).map PV.int:=by rw[List.map_map];rfl
def BH{n:Nat}{ds:List Nat}(h:ds.Perm (List.range n)){e:Nat}(he:e < n){S:av}{a:Addr}{Q:bH}(ha:S a=some (.lst (ds.map nV)))(q:Q (.int (ds.idxOf e:Nat)) S):ic (.ref a) [.int (e:Int)] S Q:=by
 have hl:ds.length=n:=by rw[h.length_eq,List.length_range]
 have a1:=uc h he
 have lt:ds.idxOf e < ds.length:=by omega
 have g:ds[ds.idxOf e]?=some e:=by rw[List.getElem?_eq_getElem lt,List.getElem_idxOf lt]
 simp only[ic,ha,BG,hG]
 refine⟨ds.idxOf e,by rw[List.getElem?_map,g];rfl,fun j hj hc=>?_,q⟩
 rw[List.getElem?_map,List.getElem?_eq_getElem (by omega),Option.map_some]at hc
 have hc:ds[j]=e:=by have:=Option.some.inj hc;omega
 have:=pK h (i:=j) (by omega)
 rw[List.getD_eq_getElem?_getD,List.getElem?_eq_getElem (by omega),Option.getD_some,hc]at this
 omega
abbrev oy(w:aH):Prop:=∀{S:av} {d l pc pm:Addr} {L:List Cc} {mix:Vu} {k:Nat} {Q:bH} {E:b9},Ei S d l->Bs k mix L->S pc=some (.lst (L.map Cc.v))->S pm=some (.lst (mix.map PV.int))->pc≠d/\pc≠l->pm≠d/\pm≠l->(∀(ds js:List Nat) (L':List Cc) pf pg S',ds.Perm (List.range mix.length)->js.Perm (List.range k)->L'.length=L.length->(∀c'∈L',∃c∈L,c'=gb ds js c)->(∀c∈L,gb ds js c∈L')->S' pf=some (.lst (L'.map Cc.v))->S' pg=some (.lst ((ds.map fun d=>mix.getD d 0).map PV.int))->pf≠d/\pf≠l->pg≠d/\pg≠l->Ei S' d l->EE d l S S'->Q (.tup [.ref pf,.ref pg]) S')->w [.ref d,.ref pc,.ref pm] S Q E
def Gj{x0:aH}(FA:uz x0):oy (bf 10 (cS x0)):=by
 intro S d l pc pm L mix k Q E DL B hc hm nc nm kk
 unfold cS
 refine fb ?_
 have b1:=B.d1;have b2:=B.l2;have b3:=B.l1;have b4:=B.d0;have b5:=B.k1
 rw[show ax 10 [PV.ref d,.ref pc,.ref pm]=[some (.ref d),some (.ref pc),some (.ref pm),none,none,none,none,none,none,none] from rfl]
 refine az fun N hN=>?_
 have MY:0 < L.length:=by omega
 have g0:=List.getElem?_eq_getElem MY
 generalize L[0]=c0 at g0
 have o0:=B.ok c0 (List.mem_of_getElem? g0)
 have k0:c0.eff.length=k:=o0.el
 have i0:ER (L.map Cc.v) 0=some c0.v:=pT (i:=0) g0
 have i2:∀a b c:PV,ER [a,b,c] 2=some c:=fun a b c=>rfl
 simp only[j1,ac,aj,ag,af,v3,lk,c3,bg,hm,List.length_map]
 refine FA DL (by omega) fun ds pd S1 hds fpd fd D1 O1 nd=>?_
 have hc1:=O1 _ _ hc nc.1 nc.2
 have hm1:=O1 _ _ hm nm.1 nm.2
 simp only[ak,hc1,i0,Cc.v,i2,bg,List.length_map,k0]
 refine FA D1 (by omega) fun js pj S2 I9 fpj fj D2 O2 nj=>?_
 have dl:ds.length=mix.length:=by rw[hds.length_eq,List.length_range]
 have jl:js.length=k:=by rw[I9.length_eq,List.length_range]
 have fd2:=O2 _ _ fd nd.1 nd.2
 simp only[List.set_cons_succ,List.set_cons_zero]
 refine hN _ _ (az fun N hN=>?_)
 simp only[aq,bV,ag]
 intro pf hpf
 have LJ:=O1.trans O2
 have nf:=D2.free hpf
 have KU:=mM LJ D2 hpf
 have LK:(Ee S2 pf (.lst [])) pd=some (.lst (ds.map nV)):=by rw[al (fun h=>by rw[h,hpf]at fd2;cases fd2)];exact fd2
 have LL:(Ee S2 pf (.lst [])) pj=some (.lst (js.map nV)):=by rw[al (fun h=>by rw[h,hpf]at fj;cases fj)];exact fj
 have KW:(Ee S2 pf (.lst [])) pf=some (.lst (([]:List Cc).map Cc.v)):=aa
 have D3:=D2.new (o:=.lst []) hpf
 have O3:EE d l S (Ee S2 pf (.lst [])):=LJ.trans (.new hpf)
 have LN:pd≠pf:=fun h=>by rw[h,hpf]at fd2;cases fd2
 have MZ:pj≠pf:=fun h=>by rw[h,hpf]at fj;cases fj
 have M0:pc≠pf:=fun h=>by rw[h,KU]at hc;cases hc
 have nfm:pm≠pf:=fun h=>by rw[h,KU]at hm;cases hm
 generalize Ee S2 pf (.lst [])=S3 at LK LL KW D3 O3
 simp only[List.set_cons_succ,List.set_cons_zero]
 refine hN _ _ (az fun N hN=>?_)
 have hc3:=O3 _ _ hc nc.1 nc.2
 simp only[cO,aF,ac,aj,ag,v3,lk,bg,hc3,List.length_map]
 refine FA D3 (by omega) fun ks pk S4 hks IJ fk D4 O4 nk=>?_
 have kl:ks.length=L.length:=by rw[hks.length_eq,List.length_range]
 have M1:=O4 _ _ KW nf.1 nf.2
 have LP:=O3.trans O4
 have M2:pk≠pf:=fun h=>by rw[h,KW]at IJ;cases IJ
 have LQ:=O4 _ _ LK nd.1 nd.2
 have M4:=O4 _ _ LL nj.1 nj.2
 simp only[bE,fk]
 refine cu (fun done σ S'=>∃(d1:List Nat) (L1:List Cc) (x6 x7 x8 x9:Option PV),done=d1.map nV/\σ=[some (.ref d),some (.ref pc),some (.ref pm),some (.ref pd),some (.ref pj),some (.ref pf),x6,x7,x8,x9]/\S' pf=some (.lst (L1.map Cc.v))/\L1.length=d1.length/\(∀c'∈L1,∃c∈L,c'=gb ds js c)/\(∀i∈d1,∀c,L[i]?=some c->gb ds js c∈L1)/\d1.length<=L.length/\Ei S' d l/\G8 d l pf S4 S'/\EE d l S S') ⟨[],[],_,_,_,_,rfl,rfl,M1,rfl,(fun c hc=>by cases hc),(fun i hi=>by cases hi),Nat.zero_le _,D4,fun _ _ h _ _ _=>h,LP⟩ (fun done σ S' ⟨_,_,_,_,_,_,_,_,_,_,_,_,_,_,T,_⟩=>T _ _ fk nk.1 nk.2 M2) ?_ ?_
 ·rintro done x rest σ S5 K e ⟨d1,L1,x6,x7,x8,x9,rfl,rfl,f5,l5,h1,h2,h3,D5,T5,O5⟩ hK
  obtain⟨a,b,e',h4,h5⟩:=List.map_eq_append_iff.mp e
  obtain rfl:a=d1:=List.map_inj_right (fun x y e=>by unfold nV at e;cases e;rfl) |>.mp h4
  obtain⟨i,r,rfl,rfl,_⟩:=List.map_eq_cons_iff.mp h5
  have hi:i < L.length:=List.mem_range.mp (hks.mem_iff.mp (by rw[e'];simp))
  have hlen:a.length < L.length:=by rw[<-kl,e'];simp
  have gi:=List.getElem?_eq_getElem hi
  generalize L[i]=c at gi
  have cm:=List.mem_of_getElem? gi
  have co:=B.ok c cm
  obtain⟨who,n,es⟩:=c
  have el:es.length=k:=co.el
  have hc5:=T5 _ _ (LP _ _ hc nc.1 nc.2) nc.1 nc.2 M0
  have J8:=T5 _ _ LQ nd.1 nd.2 LN
  have M5:=T5 _ _ M4 nj.1 nj.2 MZ
  have ai:ER (L.map Cc.v) (i:Int)=some (.tup [jF who,cq 2520 n,.tup (es.map PV.int)]):=pT gi
  simp only[Tg.put,nV,List.set_cons_succ,List.set_cons_zero]
  refine az fun N2 Fb=>?_
  simp only[gY,af,v3,lk,ak,hc5,ai,Tg.put,Tg.EQ,List.set_cons_succ,List.set_cons_zero]
  refine Fb _ _ (az fun N2 Fb=>?_)
  have fin:∀w':Option Nat,w'=who.map ds.idxOf->(cE (jV "list" bJ (v3 5) [(aV [(v3 7),(v3 8),(aj aD [(ar (aF (v3 4)) (.n 0) a8 (af ak (v3 1) (v3 0)) 1 [9])])])])) { nx:=K,rt:=Q,ex:=fZ,ct:=K,bk:=N } [some (.ref d),some (.ref pc),some (.ref pm),some (.ref pd),some (.ref pj),some (.ref pf),some (.int (i:Int)),some (jF w'),some (cq 2520 n),some (.tup (es.map PV.int))] S5:=by
   intro w' hw'
   rw[show ∀(te:aT) D σ S,cE te D σ S=te σ S (fun _ S1=>D.nx σ S1) D.ex from fun _ _ _ _=>rfl]
   simp only[jV,rh,aV,ag,v3,lk,f5,true_and]
   refine zG M5 (by omega) (fun j hj=>by have:=List.mem_range.mp (I9.mem_iff.mp hj);omega) fun p o hp=>?_
   have np:p≠pf:=fun h=>by rw[h,f5]at hp;cases hp
   have f6:(Ee S5 p o) pf=some (.lst (L1.map Cc.v)):=by rw[al (Ne.symm np)];exact f5
   simp only[bJ,f6,List.length_map]
   refine⟨Nat.lt_of_lt_of_le (show L1.length < 1000 by omega) (aP (Nat.le_refl _)),hK _ _ ⟨a++[i],L1++[gb ds js ⟨who,n,es⟩],_,_,_,_,by simp[nV],rfl,?_,by simp[l5],fun c' hc'=>?_,fun i' hi' c hc=>?_,by rw[List.length_append];exact hlen,(D5.new hp).upd nf.1 nf.2,(T5.of (.new hp)).set,iS (O5.trans (.new hp)) KU⟩⟩
   ·rw[aa,List.map_append]
    simp only[List.map_cons,List.map_nil,Cc.v,gb,hw']
   ·rcases List.mem_append.mp hc' with hc'|hc'
    ·exact h1 c' hc'
    ·exact⟨_,cm,List.mem_singleton.mp hc'⟩
   ·rcases List.mem_append.mp hi' with hi'|hi'
    ·exact List.mem_append.mpr (.inl (h2 i' hi' c hc))
    ·rw[List.mem_singleton.mp hi',gi]at hc
     cases hc
     exact List.mem_append.mpr (.inr (List.mem_singleton.mpr rfl))
  cases who with
  |none=>
   simp only[cN,br,af,v3,lk,c3,jF,iA,bd]
   simp only[bne_self_eq_false,Bool.false_eq_true,if_false]
   exact Fb _ _ (fin none rfl)
  |some e=>
   simp only[cN,br,af,v3,lk,c3,jF,iA,Bool.bne_false,if_true]
   simp only[aq,jV,rh,ag,v3,lk,J8,true_and]
   refine BH hds (co.wd e rfl) J8 ?_
   simp only[List.set_cons_succ,List.set_cons_zero]
   exact Fb _ _ (fin (some (ds.idxOf e)) rfl)
 ·rintro σ S5 ⟨d1,L1,x6,x7,x8,x9,e,rfl,f5,l5,h1,h2,h3,D5,T5,O5⟩
  obtain rfl:ks=d1:=List.map_inj_right (fun x y e=>by unfold nV at e;cases e;rfl) |>.mp e
  refine hN _ _ ?_
  have J8:=T5 _ _ LQ nd.1 nd.2 LN
  have M6:=O5 _ _ hm nm.1 nm.2
  simp only[aw,aV,ag,v3,lk]
  refine BF J8 M6 (by omega) (fun j hj=>List.mem_range.mp (hds.mem_iff.mp hj)) fun p hp=>?_
  refine kk ds js L1 pf p _ hds I9 (by omega) h1 (fun c hc=>?_) (by rw[al (fun h=>by rw[h,hp]at f5;cases f5)];exact f5) aa nf (D5.free hp) (D5.new hp) (O5.trans (.new hp))
  obtain⟨i,hi,rfl⟩:=List.getElem_of_mem hc
  exact h2 i (hks.mem_iff.mpr (List.mem_range.mpr hi)) _ (List.getElem?_eq_getElem hi)
theorem Ii.c{k D:Nat}{c:Cc}(h:Ii k D c):j2 k D c:=⟨h.el,fun e he=>by have:=h.eb e he;omega,h.n0,by have:=h.n1;omega,h.wd⟩
theorem Cb.c{k D:Nat}{c:Cc}(h:Cb k D c):j2 k D c:=⟨h.el,fun e he=>by have:=h.eb e he;omega,h.n0,by have:=h.n1;omega,h.wd⟩
section
variable {k:Nat} {mix:Vu} {L:List Cc}
def Bs.Ji(B:Bs k mix L):∀d,d < mix.length->∃c∈L,qZ d c:=fun d hd=>by
 obtain⟨c,h1,h2⟩:=B.fx d hd
 exact⟨c,List.mem_of_getElem? h1,h2⟩
def Bs.mk'(B:Bs k mix L){L':List Cc}(ok:∀c∈L',j2 k mix.length c)(fx:∀d,d < mix.length->∃c∈L',qZ d c)(n2:L'.length<=100):Cp k mix L' where
 ok:=ok
 fx:=fx
 k1:=by have:=B.k1;omega
 d1:=by have:=B.d1;omega
 n1:=by
  obtain⟨c,hc,_⟩:=fx 0 (by have:=B.d0;omega)
  exact List.length_pos_of_mem hc
 n2:=n2
 m0:=fun x hx=>by have:=B.m0 x hx;omega
def Bs.cp(B:Bs k mix L):Cp k mix L:=B.mk' (fun c hc=>(B.ok c hc).c) B.Ji (by have:=B.l2;omega)
def Bs.add(B:Bs k mix L){c':Cc}(h:j2 k mix.length c'):Cp k mix (L++[c']):=B.mk' (fun c hc=>by
 rcases List.mem_append.mp hc with hc|hc
 ·exact(B.ok c hc).c
 ·rw[List.mem_singleton.mp hc];exact h) (fun d hd=>by
 obtain⟨c,hc,f⟩:=B.Ji d hd
 exact⟨c,List.mem_append.mpr (.inl hc),f⟩) (by have:=B.l2;rw[List.length_append,List.length_singleton];omega)
theorem Bs.cost(B:Bs k mix L):Cp k mix (L.map (Cc.cost 3)):=B.mk' (fun c hc=>by
 obtain⟨c,h,rfl⟩:=List.mem_map.mp hc
 have o:=B.ok c h
 have:=o.n0;have:=o.n1
 exact⟨o.el,fun e he=>by have:=o.eb e he;omega,by show 0<=3 * c.n;omega,by show 3 * c.n<=_;omega,o.wd⟩) (fun d hd=>by
 obtain⟨c,hc,f⟩:=B.Ji d hd
 exact⟨_,List.mem_map.mpr ⟨c,hc,rfl⟩,f⟩) (by have:=B.l2;rw[List.length_map];omega)
theorem Bs.wide(B:Bs k mix L):Cp k mix (L.map (Cc.wide 2)):=B.mk' (fun c hc=>by
 obtain⟨c,h,rfl⟩:=List.mem_map.mp hc
 have o:=B.ok c h
 have:=o.n0;have:=o.n1
 exact⟨by show(c.eff.map (2 * ·)).length=k;rw[List.length_map];exact o.el,fun e he=>by
  obtain⟨z,hz,rfl⟩:=List.mem_map.mp he
  have:=o.eb z hz
  show(2 * z).natAbs<=_
  omega,o.n0,by show c.n<=_;omega,o.wd⟩) (fun d hd=>by
 obtain⟨c,hc,f⟩:=B.Ji d hd
 exact⟨_,List.mem_map.mpr ⟨c,hc,rfl⟩,f.1,fun e he=>by
  obtain⟨z,hz,rfl⟩:=List.mem_map.mp he
  have:=f.2 z hz
  show 0<=2 * z
  omega⟩) (by have:=B.l2;rw[List.length_map];omega)
def Bs.twice(B:Bs k mix L):Cp k (mix.map (2 * ·)) L:=⟨fun c hc=>by rw[List.length_map];exact(B.ok c hc).c,fun d hd=>B.Ji d (by rwa [List.length_map]at hd),by have:=B.k1;omega,by rw[List.length_map];have:=B.d1;omega,by have:=B.l1;omega,by have:=B.l2;omega,fun x hx=>by
 obtain⟨z,hz,rfl⟩:=List.mem_map.mp hx
 have:=B.m0 z hz
 show 0<=2 * z/\2 * z<=_
 omega⟩
def uC{a:Nat}{c:Cc}(h:c∈L.take a++L.drop (a+1)):c∈L:=by
 rcases List.mem_append.mp h with h|h
 ·exact List.mem_of_mem_take h
 ·exact List.mem_of_mem_drop h
def oz{a i:Nat}{c:Cc}(h:L[i]?=some c)(ne:i≠a):c∈L.take a++L.drop (a+1):=by
 by_cases hi:i < a
 ·refine List.mem_append.mpr (.inl (List.mem_of_getElem? (i:=i) ?_))
  rw[List.getElem?_take,if_pos hi];exact h
 ·refine List.mem_append.mpr (.inr (List.mem_of_getElem? (i:=i - (a+1)) ?_))
  rw[List.getElem?_drop,show a+1+(i - (a+1))=i by omega];exact h
def Bs.out(B:Bs k mix L){a:Nat}(ha:mix.length<=a):Cp k mix (L.take a++L.drop (a+1)):=B.mk' (fun c hc=>(B.ok c (uC hc)).c) (fun d hd=>by
 obtain⟨c,h1,h2⟩:=B.fx d hd
 exact⟨c,oz h1 (by omega),h2⟩) (by have:=B.l2;rw[List.length_append,List.length_take,List.length_drop];omega)
theorem uD:∀{a b:Vu},oj a b->(∀e∈a,0<=e)->∀e∈b,0<=e
 |[],[],_,_,_,h=>by cases h
 |x::r,y::s,h,g,e,he=>by
  rcases List.mem_cons.mp he with rfl|he
  ·have:=g x (by simp);have:=h.1;omega
  ·exact uD h.2 (fun e h=>g e (by simp[h])) e he
def Bs.above(B:Bs k mix L){a:Nat}{c c':Cc}(hc:L[a]?=some c)(h:j2 k mix.length c')(hw:c.who=c'.who)(hd:oj c.eff c'.eff):Cp k mix (L.take a++[c']++L.drop (a+1)):=B.mk' (fun x hx=>by
 rcases List.mem_append.mp hx with hx|hx
 ·rcases List.mem_append.mp hx with hx|hx
  ·exact(B.ok x (List.mem_of_mem_take hx)).c
  ·rw[List.mem_singleton.mp hx];exact h
 ·exact(B.ok x (List.mem_of_mem_drop hx)).c) (fun d hd2=>by
 obtain⟨x,h1,h2⟩:=B.fx d hd2
 by_cases e:d=a
 ·subst e
  rw[hc]at h1;cases h1
  exact⟨c',by simp,hw▸h2.1,uD hd h2.2⟩
 ·refine⟨x,?_,h2⟩
  rcases List.mem_append.mp (oz h1 e)with h|h
  ·exact List.mem_append.mpr (.inl (List.mem_append.mpr (.inl h)))
  ·exact List.mem_append.mpr (.inr h)) (by have:=B.l2;rw[List.length_append,List.length_append,List.length_take,List.length_drop,List.length_singleton];omega)
def Bs.turn(B:Bs k mix L){ds js:List Nat}{L':List Cc}(hd:ds.Perm (List.range mix.length))(hj:js.Perm (List.range k))(hl:L'.length=L.length)(h1:∀c'∈L',∃c∈L,c'=gb ds js c)(h2:∀c∈L,gb ds js c∈L'):Cp k (ds.map fun d=>mix.getD d 0) L':=by
 have dl:ds.length=mix.length:=by rw[hd.length_eq,List.length_range]
 have jl:js.length=k:=by rw[hj.length_eq,List.length_range]
 have gd:∀{es:Vu} {j:Nat} {P:Int->Prop},(∀e∈es,P e)->P 0->P (es.getD j 0):=fun{es j P} h h0=>by
  rw[List.getD_eq_getElem?_getD]
  cases e:es[j]? with
  |none=>exact h0
  |some w=>exact h w (List.mem_of_getElem? e)
 have b1:=B.k1;have b2:=B.d1;have b3:=B.l1;have b4:=B.l2
 refine⟨fun c' hc'=>?_,fun e he=>?_,by omega,by rw[List.length_map];omega,by omega,by omega,fun x hx=>?_⟩
 ·obtain⟨c,hc,rfl⟩:=h1 c' hc'
  have o:=(B.ok c hc).c
  refine⟨by show(js.map _).length=k;rw[List.length_map];exact jl,fun e he=>?_,o.n0,o.n1,fun d hw=>?_⟩
  ·obtain⟨j,_,rfl⟩:=List.mem_map.mp he
   exact gd (P:=fun e=>e.natAbs<=2 ^ 30) o.eb (by decide)
  ·rw[List.length_map,dl]
   obtain⟨e,he,rfl⟩:=Option.map_eq_some_iff.mp (show c.who.map ds.idxOf=some d from hw)
   exact(uc hd (o.wd e he)).2
 ·rw[List.length_map,dl]at he
  have hm:ds.getD e 0 < mix.length:=by
   rw[List.getD_eq_getElem?_getD,List.getElem?_eq_getElem (by omega),Option.getD_some]
   exact List.mem_range.mp (hd.mem_iff.mp (List.getElem_mem _))
  obtain⟨c,hc,f⟩:=B.Ji _ hm
  refine⟨_,h2 c hc,?_,fun z hz=>?_⟩
  ·show c.who.map ds.idxOf=some e
   rw[f.1,Option.map_some,pK hd he]
  ·obtain⟨j,_,rfl⟩:=List.mem_map.mp hz
   exact gd (P:=fun e=>0<=e) f.2 (Int.le_refl _)
 ·obtain⟨d,_,rfl⟩:=List.mem_map.mp hx
  have:=gd (es:=mix) (j:=d) (P:=fun x=>0<=x/\x<=4) B.m0 (by decide)
  omega
end
structure Lw (S:av) (d l pc pm:Addr) (L:List Cc) (mix:Vu):Prop where
 D:Ei S d l
 c:S pc=some (.lst (L.map Cc.v))
 m:S pm=some (.lst (mix.map PV.int))
 nc:pc≠d/\pc≠l
 nm:pm≠d/\pm≠l
def Lw.Gc{S S':av}{d l pc pm:Addr}{L:List Cc}{mix:Vu}(h:Lw S d l pc pm L mix)(D:Ei S' d l)(O:EE d l S S'):Lw S' d l pc pm L mix:=⟨D,O _ _ h.c h.nc.1 h.nc.2,O _ _ h.m h.nm.1 h.nm.2,h.nc,h.nm⟩
def Yl(d l:Addr)(te:aT)(σ:cK)(S:av)(P:List Cc->Prop):Prop:=∀(Q:bH) (E:b9),(∀L' p S',P L'->S' p=some (.lst (L'.map Cc.v))->p≠d/\p≠l->Ei S' d l->EE d l S S'->Q (.ref p) S')->te σ S Q E
def Ym(d l:Addr)(te:aT)(σ:cK)(S:av)(mix:Vu):Prop:=∀(Q:bH) (E:b9),(∀p S',S' p=some (.lst (mix.map PV.int))->Ei S' d l->EE d l S S'->Q (.ref p) S')->te σ S Q E
def Yt(d l:Addr)(te:aT)(σ:cK)(S:av)(R:Option (Int×Int)->Prop):Prop:=∀(Q:bH) (E:b9),(∀t S',R t->Ei S' d l->EE d l S S'->Q (tv t) S')->te σ S Q E
section
variable {d l pc pm:Addr} {L:List Cc} {mix:Vu} {k:Nat} {S:av} {σ:cK} {E:b9} {xt xb:aH}
def eQ(Ex:ux xt){te te2:aT}{P:List Cc->Prop}{R:Option (Int×Int)->Prop}{EW:Vu}(h1:Yl d l te σ S P)(h2:∀S',Ei S' d l->EE d l S S'->Ym d l te2 σ S' EW)(h3:∀L',P L'->∃k',Cp k' EW L'/\∀t,Tl L' EW k' t->R t):Yt d l (ac xt [te,te2]) σ S R:=fun Q E kk=>by
 simp only[ac,ag]
 refine h1 _ _ fun L' p S1 hP e1 np D1 O1=>h2 S1 D1 O1 _ _ fun q S2 e2 D2 O2=>?_
 obtain⟨k',C,r⟩:=h3 L' hP
 exact Ex (O2 _ _ e1 np.1 np.2) e2 C fun t S3 X3 T=>kk t S3 (r t T) (D2.ext X3) (O1.trans (O2.trans X3.Gc))
def z9{i:Nat}{p:Addr}{L':List Cc}{P:List Cc->Prop}(hi:lk σ i=some (.ref p))(hp:S p=some (.lst (L'.map Cc.v)))(np:p≠d/\p≠l)(D:Ei S d l)(h:P L'):Yl d l (v3 i) σ S P:=fun Q E kk=>by
 simp only[v3,hi]
 exact kk L' p S h hp np D .refl
def xx{i:Nat}{p:Addr}{mix:Vu}(hi:lk σ i=some (.ref p))(hp:S p=some (.lst (mix.map PV.int)))(np:p≠d/\p≠l):∀S',Ei S' d l->EE d l S S'->Ym d l (v3 i) σ S' mix:=fun S' D' O' Q E kk=>by
 simp only[v3,hi]
 exact kk p S' (O' _ _ hp np.1 np.2) D' .refl
def z_{i:Nat}{t:Option (Int×Int)}{R:Option (Int×Int)->Prop}(hi:lk σ i=some (tv t))(h:R t):∀S',Ei S' d l->EE d l S S'->Yt d l (v3 i) σ S' R:=fun S' D' O' Q E kk=>by
 simp only[v3,hi]
 exact kk t S' h D' .refl
def uE(FJ:uB xt){i:Nat}{s:Int}{t:Option (Int×Int)}{R:Option (Int×Int)->Prop}(hi:lk σ i=some (tv t))(F:∀g q,t=some (g,q)->Fq q g)(s0:0<=s)(s1:s<=9)(h:R (uA s t)):∀S',Ei S' d l->EE d l S S'->Yt d l (ac xt [v3 i,c3 (.int s)]) σ S' R:=fun S' D' O' Q E kk=>by
 simp only[ac,ag,v3,c3,hi]
 exact FJ F s0 s1 (kk _ S' h D' .refl)
def BI{t u:Option (Int×Int)}{Q:bH}(e:tv t=tv u)(q:Q (.bl false) S):e9 true (tv t) (tv u) S Q:=by
 rw[e]
 match u with
 |none=>exact⟨.none,.none,.non,.non,by simp[PyData.canLay0],by simp[PyData.canLay0],by simp[PyData.depth],by simpa [PyData.eqv]using q⟩
 |some (g,q')=>exact Bn rfl q
def kJ{te te2:aT}{u:PV}{K:Bool->av->Prop}(h1:Yt d l te σ S fun t=>tv t=u)(h2:∀S',Ei S' d l->EE d l S S'->Yt d l te2 σ S' fun t=>tv t=u)(kk:∀S',Ei S' d l->EE d l S S'->K false S'):(br (af (e9 true) te te2)) σ S K E:=by
 simp only[br,af]
 refine h1 _ _ fun t S1 e1 D1 O1=>h2 S1 D1 O1 _ _ fun u' S2 e2 D2 O2=>BI (e1.trans e2.symm) ?_
 exact kk S2 D2 (O1.trans O2)
def mN(Hf:lI xt){te te2:aT}{R R2:Option (Int×Int)->Prop}{K:Bool->av->Prop}(h1:Yt d l te σ S R)(h2:∀S',Ei S' d l->EE d l S S'->Yt d l te2 σ S' R2)(h:∀t u,R t->R2 u->(u=none\/∃g q g' q',t=some (g,q)/\u=some (g',q')/\Fq q g/\Fq q' g'/\g * q'<=g' * q))(kk:∀S',Ei S' d l->EE d l S S'->K false S'):(l6 (br (ac xt [te,te2]))) σ S K E:=by
 simp only[l6,br,ac,ag]
 refine h1 _ _ fun t S1 e1 D1 O1=>h2 S1 D1 O1 _ _ fun u' S2 e2 D2 O2=>Hf (h t u' e1 e2) ?_
 exact kk S2 D2 (O1.trans O2)
def zH{a:Nat}{c:Cc}(h:L[a]?=some c):dB (L.map Cc.v) (some (a:Int)) (some ((a:Int)+1))=[c.v]:=by
 have hl:=(List.getElem?_eq_some_iff.mp h).1
 unfold dB
 rw[show((a:Int)+1)=((a+1:Nat):Int)from rfl,HT.gQ,HT.gQ,List.length_map,Nat.min_eq_left (by omega),Nat.min_eq_left (by omega),<-List.map_drop,<-List.map_take]
 have:(L.drop a).take 1=[c]:=by
  have e:=List.drop_eq_getElem_cons hl
  rw[e,List.take_succ_cons,List.take_zero]
  rw[List.getElem?_eq_getElem hl]at h
  cases h;rfl
 rw[show a+1 - a=1 by omega,this];rfl
def BJ(H:Lw S d l pc pm L mix){i j a:Nat}{c:Cc}(hi:lk σ i=some (.ref pc))(hj:lk σ j=some (.int (a:Int)))(hc:L[a]?=some c)(ll:L.length<=100):Yl d l (af aL (v3 i) (aU (v3 i) (fY (v3 j)) (fY (af aL (v3 j) (c3 (.int 1)))))) σ S fun L'=>L'=L++[c]:=fun Q E kk=>by
 simp only[af,aU,fY,v3,c3,hi,hj,aL,fm,H.c]
 rw[zH hc]
 intro p1 hp1
 have f1:(Ee S p1 (.lst [c.v])) pc=some (.lst (L.map Cc.v)):=by rw[al (fun h=>by rw[<-h,H.c]at hp1;cases hp1)];exact H.c
 have g1:(Ee S p1 (.lst [c.v])) p1=some (.lst [c.v]):=aa
 have D1:=H.D.new (o:=.lst [c.v]) hp1
 have O1:EE d l S (Ee S p1 (.lst [c.v])):=.new hp1
 generalize Ee S p1 (.lst [c.v])=S1 at f1 g1 D1 O1
 simp only[f1,g1]
 refine⟨aP (by simp;omega),fun p2 hp2=>?_⟩
 exact kk _ p2 _ rfl (by rw[aa,List.map_append];rfl) (D1.free hp2) (D1.new hp2) (O1.trans (.new hp2))
def wx(FB:ow xb)(H:Lw S d l pc pm L mix)(B:Bs k mix L){i j a m:Nat}{c:Cc}(hm:lk σ m=some (.ref d))(hi:lk σ i=some (.ref pc))(hj:lk σ j=some (.int (a:Int)))(hc:L[a]?=some c):Yl d l (af aL (v3 i) (bV [(ac xb [(v3 m),(af ak (v3 i) (v3 j))])])) σ S fun L'=>∃c',L'=L++[c']/\Cb k mix.length c'/\c'.who=c.who/\c'.n<=c.n/\oj c'.eff c.eff:=fun Q E kk=>by
 have ll:=B.l2
 simp only[af,bV,ac,ag,v3,hm,hi,hj,ak,H.c,pT hc]
 refine FB H.D (B.ok c (List.mem_of_getElem? hc)) B.k1 fun c' S1 h1 h2 h3 h4 D1 O1=>?_
 intro p1 hp1
 have f0:=O1 _ _ H.c H.nc.1 H.nc.2
 have f1:(Ee S1 p1 (.lst [c'.v])) pc=some (.lst (L.map Cc.v)):=by rw[al (fun h=>by rw[<-h,f0]at hp1;cases hp1)];exact f0
 have g1:(Ee S1 p1 (.lst [c'.v])) p1=some (.lst [c'.v]):=aa
 have D2:=D1.new (o:=.lst [c'.v]) hp1
 have O2:EE d l S (Ee S1 p1 (.lst [c'.v])):=O1.trans (.new hp1)
 generalize Ee S1 p1 (.lst [c'.v])=S2 at f1 g1 D2 O2
 simp only[aL,f1,g1]
 refine⟨aP (by simp;omega),fun p2 hp2=>?_⟩
 exact kk _ p2 _ ⟨c',rfl,h1,h2,h3,h4⟩ (by rw[aa,List.map_append];rfl) (D2.free hp2) (D2.new hp2) (O2.trans (.new hp2))
def zI(H:Lw S d l pc pm L mix){i:Nat}(hi:lk σ i=some (.ref pm))(hl:mix.length<=100)(hb:∀x∈mix,0<=x/\x<=4):∀S',Ei S' d l->EE d l S S'->Ym d l (ar (aF (v3 i)) (.n 0) a8 (af aO (c3 (.int 2)) (v3 0)) 1 []) σ S' (mix.map (2 * ·)):=fun S' D' O' Q E kk=>by
 have hm:=O' _ _ H.m H.nm.1 H.nm.2
 simp only[ar,aF,v3,hi,bE,hm]
 refine aW PV.int (fun e=>.int (2 * e)) hm mix [] (fun i hi=>⟨_,rfl,fun Q' q=>?_⟩) (aP (by simp;omega)) ?_
 ·simp only[bQ,List.reduceReplicate,List.map_nil,List.append_nil,List.set_cons_zero,af,c3,v3,lk,aO]
  exact⟨k_ (by decide) (by decide),q⟩
 intro p hp
 exact kk p _ (by rw[aa,List.map_map];rfl) (D'.new hp) (.new hp)
def BK(H:Lw S d l pc pm L mix){i j a:Nat}(hi:lk σ i=some (.ref pc))(hj:lk σ j=some (.int (a:Int)))(ha:a < L.length)(ll:L.length<=100):Yl d l (af aL (aU (v3 i) jU (fY (v3 j))) (aU (v3 i) (fY (af aL (v3 j) (c3 (.int 1)))) jU)) σ S fun L'=>L'=L.take a++L.drop (a+1):=fun Q E kk=>by
 simp only[af,aU,fY,jU,v3,c3,hi,hj,fm,H.c]
 rw[ld (by rw[List.length_map];omega),<-List.map_take]
 intro p1 hp1
 have f1:(Ee S p1 (.lst ((L.take a).map Cc.v))) pc=some (.lst (L.map Cc.v)):=by rw[al (fun h=>by rw[<-h,H.c]at hp1;cases hp1)];exact H.c
 have g1:(Ee S p1 (.lst ((L.take a).map Cc.v))) p1=some (.lst ((L.take a).map Cc.v)):=aa
 have D1:=H.D.new (o:=.lst ((L.take a).map Cc.v)) hp1
 have O1:EE d l S (Ee S p1 (.lst ((L.take a).map Cc.v))):=.new hp1
 generalize Ee S p1 (.lst ((L.take a).map Cc.v))=S1 at f1 g1 D1 O1
 simp only[aL,fm,f1]
 rw[show((a:Int)+1)=((a+1:Nat):Int)from rfl,lg (by rw[List.length_map];omega),<-List.map_drop]
 intro p2 hp2
 have g2:(Ee S1 p2 (.lst ((L.drop (a+1)).map Cc.v))) p1=some (.lst ((L.take a).map Cc.v)):=by rw[al (fun h=>by rw[h,hp2]at g1;cases g1)];exact g1
 have h2:(Ee S1 p2 (.lst ((L.drop (a+1)).map Cc.v))) p2=some (.lst ((L.drop (a+1)).map Cc.v)):=aa
 have D2:=D1.new (o:=.lst ((L.drop (a+1)).map Cc.v)) hp2
 have O2:EE d l S (Ee S1 p2 (.lst ((L.drop (a+1)).map Cc.v))):=O1.trans (.new hp2)
 generalize Ee S1 p2 (.lst ((L.drop (a+1)).map Cc.v))=S2 at g2 h2 D2 O2
 simp only[g2,h2]
 refine⟨aP (by simp;omega),fun p3 hp3=>?_⟩
 exact kk _ p3 _ rfl (by rw[aa,List.map_append]) (D2.free hp3) (D2.new hp3) (O2.trans (.new hp3))
def wy(FC:ox xb)(H:Lw S d l pc pm L mix)(B:Bs k mix L){i j a m:Nat}{c:Cc}(hm:lk σ m=some (.ref d))(hi:lk σ i=some (.ref pc))(hj:lk σ j=some (.int (a:Int)))(hc:L[a]?=some c):Yl d l (af aL (af aL (aU (v3 i) jU (fY (v3 j))) (bV [(ac xb [(v3 m),(af ak (v3 i) (v3 j))])])) (aU (v3 i) (fY (af aL (v3 j) (c3 (.int 1)))) jU)) σ S fun L'=>∃c',L'=L.take a++[c']++L.drop (a+1)/\Cb k mix.length c'/\c.who=c'.who/\c.n<=c'.n/\oj c.eff c'.eff:=fun Q E kk=>by
 have ll:=B.l2
 have ha:=(List.getElem?_eq_some_iff.mp hc).1
 simp only[af,aU,fY,jU,v3,c3,hi,hj,fm,H.c]
 rw[ld (by rw[List.length_map];omega),<-List.map_take]
 intro p1 hp1
 have H1:Lw (Ee S p1 (.lst ((L.take a).map Cc.v))) d l pc pm L mix:=H.Gc (H.D.new hp1) (.new hp1)
 have g1:(Ee S p1 (.lst ((L.take a).map Cc.v))) p1=some (.lst ((L.take a).map Cc.v)):=aa
 have O1:EE d l S (Ee S p1 (.lst ((L.take a).map Cc.v))):=.new hp1
 have n1:=H.D.free hp1
 generalize Ee S p1 (.lst ((L.take a).map Cc.v))=S1 at H1 g1 O1
 simp only[bV,ac,ag,af,v3,hm,hi,hj,ak,H1.c,pT hc]
 refine FC H1.D (B.ok c (List.mem_of_getElem? hc)) B.k1 fun c' S2 h1 h2 h3 h4 D2 O2=>?_
 intro p2 hp2
 have g2:=O2 _ _ g1 n1.1 n1.2
 have H2:=H1.Gc D2 O2
 have g3:(Ee S2 p2 (.lst [c'.v])) p1=some (.lst ((L.take a).map Cc.v)):=by rw[al (fun h=>by rw[h,hp2]at g2;cases g2)];exact g2
 have f3:(Ee S2 p2 (.lst [c'.v])) p2=some (.lst [c'.v]):=aa
 have H3:Lw (Ee S2 p2 (.lst [c'.v])) d l pc pm L mix:=H2.Gc (D2.new hp2) (.new hp2)
 have O3:EE d l S (Ee S2 p2 (.lst [c'.v])):=O1.trans (O2.trans (.new hp2))
 generalize Ee S2 p2 (.lst [c'.v])=S3 at g3 f3 H3 O3
 simp only[aL,g3,f3]
 refine⟨aP (by simp;omega),fun p3 hp3=>?_⟩
 rw[show(L.take a).map Cc.v++[c'.v]=(L.take a++[c']).map Cc.v by rw[List.map_append];rfl]
 have H4:Lw (Ee S3 p3 (.lst ((L.take a++[c']).map Cc.v))) d l pc pm L mix:=H3.Gc (H3.D.new hp3) (.new hp3)
 have g4:(Ee S3 p3 (.lst ((L.take a++[c']).map Cc.v))) p3=some (.lst ((L.take a++[c']).map Cc.v)):=aa
 have O4:EE d l S (Ee S3 p3 (.lst ((L.take a++[c']).map Cc.v))):=O3.trans (.new hp3)
 generalize Ee S3 p3 (.lst ((L.take a++[c']).map Cc.v))=S4 at H4 g4 O4
 simp only[fm,H4.c]
 rw[show((a:Int)+1)=((a+1:Nat):Int)from rfl,lg (by rw[List.length_map];omega),<-List.map_drop]
 intro p4 Ia
 have g5:(Ee S4 p4 (.lst ((L.drop (a+1)).map Cc.v))) p3=some (.lst ((L.take a++[c']).map Cc.v)):=by rw[al (fun h=>by rw[h,Ia]at g4;cases g4)];exact g4
 have h5:(Ee S4 p4 (.lst ((L.drop (a+1)).map Cc.v))) p4=some (.lst ((L.drop (a+1)).map Cc.v)):=aa
 have D5:=H4.D.new (o:=.lst ((L.drop (a+1)).map Cc.v)) Ia
 have O5:EE d l S (Ee S4 p4 (.lst ((L.drop (a+1)).map Cc.v))):=O4.trans (.new Ia)
 generalize Ee S4 p4 (.lst ((L.drop (a+1)).map Cc.v))=S5 at g5 h5 D5 O5
 simp only[g5,h5]
 refine⟨aP (by simp;omega),fun p5 Ib=>?_⟩
 exact kk _ p5 _ ⟨c',rfl,h1,h2,h3,h4⟩ (by rw[aa,List.map_append (l₂:=L.drop (a+1))]) (D5.free Ib) (D5.new Ib) (O5.trans (.new Ib))
end
def wz(i:Nat)(te:aT)(F:jv)(σ:cK)(S:av):aq i te F σ S=te σ S (fun v S1=>F.nx (σ.set i (some v)) S1) F.ex:=rfl
section
variable {d l pc pm:Addr} {L:List Cc} {mix:Vu} {k:Nat} {S:av} {σ:cK} {E:b9} {xl:aH}
def uF(Fj:eI xl)(H:Lw S d l pc pm L mix){i:Nat}(hi:lk σ i=some (.ref pc))(ll:L.length<=100):Yl d l (ar (aF (v3 i)) (.tp (.cons (.n 0) (.cons (.n 1) (.cons (.n 2) .nil)))) a8 (aV [(v3 0),(ac xl [(af aO (c3 (.int 3)) (af ak (v3 1) (c3 (.int 0)))),(af ak (v3 1) (c3 (.int 1)))]),(v3 2)]) 3 []) σ S fun L'=>L'=L.map (Cc.cost 3):=fun Q E kk=>by
 simp only[ar,aF,v3,hi,bE,H.c]
 refine aW Cc.v (fun c=>(c.cost 3).v) H.c L [] (fun c hc=>⟨[some (jF c.who),some (cq 2520 c.n),some (.tup (c.eff.map PV.int))],rfl,fun Q' q=>?_⟩) (aP (by simp;omega)) ?_
 ·have w:=M3.aY (t:=c.n) (b:=2520) (by decide)
  have lb:=(M3.cj (t:=c.n) (b:=2520) (by decide)).pos
  have lz:=M3.gS (t:=c.n) (b:=2520) (T:=c.n.natAbs) (B:=2520) (by decide) (by omega) (by omega) (by omega) (by omega) (by omega) (by omega)
  have e0:cq 2520 c.n = .tup [.int (M3.aK c.n 2520),.int (M3.aB c.n 2520)]:=rfl
  simp only[aV,ac,ag,af,v3,lk,c3,e0,ak,lM,nI]
  simp only[aO]
  refine⟨k_ (by decide) (by decide),Fj lb (kz (by omega)) ?_⟩
  rw[show PV.tup [.int (M3.aK (3 * M3.aK c.n 2520) (M3.aB c.n 2520)),.int (M3.aB (3 * M3.aK c.n 2520) (M3.aB c.n 2520))]=cq 2520 (3 * c.n)from eZ lb (by decide) (by rw[Int.mul_assoc,w];grind)]
  exact q
 intro p hp
 exact kk _ p _ rfl (by rw[aa,List.map_map];rfl) (H.D.free hp) (H.D.new hp) (.new hp)
def zJ(H:Lw S d l pc pm L mix)(B:Bs k mix L){i:Nat}(hi:lk σ i=some (.ref pc)):Yl d l (ar (aF (v3 i)) (.tp (.cons (.n 0) (.cons (.n 1) (.cons (.n 2) .nil)))) a8 (aV [(v3 0),(v3 1),(aj aD [(ar (aF (v3 2)) (.n 0) a8 (af aO (c3 (.int 2)) (v3 0)) 1 [])])]) 3 []) σ S fun L'=>L'=L.map (Cc.wide 2):=fun Q E kk=>by
 have ll:=B.l2;have k1:=B.k1
 simp only[ar,aF,v3,hi,bE,H.c]
 refine bG (fun done ys S'=>ys=((L.take done.length).map (Cc.wide 2)).map Cc.v/\done.length<=L.length/\Ext S S') ⟨rfl,Nat.zero_le _,.refl⟩ ?_ ?_ ?_
 ·rintro done ys S' ⟨rfl,h,X⟩
  exact⟨X _ _ H.c,aP (by simp;omega)⟩
 ·rintro done x rest ys S' K e ⟨rfl,h,X⟩ hK
  have hget:(L.map Cc.v)[done.length]?=some x:=by rw[e];simp
  rw[List.getElem?_map]at hget
  obtain⟨c,hc,rfl⟩:=Option.map_eq_some_iff.mp hget
  have hlt:=(List.getElem?_eq_some_iff.mp hc).1
  have o:=B.ok c (List.mem_of_getElem? hc)
  have ol:=o.el
  have step:∀(τ:cK),τ=[some (jF c.who),some (cq 2520 c.n),some (.tup (c.eff.map PV.int))]->(aV [(v3 0),(v3 1),(aj aD [(ar (aF (v3 2)) (.n 0) a8 (af aO (c3 (.int 2)) (v3 0)) 1 [])])]) τ S' (fun y S4=>K (((L.take done.length).map (Cc.wide 2)).map Cc.v++[y]) S4) fZ:=by
   rintro τ rfl
   simp only[aV,ag,aj,ar,aF,v3,lk,bE]
   refine aW PV.int (fun e=>.int (2 * e)) trivial c.eff [] (fun i hi=>⟨_,rfl,fun Q' q=>?_⟩) (aP (by simp;omega)) ?_
   ·simp only[bQ,List.reduceReplicate,List.map_nil,List.append_nil,List.set_cons_zero,af,c3,v3,lk,aO]
    exact⟨k_ (by decide) (by decide),q⟩
   intro p hp
   simp only[List.nil_append,aD,e_,aa]
   refine hK _ _ ⟨?_,by rw[List.length_append,List.length_singleton];exact hlt,X.trans (.new hp)⟩
   rw[List.length_append,List.length_singleton,List.take_succ,hc,List.map_append,List.map_append]
   simp only[Option.toList,List.map_cons,List.map_nil,Cc.v,Cc.wide,List.map_map]
   rfl
  exact step _ rfl
 ·rintro ys S' ⟨rfl,h,X⟩ p hp
  have D':=H.D.ext X
  refine kk _ p _ rfl ?_ (D'.free hp) (D'.new hp) (X.Gc.trans (.new hp))
  rw[aa,List.length_map,List.take_length]
end
def BL{L:List Cc}{mix:Vu}{k:Nat}{t:Option (Int×Int)}(T:Tl L mix k t):∀g q,t=some (g,q)->Fq q g:=by
 rintro g q rfl
 exact T.1
def pU{L L':List Cc}{mix EW:Vu}{k k':Nat}{t t':Option (Int×Int)}{s:Int}(s0:0 < s)(a:Tl L mix k t)(b:Tl L' EW k' t')(tr:Tr L mix k L' EW k' 1 s)(Jh:Tr L' EW k' L mix k s 1):tv t'=tv (uA s t):=by
 rcases Tl.same a b s0 tr Jh with⟨rfl,rfl⟩|⟨g,Q,g',Q',rfl,rfl,e⟩
 ·rfl
 ·exact e
def xy{L L':List Cc}{mix EW:Vu}{k k':Nat}{t t':Option (Int×Int)}(a:Tl L mix k t)(b:Tl L' EW k' t')(tr:Tr L mix k L' EW k' 1 1):t=none\/∃g q g' q',t'=some (g,q)/\t=some (g',q')/\Fq q g/\Fq q' g'/\g * q'<=g' * q:=by
 rcases Tl.le a b (by decide) tr with h|⟨g,Q,g',Q',rfl,rfl,h⟩
 ·exact .inl h
 ·exact .inr ⟨g',Q',g,Q,rfl,rfl,b.1,a.1,by rw[Int.one_mul,Int.one_mul]at h;exact h⟩
abbrev wA(w:aH):Prop:=∀{ns:Vu} {S:av} {Q:bH} {E:b9},ns.length<=63->(∀S',Q (.bl true) S')->w [.cl (ns.map PV.int)] S Q E
def zK{x0 x1 x2 x3 x4 x5 x6 x7 x8 x9:aH}(Gy:mj x0)(GM:uw x1)(Ex:ux x2)(Eg:cf x3)(Gj:oy x4)(FB:ow x5)(Fj:eI x6)(FJ:uB x7)(Hf:lI x8)(FC:ox x9):wA (bf 13 (ut x0 x1 x2 x3 x4 x5 x6 x7 x8 x9)):=by
 intro ns S Q E hl kk
 unfold ut
 refine fb ?_
 rw[show ax 13 [PV.cl (ns.map PV.int)]=[some (.cl (ns.map PV.int)),none,none,none,none,none,none,none,none,none,none,none,none] from rfl]
 refine az fun N hN=>?_
 simp only[aq,ac,ag,v3,lk,c3]
 refine Gy hl (by decide) (by decide) fun d l S1 _ _ D1 _=>?_
 simp only[List.set_cons_succ,List.set_cons_zero]
 generalize some (PV.cl (ns.map PV.int))=sc
 refine hN _ _ (az fun N hN=>?_)
 rw[show ∀(ti:qB) (g:Tg) (tb:bO) (D:jv) (σ:cK) (S:av),cO ti g tb D σ S=ti σ S (fun src S1=>kZ g tb D src.keep src.items σ S1) D.ex from fun _ _ _ _ _ _=>rfl]
 simp only[cC,c3]
 refine⟨by decide,by decide,?_⟩
 refine cu (fun done σ S'=>∃y2 y3 y4 y5 y6 y7 y8 y9 KY KZ K0:Option PV,σ=[sc,some (.ref d),y2,y3,y4,y5,y6,y7,y8,y9,KY,KZ,K0]/\Ei S' d l) ⟨_,_,_,_,_,_,_,_,_,_,_,rfl,D1⟩ (fun _ _ _ _=>trivial) ?_ ?_
 ·rintro done x rest σ S2 K e ⟨y2,y3,y4,y5,y6,y7,y8,y9,KY,KZ,K0,rfl,D2⟩ hK
  simp only[Tg.put,List.set_cons_succ,List.set_cons_zero]
  generalize some x=y2
  refine az fun N2 Fb=>?_
  simp only[gY,ac,ag,v3,lk]
  refine GM D2 fun k mix L pc pm S3 B hc hm nc nm D3=>?_
  have H3:Lw S3 d l pc pm L mix:=⟨D3,hc,hm,nc,nm⟩
  have ll:=B.l2;have l1:=B.l1;have d0:=B.d0;have d1:=B.d1
  simp only[Tg.put,Tg.EQ,List.set_cons_succ,List.set_cons_zero]
  refine Fb _ _ (az fun N2 Fb=>?_)
  rw[wz]
  refine eQ Ex (P:=(·=L)) (R:=Tl L mix k) (z9 rfl H3.c H3.nc H3.D rfl) (xx rfl H3.m H3.nm) (fun L' e=>⟨k,e▸B.cp,fun t T=>e▸T⟩) _ _ fun t S4 T D4 O4=>?_
  have H4:=H3.Gc D4 O4
  simp only[List.set_cons_succ,List.set_cons_zero]
  refine Fb _ _ (az fun N2 Fb=>?_)
  simp only[aq,ac,aj,ag,v3,lk,bg,H4.c,List.length_map]
  refine Eg H4.D (by omega) (by omega) fun a' S5 a0 a1 D5 O5=>?_
  obtain⟨a,rfl⟩:∃a:Nat,a'=(a:Int):=⟨a'.toNat,by omega⟩
  have H5:=H4.Gc D5 O5
  have ha:a < L.length:=by omega
  have gc:=List.getElem?_eq_getElem ha
  generalize L[a]=c at gc
  have cm:=List.mem_of_getElem? gc
  simp only[List.set_cons_succ,List.set_cons_zero]
  refine Fb _ _ (az fun N2 Fb=>?_)
  simp only[gY,ac,ag,v3,lk]
  refine Gj H5.D B H5.c H5.m H5.nc H5.nm fun ds js L2 pf pg S6 hds I9 hl2 h1 h2 ff fg nf ng D6 O6=>?_
  have H6:=H5.Gc D6 O6
  simp only[Tg.put,Tg.EQ,List.set_cons_succ,List.set_cons_zero]
  refine Fb _ _ (az fun N2 Fb=>?_)
  simp only[cN,sE,bd]
  have LU:∀c∈L,j2 k mix.length c:=fun c hc=>(B.ok c hc).c
  refine kJ (u:=tv t) (eQ Ex (P:=(·=L2)) (z9 rfl ff nf H6.D rfl) (xx rfl fg ng) fun L' e=>⟨k,e▸B.turn hds I9 hl2 h1 h2,fun t' T'=>?_⟩) (z_ rfl rfl) fun S7 D7 O7=>?_
  ·subst e
   exact Tl.eq T T' (wq LU hds I9 h1) (uf LU hds I9 h2)
  have H7:=H6.Gc D7 O7
  simp only[Bool.false_eq_true,if_false]
  refine kJ (u:=tv t) (eQ Ex (BJ H7 rfl rfl gc (by omega)) (xx rfl H7.m H7.nm) fun L' e=>⟨k,e▸B.add (B.ok c cm).c,fun t' T'=>?_⟩) (z_ rfl rfl) fun S8 D8 O8=>?_
  ·subst e
   exact Tl.eq T T' (lB fun x hx=>by
    rcases List.mem_append.mp hx with hx|hx
    ·exact hx
    ·rw[List.mem_singleton.mp hx];exact cm) (lB fun x hx=>List.mem_append.mpr (.inl hx))
  have H8:=H7.Gc D8 O8
  simp only[Bool.false_eq_true,if_false]
  refine Fb _ _ (az fun N2 Fb=>?_)
  simp only[cN,bd]
  refine kJ (u:=tv t) (eQ Ex (wx FB H8 B rfl rfl rfl gc) (xx rfl H8.m H8.nm) fun L' ⟨c',e,g1,g2,g3,g4⟩=>⟨k,e▸B.add g1.c,fun t' T'=>?_⟩) (z_ rfl rfl) fun S9 D9 O9=>?_
  ·subst e
   exact Tl.eq T T' (om fun x hx=>by
    rcases List.mem_append.mp hx with hx|hx
    ·exact⟨x,hx,rfl,Int.le_refl _,fH _⟩
    ·rw[List.mem_singleton.mp hx];exact⟨c,cm,g2,g3,g4⟩) (lB fun x hx=>List.mem_append.mpr (.inl hx))
  have H9:=H8.Gc D9 O9
  simp only[Bool.false_eq_true,if_false]
  refine Fb _ _ (az fun N2 Fb=>?_)
  rw[wz]
  refine uF Fj H9 rfl (by omega) _ _ fun L3 p3 SA e3 f3 n3 DA OA=>?_
  subst e3
  have HA:=H9.Gc DA OA
  simp only[List.set_cons_succ,List.set_cons_zero]
  refine Fb _ _ (az fun N2 Fb=>?_)
  simp only[cN,bd]
  refine kJ (u:=tv (uA 3 t)) (eQ Ex (P:=(·=L.map (Cc.cost 3))) (z9 rfl f3 n3 HA.D rfl) (xx rfl HA.m HA.nm) fun L' e=>⟨k,e▸B.cost,fun t' T'=>?_⟩) (uE FJ rfl (BL T) (by decide) (by decide) rfl) fun SB DB OB=>?_
  ·subst e
   exact pU (by decide) T T' (wm (by decide)) (t_ (by decide))
  have HB:=HA.Gc DB OB
  simp only[Bool.false_eq_true,if_false]
  refine Fb _ _ (az fun N2 Fb=>?_)
  simp only[cN,bd]
  refine kJ (u:=tv (uA 2 t)) (eQ Ex (P:=(·=L)) (z9 rfl HB.c HB.nc HB.D rfl) (zI HB rfl (by omega) B.m0) fun L' e=>⟨k,e▸B.twice,fun t' T'=>?_⟩) (uE FJ rfl (BL T) (by decide) (by decide) rfl) fun SC DC OC=>?_
  ·subst e
   exact pU (by decide) T T' zA wo
  have HC:=HB.Gc DC OC
  simp only[Bool.false_eq_true,if_false]
  refine Fb _ _ (az fun N2 Fb=>?_)
  rw[wz]
  refine zJ HC B rfl _ _ fun L4 p4 SD e4 f4 n4 DD OD=>?_
  subst e4
  have HD:=HC.Gc DD OD
  simp only[List.set_cons_succ,List.set_cons_zero]
  refine Fb _ _ (az fun N2 Fb=>?_)
  simp only[cN,bd]
  refine kJ (u:=tv t) (eQ Ex (P:=(·=L.map (Cc.wide 2))) (z9 rfl f4 n4 HD.D rfl) (xx rfl HD.m HD.nm) fun L' e=>⟨k,e▸B.wide,fun t' T'=>?_⟩) (z_ rfl rfl) fun SF DF OF=>?_
  ·subst e
   exact Tl.eq T T' (wn (by decide)) (ua (by decide))
  have HF:=HD.Gc DF OF
  simp only[Bool.false_eq_true,if_false]
  refine Fb _ _ (az fun N2 Fb=>?_)
  simp only[aq,af,ac,aj,ag,v3,lk,bg,HF.c,HF.m,List.length_map,b_,bN]
  refine Eg HF.D (by omega) (by omega) fun o' SG o0 o1 DG OG=>?_
  obtain⟨o,eo⟩:∃o:Nat,(mix.length:Int)+o'=(o:Int):=⟨((mix.length:Int)+o').toNat,by omega⟩
  have HG:=HF.Gc DG OG
  simp only[aL,eo,List.set_cons_succ,List.set_cons_zero]
  refine Fb _ _ (az fun N2 Fb=>?_)
  simp only[cN,bd]
  refine mN Hf (R:=fun t'=>∃L',L'=L.take o++L.drop (o+1)/\Tl L' mix k t') (R2:=(·=t)) (eQ Ex (BK HG rfl rfl (by omega) (by omega)) (xx rfl HG.m HG.nm) fun L' e=>⟨k,e▸B.out (by omega),fun t' T'=>⟨L',e,T'⟩⟩) (z_ rfl rfl) (fun t1 u1 ⟨L',e,T'⟩ eu=>by
   subst e;subst eu
   exact xy T T' (lB fun x hx=>uC hx)) fun SH DH OH=>?_
  have HH:=HG.Gc DH OH
  simp only[Bool.false_eq_true,if_false]
  refine Fb _ _ (az fun N2 Fb=>?_)
  rw[wz]
  refine wy FC HH B rfl rfl rfl gc _ _ fun L5 p5 SI ⟨c',e5,g1,g2,g3,g4⟩ f5 n5 DI OI=>?_
  have HI:=HH.Gc DI OI
  simp only[List.set_cons_succ,List.set_cons_zero]
  refine Fb _ _ ?_
  simp only[cN,bd]
  refine mN Hf (R:=(·=t)) (R2:=Tl L5 mix k) (z_ (t:=t) (R:=(·=t)) (S:=SI) rfl rfl SI HI.D .refl) (fun S' D' O'=>eQ Ex (P:=(·=L5)) (z9 rfl (O' _ _ f5 n5.1 n5.2) n5 D' rfl) (xx rfl (O' _ _ HI.m HI.nm.1 HI.nm.2) HI.nm) fun L' e=>⟨k,by subst e;subst e5;exact B.above gc g1.c g2 g4,fun t' T'=>e▸T'⟩) (fun t1 u1 e1 T'=>by
   subst e1
   exact xy T' T (om fun x hx=>by
    subst e5
    obtain⟨i,hi,rfl⟩:=List.getElem_of_mem hx
    have gi:=List.getElem?_eq_getElem hi
    by_cases e:i=a
    ·subst e
     rw[gc]at gi;cases gi
     exact⟨c',by simp,g2,g3,g4⟩
    ·refine⟨L[i],?_,rfl,Int.le_refl _,fH _⟩
     rcases List.mem_append.mp (oz gi e)with h|h
     ·exact List.mem_append.mpr (.inl (List.mem_append.mpr (.inl h)))
     ·exact List.mem_append.mpr (.inr h))) fun SJ DJ OJ=>?_
  simp only[Bool.false_eq_true,if_false]
  exact hK _ _ ⟨_,_,_,_,_,_,_,_,_,_,_,rfl,DJ⟩
 ·rintro σ S2 ⟨y2,y3,y4,y5,y6,y7,y8,y9,KY,KZ,K0,rfl,D2⟩
  refine hN _ _ ?_
  simp only[aw,c3]
  exact kk S2
def fL:cf a7:=Eg
def pV:eI cz:=Fj
def zL:zo cz:=vY pV
def wB:mo fI:=qP zL
def mO:ji ie:=nO
def lJ:i4 cR:=tq mO
def uG:o_ lD:=tu lJ
def BM:lm cv:=GQ mO
def uH:hW cI:=FS GD
def uI:h_ bM:=FT lJ
def BN:iO eM:=tW BM GB GC GH uH Gf
def wC:iP gL:=Gg (tF tx) uG (qR (vZ uG) (qO lJ))
def wD:iQ iR:=Gh BN GE (GG GF) (G4 uI) uH (GI BM lJ wC uI)
def uJ:pO dJ:=uv (vQ fL pV)
def zM:uw dz:=GM fL uJ (G7 fL uJ (G6 fL))
def wE:oy cU:=Gj (FA fL)
def uK:∀ns:List Int,ns.length<=63->mL [.cl (ns.map PV.int)] (fun _=>none) (fun v _=>v = .bl true) fZ:=fun ns h=>zK Gy zM (Ex wD) fL wE (FB fL) pV (FJ pV) re (FC fL wB) h fun _=>rfl
end G37
namespace L3
open PySem L2 Xc
def zN{P:List Value->Prop}(h:∀a,P [a])(us:Vv)(hl:us.length=1):P us:=match us,hl with|[_],_=>h _
def lK{P:List Value->Prop}(h:∀a b,P [a,b])(us:Vv)(hl:us.length=2):P us:=match us,hl with|[_,_],_=>h _ _
def wF{P:List Value->Prop}(h:∀a b c,P [a,b,c])(us:Vv)(hl:us.length=3):P us:=match us,hl with|[_,_,_],_=>h _ _ _
def BO{P:List Value->Prop}(h:∀a b c d,P [a,b,c,d])(us:Vv)(hl:us.length=4):P us:=match us,hl with|[_,_,_,_],_=>h _ _ _ _
section
variable {K:Vo} {h:Heap} {mg:Vr} {x c m q:Str} {st:Stmt} {ps fl:Vs}
noncomputable def rg:Option (Option Value)->Bool
 |some none=>true
 |_=>false
def pW{o:Option (Option Value)}(h:rg o=true):o=some none:=by
 unfold rg at h;split at h
 ·rfl
 ·cases h
def FnAt(K:Vo)(f:Addr)(m q:Str)(st:Stmt):Prop:=∃(oc kV doc pm cdv ct:Value) (od an:Option Addr) (osl:Array (Option Value)),
 K.lookup f=some ⟨oc,od,.func (PySem.W.fnOf m q (di st) (bI st) (aN st) .none kV doc pm an cdv ct),osl⟩/\PySem.W.codeIn K cdv q=true/\PySem.W.keepIn K (.ref f)=true
abbrev pX(m q:Str)(st:Stmt)(ps:Vs):Prop:=∀(kV doc pm:Value) (an:Option Addr) (cdv ct:Value) (us:Vv),us.length=ps.length->bindArgs (PySem.W.fnOf m q (di st) (bI st) (aN st) .none kV doc pm an cdv ct) ⟨us,[]⟩=pure (ps.zip us)
def FnAt.mk{f:Addr}(a:FnAt K f m q st)(hb:pX m q st ps):∃fd,HV K m q st f fd/\Binds K fd ps []/\PySem.W.keepIn K (.ref f)=true:=by
 obtain⟨oc,kV,doc,pm,cdv,ct,od,an,osl,l,cc,k⟩:=a
 exact⟨_,kT l cc k,(kT l cc k).binds hb,k⟩
def Fm(K:Vo)(x:Str)(st:Stmt):Prop:=∃f,PySem.W.nsIn K mainGlobals x=some (some (.ref f))/\FnAt K f x x st
def Fm.own(X:K.In h)(G:h.Ns mainGlobals mg)(a:Fm K x st)(hb:pX x x st ps):bS K mg x st ps:=by
 obtain⟨f,n,a⟩:=a
 obtain⟨fd,F,b,k⟩:=a.mk hb
 exact⟨f,fd,F,b,k,PySem.W.mg_of X G n⟩
def Fm.law{fa:Addr}(X:K.In h)(G:h.Ns mainGlobals mg)(a:Fm K x st)(hfa:mg x=some (.ref fa))(hb:pX x x st ps):∃kV doc pm an cdv ct,B8 K mg x st ps fa (PySem.W.fnOf x x (di st) (bI st) (aN st) .none kV doc pm an cdv ct):=by
 obtain⟨f,n,oc,kV,doc,pm,cdv,ct,od,an,osl,l,cc,k⟩:=a
 cases hfa.symm.trans (PySem.W.mg_of X G n)
 exact⟨kV,doc,pm,an,cdv,ct,kT l cc k,(kT l cc k).binds hb,k,hfa⟩
def J9(K:Vo)(c:Str)(fl:Vs):Prop:=∃C,PySem.W.nsIn K mainGlobals c=some (some (.ref C))/\PySem.W.findIn K (.ref C) "__setattr__" = some (some (.builtin "object.__setattr__"))/\PySem.W.keepIn K (.ref C)=true/\
 (PySem.W.plainGet K C Str.empty&&PySem.W.hasDictIn K C&&PySem.W.plainOver K C&&PySem.W.makesIn K C&&fl.all fun f=>rg (PySem.W.findIn K (.ref C) f))=true
def J9.cl(X:K.In h)(G:h.Ns mainGlobals mg)(a:J9 K c fl):zW K mg c fl:=by
 obtain⟨C,n,s,k,r⟩:=a
 simp only[Bool.and_eq_true,List.all_eq_true]at r
 obtain⟨⟨⟨⟨r1,r2⟩,r3⟩,r4⟩,r5⟩:=r
 exact⟨C,n,PySem.W.mg_of X G n,⟨r1,r2,r3,s⟩,r4,k,fun f hf=>pW (r5 f hf)⟩
def Ij(K:Vo)(c m q:Str)(st:Stmt):Prop:=∃C f,PySem.W.nsIn K mainGlobals c=some (some (.ref C))/\PySem.W.findIn K (.ref C) m=some (some (.ref f))/\PySem.W.isFn K (.ref f)=true/\FnAt K f m q st
def Ij.own(a:Ij K c m q st)(k:zW K mg c fl)(hb:pX m q st ps):mn K c m q st ps:=by
 obtain⟨C,f,n,e,i,a⟩:=a
 obtain⟨fd,F,b,kp⟩:=a.mk hb
 obtain⟨C',n',_,cl,_⟩:=k.ex
 cases F9.inj (c:=c) n n'
 exact⟨C,f,fd,n,cl,⟨e,i,kp⟩,F,b⟩
def jT(X:K.In h)(G:h.Ns mainGlobals mg){l:Vs}(a:(l.all fun x=>rg (PySem.W.nsIn K mainGlobals x))=true)(hx:x∈l:=by decide):mg x=none:=PySem.W.mg_none_of X G (pW (List.all_eq_true.mp a x hx))
section
variable {f C:Addr} {oc kV doc pm cdv ct:Value} {od an:Option Addr} {osl:Array (Option Value)}
def Ea(n:PySem.W.nsIn K mainGlobals x=some (some (.ref f)))(l:K.lookup f=some ⟨oc,od,.func (PySem.W.fnOf x x (di st) (bI st) (aN st) .none kV doc pm an cdv ct),osl⟩)(cc:PySem.W.codeIn K cdv x=true)(k:PySem.W.keepIn K (.ref f)=true):Fm K x st:=⟨f,n,oc,kV,doc,pm,cdv,ct,od,an,osl,l,cc,k⟩
def Eb(n:PySem.W.nsIn K mainGlobals c=some (some (.ref C)))(e:PySem.W.findIn K (.ref C) m=some (some (.ref f)))(i:PySem.W.isFn K (.ref f)=true)(l:K.lookup f=some ⟨oc,od,.func (PySem.W.fnOf m q (di st) (bI st) (aN st) .none kV doc pm an cdv ct),osl⟩)(cc:PySem.W.codeIn K cdv q=true)(k:PySem.W.keepIn K (.ref f)=true):Ij K c m q st:=⟨C,f,n,e,i,oc,kV,doc,pm,cdv,ct,od,an,osl,l,cc,k⟩
def Ec(n:PySem.W.nsIn K mainGlobals c=some (some (.ref C)))(e:PySem.W.findIn K (.ref C) "__setattr__" = some (some (.builtin "object.__setattr__")))(k:PySem.W.keepIn K (.ref C)=true)
  (r:(PySem.W.plainGet K C Str.empty&&PySem.W.hasDictIn K C&&PySem.W.plainOver K C&&PySem.W.makesIn K C&&fl.all fun f=>rg (PySem.W.findIn K (.ref C) f))=true):J9 K c fl:=⟨C,n,e,k,r⟩
end
end
end L3
namespace G37
open PySem L2 L3
def zO{l:PySem.W.OpenLaw}{w:World}{K:Vo}{h:Heap}{mg:Vr}{fa:Addr}(X:K.In h)(G:h.Ns mainGlobals mg)(hfa:mg "law" = some (.ref fa))
  (FP:Fm K "common" (bY 1))
  (Fn:Fm K "fraction" (bY 2))
  (Gk:Fm K "plus" (bY 3))
  (F2:Fm K "times" (bY 4))
  (Gm:Fm K "less" (bY 5))
  (FD:Fm K "highest" (bY 6))
  (Fo:Fm K "together" (bY 7))
  (Fp:Fm K "worth_of" (bY 8))
  (EM:Fm K "common_bottom" (bY 10))
  (EX:Fm K "row_of_deed" (bY 11))
  (E6:Fm K "row_of_jar" (bY 12))
  (FE:Fm K "without" (bY 13))
  (Ev:Ij K "Balance" "__init__" "Balance.__init__" (mt 14 0))
  (EN:Ij K "Balance" "hold" "Balance.hold" (mt 14 1))
  (Ez:Ij K "Balance" "gaining" "Balance.gaining" (mt 14 2))
  (EI:Ij K "Balance" "sooner" "Balance.sooner" (mt 14 3))
  (EA:Ij K "Balance" "used_up" "Balance.used_up" (mt 14 4))
  (EB:Ij K "Balance" "held_by" "Balance.held_by" (mt 14 5))
  (E7:Fm K "balance_of" (bY 15))
  (Ek:Fm K "first_that_takes_nothing" (bY 16))
  (Fr:Fm K "price_of" (bY 17))
  (FF:Fm K "endless" (bY 18))
  (Gn:Fm K "most" (bY 19))
  (FG:Fm K "weighed" (bY 20))
  (Fd:Fm K "_law_deal" (bY 22))
  (Fe:Fm K "_law_draw" (bY 23))
  (Fs:Fm K "_law_low" (bY 24))
  (Ff:Fm K "_law_plus" (bY 25))
  (Fg:Fm K "_law_cost" (bY 26))
  (EY:Fm K "_law_effect" (bY 27))
  (EZ:Fm K "_law_column" (bY 28))
  (EO:Fm K "_law_columns" (bY 29))
  (Fh:Fm K "_law_told" (bY 30))
  (E8:Fm K "_law_order" (bY 31))
  (EJ:Fm K "_law_otherwise" (bY 32))
  (E9:Fm K "_law_below" (bY 33))
  (E_:Fm K "_law_above" (bY 34))
  (EC:Fm K "_law_is_no_more" (bY 35))
  (Fi:Fm K "_law_many" (bY 36))
  (Em:J9 K "Balance" ["rows","held","bottom"])
  (Hr:((["abs","enumerate","int","len","list","max","min","range","reversed","tuple","zip"]:Vs).all fun x=>rg (PySem.W.nsIn K mainGlobals x))=true)
  (HN:Fm K "law" (bY 37))
  : ∃fd:FuncData,(∀(s:Shared) (v:Value),BindsTo s fd ⟨[v],[]⟩ [("_law_script",v)])/\∀base:Heap,K.In base->base.Ns mainGlobals mg->iu l.prog w K mg base wN 10 fa fd ["_law_script"] (A1 K 1 mL):=by
 obtain⟨kV,doc,pm,an,cdv,ct,O⟩:=HN.law X G hfa (ps:=["_law_script"]) (fun _ _ _ _ _ _=>zN fun _=>rfl)
 exact⟨_,fun s v=>.of_eq rfl,fun base _ _=>(zD (P:=l.prog) (w:=w) (base:=base) ⟨FP.own X G (fun _ _ _ _ _ _=>lK fun _ _=>rfl),
  Fn.own X G (fun _ _ _ _ _ _=>lK fun _ _=>rfl),
  Gk.own X G (fun _ _ _ _ _ _=>lK fun _ _=>rfl),
  F2.own X G (fun _ _ _ _ _ _=>lK fun _ _=>rfl),
  Gm.own X G (fun _ _ _ _ _ _=>lK fun _ _=>rfl),
  FD.own X G (fun _ _ _ _ _ _=>zN fun _=>rfl),
  Fo.own X G (fun _ _ _ _ _ _=>zN fun _=>rfl),
  Fp.own X G (fun _ _ _ _ _ _=>lK fun _ _=>rfl),
  EM.own X G (fun _ _ _ _ _ _=>zN fun _=>rfl),
  EX.own X G (fun _ _ _ _ _ _=>BO fun _ _ _ _=>rfl),
  E6.own X G (fun _ _ _ _ _ _=>wF fun _ _ _=>rfl),
  FE.own X G (fun _ _ _ _ _ _=>BO fun _ _ _ _=>rfl),
  Ev.own (mg:=mg) (Em.cl X G) (fun _ _ _ _ _ _=>wF fun _ _ _=>rfl),
  EN.own (mg:=mg) (Em.cl X G) (fun _ _ _ _ _ _=>wF fun _ _ _=>rfl),
  Ez.own (mg:=mg) (Em.cl X G) (fun _ _ _ _ _ _=>zN fun _=>rfl),
  EI.own (mg:=mg) (Em.cl X G) (fun _ _ _ _ _ _=>BO fun _ _ _ _=>rfl),
  EA.own (mg:=mg) (Em.cl X G) (fun _ _ _ _ _ _=>lK fun _ _=>rfl),
  EB.own (mg:=mg) (Em.cl X G) (fun _ _ _ _ _ _=>BO fun _ _ _ _=>rfl),
  E7.own X G (fun _ _ _ _ _ _=>wF fun _ _ _=>rfl),
  Ek.own X G (fun _ _ _ _ _ _=>lK fun _ _=>rfl),
  Fr.own X G (fun _ _ _ _ _ _=>wF fun _ _ _=>rfl),
  FF.own X G (fun _ _ _ _ _ _=>wF fun _ _ _=>rfl),
  Gn.own X G (fun _ _ _ _ _ _=>wF fun _ _ _=>rfl),
  FG.own X G (fun _ _ _ _ _ _=>lK fun _ _=>rfl),
  Fd.own X G (fun _ _ _ _ _ _=>lK fun _ _=>rfl),
  Fe.own X G (fun _ _ _ _ _ _=>lK fun _ _=>rfl),
  Fs.own X G (fun _ _ _ _ _ _=>lK fun _ _=>rfl),
  Ff.own X G (fun _ _ _ _ _ _=>lK fun _ _=>rfl),
  Fg.own X G (fun _ _ _ _ _ _=>zN fun _=>rfl),
  EY.own X G (fun _ _ _ _ _ _=>wF fun _ _ _=>rfl),
  EZ.own X G (fun _ _ _ _ _ _=>BO fun _ _ _ _=>rfl),
  EO.own X G (fun _ _ _ _ _ _=>zN fun _=>rfl),
  Fh.own X G (fun _ _ _ _ _ _=>lK fun _ _=>rfl),
  E8.own X G (fun _ _ _ _ _ _=>lK fun _ _=>rfl),
  EJ.own X G (fun _ _ _ _ _ _=>wF fun _ _ _=>rfl),
  E9.own X G (fun _ _ _ _ _ _=>lK fun _ _=>rfl),
  E_.own X G (fun _ _ _ _ _ _=>lK fun _ _=>rfl),
  EC.own X G (fun _ _ _ _ _ _=>lK fun _ _=>rfl),
  Fi.own X G (fun _ _ _ _ _ _=>lK fun _ _=>rfl),
  Em.cl X G,
  jT (x:="abs") X G Hr,
  jT (x:="enumerate") X G Hr,
  jT (x:="int") X G Hr,
  jT (x:="len") X G Hr,
  jT (x:="list") X G Hr,
  jT (x:="max") X G Hr,
  jT (x:="min") X G Hr,
  jT (x:="range") X G Hr,
  jT (x:="reversed") X G Hr,
  jT (x:="tuple") X G Hr,
  jT (x:="zip") X G Hr⟩ O).ok⟩
def Dk{l:PySem.W.OpenLaw}{q:Program}{loose:Vs}{XP:(Vr)->Heap->Prop}{YP:World->Heap->Prop}{d:DefRec}{K:Params->PySem.W.Frag}(hn:l.most=some 63)(hdf:d.params.defaults=[])
  (hY:∀(w:World) (h:Heap),YP w h->(K w.params).In h)
  (F:∀(w:World) (mg:Vr) (fa:Addr) (h:Heap),(K w.params).In h->h.Ns mainGlobals mg->mg d.name=some (.ref fa)->
   ∃fd:FuncData,(∀(s:Shared) (u:Value),BindsTo s fd ⟨[u],[]⟩ [("_law_script",u)])/\∀base:Heap,(K w.params).In base->base.Ns mainGlobals mg->iu l.prog w (K w.params) mg base wN 10 fa fd ["_law_script"] (A1 (K w.params) 1 mL)) :
  PySem.W.WalkO q loose XP YP l.row.toRowW d [] (fun f vs=>PySem.call f vs):=
 L2.vx (n:=63) (k:=10) (x:="_law_script") (CX:=fun _=>wN) (sp:=fun w=>A1 (K w.params) 1 mL) hn (by decide) hdf ⟨rfl,by decide,by decide,rfl⟩ hY F (fun _ _ a ns hl hO hS=>C0 hO hS (uK ns hl)) fun _ _ _ _ _ z=>z
end G37
local macro_rules | `(tactic| walk_at "k")=>`(tactic| (apply L3.Ea; k_is; k_is; k_is; k_is))
local macro_rules | `(tactic| walk_at "m")=>`(tactic| (apply L3.Eb; k_is; k_is; k_is; k_is; k_is; k_is))
local macro_rules | `(tactic| walk_at "c")=>`(tactic| (apply L3.Ec; k_is; k_is; k_is; kernel_rfl))
open PySem PySem.W PyProof.Rows
set_option maxRecDepth 100000 in
set_option maxHeartbeats 0 in
theorem PySem.Challenge.cw_dueworth_k37_whole_the_same_weighed_holds : PySem.Challenge.rw_dueworth_k37_whole_the_same_weighed.Holds := by
 w_on; refine holds_law E37.said fun said => ?_
 refine holds_open (q := E37.vw) (loose := []) (Xt := fun s => (xlAt E37.vw [] s && recOk (RowW.records E37.rr) s)) (XP := XL E37.vw []) (N := 2936)
  (Yf := Hook.obs E37.hk) (Ya := Hook.val E37.hk) (YP := Hook.says (kHook E37.early.heap_1 E37.as E37.Dl)) E37.left (Hook.of E37.hk) (Hook.keeps E37.hk) (fun s e => xl_of s (Bool.and_eq_true_iff.mp e).1)
  XL.keeps rfl rfl rfl (fun s e => recFacts_of (Bool.and_eq_true_iff.mp e).2) rfl (by assumption)
  (by decide +kernel) ⟨rfl, rfl, rfl, rfl, rfl, by decide +kernel⟩ ?hw ?hc
 (case hw => w_witness2)
 k_fill
 refine G37.Dk (l := PySem.Challenge.rw_dueworth_k37_whole_the_same_weighed) rfl rfl (fun w h Y => PySem.W.kIn_of Y) ?F
 case F =>
  intro w mg fa h KX G hmg
  refine' G37.zO KX G hmg ?FP ?Fn ?Gk ?F2 ?Gm ?FD ?Fo ?Fp ?EM ?EX ?E6 ?FE ?Ev ?EN ?Ez ?EI ?EA ?EB ?E7 ?Ek ?Fr ?FF ?Gn ?FG ?Fd ?Fe ?Fs ?Ff ?Fg ?EY ?EZ ?EO ?Fh ?E8 ?EJ ?E9 ?E_ ?EC ?Fi ?Em ?Hr ?HN
  (case FP => walk_at "k")
  (case Fn => walk_at "k")
  (case Gk => walk_at "k")
  (case F2 => walk_at "k")
  (case Gm => walk_at "k")
  (case FD => walk_at "k")
  (case Fo => walk_at "k")
  (case Fp => walk_at "k")
  (case EM => walk_at "k")
  (case EX => walk_at "k")
  (case E6 => walk_at "k")
  (case FE => walk_at "k")
  (case Ev => walk_at "m")
  (case EN => walk_at "m")
  (case Ez => walk_at "m")
  (case EI => walk_at "m")
  (case EA => walk_at "m")
  (case EB => walk_at "m")
  (case E7 => walk_at "k")
  (case Ek => walk_at "k")
  (case Fr => walk_at "k")
  (case FF => walk_at "k")
  (case Gn => walk_at "k")
  (case FG => walk_at "k")
  (case Fd => walk_at "k")
  (case Fe => walk_at "k")
  (case Fs => walk_at "k")
  (case Ff => walk_at "k")
  (case Fg => walk_at "k")
  (case EY => walk_at "k")
  (case EZ => walk_at "k")
  (case EO => walk_at "k")
  (case Fh => walk_at "k")
  (case E8 => walk_at "k")
  (case EJ => walk_at "k")
  (case E9 => walk_at "k")
  (case E_ => walk_at "k")
  (case EC => walk_at "k")
  (case Fi => walk_at "k")
  (case Em => walk_at "c")
  (case Hr => kernel_rfl)
  (case HN => walk_at "k")
#print axioms PySem.Challenge.cw_dueworth_k37_whole_the_same_weighed_holds
