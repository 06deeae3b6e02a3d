import PyProof.Rows.All
import Wide.All
import OpenK.AllK
import Wide.FinOn
import Lean
import PyProof.EqAt
import PyProof.EqKinds
import PyProof.TupleCall
import PySem.Challenge.RW_dueworth_k35_whole_endless_or_not
import Open.Tree
import Open.Head
section
set_option Elab.async false
set_option linter.all false
set_option maxRecDepth 100000
set_option maxHeartbeats 0
namespace ET
open PySem PySem.W PyProof.Rows
def iD(tb:String→Option Builtin)(p:Program)(w:World)(n₀:Nat)(ann:Option Value):Nat→SharedT→Thread→Option SharedT
 |0,_,_=>none
 |n+1,s,t=>match through t with
  |true=>some s
  |false=>match stepOk n₀ ann t with
   |false=>none
   |true=>match stepT (denote tb) p w s t with
    |some x=>iD tb p w n₀ ann n x.1 x.2
    |none=>none
theorem lw{tb:String→Option Builtin}{p:Program}{w:World}{n₀:Nat}{ann:Option Value}:∀{n:Nat} {s s':SharedT} {t:Thread},iD tb p w n₀ ann n s t=some s'→topRun tb p w n₀ ann n s.abs t=some s'.abs
 |0,_,_,_,h=>by cases h
 |n+1,s,s',t,h=>by
  unfold iD at h
  unfold topRun
  cases he:through t with
  |true=>rw[he]at h;cases h;rfl
  |false=>
   rw[he]at h
   cases hk:stepOk n₀ ann t with
   |false=>rw[hk]at h;cases h
   |true=>
    rw[hk]at h
    cases hs:stepT (denote tb) p w s t with
    |none=>rw[hs]at h;cases h
    |some r=>rw[hs]at h;rw[stepT_spec hs];exact lw h
def AZ:List Obj→BT→Nat→Option (BT×Nat)
 |[],t,n=>some (t,n)
 |o::os,t,n=>match ((t.ins n o).get n).isSome with
  |true=>AZ os (t.ins n o) (n+1)
  |false=>none
theorem qp{life:Life}:∀{os:List Obj} {t t':BT} {n n':Nat},AZ os t n=some (t',n')→absHeap t' n' life=⟨(absHeap t n life).objs++os.toArray,life⟩
 |[],t,t',n,n',h=>by cases h;simp[absHeap]
 |o::os,t,t',n,n',h=>by
  unfold AZ at h
  cases g:((t.ins n o).get n).isSome with
  |false=>rw[g]at h;cases h
  |true=>
   rw[g]at h
   rw[qp h,absHeap_ins g]
   simp[Heap.push]
def iE(tb:String→Option Builtin)(p:Program)(w:World)(N:Nat)(s₀:Shared):Option Shared:=
 match s₀.heap.isNs mainGlobals&&s₀.gens.size == 0 with
 |true=>match AZ s₀.heap.objs.toList .nil 0 with
  |some x=>match iD tb p w x.2 (s₀.heap.nsMap mainGlobals "__annotations__") N ⟨x.1,x.2,s₀.heap.life,s₀.gens,s₀.drawn,s₀.toks,s₀.os⟩ (topStub p)with
   |some s=>match staticsOk (importedModules p.main.body) s₀.heap s.abs.heap&&namesBound p s.abs.heap&&gensDone s.abs&&laidKept s₀.heap s.abs.heap with
    |true=>some s.abs
    |false=>none
   |none=>none
  |none=>none
 |false=>none
theorem oM{tb:String→Option Builtin}{p:Program}{w:World}{N:Nat}{s₀ s:Shared}(h:iE tb p w N s₀=some s):topFrom tb p w N s₀=some s:=by
 unfold iE at h
 unfold topFrom
 cases h1:s₀.heap.isNs mainGlobals&&s₀.gens.size == 0 with
 |false=>rw[h1]at h;cases h
 |true=>
  rw[h1]at h
  dsimp only at h ⊢
  cases h2:AZ s₀.heap.objs.toList .nil 0 with
  |none=>rw[h2]at h;cases h
  |some x=>
   rw[h2]at h
   dsimp only at h
   have e:=qp (life:=s₀.heap.life) h2
   have e':absHeap x.1 x.2 s₀.heap.life=s₀.heap:=by
    rw[e]
    simp[absHeap,BT.list]
   have n':x.2=s₀.heap.objs.size:=by rw[←e',absHeap_size]
   cases h3:iD tb p w x.2 (s₀.heap.nsMap mainGlobals "__annotations__") N ⟨x.1,x.2,s₀.heap.life,s₀.gens,s₀.drawn,s₀.toks,s₀.os⟩ (topStub p)with
   |none=>rw[h3]at h;cases h
   |some r=>
    rw[h3]at h
    dsimp only at h
    have ea:SharedT.abs ⟨x.1,x.2,s₀.heap.life,s₀.gens,s₀.drawn,s₀.toks,s₀.os⟩=s₀:=by
     unfold SharedT.abs
     rw[e']
    have:=lw h3
    rw[ea,n']at this
    rw[this]
    exact h
theorem oN{tb:String→Option Builtin}{p:Program}{w:World}{N:Nat}{s₀:Shared}{α:Type}{f:Shared→α}{a:α}(h:Option.map f (iE tb p w N s₀)=some a):Option.map f (topFrom tb p w N s₀)=some a:=by
 obtain⟨s,h1,h2⟩:=Option.map_eq_some_iff.mp h
 rw[oM h1]
 exact congrArg some h2
def seenT(p q:Program)(loose:List Str)(Xt:Shared→Bool){α:Type}(Yf:Shared→α)(N:Nat)(u u':World):=
 Option.map (fun c=>Option.map (fun s=>(openSeen q loose (importedModules p.main.body) Xt true s,Yf s)) (iE treeTable p u' N c)) (fencedOpening treeTable p u N)
lay_quick seenT
theorem vP{p q:Program}{loose:List Str}{Xt:Shared→Bool}{α:Type}{Yf:Shared→α}{N:Nat}{u u':World}{r}(h:PySem.W.Fast.tw2787559817927863336 p q loose Xt Yf N u u'=r):seenT p q loose Xt Yf N u u'=r:=by
 rw[PySem.W.Fast.te2787559817927863336]
 exact h
theorem vQ{p q:Program}{loose:List Str}{Xt:Shared→Bool}{α:Type}{Yf:Shared→α}{Ya:World→α}{N:Nat}
  (h:∀u:World,seenT p q loose Xt Yf N u u=some (some (openGood q loose,Ya u))):LeftO p q loose Xt Yf Ya N:=fun u=>by
 obtain⟨c,a,b⟩:=Option.map_eq_some_iff.mp (h u)
 unfold openEnds
 rw[a]
 exact oN b
theorem A0{p q:Program}{loose:List Str}{Xt:Shared→Bool}{α:Type}{Yf:Shared→α}{Ya:World→α}{N:Nat}(row:String)
  (h0:∀u:World,seenT p q loose Xt Yf N u (u.withFollow row false)=some (some (openGood q loose,Ya (u.withFollow row false))))
  (h1:∀u:World,seenT p q loose Xt Yf N u (u.withFollow row true)=some (some (openGood q loose,Ya (u.withFollow row true)))):LeftO p q loose Xt Yf Ya N:=fun u=>by
 obtain⟨c,a,b⟩:=Option.map_eq_some_iff.mp (h0 u)
 obtain⟨c',a',b'⟩:=Option.map_eq_some_iff.mp (h1 u)
 have hc:c'=c:=by rw[a]at a';cases a';rfl
 subst hc
 have b:=oN b
 have b':=oN b'
 have hu:=World.withFollow_self u row
 unfold openEnds
 rw[a]
 cases hb:u.params.followText row<;>rw[hb]at hu
 ·rw[hu]at b
  exact b
 ·rw[hu]at b'
  exact b'
end ET
namespace E35
open PySem PySem.W PyProof.Rows
abbrev tp(i:Nat):Stmt:=PySem.Challenge.pw_dueworth_k35_whole_endless_or_not.main.body.getD i (.Pass ⟨0,0,0,0⟩)
/-- the text without what says nothing -/
def vw:Program:={ PySem.Challenge.pw_dueworth_k35_whole_endless_or_not with main:={ PySem.Challenge.pw_dueworth_k35_whole_endless_or_not.main with body:=[tp 1,tp 2,tp 3,tp 4,tp 5,tp 6,tp 7,tp 8,tp 10,tp 11,tp 12,tp 13,tp 14,tp 15,tp 16,tp 17,tp 18,tp 19,tp 20,tp 22,tp 23,tp 24,tp 25,tp 26,tp 27,tp 28,tp 29,tp 30,tp 31,tp 32,tp 33,tp 34,tp 35,tp 36,tp 37,tp 38,tp 39,tp 40,tp 41] } }
abbrev rr:RowW:=OpenRow.toRowW (OpenLaw.row PySem.Challenge.rw_dueworth_k35_whole_endless_or_not)
local macro_rules | `(tactic| o_head $H)=>`(tactic|
 refine holds_open (q:=vw) (loose:=[]) (Xt:=fun s=>(xlAt vw [] s&&recOk (RowW.records rr) s)) (XP:=XL vw []) (N:=3180)
  (Yf:=Hook.obs $H) (Ya:=Hook.val $H) (YP:=Hook.says $H) ?hl (Hook.of $H) (Hook.keeps $H) (fun s e=>xl_of s (Bool.and_eq_true_iff.mp e).1)
  XL.keeps rfl rfl rfl (fun s e=>recFacts_of (Bool.and_eq_true_iff.mp e).2) rfl (by assumption)
  (by decide +kernel) ⟨rfl,rfl,rfl,rfl,rfl,by decide +kernel⟩ ?hw ?hc)
/-- the law is well said: by the quick twin of the look,with no twin of the program -/
theorem said:OpenLaw.wellSaid PySem.Challenge.rw_dueworth_k35_whole_endless_or_not=true:=(congrFun PySem.W.Fast.te9446332074065402090 _).trans (by kernel_rfl)
/-- says nothing; what lies in the heap is written down by the way -/
theorem early(h:∀P:Prop,P):PySem.Challenge.rw_dueworth_k35_whole_endless_or_not.Holds:=by
 w_on;refine holds_law said fun said=>?_;k_head
 all_goals exact h _
abbrev as:List Addr:=[2,3,15,17,18,20,21,22,24,25,27,28,29,31,32,34,35,36,38,39,41,42,43,45,46,48,49,50,52,53,55,56,57,59,60,62,63,64,67,68,69,71,72,74,75,76,79,80,81,84,85,86,89,90,98,100,101,103,104,105,108,109,110,112,113,115,116,117,119,120,122,123,124,126,127,129,130,131,133,134,136,137,138,139,140,141,142,145,148,149,150,153,154,155,158,159,160,162,163,165,166,167,170,171,172,174,175,177,178,179,182,183,184,186,187,189,190,191,193,194,196,197,198,200,201,203,204,205,207,208,210,211,212,215,216,217,220,221,222,224,225,227,228,229,231,232,234,235,236,239,240,241,244,245,246,248,249,251,252,253,256,257,258,260,261,263,264,265,267,268,270,271,272,275,276,277,280,281,282,285,286,287,290,291,292,294,295,297,298]
theorem Ey(P:Params):as=(early.heap_1 P).map (·.1):=by kernel_rfl
noncomputable abbrev hk:Hook:=kHook early.heap_1 as Ey
theorem A1(u:World):ET.seenT (OpenLaw.row PySem.Challenge.rw_dueworth_k35_whole_endless_or_not).prog vw [] (fun s=>(xlAt vw [] s&&recOk (RowW.records rr) s)) (Hook.obs hk) 3180 u u=some (some (openGood vw [],Hook.val hk u)):=ET.vP (by kernel_rfl)
theorem left:LeftO (OpenLaw.row PySem.Challenge.rw_dueworth_k35_whole_endless_or_not).prog vw [] (fun s=>(xlAt vw [] s&&recOk (RowW.records rr) s)) (Hook.obs hk) (Hook.val hk) 3180:=ET.vQ A1
end E35
end
open PySem in
abbrev Vq:=Value->Shared->Prop
open PySem in
abbrev Va:=List (Addr×Obj)
open PySem in
abbrev Vo:=PySem.W.Frag
open PySem in
abbrev Vr:=Str->Option Value
open PySem in
abbrev Vs:=List Str
open PySem in
abbrev Vu:=List Int
open PySem in
abbrev Vv:=List Value
open PySem in
abbrev Vw:=Array Value
set_option Elab.async false
set_option linter.all false
set_option maxRecDepth 100000
namespace L2
open PySem PySem.Spec PyProof.Rows
abbrev b9:=Sum Int Str
noncomputable def lx:b9->Value->Bool
 | .inl k,v=>Value.isInt k v
 | .inr x,v=>Value.isStrOf x v
noncomputable def Db(w:World):b9->Int
 | .inl k=>hashInt k
 | .inr x=>hashStr w x
theorem bm:∀{k:b9} {v:Value},lx k v=true->(∃i t,k=Sum.inl i/\v=Value.int i t)\/(∃x t,k=Sum.inr x/\v=Value.str x t)
 | .inl i,v,h=>by
  obtain⟨t,e⟩:=Value.isInt_shape (k:=i) (v:=v) h
  exact .inl ⟨i,t,rfl,e⟩
 | .inr x,v,h=>by
  obtain⟨t,e⟩:=Value.isStrOf_shape (x:=x) (v:=v) h
  exact .inr ⟨x,t,rfl,e⟩
def rm(i:Int)(t:Tok):lx (.inl i) (.int i t)=true:=by simp[lx,Value.isInt]
def rn(x:Str)(t:Tok):lx (.inr x) (.str x t)=true:=by simp[lx,Value.isStrOf]
def yF(a b:Int):decide ((Sum.inl a:b9)=Sum.inl b)=(a == b):=by
 by_cases e:a=b
 ·subst e;simp
 ·have h:¬(Sum.inl a:b9)=Sum.inl b:=fun q=>e (Sum.inl.inj q)
  rw[decide_eq_false h]
  exact(beq_eq_false_iff_ne.mpr e).symm
def yG(a b:Str):decide ((Sum.inr a:b9)=Sum.inr b)=decide (a=b):=by
 by_cases e:a=b
 ·subst e;simp
 ·have h:¬(Sum.inr a:b9)=Sum.inr b:=fun q=>e (Sum.inr.inj q)
  rw[decide_eq_false h,decide_eq_false e]
def yH(a:Int)(b:Str):decide ((Sum.inl a:b9)=Sum.inr b)=false:=decide_eq_false (fun q=>nomatch q)
def yI(a:Str)(b:Int):decide ((Sum.inr a:b9)=Sum.inl b)=false:=decide_eq_false (fun q=>nomatch q)
noncomputable def bn(prog:Program)(w:World):PySem.KeyKind prog w b9 where
 is:=lx
 hash:=Db w
 inj:=fun v a b ha hb=>by
  rcases bm ha with⟨i,t,rfl,rfl⟩|⟨x,t,rfl,rfl⟩
  ·rcases bm hb with⟨j,u,rfl,e⟩|⟨y,u,rfl,e⟩
   ·injection e with e1 _;rw[e1]
   ·exact nomatch e
  ·rcases bm hb with⟨j,u,rfl,e⟩|⟨y,u,rfl,e⟩
   ·exact nomatch e
   ·injection e with e1 _;rw[e1]
 byValue:=fun k v h=>by
  rcases bm h with⟨i,t,rfl,rfl⟩|⟨x,t,rfl,rfl⟩<;>rfl
 pyHash:=fun hv h=>by
  rcases bm hv with⟨i,t,rfl,rfl⟩|⟨x,t,rfl,rfl⟩
  ·exact wpAny_pyHash_int h
  ·exact wpAny_pyHash_str h
 eqBool:=fun hu hv h=>by
  rcases bm hu with⟨i,t,rfl,rfl⟩|⟨x,t,rfl,rfl⟩
  ·rcases bm hv with⟨j,u,rfl,rfl⟩|⟨y,u,rfl,rfl⟩
   ·rw[yF]at h;exact wpAny_eqBool_int h
   ·rw[yH]at h;exact SeqAt.EqAt.int_str i t y u _ _ _ _ h
  ·rcases bm hv with⟨j,u,rfl,rfl⟩|⟨y,u,rfl,rfl⟩
   ·rw[yI]at h;exact SeqAt.EqAt.str_int x t j u _ _ _ _ h
   ·rw[yG]at h;exact wpAny_eqBool_str h
 «strs»:=fun k x t v h=>by
  rcases bm h with⟨i,u,rfl,e⟩|⟨y,u,rfl,e⟩
  ·exact nomatch e
  ·injection e with e1 _
   subst e1
   cases v<;>rfl
def nu(prog:Program)(w:World)(i:Int)(t:Tok):(bn prog w).is (.inl i) (.int i t)=true:=rm i t
def nv(prog:Program)(w:World)(x:Str)(t:Tok):(bn prog w).is (.inr x) (.str x t)=true:=rn x t
inductive V where
 |non|bl (b:Bool)|int (i:Int)|str (x:Str)|IZ (b:Array UInt8)|K5 (b:UInt64)|ref (a:Addr)|ty (n:String)
 deriving DecidableEq
noncomputable def RelV:V->Value->Prop
 | .non,u=>u=Value.none
 | .bl b,u=>u=Value.bool b
 | .int i,u=>∃t,u=Value.int i t
 | .str x,u=>∃t,u=Value.str x t
 | .IZ b,u=>∃t,u=Value.bytes b t
 | .K5 b,u=>∃t,u=Value.float b t
 | .ref a,u=>u=Value.ref a
 | .ty n,u=>u=Value.type n
noncomputable abbrev Vals:List V->List Value->Prop:=Paired RelV
theorem Vals.length{xs:List V}{us:Vv}(r:Vals xs us):xs.length=us.length:=Paired.length r
theorem Vals.get:∀{xs:List V} {us:Vv} {i:Nat} {x:V},Vals xs us->xs[i]?=some x->∃u,us[i]?=some u/\RelV x u
 |_,_,_,_,.nil,e=>by simp at e
 |_,_,0,_,.cons r _,e=>by simp at e;subst e;exact⟨_,rfl,r⟩
 |_,_,i+1,x,.cons _ t,e=>by
  obtain⟨u,h1,h2⟩:=Vals.get (i:=i) (x:=x) t (by simpa using e)
  exact⟨u,by simpa using h1,h2⟩
theorem Vals.set{x:V}{u:Value}(r:RelV x u):∀{xs:List V} {us:Vv} (i:Nat),Vals xs us->Vals (xs.set i x) (us.set i u)
 |_,_,_,.nil=>.nil
 |_,_,0,.cons _ t=>.cons r t
 |_,_,i+1,.cons q t=>.cons q (Vals.set r i t)
theorem Vals.append:∀{xs ys:List V} {us ws:Vv},Vals xs us->Vals ys ws->Vals (xs++ys) (us++ws)
 |_,_,_,_,.nil,s=>s
 |_,_,_,_,.cons r t,s=>.cons r (Vals.append t s)
theorem Vals.take:∀{xs:List V} {us:Vv} (n:Nat),Vals xs us->Vals (xs.take n) (us.take n)
 |_,_,0,_=>.nil
 |_,_,_+1,.nil=>.nil
 |_,_,n+1,.cons r t=>.cons r (Vals.take n t)
theorem Vals.drop:∀{xs:List V} {us:Vv} (n:Nat),Vals xs us->Vals (xs.drop n) (us.drop n)
 |_,_,0,r=>r
 |_,_,_+1,.nil=>.nil
 |_,_,n+1,.cons _ t=>Vals.drop n t
noncomputable def Gp:Option V->Option Value->Prop
 |some v,some u=>RelV v u
 |none,none=>True
 |_,_=>False
noncomputable def KV{κ:Type}:List (κ×V)->List (κ×Value)->Prop:=Paired fun(p:κ×V) (q:κ×Value)=>p.1=q.1/\RelV p.2 q.2
noncomputable def kV:b9->V
 | .inl i=>.int i
 | .inr x=>.str x
inductive HO where
 /-- a list -/
 |lst (xs:List V)
 /-- a tuple (never changes) -/
 |tup (xs:List V)
 /-- a dict whose keys are ints and texts; one whose keys are tuples of ints and texts (the empty one is both) -/
 |dK (kvs:List (b9×V))|dT (kvs:List (List b9×V))
 /-- a set of ints: its members,its size -/
 |set (S:Int->Bool) (n:Nat)
 /-- an instance of the class at C,its dict at dx,its attributes -/
 |ins (C dx:Addr) (fs:List (Str×V))
 /-- the dict of the instance at x -/
 |own (x:Addr)
 /-- the dict of an exception -/
 |xd (fs:List (Str×V))
 /-- a bound method,f of x -/
 |met (f x:Addr)
 /-- a range object lo,lo + 1,.. below hi -/
 |Lu (lo hi:Int)
 /-- a thing that is known to the object (the script; a dict while a loop walks it): read,never written while it is so -/
 |frz (o:Obj) (u:HO)
 /-- a code object's table -/
 |JP (ps:Vw)
 /-- any other thing,by what is true of its one object (a def of Mt own: M_ a S n:=HO.ext fun h=>..) -/
 |ext (φ:Heap->Prop)
abbrev Hp:=Addr->Option HO
noncomputable def upd(H:Hp)(a:Addr)(o:HO):Hp:=fun b=>if b=a then some o else H b
def aB{H:Hp}{a:Addr}{o:HO}:upd H a o a=some o:=by unfold upd;rw[if_pos rfl]
def aC{H:Hp}{a b:Addr}{o:HO}(h:b≠a):upd H a o b=H b:=by unfold upd;rw[if_neg h]
def A2{H:Hp}{a b:Addr}{o u:HO}(h:H a=some o)(h':H b=some u)(d:o≠u):a≠b:=by
 intro e;subst e;rw[h]at h';exact d (Option.some.inj h')
def bf{H:Hp}{a b:Addr}{o:HO}(h:H a=some o)(h':H b=none):a≠b:=by
 intro e;subst e;rw[h]at h';cases h'
def FT(h:Heap)(a:Addr)(its:Vw):Prop:=∃o,h.get? a=some o/\o.dict=none/\o.cls = .type "tuple"/\∃n,o.data = .seq its n
def FT.tup{h:Heap}{a:Addr}{its:Vw}(x:FT h a its):IsTup h a its:=let ⟨o,e,_,c,d⟩:=x;⟨o,e,c,d⟩
def FT.new(h:Heap)(its:Vw):FT (h.push { cls:=.type "tuple",data:=.seq its }) h.objs.size its:=⟨_,Heap.get?_push_size _ rfl,rfl,rfl,_,rfl⟩
section
variable (P:Program) (w:World)
noncomputable def Fu(H:Hp)(h:Heap)(a:Addr):HO->Prop
 | .lst xs=>xs.length<=sizeLine/\∃(its:Vv) (n:Nat),Vals xs its/\h.get? a=some { cls:=.type "list",data:=.seq its.toArray n }
 | .tup xs=>xs.length<=sizeLine/\∃its:List Value,Vals xs its/\FT h a its.toArray
 | .dK kvs=>kvs.length<=sizeLine/\(a == sysModules)=false/\∃vs,KV kvs vs/\h.DictOf (bn P w) a vs
 | .dT kvs=>kvs.length<=sizeLine/\(a == sysModules)=false/\∃xs:List (List b9×Addr×Value),
   Paired (fun(p:List b9×V) (q:List b9×Addr×Value)=>p.1=q.1/\H q.2.1=some (.tup (p.1.map kV))/\RelV p.2 q.2.2) kvs xs/\
   ∃o es ep,h.get? a=some o/\o.ExactDict/\o.data = .dict es ep/\es.toList=xs.map (entryOfKey (tupleKind (bn P w)))/\(xs.map (·.1)).Nodup
 | .set S n=>h.SetOf (intKind P w) a S n
 | .ins C dx fs=>H dx=some (.own a)/\fs.length<=1000/\dx≠a/\h.get? a=some (PySem.W.instObj C dx)/\
   ∃mA,h.Ns1 dx mA/\(∀f,Gp (fs.lookup f) (mA f))/\PySem.Within mA (fs.map (·.1))
 | .own _=>∃o,h.get? a=some o
 | .xd fs=>∃mA,h.Ns1 a mA/\∀f,Gp (fs.lookup f) (mA f)
 | .Lu lo hi=>∃t u v,h.get? a=some { cls:=.type "range",data:=.fields #[.int lo t,.int hi u,.int 1 v] }
 | .frz o u=>h.get? a=some o/\Fu H h a u
 | .JP ps=>h.get? a=some { cls:=.none,data:=.fields ps }
 | .met f x=>h.get? a=some (PySem.W.methodObj (.ref f) (.ref x))
 | .ext φ=>φ h/\(∃o,h.get? a=some o)/\∀h1 h2:Heap,φ h1->(∀o,h1.get? a=some o->h2.get? a=some o)->φ h2
def GN(H:Hp)(h:Heap):Prop:=∀a o,H a=some o->Fu P w H h a o
end
section
variable {P:Program} {w:World} {H H':Hp} {h h':Heap} {a:Addr} {o:HO}
theorem Fu.lt(x:Fu P w H h a o):a < h.objs.size:=by
 cases o with
 |lst xs=>obtain⟨_,_,_,_,e⟩:=x;exact Heap.lt_size e
 |tup xs=>obtain⟨_,_,_,p⟩:=x;exact p.tup.lt
 |dK kvs=>obtain⟨_,_,_,_,o,_,_,e,_⟩:=x;exact Heap.lt_size e
 |dT kvs=>obtain⟨_,_,_,_,o,_,_,e,_⟩:=x;exact Heap.lt_size e
 |set S n=>obtain⟨o,_,_,_,e,_⟩:=x;exact Heap.lt_size e
 |ins C dx fs=>obtain⟨_,_,_,e,_⟩:=x;exact Heap.lt_size e
 |own y=>obtain⟨_,e⟩:=x;exact Heap.lt_size e
 |xd fs=>obtain⟨_,⟨_,_,_,e,_⟩,_⟩:=x;exact Heap.lt_size e
 |Lu lo hi=>obtain⟨_,_,_,e⟩:=x;exact Heap.lt_size e
 |frz ob u=>obtain⟨e,_⟩:=x;exact Heap.lt_size e
 |JP ps=>exact Heap.lt_size (show h.get? a=some _ from x)
 |met f y=>exact Heap.lt_size (show h.get? a=some _ from x)
 |ext φ=>obtain⟨_,⟨_,e⟩,_⟩:=x;exact Heap.lt_size e
theorem Paired.JQ{α β:Type}{F G:α->β->Prop}:∀{l₁:List α} {l₂:List β},Paired F l₁ l₂->(∀a b,F a b->G a b)->Paired G l₁ l₂
 |_,_,.nil,_=>.nil
 |_,_,.cons r t,f=>.cons (f _ _ r) (Paired.JQ t f)
def Fu.stay(x:Fu P w H h a o)(k:∀b u,(b=a\/H b=some (.own a))->h.get? b=some u->h'.get? b=some u)
  (ho:∀b,H b=some (.own a)->H' b=some (.own a)) (ht:∀b xs,H b=some (.tup xs)->H' b=some (.tup xs)):Fu P w H' h' a o:=by
 induction o with
 |lst xs=>obtain⟨z,its,n,r,e⟩:=x;exact⟨z,its,n,r,k _ _ (.inl rfl) e⟩
 |tup xs=>obtain⟨z,its,r,ob,e,c⟩:=x;exact⟨z,its,r,ob,k _ _ (.inl rfl) e,c⟩
 |dK kvs=>obtain⟨z,y,vs,r,ob,es,ep,e,c⟩:=x;exact⟨z,y,vs,r,ob,es,ep,k _ _ (.inl rfl) e,c⟩
 |dT kvs=>
  obtain⟨z,y,xs,r,ob,es,ep,e,c⟩:=x
  exact⟨z,y,xs,Paired.JQ r fun p q z=>⟨z.1,ht _ _ z.2.1,z.2.2⟩,ob,es,ep,k _ _ (.inl rfl) e,c⟩
 |set S n=>obtain⟨ob,es,ep,t,e,c⟩:=x;exact⟨ob,es,ep,t,k _ _ (.inl rfl) e,c⟩
 |ins C dx fs=>
  obtain⟨d,z,ne,e,mA,⟨od,es,ep,e2,c⟩,r⟩:=x
  exact⟨ho _ d,z,ne,k _ _ (.inl rfl) e,mA,⟨od,es,ep,k _ _ (.inr d) e2,c⟩,r⟩
 |own y=>obtain⟨ob,e⟩:=x;exact⟨ob,k _ _ (.inl rfl) e⟩
 |xd fs=>obtain⟨mA,⟨od,es,ep,e,c⟩,r⟩:=x;exact⟨mA,⟨od,es,ep,k _ _ (.inl rfl) e,c⟩,r⟩
 |Lu lo hi=>obtain⟨t,u,v,e⟩:=x;exact⟨t,u,v,k _ _ (.inl rfl) e⟩
 |frz ob u ih=>obtain⟨e,q⟩:=x;exact⟨k _ _ (.inl rfl) e,ih q⟩
 |JP ps=>
  have e:h.get? a=some { cls:=.none,data:=.fields ps }:=x
  show h'.get? a=some { cls:=.none,data:=.fields ps }
  exact k a _ (.inl rfl) e
 |met f y=>
  have e:h.get? a=some (PySem.W.methodObj (.ref f) (.ref y)):=x
  show h'.get? a=some (PySem.W.methodObj (.ref f) (.ref y))
  exact k a _ (.inl rfl) e
 |ext φ=>obtain⟨p,⟨o,e⟩,st⟩:=x;exact⟨st _ _ p fun o q=>k _ _ (.inl rfl) q,⟨o,k _ _ (.inl rfl) e⟩,st⟩
theorem GN.lt(x:GN P w H h)(e:H a=some o):a < h.objs.size:=(x a o e).lt
def GN.fresh(x:GN P w H h)(e:h.objs.size<=a):H a=none:=by
 cases q:H a with
 |none=>rfl
 |some u=>exact absurd (Nat.lt_of_lt_of_le (x.lt q) e) (Nat.lt_irrefl _)
def GN.kept(x:GN P w H h)(k:∀b u,h.get? b=some u->h'.get? b=some u):GN P w H h':=fun a o e=>
 (x a o e).stay (fun b u _ q=>k b u q) (fun _ q=>q) fun _ _ q=>q
def GN.laid(x:GN P w H h)(k:∀b u,h.get? b=some u->h'.get? b=some u)(hp:h.objs.size<=a)(new:Fu P w (upd H a o) h' a o):GN P w (upd H a o) h':=fun b u e=>by
 have hn:=x.fresh hp
 by_cases hb:b=a
 ·subst hb;rw[aB]at e;cases e;exact new
 ·rw[aC hb]at e
  exact(x b u e).stay (fun c v _ q=>k c v q) (fun c q=>by rw[aC (bf q hn)];exact q) fun c xs q=>by rw[aC (bf q hn)];exact q
end
def Rd(H:Hp)(a:Addr)(u:HO):Prop:=H a=some u\/∃o,H a=some (.frz o u)
def Rd.ok{P:Program}{w:World}{H:Hp}{h:Heap}{a:Addr}{u:HO}(r:Rd H a u)(x:GN P w H h):Fu P w H h a u:=by
 rcases r with r|⟨o,r⟩
 ·exact x a u r
 ·obtain⟨_,q⟩:=x a _ r
  exact q
noncomputable def A3:Option HO->Prop
 |some (.lst _)=>True
 |some (.dK _)=>True
 |some (.dT _)=>True
 |some (.set _ _)=>True
 |some (.ins _ _ _)=>True
 |some (.ext _)=>True
 |_=>False
section
variable {P:Program} {w:World} {H:Hp} {h h':Heap} {x e:Addr} {o':HO}
def GN.write(ok:GN P w H h)(mu:A3 (H x))(he:e=x\/H e=some (.own x))(k:∀b u,b≠e->h.get? b=some u->h'.get? b=some u)(Km:∃u,h'.get? e=some u)
  (new:Fu P w (upd H x o') h' x o'):GN P w (upd H x o') h':=fun b u q=>by
 have Ku:∀c y,H c=some (.own y)->c≠x:=fun c y r z=>by subst z;rw[r]at mu;exact mu
 have Lw:∀c xs,H c=some (.tup xs)->c≠x:=fun c xs r z=>by subst z;rw[r]at mu;exact mu
 by_cases hb:b=x
 ·subst hb;rw[aB]at q;cases q;exact new
 ·rw[aC hb]at q
  by_cases JR:b=e
  ·have q':H b=some (.own x):=by
    rcases he with z|z
    ·exact absurd (JR.trans z) hb
    ·rw[JR];exact z
   rw[q]at q';cases q'
   obtain⟨v,hv⟩:=Km
   exact⟨v,by rw[JR];exact hv⟩
  ·refine(ok b u q).stay (fun c v hc r=>k c v ?_ r) (fun c r=>by rw[aC (Ku c b r)];exact r) fun c xs r=>by rw[aC (Lw c xs r)];exact r
   rcases hc with rfl|hc
   ·exact JR
   ·rintro rfl
    rcases he with z|z
    ·exact Ku c b hc z
    ·rw[hc]at z;cases z;exact hb rfl
end
structure Un (fs ex:List Addr) (H H':Hp) (h h':Heap):Prop where
 keep:∀b o,h.get? b=some o->H b=none->b ∉ fs->b ∉ ex->h'.get? b=some o
 slot:∀b o,h.get? b=some o->H b=none->b∈fs->b ∉ ex->∃sl,h'.get? b=some { o with slots:=sl }
 free:∀b o,h.get? b=some o->H b=none->b ∉ ex->H' b=none
 there:∀b o,h.get? b=some o->b ∉ ex->∃o',h'.get? b=some o'
 tups:∀b xs,H b=some (.tup xs)->H' b=some (.tup xs)
 HM:∀b o u,H b=some (.frz o u)->H' b=some (.frz o u)
 Ij:∀b ps,H b=some (.JP ps)->∃more,H' b=some (.JP (ps++more))
section
variable {fs fs' ex ex':List Addr} {H H1 H2:Hp} {h h1 h2 h':Heap} {a x e:Addr} {o:HO}
def Un.any(u:Un fs ex H H1 h h1){b:Addr}{ob:Obj}(q:h.get? b=some ob)(n:H b=none)(hx:b ∉ ex):∃sl,h1.get? b=some { ob with slots:=sl }:=by
 by_cases hb:b∈fs
 ·exact u.slot b ob q n hb hx
 ·exact⟨ob.slots,u.keep b ob q n hb hx⟩
def Un.kept(k:∀b u,h.get? b=some u->h'.get? b=some u):Un fs ex H H h h':=
 ⟨fun b ob q _ _ _=>k b ob q,fun b ob q _ _ _=>⟨ob.slots,k b ob q⟩,fun _ _ _ n _=>n,fun b ob q _=>⟨ob,k b ob q⟩,fun _ _ q=>q,fun _ _ _ q=>q,fun _ ps q=>⟨#[],by rw[q];simp⟩⟩
def Un.refl:Un fs ex H H h h:=Un.kept fun _ _ q=>q
def Un.laid(k:∀b u,h.get? b=some u->h'.get? b=some u)(hp:h.objs.size<=a)(hn:H a=none):Un fs ex H (upd H a o) h h' where
 keep:=fun b u q _ _ _=>k b u q
 slot:=fun b u q _ _ _=>⟨u.slots,k b u q⟩
 free:=fun b u q n _=>by rw[aC (Nat.ne_of_lt (Nat.lt_of_lt_of_le (Heap.lt_size q) hp))];exact n
 there:=fun b u q _=>⟨u,k b u q⟩
 tups:=fun b xs q=>by rw[aC (bf q hn)];exact q
 HM:=fun b u xs q=>by rw[aC (bf q hn)];exact q
 Ij:=fun b ps q=>⟨#[],by rw[aC (bf q hn),q];simp⟩
def Un.write(mu:A3 (H x))(he:e=x\/H e=some (.own x))(k:∀b u,b≠e->h.get? b=some u->h'.get? b=some u)(Km:∃u,h'.get? e=some u):Un fs ex H (upd H x o) h h':=by
 have hx:∀b,H b=none->b≠x:=fun b n z=>by subst z;rw[n]at mu;exact mu
 have hb:∀b,H b=none->b≠e:=fun b n z=>by
  subst z
  rcases he with r|r
  ·exact hx b n r
  ·rw[n]at r;cases r
 have hm:∀b u,H b=some u->¬A3 (some u)->b≠x:=fun b u q nm z=>by subst z;rw[q]at mu;exact nm mu
 refine⟨fun b u q n _ _=>k b u (hb b n) q,fun b u q n _ _=>⟨u.slots,k b u (hb b n) q⟩,fun b u q n _=>by rw[aC (hx b n)];exact n,fun b u q _=>?_,
  fun b xs q=>by rw[aC (hm b _ q fun z=>z)];exact q,fun b u xs q=>by rw[aC (hm b _ q fun z=>z)];exact q,fun b ps q=>⟨#[],by rw[aC (hm b _ q fun z=>z),q];simp⟩⟩
 by_cases JR:b=e
 ·subst JR;exact Km
 ·exact⟨u,k b u JR q⟩
end
noncomputable def CQ(h:Heap)(H:Hp):List Addr:=(List.range h.objs.size).filter fun a=>(H a).isSome
noncomputable def l9(h:Heap)(H:Hp):Heap:=PySem.W.hideAll h (CQ h H)
def rq(h:Heap)(H:Hp):(l9 h H).objs.size=h.objs.size:=PySem.W.hideAll_size _ _
def sW{h:Heap}{H:Hp}{b:Addr}{o:Obj}(e:h.get? b=some o)(n:H b=none):(l9 h H).get? b=some o:=
 PySem.W.hideAll_get _ e fun hm=>by
  have q:(H b).isSome=true:=(List.mem_filter.mp hm).2
  rw[n]at q;simp at q
def vR{h:Heap}{H:Hp}{b:Addr}{o:Obj}(e:(l9 h H).get? b=some o):h.get? b=some o/\H b=none:=by
 have e':h.get? b=some o:=PySem.W.of_hideAll (CQ h H) e
 refine⟨e',?_⟩
 cases q:H b with
 |none=>rfl
 |some x=>
  have hm:b∈CQ h H:=List.mem_filter.mpr ⟨List.mem_range.mpr (Heap.lt_size e'),by simp[q]⟩
  have z:(l9 h H).get? b=none:=PySem.W.hideAll_none (CQ h H) hm
  rw[z]at e;cases e
structure Mod (K:Vo) (mg:Vr) (base:Heap):Prop where
 Kv:K.In base
 glob:base.Ns mainGlobals mg
 blt:∃mb,base.Ns builtinsNs mb/\∀x:Str,x ≠ "__name__"->mb x=bootBuiltins x
 nolimit:base.NoLimit
structure Cx where
 prog:Program
 w:World
 K:Vo
 mg:Vr
 base:Heap
 A:Around
 N:List Str
 s₀:Shared
 H₀:Hp
 env:Env
 outer:List Env
 stack:List Env
 ex:List Addr
 fn:Str->Bool
 calm:Bool
 pn:Va
 xe:Value->Shared->Prop
noncomputable def frs(l:List Env):List Addr:=l.filterMap (·.frame)
noncomputable abbrev Cx.fs(X:Cx):List Addr:=frs X.outer
def CS(sc:Scope)(x:Str):Prop:=sc.names.lookup x=some .local\/sc.names.lookup x=some .cell\/sc.names.lookup x=some .free
def xT(sc:Scope)(x:Str):Prop:=sc.names.lookup x=some .local\/sc.names.lookup x=some .cell
def Dc(env:Env)(h:Heap)(m:Vr)(x:Str)(u:Value):Prop:=
 (env.kindOf x=some .local/\m x=some u)\/((env.kindOf x=some .cell\/env.kindOf x=some .free)/\∃c,env.cells.lookup x=some c/\h.IsCell c (some u))
structure Cx.Ok (X:Cx):Prop where
 mod:Mod X.K X.mg X.base
 kind:X.env.scope.kind = .function
 glob:X.env.globals=mainGlobals
 blt:X.env.builtins=builtinsNs
 above:X.s₀.heap.objs.size<=X.env.locals
 inj:∀x y c,X.env.cells.lookup x=some c->X.env.cells.lookup y=some c->x=y
 has:∀x,(X.env.kindOf x=some .cell\/X.env.kindOf x=some .free)->∃c,X.env.cells.lookup x=some c
 Kn:∀x c,X.fn x=true->X.env.cells.lookup x=some c->X.s₀.heap.objs.size<=c
 hd:X.calm=true->X.A.handled=none
 frames:X.A.frames=some X.stack
 stk:X.stack=X.outer\/(X.stack=X.env::X.outer/\X.env.frame=some X.env.locals)
 Lx:∀b∈X.ex,b≠X.env.locals/\∀x c,X.env.cells.lookup x=some c->c≠b
 bs:∀b o,X.base.get? b=some o->X.s₀.heap.get? b=some o/\X.H₀ b=none
 Jm:X.base.objs.size<=X.s₀.heap.objs.size
 IN:∀b o,X.base.get? b=some o->b ∉ X.ex
 Ja:∀b∈X.ex,b ∉ X.fs
 G5:X.s₀.heap.FunFrames X.base X.outer
 JG:∀b∈X.fs,X.H₀ b=none
structure Inv (X:Cx) (pins:Va) (σ:List (Option V)) (H:Hp) (s:Shared):Prop where
 ok:X.Ok
 os:s.os=X.s₀.os
 bare:AllBare s.gens
 base:Un X.fs X.ex X.H₀ H X.s₀.heap s.heap
 loc:∃m,s.heap.Ns X.env.locals m/\∀(i:Nat) (x:Str) (v:V),X.N[i]?=some x->σ[i]?=some (some v)->CS X.env.scope x->∃u,RelV v u/\Dc X.env s.heap m x u
 cell:∀x c,X.env.cells.lookup x=some c->∃v,s.heap.IsCell c v
 free:H X.env.locals=none
 Gy:∀x c,X.env.cells.lookup x=some c->H c=none
 pin:∀p∈X.pn++pins,s.heap.get? p.1=some p.2/\H p.1=none/\p.1≠X.env.locals/\p.1 ∉ X.fs/\∀v,p.2.data ≠ .cell v
 hok:GN X.prog X.w H s.heap
 len:σ.length=X.N.length
section
variable {X:Cx} {pins:Va} {σ:List (Option V)} {H H':Hp} {s:Shared} {h':Heap}
def Cx.Ok.Ly(ok:X.Ok){b:Addr}{o:Obj}(e:X.base.get? b=some o):b ∉ X.fs:=fun hb=>by
 have:=(ok.G5.mem hb).1
 rw[e]at this;cases this
theorem Inv.bs(I:Inv X pins σ H s):∀b o,X.base.get? b=some o->s.heap.get? b=some o/\H b=none:=fun b o e=>
 ⟨I.base.keep b o (I.ok.bs b o e).1 (I.ok.bs b o e).2 (I.ok.Ly e) (I.ok.IN b o e),I.base.free b o (I.ok.bs b o e).1 (I.ok.bs b o e).2 (I.ok.IN b o e)⟩
def Inv.bk(I:Inv X pins σ H s):∀b o,X.base.get? b=some o->s.heap.get? b=some o:=fun b o e=>(I.bs b o e).1
theorem Inv.mod(I:Inv X pins σ H s):Mod X.K X.mg X.base:=I.ok.mod
def Inv.Ix(I:Inv X pins σ H s):X.K.In s.heap:=I.ok.mod.Kv.keeps I.bk
theorem Inv.lt(I:Inv X pins σ H s):X.env.locals < s.heap.objs.size:=let ⟨_,hn,_⟩:=I.loc;hn.lt
def Inv.sz(I:Inv X pins σ H s):X.s₀.heap.objs.size<=s.heap.objs.size:=Nat.le_trans I.ok.above (Nat.le_of_lt I.lt)
def Inv.Kw(I:Inv X pins σ H s){a:Addr}(h:s.heap.objs.size<=a):a ∉ X.fs:=fun hb=>by
 obtain⟨_,o,ho,_⟩:=I.ok.G5.mem hb
 exact absurd (Nat.lt_of_lt_of_le (Heap.lt_size ho) (Nat.le_trans I.sz h)) (Nat.lt_irrefl _)
def Inv.JS(I:Inv X pins σ H s):∀x c,X.env.cells.lookup x=some c->c≠X.env.locals:=fun x c e z=>by
 obtain⟨v,o,ho,hd⟩:=I.cell x c e
 obtain⟨m,⟨o',es,ep,ho',hd',_⟩,_⟩:=I.loc
 rw[z,ho']at ho;cases ho;rw[hd']at hd;cases hd
theorem Inv.G5(I:Inv X pins σ H s):s.heap.FunFrames X.base X.outer:=by
 have all:∀(l:List Env),(∀b∈frs l,b∈X.fs)->X.s₀.heap.FunFrames X.base l->s.heap.FunFrames X.base l:=by
  intro l
  induction l with
  |nil=>intro _ _;trivial
  |cons env r ih=>
   intro hs hl
   obtain⟨hk,⟨L,o,hf,hn,ho,hd⟩,hr⟩:=hl
   have hL:L∈X.fs:=hs L (by unfold frs;rw[List.filterMap_cons,hf];exact List.mem_cons_self)
   obtain⟨sl,e⟩:=I.base.slot L o ho (I.ok.JG L hL) hL fun z=>I.ok.Ja L z hL
   exact⟨hk,⟨L,_,hf,hn,e,hd⟩,ih (fun b hb=>hs b (by unfold frs;rw[List.filterMap_cons,hf];exact List.mem_cons_of_mem _ hb)) hr⟩
 exact all X.outer (fun _ hb=>hb) I.ok.G5
theorem Inv.stack(I:Inv X pins σ H s):s.heap.FunFrames X.base X.stack:=by
 rcases I.ok.stk with e|⟨e,hf⟩
 ·rw[e];exact I.G5
 ·rw[e]
  obtain⟨m,hn,_⟩:=I.loc
  refine .cons (by rw[I.ok.kind];decide) hf hn ?_ I.G5
  exact Heap.get?_none_of_le (Nat.le_trans I.ok.Jm I.ok.above)
def Inv.G6(I:Inv X pins σ H s):∀b∈frs X.stack,b∈X.env.locals::X.fs:=fun b hb=>by
 rcases I.ok.stk with e|⟨e,hf⟩
 ·rw[e]at hb;exact List.mem_cons_of_mem _ hb
 ·rw[e]at hb
  unfold frs at hb
  rw[List.filterMap_cons,hf]at hb
  exact hb
def Inv.II(I:Inv X pins σ H s):∀b∈frs X.stack,H b=none:=fun b hb=>by
 rcases List.mem_cons.mp (I.G6 b hb)with e|hb
 ·rw[e];exact I.free
 ·obtain⟨_,o,ho,_⟩:=I.ok.G5.mem hb
  exact I.base.free b o ho (I.ok.JG b hb) fun z=>I.ok.Ja b z hb
def Inv.step{g':Array GenState}{t':Nat}{d':Drawn}{ch:List Addr}(I:Inv X pins σ H s)
  (hch:∀b∈ch,(b∈X.ex\/X.s₀.heap.objs.size<=b)/\b≠X.env.locals/\(∀x c,X.env.cells.lookup x=some c->c≠b)/\∀p∈X.pn++pins,p.1≠b)
  (keep:∀b o,b≠X.env.locals->b ∉ X.fs->b ∉ ch->s.heap.get? b=some o->H b=none->h'.get? b=some o)
  (slot:∀b o,b≠X.env.locals->b∈X.fs->b ∉ ch->s.heap.get? b=some o->H b=none->∃sl,h'.get? b=some { o with slots:=sl }) (free:∀b o,b ∉ ch->s.heap.get? b=some o->H b=none->H' b=none)
  (there:∀b o,b ∉ ch->s.heap.get? b=some o->∃o',h'.get? b=some o')
  (tups:∀b xs,H b=some (.tup xs)->H' b=some (.tup xs)) (HM:∀b o u,H b=some (.frz o u)->H' b=some (.frz o u)) (Ij:∀b ps,H b=some (.JP ps)->∃more,H' b=some (.JP (ps++more)))
  (ns:∀m,s.heap.Ns X.env.locals m->h'.Ns X.env.locals m) (hok:GN X.prog X.w H' h') (hg:AllBare g') :
  Inv X pins σ H' { s with heap:=h',gens:=g',drawn:=d',toks:=t' }:=by
 have Mv:∀b o,X.s₀.heap.get? b=some o->b≠X.env.locals:=fun b o e=>Nat.ne_of_lt (Nat.lt_of_lt_of_le (Heap.lt_size e) I.ok.above)
 have K6:∀b o,X.s₀.heap.get? b=some o->b ∉ X.ex->b ∉ ch:=fun b o e hx hb=>by
  rcases(hch b hb).1 with z|z
  ·exact hx z
  ·exact absurd (Nat.lt_of_lt_of_le (Heap.lt_size e) z) (Nat.lt_irrefl _)
 have cellK:∀x c,X.env.cells.lookup x=some c->∀v,s.heap.IsCell c v->h'.IsCell c v:=fun x c e v ⟨o,ho,hd⟩=>by
  have Kx:c ∉ ch:=fun z=>(hch c z).2.2.1 x c e rfl
  by_cases hc:c∈X.fs
  ·obtain⟨sl,q⟩:=slot c o (I.JS x c e) hc Kx ho (I.Gy x c e)
   exact⟨_,q,hd⟩
  ·exact⟨o,keep c o (I.JS x c e) hc Kx ho (I.Gy x c e),hd⟩
 refine⟨I.ok,I.os,hg,⟨fun b o e n hb hx=>?_,fun b o e n hb hx=>?_,fun b o e n hx=>?_,fun b o e hx=>?_,fun b xs e=>tups b xs (I.base.tups b xs e),fun b o xs e=>HM b o xs (I.base.HM b o xs e),fun b ps e=>?_⟩,?_,fun x c e=>?_,?_,fun x c e=>?_,fun p hp=>?_,hok,I.len⟩
 ·exact keep b o (Mv b o e) hb (K6 b o e hx) (I.base.keep b o e n hb hx) (I.base.free b o e n hx)
 ·obtain⟨sl,e1⟩:=I.base.slot b o e n hb hx
  obtain⟨sl',e2⟩:=slot b _ (Mv b o e) hb (K6 b o e hx) e1 (I.base.free b o e n hx)
  exact⟨sl',e2⟩
 ·obtain⟨o',e1⟩:=I.base.there b o e hx
  exact free b o' (K6 b o e hx) e1 (I.base.free b o e n hx)
 ·obtain⟨o',e1⟩:=I.base.there b o e hx
  exact there b o' (K6 b o e hx) e1
 ·obtain⟨m1,e1⟩:=I.base.Ij b ps e
  obtain⟨m2,e2⟩:=Ij b _ e1
  exact⟨m1++m2,by rw[e2,Array.append_assoc]⟩
 ·obtain⟨m,hn,hl⟩:=I.loc
  refine⟨m,ns m hn,fun i x v e1 e2 e3=>?_⟩
  obtain⟨u,r,l⟩:=hl i x v e1 e2 e3
  refine⟨u,r,?_⟩
  rcases l with l|⟨k,c,e,z⟩
  ·exact .inl l
  ·exact .inr ⟨k,c,e,cellK x c e _ z⟩
 ·obtain⟨v,z⟩:=I.cell x c e
  exact⟨v,cellK x c e v z⟩
 ·obtain⟨m,⟨o,_,_,ho,_⟩,_⟩:=I.loc
  exact free _ o (fun z=>(hch _ z).2.1 rfl) ho I.free
 ·obtain⟨v,o,ho,hd⟩:=I.cell x c e
  exact free c o (fun z=>(hch c z).2.2.1 x c e rfl) ho (I.Gy x c e)
 ·obtain⟨e,n,ne,nf,d⟩:=I.pin p hp
  have Kx:p.1 ∉ ch:=fun z=>(hch p.1 z).2.2.2 p hp rfl
  exact⟨keep p.1 p.2 ne nf Kx e n,free p.1 p.2 Kx e n,ne,nf,d⟩
def Inv.un{t':Nat}(I:Inv X pins σ H s)(u:Un X.fs [] H H' s.heap h')(hok:GN X.prog X.w H' h'):Inv X pins σ H' { s with heap:=h',toks:=t' }:=by
 obtain⟨m,⟨o,es,ep,ho,r⟩,_⟩:=id I.loc
 obtain⟨sl,hL⟩:=u.any ho I.free (by simp)
 exact I.step (g':=s.gens) (d':=s.drawn) (ch:=[]) (fun _ z=>nomatch z) (fun b o _ hb _ e n=>u.keep b o e n hb (by simp)) (fun b o _ hb _ e n=>u.slot b o e n hb (by simp)) (fun b o _ e n=>u.free b o e n (by simp)) (fun b o _ e=>u.there b o e (by simp)) u.tups u.HM u.Ij (fun m' hm=>by
  obtain⟨o',es',Lz,ho',r'⟩:=hm
  rw[ho]at ho';cases ho'
  exact⟨_,es',Lz,hL,r'⟩) hok I.bare
def Inv.call{g':Array GenState}{t':Nat}{d':Drawn}{ch:List Addr}(I:Inv X pins σ H s)(u:Un (frs X.stack) ch H H' s.heap h')(hok:GN X.prog X.w H' h')(hg:AllBare g')
  (hch:∀b∈ch,(b∈X.ex\/X.s₀.heap.objs.size<=b)/\b≠X.env.locals/\(∀x c,X.env.cells.lookup x=some c->c≠b)/\∀p∈X.pn++pins,p.1≠b) :
  Inv X pins σ H' { s with heap:=h',gens:=g',drawn:=d',toks:=t' }:=by
 obtain⟨m,⟨o,es,ep,ho,r⟩,_⟩:=id I.loc
 obtain⟨sl,hL⟩:=u.any ho I.free fun z=>(hch _ z).2.1 rfl
 exact I.step (ch:=ch) hch (fun b o hL hb hc e n=>u.keep b o e n (fun z=>(List.mem_cons.mp (I.G6 b z)).elim hL hb) hc) (fun b o _ _ hc e n=>u.any e n hc) (fun b o hc e n=>u.free b o e n hc) (fun b o hc e=>u.there b o e hc) u.tups u.HM u.Ij (fun m' hm=>by
  obtain⟨o',es',Lz,ho',r'⟩:=hm
  rw[ho]at ho';cases ho'
  exact⟨_,es',Lz,hL,r'⟩) hok hg
def Inv.turned{t':Nat}{it:Addr}(I:Inv X pins σ H s)(k:∀b o,b≠it->s.heap.get? b=some o->h'.get? b=some o)(hn:H it=none)(hL:it≠X.env.locals)
  (h1:it∈X.ex\/X.s₀.heap.objs.size<=it) (h2:∀x c,X.env.cells.lookup x=some c->c≠it) (h3:∀p∈X.pn++pins,p.1≠it):Inv X pins σ H { s with heap:=h',toks:=t' }:=by
 have Ky:∀b u,H b=some u->b≠it:=fun b u e z=>by rw[z,hn]at e;cases e
 refine I.step (g':=s.gens) (d':=s.drawn) (ch:=[it]) (fun b hb=>?_) (fun b o _ _ hc e _=>k b o (fun z=>hc (by simp[z])) e) (fun b o _ _ hc e _=>⟨o.slots,k b o (fun z=>hc (by simp[z])) e⟩) (fun _ _ _ _ n=>n)
  (fun b o hc e=>⟨o,k b o (fun z=>hc (by simp[z])) e⟩) (fun _ _ e=>e) (fun _ _ _ e=>e) (fun b ps e=>⟨#[],by rw[e];simp⟩) (fun m hm=>?_) (fun b u e=>?_) I.bare
 ·have e:b=it:=by simpa using hb
  subst e
  exact⟨h1,hL,h2,h3⟩
 ·obtain⟨o,es,ep,ho,r⟩:=hm
  exact⟨o,es,ep,k _ o (Ne.symm hL) ho,r⟩
 ·refine(I.hok b u e).stay (fun c v hc q=>k c v ?_ q) (fun _ q=>q) fun _ _ q=>q
  rcases hc with z|z
  ·rw[z];exact Ky b u e
  ·exact Ky c _ z
def Inv.tok(I:Inv X pins σ H s)(t:Nat):Inv X pins σ H { s with toks:=t }:=I.un (h':=s.heap) (t':=t) Un.refl I.hok
theorem Inv.kept{t':Nat}(I:Inv X pins σ H s)(k:∀b u,s.heap.get? b=some u->h'.get? b=some u):Inv X pins σ H { s with heap:=h',toks:=t' }:=I.un (Un.kept k) (I.hok.kept k)
theorem Inv.laid{a:Addr}{o:HO}{t':Nat}(I:Inv X pins σ H s)(k:∀b u,s.heap.get? b=some u->h'.get? b=some u)(hp:s.heap.objs.size<=a)(new:Fu X.prog X.w (upd H a o) h' a o) :
  Inv X pins σ (upd H a o) { s with heap:=h',toks:=t' }:=I.un (Un.laid k hp (I.hok.fresh hp)) (I.hok.laid k hp new)
theorem Inv.write{x e:Addr}{o:HO}{t':Nat}(I:Inv X pins σ H s)(mu:A3 (H x))(he:e=x\/H e=some (.own x))(k:∀b u,b≠e->s.heap.get? b=some u->h'.get? b=some u)(Km:∃u,h'.get? e=some u)
  (new:Fu X.prog X.w (upd H x o) h' x o):Inv X pins σ (upd H x o) { s with heap:=h',toks:=t' }:=I.un (Un.write mu he k Km) (I.hok.write mu he k Km new)
def Inv.weak{σ':List (Option V)}(I:Inv X pins σ H s)(hl:σ'.length=σ.length)(w:∀(i:Nat) v,σ'[i]?=some (some v)->σ[i]?=some (some v)):Inv X pins σ' H s:=
 ⟨I.ok,I.os,I.bare,I.base,let ⟨m,hn,hl'⟩:=I.loc;⟨m,hn,fun i x v e1 e2 e3=>hl' i x v e1 (w i v e2) e3⟩,I.cell,I.free,I.Gy,I.pin,I.hok,hl.trans I.len⟩
def Inv.Hj{JH:Va}(I:Inv X pins σ H s)(h:∀p∈JH,s.heap.get? p.1=some p.2/\H p.1=none/\p.1≠X.env.locals/\p.1 ∉ X.fs/\∀v,p.2.data ≠ .cell v):Inv X JH σ H s:=
 ⟨I.ok,I.os,I.bare,I.base,I.loc,I.cell,I.free,I.Gy,fun p hp=>(List.mem_append.mp hp).elim (fun z=>I.pin p (List.mem_append_left _ z)) (h p),I.hok,I.len⟩
def ny{N:Vs}(hN:N.Nodup){i j:Nat}{x:Str}(a:N[i]?=some x)(b:N[j]?=some x):i=j:=by
 obtain⟨h1,e1⟩:=List.getElem?_eq_some_iff.mp a
 obtain⟨h2,e2⟩:=List.getElem?_eq_some_iff.mp b
 exact(List.getElem_inj hN).mp (e1.trans e2.symm)
def ly {M : Model} {A : Around} {E : Value -> Shared -> Prop} {i : Nat} {x : Str} {v : V} {u : Value} {Q : Unit -> Shared -> Prop} (I : Inv X pins σ H s) (hN : X.N.Nodup) (hi : X.N[i]? = some x) (hx : xT X.env.scope x) (r : RelV v u)
  (h : ∀ s', Inv X pins (σ.set i (some v)) H s' -> (∃ a, Heap.SameBut a s.heap s'.heap /\ (a = X.env.locals \/ X.env.cells.lookup x = some a)) -> Q () s') (hf : X.fn x = true \/ X.env.scope.names.lookup x = some .local := by first | exact .inl rfl | exact .inr rfl | assumption) : wpAny M A (storeName X.env x u) Q E s := by
 obtain ⟨m, hn, hl⟩ := id I.loc
 have hcls : (X.env.scope.kind == .class || (X.env.scope.kind == .module && X.env.locals != X.env.globals)) = false := by rw [I.ok.kind]; rfl
 have Mw : i < σ.length := by rw [I.len]; exact (List.getElem?_eq_some_iff.mp hi).1
 have JS := I.JS
 have tracked : ∀ {a : Addr} {h' : Heap}, (∃ o, s.heap.get? a = some o /\ H a = none) -> Heap.SameBut a s.heap h' -> GN X.prog X.w H h' := fun {a h'} ha hs b ob e => by
  obtain ⟨_, _, hfree⟩ := ha
  refine (I.hok b ob e).stay (fun c w' hc q => (hs.2 c ?_).trans q) (fun _ q => q) fun _ _ q => q
  rintro rfl
  rcases hc with rfl | hc
  ·rw [hfree] at e; cases e
  ·rw [hfree] at hc; cases hc
 rcases hx with hk | hk
 ·refine wpAny_storeName_local hk hn (fun h' hn' hs => ?_) hcls
  obtain ⟨oL, _, _, Na, _⟩ := id hn
  refine h _ ⟨I.ok, I.os, I.bare, ⟨fun b o e n hb hx => ?_, fun b o e n hb hx => ?_, I.base.free, fun b o e hx => ?_, I.base.tups, I.base.HM, I.base.Ij⟩, ⟨_, hn', fun j y v' e1 e2 e3 => ?_⟩, fun y c e => ?_, I.free, I.Gy, fun p hp => ?_, tracked ⟨oL, Na, I.free⟩ hs, by simpa using I.len⟩ ⟨_, hs, .inl rfl⟩
  ·exact (hs.2 b (Nat.ne_of_lt (Nat.lt_of_lt_of_le (Heap.lt_size e) I.ok.above))).trans (I.base.keep b o e n hb hx)
  ·obtain ⟨sl, e1⟩ := I.base.slot b o e n hb hx
   exact ⟨sl, (hs.2 b (Nat.ne_of_lt (Nat.lt_of_lt_of_le (Heap.lt_size e) I.ok.above))).trans e1⟩
  ·obtain ⟨o', e1⟩ := I.base.there b o e hx
   exact ⟨o', (hs.2 b (Nat.ne_of_lt (Nat.lt_of_lt_of_le (Heap.lt_size e) I.ok.above))).trans e1⟩
  ·by_cases hj : j = i
   ·subst hj
    rw [hi] at e1; cases e1
    rw [List.getElem?_set_self Mw] at e2
    cases e2
    exact ⟨u, r, .inl ⟨hk, by simp⟩⟩
   ·rw [List.getElem?_set_ne (Ne.symm hj)] at e2
    obtain ⟨u', r', q⟩ := hl j y v' e1 e2 e3
    refine ⟨u', r', ?_⟩
    rcases q with ⟨k, e⟩ | ⟨k, c, e, z⟩
    ·refine .inl ⟨k, ?_⟩
     have : y ≠ x := fun e => hj (ny hN e1 (e ▸ hi))
     simp [this, e]
    ·exact .inr ⟨k, c, e, z.sameBut hs (JS y c e)⟩
  ·obtain ⟨w', z⟩ := I.cell y c e
   exact ⟨w', z.sameBut hs (JS y c e)⟩
  ·obtain ⟨e, n, ne, nf, d⟩ := I.pin p hp
   exact ⟨(hs.2 p.1 ne).trans e, n, ne, nf, d⟩
 ·have hfn : X.fn x = true := by
   rcases hf with z | z
   ·exact z
   ·rw [z] at hk; cases hk
  obtain ⟨c, hc⟩ := I.ok.has x (.inl hk)
  obtain ⟨w', z⟩ := I.cell x c hc
  refine wpAny_storeName_cell I.ok.kind hk hc z (fun h' hc' hs => ?_)
  obtain ⟨oc, hoc, LB⟩ := id z
  refine h { s with heap := h' } ⟨I.ok, I.os, I.bare, ⟨fun b o e n hb hx => ?_, fun b o e n hb hx => ?_, I.base.free, fun b o e hx => ?_, I.base.tups, I.base.HM, I.base.Ij⟩, ⟨m, hn.sameBut hs (Ne.symm (JS x c hc)), fun j y v' e1 e2 e3 => ?_⟩, fun y c' e => ?_, I.free, I.Gy, fun p hp => ?_, tracked ⟨oc, hoc, I.Gy x c hc⟩ hs, by simpa using I.len⟩ ⟨c, hs, .inr hc⟩
  ·exact (hs.2 b (Nat.ne_of_lt (Nat.lt_of_lt_of_le (Heap.lt_size e) (I.ok.Kn x c hfn hc)))).trans (I.base.keep b o e n hb hx)
  ·obtain ⟨sl, e1⟩ := I.base.slot b o e n hb hx
   exact ⟨sl, (hs.2 b (Nat.ne_of_lt (Nat.lt_of_lt_of_le (Heap.lt_size e) (I.ok.Kn x c hfn hc)))).trans e1⟩
  ·obtain ⟨o', e1⟩ := I.base.there b o e hx
   exact ⟨o', (hs.2 b (Nat.ne_of_lt (Nat.lt_of_lt_of_le (Heap.lt_size e) (I.ok.Kn x c hfn hc)))).trans e1⟩
  ·by_cases hj : j = i
   ·subst hj
    rw [hi] at e1; cases e1
    rw [List.getElem?_set_self Mw] at e2
    cases e2
    exact ⟨u, r, .inr ⟨.inl hk, c, hc, hc'⟩⟩
   ·rw [List.getElem?_set_ne (Ne.symm hj)] at e2
    obtain ⟨u', r', q⟩ := hl j y v' e1 e2 e3
    refine ⟨u', r', ?_⟩
    rcases q with q | ⟨k, c', e, z'⟩
    ·exact .inl q
    ·refine .inr ⟨k, c', e, z'.sameBut hs ?_⟩
     rintro rfl
     exact hj (ny hN e1 (I.ok.inj _ _ _ e hc ▸ hi))
  ·by_cases hcc : c' = c
   ·subst hcc; exact ⟨_, hc'⟩
   ·obtain ⟨w2, z2⟩ := I.cell y c' e
    exact ⟨w2, z2.sameBut hs hcc⟩
  ·obtain ⟨e, n, ne, nf, d⟩ := I.pin p hp
   refine ⟨(hs.2 p.1 ?_).trans e, n, ne, nf, d⟩
   intro q
   rw [q, hoc] at e
   have q' : oc = p.2 := Option.some.inj e
   exact d w' (by rw [<- q']; exact LB)
def iF{M:Model}{A:Around}{E:Vq}{i:Nat}{x:Str}{v:V}{u:Value}{Q:Unit->Shared->Prop}(I:Inv X pins σ H s)(hN:X.N.Nodup)(hi:X.N[i]?=some x)(hx:xT X.env.scope x)(r:RelV v u)
  (h:∀s',Inv X pins (σ.set i (some v)) H s'->Q () s') (hf:X.fn x=true\/X.env.scope.names.lookup x=some .local:=by first|exact .inl rfl|exact .inr rfl|assumption):wpAny M A (storeName X.env x u) Q E s:=
 ly I hN hi hx r (fun s' I' _=>h s' I') hf
def Inv.Kz{s':Shared}{ch:List Addr}(I:Inv X pins σ H s)(ho:s'.os=s.os)(u:Un (frs X.stack) ch H H' s.heap s'.heap)(hok:GN X.prog X.w H' s'.heap)(hg:AllBare s'.gens)
  (hch:∀b∈ch,(b∈X.ex\/X.s₀.heap.objs.size<=b)/\b≠X.env.locals/\(∀x c,X.env.cells.lookup x=some c->c≠b)/\∀p∈X.pn++pins,p.1≠b):Inv X pins σ H' s':=by
 obtain⟨h',g',d',t',o'⟩:=s'
 have e:o'=s.os:=ho
 subst e
 exact I.call (g':=g') (t':=t') (d':=d') u hok hg hch
end
abbrev XK:=Value->Option Addr->Hp->Prop
abbrev St:=List (Option V)
abbrev VK:=V->Hp->Prop
abbrev TE:=St->Hp->VK->Prop
abbrev TT:=St->Hp->(Bool->Hp->Prop)->Prop
abbrev TA:=St->Hp->(List V->Hp->Prop)->Prop
structure l_ where
 nx:St->Hp->Prop
 rt:VK
 bk:St->Hp->Prop:=fun _ _=>False
 ct:St->Hp->Prop:=fun _ _=>False
abbrev TS:=l_->St->Hp->Prop
def EP(X:Cx)(pins:Va)(σ:St)(Q:VK)(u:Value)(s':Shared):Prop:=∃v H',Inv X pins σ H' s'/\RelV v u/\Q v H'
def TP(X:Cx)(pins:Va)(σ:St)(Q:Bool->Hp->Prop)(b:Bool)(s':Shared):Prop:=∃H',Inv X pins σ H' s'/\Q b H'
def AP(X:Cx)(pins:Va)(σ:St)(Q:List V->Hp->Prop)(us:Vv)(s':Shared):Prop:=∃vs H',Inv X pins σ H' s'/\Vals vs us/\Q vs H'
def SP(X:Cx)(pins:Va)(D:l_)(f:Flow)(s':Shared):Prop:=
 match f with
 | .next=>∃σ' H',Inv X pins σ' H' s'/\D.nx σ' H'
 | .brk=>∃σ' H',Inv X pins σ' H' s'/\D.bk σ' H'
 | .cont=>∃σ' H',Inv X pins σ' H' s'/\D.ct σ' H'
 | .ret u=>∃v σ' H',Inv X pins σ' H' s'/\RelV v u/\D.rt v H'
def PE(X:Cx)(e:Expr)(t:TE):Prop:=
 ∀(pins:Va) (s:Shared) (σ:St) (H:Hp) (Q:VK),Inv X pins σ H s->t σ H Q->wpAny (model X.prog X.w) X.A (eval e X.env) (EP X pins σ Q) X.xe s
def PT(X:Cx)(e:Expr)(t:TT):Prop:=
 ∀(pins:Va) (s:Shared) (σ:St) (H:Hp) (Q:Bool->Hp->Prop),Inv X pins σ H s->t σ H Q->wpAny (model X.prog X.w) X.A (isTrue e X.env (eval e X.env)) (TP X pins σ Q) X.xe s
def PW(X:Cx)(e:Expr)(t:TT):Prop:=
 ∀(whole:Sem Value) (pins:Va) (s:Shared) (σ:St) (H:Hp) (Q:Bool->Hp->Prop),Inv X pins σ H s->t σ H Q->wpAny (model X.prog X.w) X.A (isTrue e X.env whole) (TP X pins σ Q) X.xe s
def PW.pt{X:Cx}{e:Expr}{t:TT}(h:PW X e t):PT X e t:=h _
def PA(X:Cx)(es:List Expr)(t:TA):Prop:=
 ∀(pos:Pos) (pins:Va) (s:Shared) (σ:St) (H:Hp) (Q:List V->Hp->Prop),Inv X pins σ H s->t σ H Q->wpAny (model X.prog X.w) X.A (spliced (backTo pos (starEach es X.env))) (AP X pins σ Q) X.xe s
def PS(X:Cx)(st:Stmt)(t:TS):Prop:=
 ∀(pins:Va) (s:Shared) (σ:St) (H:Hp) (D:l_),Inv X pins σ H s->t D σ H->wpAny (model X.prog X.w) X.A (exec st X.env) (SP X pins D) X.xe s
def Iy(X:Cx)(st:List Stmt)(t:TS):Prop:=
 ∀(pins:Va) (s:Shared) (σ:St) (H:Hp) (D:l_),Inv X pins σ H s->t D σ H->wpAny (model X.prog X.w) X.A (execs st X.env) (SP X pins D) X.xe s
def bC{α:Type}{t:Sem α}{Q Q':α->Shared->Prop}{M:Model}{A:Around}{E:Vq}{s:Shared}(h:wpAny M A t Q E s)(hQ:∀a s,Q a s->Q' a s):wpAny M A t Q' E s:=wpAny_mono h hQ fun _ _ x=>x
section
variable {X:Cx}
def Dd(i:Nat):TE:=fun σ H Q=>∃v,σ[i]?=some (some v)/\Q v H
def tC(v:V):TE:=fun _ H Q=>Q v H
def yJ{i:Nat}{x:Str}{pos:Pos}(hN:X.N[i]?=some x)(hv:CS X.env.scope x)(hd:(x == ("__debug__":Str))=false:=by decide)(hcd:(x == ("__classdict__":Str))=false:=by decide):PE X (.Name x pos) (Dd i):=by
 intro pins s σ H Q I h
 obtain⟨v,e,h⟩:=h
 obtain⟨m,hn,hl⟩:=I.loc
 obtain⟨u,r,l⟩:=hl i x v hN e hv
 have fin:EP X pins σ Q u s:=⟨v,H,I,r,h⟩
 rcases l with⟨hk,hm⟩|⟨hk,c,hc,hcell⟩
 ·exact wpAny_Name (wpAny_loadName_local I.ok.kind hk hn hm fin) hd
 ·rcases hk with hk|hk
  ·exact wpAny_Name (wpAny_loadName_cell I.ok.kind hk hc hcell fin) hd
  ·exact wpAny_Name (wpAny_loadName_free I.ok.kind hk hc hcell fin hcd) hd
def yK{i j pos}:PE X (.Constant (.int i) j pos) (tC (.int i)):=fun _ _ _ H _ I h=>wpAny_Constant_int ⟨.int i,H,I.tok _,⟨_,rfl⟩,h⟩
def A4{b j pos}:PE X (.Constant (.bool b) j pos) (tC (.bl b)):=fun _ _ _ H _ I h=>Constant_bool ⟨.bl b,H,I,rfl,h⟩
def yL{j pos}:PE X (.Constant .none j pos) (tC .non):=fun _ _ _ H _ I h=>Constant_none ⟨.non,H,I,rfl,h⟩
def yM{x j pos}:PE X (.Constant (.str x) j pos) (tC (.str x)):=fun _ _ _ H _ I h=>Calls.Constant_str ⟨.str x,H,I.tok _,⟨_,rfl⟩,h⟩
def Gl(X:Cx)(x:Str):Prop:=X.env.kindOf x=some .globalImplicit
def qq{E:Vq}{pins:Va}{s:Shared}{σ:St}{H:Hp}{x:Str}{u:Value}{pos:Pos}{Q:Vq}(I:Inv X pins σ H s)(hg:Gl X x)(hm:X.mg x=some u)(h:Q u s)
  (hd:(x == ("__debug__":Str))=false:=by decide):wpAny (model X.prog X.w) X.A (eval (.Name x pos) X.env) Q E s:=
 Calls.Name_function_global I.ok.kind hg (Calls.loadGlobal_global (by rw[I.ok.glob];exact I.mod.glob.keeps I.bk) hm h) hd
def dS{E:Vq}{pins:Va}{s:Shared}{σ:St}{H:Hp}{x:Str}{u:Value}{pos:Pos}{Q:Vq}(I:Inv X pins σ H s)(hg:Gl X x)(hm:X.mg x=none)(hv:bootBuiltins x=some u)(h:Q u s)
  (hn:x ≠ "__name__":=by decide) (hd:(x == ("__debug__":Str))=false:=by decide):wpAny (model X.prog X.w) X.A (eval (.Name x pos) X.env) Q E s:=by
 obtain⟨mb,h1,h2⟩:=I.mod.blt
 exact Calls.Name_function_global I.ok.kind hg (Calls.loadGlobal_builtin (by rw[I.ok.glob];exact I.mod.glob.keeps I.bk) hm (by rw[I.ok.blt];exact h1.keeps I.bk) ((h2 x hn).trans hv) h) hd
def vS{x:Str}{v:V}{u:Value}{pos:Pos}(hg:Gl X x)(hm:X.mg x=none)(hv:bootBuiltins x=some u)(r:RelV v u)(hn:x ≠ "__name__":=by decide)(hd:(x == ("__debug__":Str))=false:=by decide):PE X (.Name x pos) (tC v):=
 fun _ _ _ H _ I h=>dS I hg hm hv ⟨v,H,I,r,h⟩ hn hd
variable {a b:Expr} {ta tb:TE} {pos:Pos}
def tB(t:TE):TT:=fun σ H Q=>t σ H fun x H1=>∃c,x = .bl c/\Q c H1
def yN{e:Expr}{t:TE}(h:PE X e t)(he:∀whole,isTrue e X.env whole=(do let v <-whole;standAt e.pos;holding [v] (truthy v)):=by intro _;rfl):PT X e (tB t):=by
 intro pins s σ H Q I hw
 refine isTrue_plain (bC (h pins s σ H _ I hw) fun v s1 ⟨x,H1,I1,r1,q1⟩=>?_) (he _)
 obtain⟨d,rfl,q⟩:=q1
 cases r1
 exact wpAny_truthy_bool ⟨H1,I1,q⟩
variable {tA K7:TT} {rest:List Expr}
def De(t u:TT):TT:=fun σ H Q=>t σ H fun c H1=>if c=true then u σ H1 Q else Q false H1
def EI(t u:TT):TT:=fun σ H Q=>t σ H fun c H1=>if c=true then Q true H1 else u σ H1 Q
def Df(t:TT):TT:=fun σ H Q=>t σ H fun c H1=>Q (!c) H1
def vT(ha:PT X a tA):PW X (.BoolOp .And [a] pos) tA:=by
 intro wh pins s σ H Q I h
 refine isTrue_and (bC (ha pins s σ H Q I h) fun c s1 e=>?_)
 cases c with
 |true=>exact isTrue_and_nil e
 |false=>exact e
def yO(ha:PT X a tA):PW X (.BoolOp .Or [a] pos) tA:=by
 intro wh pins s σ H Q I h
 refine isTrue_or (bC (ha pins s σ H Q I h) fun c s1 e=>?_)
 cases c with
 |false=>exact isTrue_or_nil e
 |true=>exact e
def yP(ha:PT X a tA)(hb:PW X (.BoolOp .And (b::rest) pos) K7):PW X (.BoolOp .And (a::b::rest) pos) (De tA K7):=by
 intro wh pins s σ H Q I h
 refine isTrue_and (bC (ha pins s σ H _ I h) fun c s1 ⟨H1,I1,q1⟩=>?_)
 cases c with
 |true=>exact hb wh pins s1 σ H1 Q I1 q1
 |false=>exact⟨H1,I1,q1⟩
def A5(ha:PT X a tA)(hb:PW X (.BoolOp .Or (b::rest) pos) K7):PW X (.BoolOp .Or (a::b::rest) pos) (EI tA K7):=by
 intro wh pins s σ H Q I h
 refine isTrue_or (bC (ha pins s σ H _ I h) fun c s1 ⟨H1,I1,q1⟩=>?_)
 cases c with
 |true=>exact⟨H1,I1,q1⟩
 |false=>exact hb wh pins s1 σ H1 Q I1 q1
def yQ(ha:PT X a tA):PT X (.UnaryOp .Not a pos) (Df tA):=by
 intro pins s σ H Q I h
 exact isTrue_not (ha pins s σ H (fun c H1=>Q (!c) H1) I h)
def A6(ta tb:TE):TE:=fun σ H Q=>ta σ H fun x H1=>∃c,x = .bl c/\if c=true then tb σ H1 Q else Q (.bl false) H1
def A7(ta:TE):TE:=fun σ H Q=>ta σ H fun x H1=>∃c,x = .bl c/\Q (.bl (!c)) H1
def yR{op}{t:TE}(h:PE X a t):PE X (.BoolOp op [a] pos) t:=fun pins s σ H Q I hw=>BoolOp_one (h pins s σ H Q I hw)
def yS(ha:PE X a ta)(hb:PE X (.BoolOp .And (b::rest) pos) tb):PE X (.BoolOp .And (a::b::rest) pos) (A6 ta tb):=by
 intro pins s σ H Q I h
 refine BoolOp_and (bC (ha pins s σ H _ I h) fun v s1 ⟨x,H1,I1,r1,q1⟩=>?_)
 obtain⟨c,rfl,q1⟩:=q1
 cases r1
 refine wpAny_truthy_bool ?_
 cases c with
 |true=>exact hb pins s1 σ H1 Q I1 q1
 |false=>exact⟨.bl false,H1,I1,rfl,q1⟩
def yT(ha:PE X a ta):PE X (.UnaryOp .Not a pos) (A7 ta):=by
 intro pins s σ H Q I h
 refine UnaryOp_ (bC (ha pins s σ H _ I h) fun v s1 ⟨x,H1,I1,r1,q1⟩=>?_)
 obtain⟨c,rfl,q1⟩:=q1
 cases r1
 exact not_of (wpAny_truthy_bool ⟨.bl (!c),H1,I1,rfl,q1⟩)
def EJ(t:TT)(ta tb:TE):TE:=fun σ H Q=>t σ H fun c H1=>if c=true then ta σ H1 Q else tb σ H1 Q
def sX{c:Expr}(hc:PT X c tA)(ha:PE X a ta)(hb:PE X b tb):PE X (.IfExp c a b pos) (EJ tA ta tb):=by
 intro pins s σ H Q I h
 refine wpAny_IfExp (bC (hc pins s σ H _ I h) fun d s1 ⟨H1,I1,q1⟩=>?_)
 cases d with
 |true=>exact ha pins s1 σ H1 Q I1 q1
 |false=>exact hb pins s1 σ H1 Q I1 q1
end
def SqL(K:Vo)(H:Hp)(a:Addr)(xs:List V):Prop:=
 Rd H a (.lst xs) \/
  ∃(o:Obj) (its:Vw) (n:Nat),K.lookup a=some o/\o.cls = .type "list"/\o.dict=none/\o.data = .seq its n/\its.size<=sizeLine/\Vals xs its.toList
def SqT(K:Vo)(H:Hp)(a:Addr)(xs:List V):Prop:=
 Rd H a (.tup xs) \/
  ∃(o:Obj) (its:Vw) (n:Nat),K.lookup a=some o/\o.cls = .type "tuple"/\o.dict=none/\o.data = .seq its n/\its.size<=sizeLine/\Vals xs its.toList
noncomputable def Dg:Value->Option V
 | .none=>some .non
 | .bool b=>some (.bl b)
 | .int i _=>some (.int i)
 | .str x _=>some (.str x)
 | .bytes b _=>some (.IZ b)
 | .float b _=>some (.K5 b)
 | .ref a=>some (.ref a)
 | .type n=>some (.ty n)
 |_=>none
def RelV.abs{x:V}{u:Value}(r:RelV x u):Dg u=some x:=by
 cases x with
 |non=>cases r;rfl
 |bl _=>cases r;rfl
 |int _=>obtain⟨t,rfl⟩:=r;rfl
 |str _=>obtain⟨t,rfl⟩:=r;rfl
 |IZ _=>obtain⟨t,rfl⟩:=r;rfl
 |K5 _=>obtain⟨t,rfl⟩:=r;rfl
 |ref _=>cases r;rfl
 |ty _=>cases r;rfl
theorem RelV.inj{x y:V}{u:Value}(r:RelV x u)(q:RelV y u):x=y:=Option.some.inj (r.abs.symm.trans q.abs)
theorem Vals.inj:∀{xs ys:List V} {us:Vv},Vals xs us->Vals ys us->xs=ys
 |_,_,_,.nil,.nil=>rfl
 |_,_,_,.cons r t,.cons r' t'=>by rw[r.inj r',Vals.inj t t']
section
variable {X:Cx} {pins:Va} {σ:St} {H:Hp} {s:Shared} {a:Addr} {xs ys:List V}
def SqL.of{K:Vo}(h:H a=some (.lst xs)):SqL K H a xs:=.inl (.inl h)
def SqT.of{K:Vo}(h:H a=some (.tup xs)):SqT K H a xs:=.inl (.inl h)
def Inv.list(I:Inv X pins σ H s)(h:SqL X.K H a xs):∃its:List Value,Vals xs its/\PlainL s.heap a its.toArray/\xs.length<=sizeLine:=by
 rcases h with h|⟨o,its,n,hk,hc,hd,hs,hz,r⟩
 ·obtain⟨z,its,n,r,e⟩:=h.ok I.hok
  exact⟨its,r,⟨_,n,e,rfl,rfl,rfl⟩,z⟩
 ·refine⟨its.toList,r,⟨o,n,I.Ix a o hk,hc,hd,by simpa using hs⟩,?_⟩
  have e:=r.length
  simp only[Array.length_toList]at e
  omega
def Inv.tuple(I:Inv X pins σ H s)(h:SqT X.K H a xs):∃its:List Value,Vals xs its/\IsTup s.heap a its.toArray/\xs.length<=sizeLine:=by
 rcases h with h|⟨o,its,n,hk,hc,_,hs,hz,r⟩
 ·obtain⟨z,its,r,p⟩:=h.ok I.hok
  exact⟨its,r,p.tup,z⟩
 ·refine⟨its.toList,r,⟨o,I.Ix a o hk,hc,n,by simpa using hs⟩,?_⟩
  have e:=r.length
  simp only[Array.length_toList]at e
  omega
def Inv.Hl(I:Inv X pins σ H s)(h:SqL X.K H a xs)(h':SqL X.K H a ys):xs=ys:=by
 obtain⟨its,r,⟨o,n,e,_,_,d⟩,_⟩:=I.list h
 obtain⟨its',r',⟨o',n',e',_,_,d'⟩,_⟩:=I.list h'
 rw[e]at e';cases e'
 rw[d]at d'
 injection d' with d1 _
 have:its=its':=by simpa using congrArg Array.toList d1
 subst this
 exact r.inj r'
def Inv.G7(I:Inv X pins σ H s)(h:SqT X.K H a xs)(h':SqT X.K H a ys):xs=ys:=by
 obtain⟨its,r,⟨o,e,_,n,d⟩,_⟩:=I.tuple h
 obtain⟨its',r',⟨o',e',_,n',d'⟩,_⟩:=I.tuple h'
 rw[e]at e';cases e'
 rw[d]at d'
 injection d' with d1 _
 have:its=its':=by simpa using congrArg Array.toList d1
 subst this
 exact r.inj r'
end
noncomputable abbrev Cx.wish(X:Cx)(E:Vq):Cx:={ X with xe:=E }
noncomputable abbrev Cx.KA(X:Cx):Cx:=X.wish fun _ _=>False
theorem Cx.Ok.wish{X:Cx}(ok:X.Ok)(E:Vq):(X.wish E).Ok:=
 ⟨ok.mod,ok.kind,ok.glob,ok.blt,ok.above,ok.inj,ok.has,ok.Kn,ok.hd,ok.frames,ok.stk,ok.Lx,ok.bs,ok.Jm,ok.IN,ok.Ja,ok.G5,ok.JG⟩
def Cx.Ok.Gz{X:Cx}{E:Vq}(ok:(X.wish E).Ok):X.Ok:=
 ⟨ok.mod,ok.kind,ok.glob,ok.blt,ok.above,ok.inj,ok.has,ok.Kn,ok.hd,ok.frames,ok.stk,ok.Lx,ok.bs,ok.Jm,ok.IN,ok.Ja,ok.G5,ok.JG⟩
section
variable {X:Cx} {pins:Va} {σ:St} {H:Hp} {s:Shared} {E:Vq}
theorem Inv.wish(I:Inv X pins σ H s)(E:Vq):Inv (X.wish E) pins σ H s:=⟨I.ok.wish E,I.os,I.bare,I.base,I.loc,I.cell,I.free,I.Gy,I.pin,I.hok,I.len⟩
theorem Inv.Gz(I:Inv (X.wish E) pins σ H s):Inv X pins σ H s:=⟨I.ok.Gz,I.os,I.bare,I.base,I.loc,I.cell,I.free,I.Gy,I.pin,I.hok,I.len⟩
theorem SP.Gz{D:l_}{f:Flow}{s':Shared}(h:SP (X.wish E) pins D f s'):SP X pins D f s':=by
 cases f with
 |next=>obtain⟨σ',H',I,q⟩:=h;exact⟨σ',H',I.Gz,q⟩
 |brk=>obtain⟨σ',H',I,q⟩:=h;exact⟨σ',H',I.Gz,q⟩
 |cont=>obtain⟨σ',H',I,q⟩:=h;exact⟨σ',H',I.Gz,q⟩
 |ret u=>obtain⟨v,σ',H',I,r,q⟩:=h;exact⟨v,σ',H',I.Gz,r,q⟩
theorem Iy.KA{st:List Stmt}{t:TS}(h:Iy X.KA st t):Iy X st t:=fun pins s σ H D I hw=>
 wpAny_mono (h pins s σ H D (I.wish _) hw) (fun _ _ q=>q.Gz) fun _ _ z=>False.elim z
end
section
variable {X:Cx} {st:Stmt} {rest:List Stmt} {t u:TS} {e:Expr} {te:TE} {pos:Pos}
def A8:TS:=fun D σ H=>D.nx σ H
def Dh(t u:TS):TS:=fun D σ H=>t { D with nx:=u D } σ H
def vU:Iy X [] A8:=fun _ _ σ H _ I h=>wpAny_execs_nil ⟨σ,H,I,h⟩
def sY(h1:PS X st t)(h2:Iy X rest u):Iy X (st::rest) (Dh t u):=by
 intro pins s σ H D I h
 refine wpAny_execs_cons (bC (h1 pins s σ H { D with nx:=u D } I h) fun f s1 q=>?_)
 cases f with
 |next=>
  obtain⟨σ',H',I',q⟩:=q
  exact h2 pins s1 σ' H' D I' q
 |ret v=>exact q
 |brk=>exact q
 |cont=>exact q
def vV(h1:PS X st t):Iy X [st] t:=by
 intro pins s σ H D I h
 refine wpAny_execs_cons (bC (h1 pins s σ H D I h) fun f s1 q=>?_)
 cases f with
 |next=>exact wpAny_execs_nil q
 |ret v=>exact q
 |brk=>exact q
 |cont=>exact q
def Inv.quiet{pins:Va}{σ:St}{H:Hp}{s:Shared}(I:Inv X pins σ H s):interactive X.env=false:=by simp[interactive,I.ok.kind]
def A9(te:TE):TS:=fun D σ H=>te σ H fun _ H1=>D.nx σ H1
def vW(he:PE X e te)(hs:swapsWith e none pos.line X.env=pure false:=by rfl):PS X (.Expr e pos) (A9 te):=by
 intro pins s σ H D I h
 exact wpAny_Expr_any (bC (he pins s σ H _ I h) fun v s1 ⟨x,H1,I1,r1,q1⟩=>⟨σ,H1,I1,q1⟩) I.quiet hs
def Di(te:TE):TS:=fun D σ H=>te σ H D.rt
def yU(he:PE X e te):PS X (.Return (some e) pos) (Di te):=by
 intro pins s σ H D I h
 exact wpAny_Return_some (bC (he pins s σ H _ I h) fun v s1 ⟨x,H1,I1,r1,q1⟩=>⟨x,σ,H1,I1,r1,q1⟩)
def Dj(c:TT)(t u:TS):TS:=fun D σ H=>c σ H fun b H1=>if b=true then t D σ H1 else u D σ H1
def A_{c:Expr}{a b:List Stmt}{tc:TT}(hc:PT X c tc)(ha:Iy X a t)(hb:Iy X b u):PS X (.If c a b pos) (Dj tc t u):=by
 intro pins s σ H D I h
 refine wpAny_If (bC (hc pins s σ H _ I h) fun d s1 ⟨H1,I1,q1⟩=>?_)
 cases d with
 |true=>exact ha pins s1 σ H1 D I1 q1
 |false=>exact hb pins s1 σ H1 D I1 q1
end
abbrev TG:=V->St->Hp->(St->Hp->Prop)->Prop
abbrev vJ:=List V->St->Hp->(St->Hp->Prop)->Prop
def PG(X:Cx)(target:Expr)(t:TG):Prop:=
 ∀(pins:Va) (s:Shared) (σ:St) (H:Hp) (v:V) (u:Value) (Q:St->Hp->Prop),Inv X pins σ H s->RelV v u->t v σ H Q->
  wpAny (model X.prog X.w) X.A (assign target X.env u) (fun _ s'=>∃σ' H',Inv X pins σ' H' s'/\Q σ' H') X.xe s
def AL(X:Cx)(ts:List Expr)(t:vJ):Prop:=
 ∀(pins:Va) (s:Shared) (σ:St) (H:Hp) (vs:List V) (us:Vv) (Q:St->Hp->Prop),Inv X pins σ H s->Vals vs us->t vs σ H Q->
  wpAny (model X.prog X.w) X.A (assignInOrder ((assignEach ts X.env).map (·.2)) us) (fun _ s'=>∃σ' H',Inv X pins σ' H' s'/\Q σ' H') X.xe s
abbrev yV:=V->V->V->Hp->(Hp->Prop)->Prop
def vX(X:Cx)(t:yV):Prop:=
 ∀(pins:Va) (s:Shared) (σ:St) (H:Hp) (o i v:V) (ov iv u:Value) (Q:Hp->Prop),Inv X pins σ H s->RelV o ov->RelV i iv->RelV v u->t o i v H Q->
  wpAny (model X.prog X.w) X.A (setItem ov iv u) (fun _ s'=>∃H',Inv X pins σ H' s'/\Q H') X.xe s
section
variable {X:Cx} {pos:Pos}
def nz(i:Nat):TG:=fun v σ H Q=>Q (σ.set i (some v)) H
def vY{i:Nat}{x:Str}(hN:X.N.Nodup)(hi:X.N[i]?=some x)(hx:xT X.env.scope x)(hf:X.fn x=true\/X.env.scope.names.lookup x=some .local:=by first|exact .inl rfl|exact .inr rfl|assumption):PG X (.Name x pos) (nz i):=by
 intro pins s σ H v u Q I r h
 exact wpAny_assign_Name (iF I hN hi hx r (fun s' I'=>⟨_,H,I',h⟩) hf)
noncomputable def Bb:vJ:=fun vs σ H Q=>vs=[]/\Q σ H
noncomputable def xU(t:TG)(u:vJ):vJ:=fun vs σ H Q=>∃v r,vs=v::r/\t v σ H fun σ' H'=>u r σ' H' Q
def vZ:AL X [] Bb:=by
 intro pins s σ H vs us Q I r h
 obtain⟨e,h⟩:=h
 subst e
 cases r
 exact assignInOrder_nil ⟨σ,H,I,h⟩
def sZ{e:Expr}{es:List Expr}{t:TG}{u:vJ}(h1:PG X e t)(h2:AL X es u)
  (hs:(assignEach (e::es) X.env).map (·.2)=assign e X.env::(assignEach es X.env).map (·.2):=by rfl):AL X (e::es) (xU t u):=by
 intro pins s σ H vs us Q I r h
 obtain⟨v,vr,e1,h⟩:=h
 subst e1
 cases r with
 |cons r rr=>
  rw[hs]
  refine assignInOrder_cons (bC (h1 pins s σ H _ _ _ I r h) fun _ s1 ⟨σ1,H1,I1,q1⟩=>?_)
  exact h2 pins s1 σ1 H1 _ _ Q I1 rr q1
def Bc(K:Vo)(n:Nat)(t:vJ):TG:=fun v σ H Q=>∃a xs,v = .ref a/\SqT K H a xs/\xs.length=n/\t xs σ H Q
def yW{es:List Expr}{k:Nat}{t:vJ}{n:Nat}(hc:X.calm=true)(h:AL X es t)
  (hn:(assignEach es X.env).length=n:=by rfl) (hst:(assignEach es X.env).findIdx? (·.1)=none:=by rfl):PG X (.Tuple es k pos) (Bc X.K n t):=by
 intro pins s σ H v u Q I r hw
 obtain⟨a,xs,e1,hq,hl,hw⟩:=hw
 subst e1
 cases r
 obtain⟨its,rv,ht,hz⟩:=I.tuple hq
 refine assign_Tuple_tuple (I.ok.hd hc) ht (by simp[hn,<-hl,rv.length]) hst fun h' hx=>?_
 have I1:Inv X pins σ H { s with heap:=h' }:=I.kept (t':=s.toks) fun b o e=>hx b o (Nat.ne_of_lt (Heap.lt_size e)) e
 exact h pins _ σ H xs _ Q I1 (by simpa using rv) hw
def Dk(to ti:TE)(t:yV):TG:=fun v σ H Q=>to σ H fun o H1=>ti σ H1 fun i H2=>t o i v H2 fun H3=>Q σ H3
def yX{o i:Expr}{to ti:TE}{t:yV}(ho:PE X o to)(hi:PE X i ti)(hs:vX X t)
  (ha:∀v,assign (.Subscript o i pos) X.env v=(do
   let ov <-holding [v] (eval o X.env)
   let iv <-holding [v,ov] (eval i X.env)
   standAt pos
   holding [v,ov,iv] (setItem ov iv v)
   release [v,ov,iv] []):=by intro _;rfl):PG X (.Subscript o i pos) (Dk to ti t):=by
 intro pins s σ H v u Q I r h
 rw[ha]
 refine wpAny_bind (wpAny_holding (bC (ho pins s σ H _ I h) fun ov s1 ⟨x,H1,I1,r1,q1⟩=>?_))
 refine wpAny_bind (wpAny_holding (bC (hi pins s1 σ H1 _ I1 q1) fun iv s2 ⟨y,H2,I2,r2,q2⟩=>?_))
 refine wpAny_bind (wpAny_standAt (wpAny_bind (wpAny_holding (bC (hs pins s2 σ H2 x y v ov iv u _ I2 r1 r2 r q2) fun _ s3 ⟨H3,I3,q3⟩=>?_))))
 exact wpAny_release ⟨σ,H3,I3,q3⟩
def v0(te:TE)(g:TG):TS:=fun D σ H=>te σ H fun x H1=>g x σ H1 D.nx
def oO{tg e:Expr}{te:TE}{g:TG}(he:PE X e te)(hg:PG X tg g)(hs:swapsWithSole [tg] e pos.line X.env=pure false:=by rfl)(hw:swappedStores [tg] e X.env=pure none:=by rfl)
  (h1:(assignEach [tg] X.env).map (·.2)=[assign tg X.env]:=by rfl):PS X (.Assign [tg] e pos) (v0 te g):=by
 intro pins s σ H D I h
 refine wpAny_Assign_stores (bC (he pins s σ H _ I h) fun v s1 ⟨x,H1,I1,r1,q1⟩=>?_) hs hw
 rw[h1]
 exact bC (hg pins s1 σ H1 x v _ I1 r1 q1) fun _ s2 q=>q
def yY{i:Nat}{x:Str}{e:Expr}{te:TE}{pos':Pos}(hN:X.N.Nodup)(hi:X.N[i]?=some x)(hx:xT X.env.scope x)(he:PE X e te)(hs:swapsWith e (some (.Name x pos')) pos.line X.env=pure false:=by rfl)(hf:X.fn x=true\/X.env.scope.names.lookup x=some .local:=by first|exact .inl rfl|exact .inr rfl|assumption) :
  PS X (.Assign [.Name x pos'] e pos) (v0 te (nz i)):=by
 intro pins s σ H D I h
 refine wpAny_Assign_Name (bC (he pins s σ H _ I h) fun v s1 ⟨y,H1,I1,r1,q1⟩=>?_) hs
 exact iF I1 hN hi hx r1 (fun s2 I2=>⟨_,H1,I2,q1⟩) hf
def Dl(i j:Nat)(ta:TA):TS:=fun D σ H=>ta σ H fun vs H1=>∃v w,vs=[v,w]/\D.nx ((σ.set i (some v)).set j (some w)) H1
def yZ{i j:Nat}{x y:Str}{a b:Expr}{ta:TA}{px py pt:Pos}{kt k2 JT}(hc:X.calm=true)(hN:X.N.Nodup)(hi:X.N[i]?=some x)(hj:X.N[j]?=some y)(hij:i≠j)
  (hx:X.env.scope.names.lookup x=some .local) (hy:X.env.scope.names.lookup y=some .local) (ha:PA X [a,b] ta)
  (hw:swappedStores [.Tuple [.Name x px,.Name y py] kt pt] (.Tuple [a,b] k2 JT) X.env=pure (some [x,y]))
  (hs:swapsWithSole [.Tuple [.Name x px,.Name y py] kt pt] (.Tuple [a,b] k2 JT) pos.line X.env=pure false:=by rfl) :
  PS X (.Assign [.Tuple [.Name x px,.Name y py] kt pt] (.Tuple [a,b] k2 JT) pos) (Dl i j ta):=by
 intro pins s σ H D I h
 rw[exec_Assign_arm]
 refine wpAny_bind (wpAny_standAt ?_)
 rw[hs]
 refine wpAny_bind (wpAny_pure ?_)
 rw[if_neg (by decide)]
 refine wpAny_bind (Tuple_ (bC (ha _ pins s σ H _ I h) fun us s1 ⟨vs,H1,I1,r1,q1⟩=>?_))
 obtain⟨v,w,e1,q1⟩:=q1
 subst e1
 obtain⟨u1,u2,rfl,rv,rw'⟩:∃u1 u2,us=[u1,u2]/\RelV v u1/\RelV w u2:=by
  cases r1 with
  |cons p q=>
   cases q with
   |cons p' q'=>
    cases q'
    exact⟨_,_,rfl,p,p'⟩
 refine wpAny_newObj_type ?_ (by show 2<=sizeLine;decide)
 have I2:Inv X pins σ H1 { s1 with heap:=s1.heap.push { cls:=.type "tuple",data:=.seq [u1,u2].toArray } }:=I1.kept (t':=s1.toks) fun b o e=>Heap.get?_push_of_some _ e
 rw[hw]
 refine wpAny_bind (wpAny_pure ?_)
 show wpAny (model X.prog X.w) X.A (do rule "assign.swapped-stores"; let items <-unpackItems (.ref s1.heap.objs.size) 2 none;assignInOrder [fun v=>bindName X.env y v,fun v=>bindName X.env x v] items.reverse;pure Flow.next) _ _ _
 refine wpAny_bind (wpAny_rule (wpAny_bind (unpackItems_tuple (items:=#[u1,u2]) (I.ok.hd hc) (IsTup.new s1.heap _) fun h' hx'=>?_)))
 have I3:=I2.kept (h':=h') (t':=s1.toks) fun b o e=>hx' b o (Nat.ne_of_lt (Heap.lt_size e)) e
 show wpAny _ _ (assignInOrder [fun v=>bindName X.env y v,fun v=>bindName X.env x v] [u2,u1] >>= fun _=>pure Flow.next) _ _ _
 refine wpAny_bind (assignInOrder_cons (wpAny_bindName (iF I3 hN hj (.inl hy) rw' (fun s2 I4=>?_) (.inr hy))))
 refine assignInOrder_cons (wpAny_bindName (iF I4 hN hi (.inl hx) rv (fun s3 I5=>assignInOrder_nil (wpAny_pure ?_)) (.inr hx)))
 rw[List.set_comm _ _ (Ne.symm hij)]at I5
 exact⟨_,H1,I5,q1⟩
end
section
variable {X:Cx} {pos:Pos}
def y7(c:TT)(tb:TS):TS:=fun D σ H=>∃W:Nat->St->Hp->Prop,(∃m,W m σ H)/\∀m σ H,W m σ H->
 c σ H fun b H1=>if b=true then ∃N:St->Hp->Prop,(∀σ' H',N σ' H'->∃m',m' < m/\W m' σ' H')/\tb { D with nx:=N,ct:=N,bk:=D.nx } σ H1 else D.nx σ H1
def s9{c:Expr}{body:List Stmt}{tc:TT}{tb:TS}(hp:PassesOwn (model X.prog X.w) X.A X.env X.xe)(hc:PT X c tc)(hb:Iy X body tb):PS X (.While c body [] pos) (y7 tc tb):=by
 intro pins s σ H D I h
 obtain⟨W,⟨m0,w0⟩,turn⟩:=h
 refine wpAny_While (codeAny_whileLoop (fun n s'=>∃σ' H',Inv X pins σ' H' s'/\W n σ' H') ?_ m0 ⟨σ,H,I,w0⟩)
 rintro n s1 ⟨σ1,H1,I1,w1⟩
 refine wpAny_passesOwn hp (bC (hc pins s1 σ1 H1 _ I1 (turn n σ1 H1 w1)) fun b s2 ⟨H2,I2,q2⟩=>?_)
 cases b with
 |true=>
  obtain⟨N,hN,q2⟩:=q2
  rw[if_pos rfl]
  refine wpAny_passesOwn hp (bC (hb pins s2 σ1 H2 _ I2 q2) fun f s3 q3=>?_)
  cases f with
  |next=>
   obtain⟨σ3,H3,I3,n3⟩:=q3
   obtain⟨m',hm,w3⟩:=hN σ3 H3 n3
   exact⟨m',hm,σ3,H3,I3,w3⟩
  |cont=>
   obtain⟨σ3,H3,I3,n3⟩:=q3
   obtain⟨m',hm,w3⟩:=hN σ3 H3 n3
   exact⟨m',hm,σ3,H3,I3,w3⟩
  |brk=>exact q3
  |ret v=>exact q3
 |false=>
  rw[if_neg Bool.false_ne_true]
  exact wpAny_execs_nil ⟨σ1,H2,I2,q2⟩
end
structure It where
 go:Nat->Hp->Prop
 K8:Nat->Hp->V->Hp->Prop
 stop:Nat->Hp->Prop
def fT(X:Cx)(pins:Va)(H:Hp)(b:Addr):Prop:=
 H b=none/\b≠X.env.locals/\b ∉ X.fs/\(b∈X.ex\/X.s₀.heap.objs.size<=b)/\(∀x c,X.env.cells.lookup x=some c->c≠b)/\∀p∈X.pn++pins,p.1≠b
def Inv.Hf{X:Cx}{pins:Va}{σ:St}{H H':Hp}{s:Shared}{b:Addr}(I:Inv X pins σ H s)(hb:s.heap.objs.size<=b)(hn:H' b=none):fT X pins H' b:=by
 refine⟨hn,Nat.ne_of_gt (Nat.lt_of_lt_of_le I.lt hb),I.Kw hb,.inr (Nat.le_trans I.sz hb),fun x c e z=>?_,fun p hp z=>?_⟩
 ·obtain⟨v,q⟩:=I.cell x c e
  exact absurd (Nat.lt_of_lt_of_le q.lt (by rw[z];exact hb)) (Nat.lt_irrefl _)
 ·exact absurd (Nat.lt_of_lt_of_le (Heap.lt_size (I.pin p hp).1) (by rw[z];exact hb)) (Nat.lt_irrefl _)
structure ma (P:Program) (w:World) (K:Vo) (tg:Expr) (J:It) (fp:List Addr) (it:Addr) (tn:Nat->Heap->Prop):Prop where
 mem:it∈fp
 obj:∀i h,tn i h->∀b∈fp,∃o,h.get? b=some o/\∀v,o.data ≠ .cell v
 keep:∀i h h',tn i h->(∀b∈fp,∀o,h.get? b=some o->h'.get? b=some o)->tn i h'
 item:∀(X:Cx),X.prog=P->X.w=w->X.K=K->X.calm=true->∀(i:Nat) (pins:Va) (s:Shared) (σ:St) (H:Hp) (E:Vq),Inv X pins σ H s->(∀b∈fp,fT X pins H b)->tn i s.heap->J.go i H->
  wpAny (model P w) X.A (pyNext (.ref it)) (fun r s1=>∃u,r=some u/\
   wpAny (model P w) X.A (letOwnedTupleGo tg (.ref it) u) (fun _ s2=>∃x H',Inv X pins σ H' s2/\RelV x u/\J.K8 i H x H'/\tn (i+1) s2.heap/\∀b∈fp,H' b=none) E s1) E s
 done:∀(X:Cx),X.prog=P->X.w=w->X.K=K->X.calm=true->∀(i:Nat) (pins:Va) (s:Shared) (σ:St) (H:Hp) (E:Vq),Inv X pins σ H s->(∀b∈fp,fT X pins H b)->tn i s.heap->J.stop i H->
  wpAny (model P w) X.A (pyNext (.ref it)) (fun r s1=>r=none/\Inv X pins σ H s1) E s
 self:∀(A:Around) (i:Nat) (s:Shared) (Q:Vq) (E:Vq),tn i s.heap->Q (.ref it) s->wpAny (model P w) A (pyIter (.ref it)) Q E s
abbrev TI:=St->Hp->(It->Hp->Prop)->Prop
def Dn(X:Cx)(pins:Va)(σ:St)(tg:Expr)(R:It->Hp->Prop)(itv:Value)(s2:Shared):Prop:=
 ∃(it:Addr) (fp:List Addr) (tn:Nat->Heap->Prop) (J:It) (H':Hp),itv = .ref it/\Inv X pins σ H' s2/\ma X.prog X.w X.K tg J fp it tn/\tn 0 s2.heap/\(∀b∈fp,fT X pins H' b)/\R J H'
def PI(X:Cx)(tg iter:Expr)(wi:TI):Prop:=
 ∀(pins:Va) (s:Shared) (σ:St) (H:Hp) (R:It->Hp->Prop),Inv X pins σ H s->wi σ H R->
  wpAny (model X.prog X.w) X.A (eval iter X.env) (fun v s1=>wpAny (model X.prog X.w) X.A (pyIter v) (Dn X pins σ tg R) X.xe s1) X.xe s
def qr {M : Model} {A : Around} {E : Value -> Shared -> Prop} {s : Shared} {tg : Expr} {it : Addr} {u : Value} {o : Obj} {n : String} {vs : Array Value} {Q : Unit -> Shared -> Prop} (ho : s.heap.get? it = some o) (hc : o.cls = .type n) (hd : o.data = .fields vs)
    (hn : ["enumerate", "zip", "dict_itemiterator", "dict_reverseitemiterator", "odict_iterator", "itertools.zip_longest", "itertools.pairwise"].contains n = false) (hQ : Q () s) : wpAny M A (letOwnedTupleGo tg (.ref it) u) Q E s := by
  unfold letOwnedTupleGo
  cases tg <;> first
    | exact wpAny_pure hQ
    | (cases u <;> first
        | exact wpAny_pure hQ
        | (refine wpAny_bind (wpAny_load ho ?_)
           rw [hc, hd]
           show wpAny M A (if (["enumerate", "zip", "dict_itemiterator", "dict_reverseitemiterator", "odict_iterator", "itertools.zip_longest", "itertools.pairwise"].contains n && vs[0]? == some (rawInt _)) = true then _ else _) Q E s
           rw [if_neg (by intro h; rw [hn, Bool.false_and] at h; cases h)]
           exact wpAny_pure hQ))
noncomputable def CT(K:Vo)(a:Addr):It:=
 ⟨fun i H=>∃xs x,SqL K H a xs/\xs[i]?=some x,fun i H x H'=>H'=H/\∀xs,SqL K H a xs->xs[i]?=some x,fun i H=>∃xs,SqL K H a xs/\xs.length<=i⟩
noncomputable def Do(K:Vo)(a:Addr):It:=
 ⟨fun i H=>∃xs x,SqT K H a xs/\xs[i]?=some x,fun i H x H'=>H'=H/\∀xs,SqT K H a xs->xs[i]?=some x,fun i H=>∃xs,SqT K H a xs/\xs.length<=i⟩
noncomputable def CU(lo:Int)(n:Nat):It:=⟨fun i _=>i < n,fun i H x H'=>H'=H/\x = .int (lo+i),fun i _=>n<=i⟩
def rA{P:Program}{w:World}{K:Vo}{tg:Expr}(a it:Addr):ma P w K tg (CT K a) [it] it (fun i h=>h.IsListIter it a i) where
 mem:=by simp
 obj:=fun i h st b hb=>by
  have e:b=it:=by simpa using hb
  subst e
  obtain⟨o,e,c,d⟩:=st
  exact⟨o,e,fun v z=>by rw[d]at z;cases z⟩
 keep:=fun i h h' st k=>st.at fun o e=>k it (by simp) o e
 item:=by
  intro X hP hw hK hc i pins s σ H E I hf st hg
  subst hP hw hK
  obtain⟨xs,x,hq,hx⟩:=hg
  obtain⟨its,rv,p,hz⟩:=I.list hq
  obtain⟨u,hu,ru⟩:=rv.get hx
  obtain⟨f0,f1,f2,f3,f4,f5⟩:=hf it (by simp)
  refine wpAny_pyNext_list_item st p.isList (x:=u) (by simpa using hu) fun h' st' sb=>?_
  have I1:Inv X pins σ H { s with heap:=h' }:=I.turned (t':=s.toks) (fun b o hb e=>(sb.2 b hb).trans e) f0 f1 f3 f4 f5
  obtain⟨o,e,c,d⟩:=id st'
  exact⟨u,rfl,qr (s:={ s with heap:=h' }) e c d (by decide) ⟨x,H,I1,ru,⟨rfl,fun ys hy=>by rw[I.Hl hy hq];exact hx⟩,st',fun b hb=>(hf b hb).1⟩⟩
 done:=by
  intro X hP hw hK hc i pins s σ H E I hf st hg
  subst hP hw hK
  obtain⟨xs,hq,hx⟩:=hg
  obtain⟨its,rv,p,hz⟩:=I.list hq
  obtain⟨f0,f1,f2,f3,f4,f5⟩:=hf it (by simp)
  have hl:=rv.length
  exact wpAny_pyNext_list_end (I.ok.hd hc) st p.isList (by simp;omega) fun h' eb=>⟨rfl,I.turned (t':=s.toks) (fun b o hb e=>eb b o hb e) f0 f1 f3 f4 f5⟩
 self:=fun _ _ _ _ _ st h=>wpAny_pyIter_listiter st h
def oP{P:Program}{w:World}{K:Vo}{tg:Expr}(a it:Addr):ma P w K tg (Do K a) [it] it (fun i h=>h.IsTupleIter it a i) where
 mem:=by simp
 obj:=fun i h st b hb=>by
  have e:b=it:=by simpa using hb
  subst e
  obtain⟨o,e,c,d⟩:=st
  exact⟨o,e,fun v z=>by rw[d]at z;cases z⟩
 keep:=fun i h h' st k=>st.at fun o e=>k it (by simp) o e
 item:=by
  intro X hP hw hK hc i pins s σ H E I hf st hg
  subst hP hw hK
  obtain⟨xs,x,hq,hx⟩:=hg
  obtain⟨its,rv,p,hz⟩:=I.tuple hq
  obtain⟨u,hu,ru⟩:=rv.get hx
  obtain⟨f0,f1,f2,f3,f4,f5⟩:=hf it (by simp)
  refine wpAny_pyNext_tuple_item st (show s.heap.IsTuple a its.toArray from p) (x:=u) (by simpa using hu) fun h' st' sb=>?_
  have I1:Inv X pins σ H { s with heap:=h' }:=I.turned (t':=s.toks) (fun b o hb e=>(sb.2 b hb).trans e) f0 f1 f3 f4 f5
  obtain⟨o,e,c,d⟩:=id st'
  exact⟨u,rfl,qr (s:={ s with heap:=h' }) e c d (by decide) ⟨x,H,I1,ru,⟨rfl,fun ys hy=>by rw[I.G7 hy hq];exact hx⟩,st',fun b hb=>(hf b hb).1⟩⟩
 done:=by
  intro X hP hw hK hc i pins s σ H E I hf st hg
  subst hP hw hK
  obtain⟨xs,hq,hx⟩:=hg
  obtain⟨its,rv,p,hz⟩:=I.tuple hq
  obtain⟨f0,f1,f2,f3,f4,f5⟩:=hf it (by simp)
  have hl:=rv.length
  exact wpAny_pyNext_tuple_end (I.ok.hd hc) st (show s.heap.IsTuple a its.toArray from p) (by simp;omega) fun h' eb=>⟨rfl,I.turned (t':=s.toks) (fun b o hb e=>eb b o hb e) f0 f1 f3 f4 f5⟩
 self:=fun _ _ _ _ _ st h=>wpAny_pyIter_tupleiter st h
def oQ{P:Program}{w:World}{K:Vo}{tg:Expr}(it:Addr)(lo:Int)(n:Nat):ma P w K tg (CU lo n) [it] it (fun i h=>IsRangeIter h it (lo+(i:Nat) * 1) ((n:Int) - (i:Nat)) 1) where
 mem:=by simp
 obj:=fun i h st b hb=>by
  have e:b=it:=by simpa using hb
  subst e
  exact⟨_,st,fun v z=>by
   have z':Data.fields _=Data.cell v:=z
   cases z'⟩
 keep:=fun i h h' st k=>k it (by simp) _ st
 item:=by
  intro X hP hw hK hc i pins s σ H E I hf st hg
  subst hP hw hK
  obtain⟨f0,f1,f2,f3,f4,f5⟩:=hf it (by simp)
  have W:=Walks.range (prog:=X.prog) (w:=X.w) (I.ok.hd hc) it lo 1 n
  refine W.item i s _ _ hg st fun v h' tk hv st' kk=>?_
  obtain⟨t,rfl⟩:=hv
  have I1:Inv X pins σ H { s with heap:=h',toks:=tk }:=I.turned (fun b o hb e=>kk b o (by simpa using hb) e) f0 f1 f3 f4 f5
  refine⟨_,rfl,qr (s:={ s with heap:=h',toks:=tk }) (n:="range_iterator") st' rfl rfl (by decide) ⟨.int (lo+i),H,I1,⟨t,?_⟩,⟨rfl,rfl⟩,st',fun b hb=>(hf b hb).1⟩⟩
  rw[Int.mul_one]
 done:=by
  intro X hP hw hK hc i pins s σ H E I hf st hg
  subst hP hw hK
  obtain⟨f0,f1,f2,f3,f4,f5⟩:=hf it (by simp)
  exact wpAny_pyNext_range_end (I.ok.hd hc) st (by have:n<=i:=hg;omega) fun h' eb=>⟨rfl,I.turned (t':=s.toks) (fun b o hb e=>eb b o hb e) f0 f1 f3 f4 f5⟩
 self:=fun _ _ _ _ _ st h=>wpAny_pyIter_rangeiter st h
section
variable {X:Cx} {tg:Expr}
def s_{pins:Va}{σ:St}{H:Hp}{s:Shared}{R:It->Hp->Prop}{E:Vq}{lo hi:Int}{t u v:Tok}{tk:Nat}(I:Inv X pins σ H s)(h1:-(2 ^ 62)<=lo)(h2:lo < 2 ^ 62)(h3:-(2 ^ 62)<=hi)(h4:hi < 2 ^ 62)
  (q:R (CU lo (hi - lo).toNat) H):wpAny (model X.prog X.w) X.A (pyIter (.ref s.heap.objs.size)) (Dn X pins σ tg R) E { s with heap:=s.heap.push { cls:=.type "range",data:=.fields #[.int lo t,.int hi u,.int 1 v] },toks:=tk }:=by
 refine wpAny_pyIter_range (IsRange.new ..) (small_one h1 h2 h3 h4) ?_
 have I1:Inv X pins σ H { s with heap:=s.heap.push { cls:=.type "range",data:=.fields #[.int lo t,.int hi u,.int 1 v] },toks:=tk }:=I.kept fun b o e=>Heap.get?_push_of_some _ e
 refine⟨(s.heap.push { cls:=.type "range",data:=.fields #[.int lo t,.int hi u,.int 1 v] }).objs.size,[(s.heap.push { cls:=.type "range",data:=.fields #[.int lo t,.int hi u,.int 1 v] }).objs.size],_,_,H,rfl,
  I1.kept (t':=tk) fun b o e=>Heap.get?_push_of_some _ e,oQ _ lo (hi - lo).toNat,?_,fun b hb=>?_,q⟩
 ·have e1:lo+((0:Nat):Int) * 1=lo:=by simp
  have e2:(((hi - lo).toNat:Nat):Int) - ((0:Nat):Int)=Builtin.Range.rangeSize lo hi 1:=by rw[rangeSize_one];split<;>omega
  show IsRangeIter _ _ (lo+((0:Nat):Int) * 1) ((((hi - lo).toNat:Nat):Int) - ((0:Nat):Int)) 1
  rw[e1,e2]
  exact Heap.get?_push_size _ rfl
 ·have e:b=(s.heap.push { cls:=.type "range",data:=.fields #[.int lo t,.int hi u,.int 1 v] }).objs.size:=by simpa using hb
  subst e
  exact I1.Hf (Nat.le_refl _) (I1.hok.fresh (Nat.le_refl _))
def Bd(ta:TA):TI:=fun σ H R=>ta σ H fun vs H1=>∃j:Int,vs=[.int j]/\-(2 ^ 62)<=j/\j < 2 ^ 62/\R (CU 0 j.toNat) H1
def rB{a:Expr}{ta:TA}{p pos:Pos}(hg:Gl X "range")(hm:X.mg "range" = none)(ha:PA X [a] ta)(hs:starEach [a] X.env=[(false,eval a X.env)]:=by rfl):PI X tg (.Call (.Name "range" p) [a] [] pos) (Bd ta):=by
 intro pins s σ H R I h
 refine Call_ (dS I hg hm boot_range (PyProof.Rows.callWith_type1 (bC (ha pos pins s σ H _ I h) fun us s1 ⟨vs,H1,I1,r1,q1⟩=>?_) hs rfl))
 obtain⟨j,e,q1,q2,q⟩:=q1
 subst e
 cases r1 with
 |cons r rr=>
  cases rr
  obtain⟨t,rfl⟩:=r
  exact call_range_1 (s_ I1 (by omega) (by omega) q1 q2 (by simpa using q))
def Dp(wi:TI)(g:TG)(tb:TS):TS:=fun D σ H=>wi σ H fun J H1=>∃W:Nat->Nat->St->Hp->Prop,(∃m,W 0 m σ H1)/\∀i m σ H,W i m σ H->
 (J.stop i H/\D.nx σ H)\/(J.go i H/\∃N:St->Hp->Prop,(∀σ' H',N σ' H'->∃m',m' < m/\W (i+1) m' σ' H')/\∀x H',J.K8 i H x H'->g x σ H' fun σ2 H2=>tb { D with nx:=N,ct:=N,bk:=D.nx } σ2 H2)
noncomputable def j2(fp:List Addr)(h:Heap):List (Addr×Obj):=fp.filterMap fun b=>(h.get? b).map fun o=>(b,o)
def ic{fp:List Addr}{h:Heap}{b:Addr}{o:Obj}(hb:b∈fp)(e:h.get? b=some o):(b,o)∈j2 fp h:=List.mem_filterMap.mpr ⟨b,hb,by rw[e];rfl⟩
def rC{fp:List Addr}{h:Heap}{p:Addr×Obj}(hp:p∈j2 fp h):p.1∈fp/\h.get? p.1=some p.2:=by
 obtain⟨b,hb,e⟩:=List.mem_filterMap.mp hp
 cases q:h.get? b with
 |none=>rw[q]at e;cases e
 |some o=>
  rw[q]at e
  have e':(b,o)=p:=Option.some.inj e
  subst e'
  exact⟨hb,q⟩
def Inv.pinned{pins:Va}{σ:St}{H:Hp}{s:Shared}{fp:List Addr}(I:Inv X pins σ H s)(hf:∀b∈fp,fT X pins H b)(ho:∀b∈fp,∃o,s.heap.get? b=some o/\∀v,o.data ≠ .cell v):Inv X (pins++j2 fp s.heap) σ H s:=
 I.Hj fun p hp=>(List.mem_append.mp hp).elim (fun z=>I.pin p (List.mem_append_right _ z)) fun z=>by
  obtain⟨hb,e⟩:=rC z
  obtain⟨f0,f1,f2,_⟩:=hf p.1 hb
  obtain⟨o,e',d⟩:=ho p.1 hb
  rw[e]at e';cases e'
  exact⟨e,f0,f1,f2,d⟩
def Inv.GW{pins pl:Va}{σ:St}{H:Hp}{s:Shared}(I:Inv X (pins++pl) σ H s):Inv X pins σ H s:=I.Hj fun p hp=>I.pin p (List.mem_append_right _ (List.mem_append_left _ hp))
def y8{iter:Expr}{body:List Stmt}{wi:TI}{g:TG}{tb:TS}{pos:Pos}(hp:PassesOwn (model X.prog X.w) X.A X.env X.xe)(hc:X.calm=true)(hi:PI X tg iter wi)(hg:PG X tg g)(hb:Iy X body tb)
  (hs:∀x,foldedSetIterable iter X.env x=pure x:=by intro _;rfl):PS X (.For tg iter body [] pos) (Dp wi g tb):=by
 intro pins s σ H D I h
 refine wpAny_For (bC (hi pins s σ H _ I h) fun v s1 h1=>bC h1 fun itv s2 h2=>?_) hs
 obtain⟨it,fp,tn,J,H2,e,I2,T,st2,f2,W,⟨m0,w0⟩,turn⟩:=h2
 subst e
 -- what stays true of the iterator's objects through the loop
 have stat:∀{H':Hp},(∀b∈fp,H' b=none)->∀b∈fp,fT X pins H' b:=fun hn b hb=>⟨hn b hb,(f2 b hb).2⟩
 refine codeAny_forLoop_any (fun n s'=>∃i σ' H',Inv X pins σ' H' s'/\tn i s'.heap/\(∀b∈fp,H' b=none)/\W i n σ' H') ?_ m0 ⟨0,σ,H2,I2,st2,fun b hb=>(f2 b hb).1,w0⟩
 rintro n s3 ⟨i,σ3,H3,I3,st3,Mx,w3⟩
 rcases turn i n σ3 H3 w3 with⟨stop,qn⟩|⟨go,N,hN,step⟩
 ·refine wpAny_passesOwn hp (bC (T.done X rfl rfl rfl hc i pins s3 σ3 H3 X.xe I3 (stat Mx) st3 stop) fun r s4 ⟨hr,I4⟩=>?_)
  subst hr
  exact wpAny_execs_nil ⟨σ3,H3,I4,qn⟩
 ·refine wpAny_passesOwn hp (bC (T.item X rfl rfl rfl hc i pins s3 σ3 H3 X.xe I3 (stat Mx) st3 go) fun r s4 ⟨u,hr,h4⟩=>?_)
  subst hr
  refine wpAny_passesOwn hp (bC h4 fun _ s5 ⟨x,H5,I5,r5,y5,Jr,LD⟩=>?_)
  have LF:=I5.pinned (stat LD) (T.obj _ _ Jr)
  refine wpAny_passesOwn hp (bC (hg _ s5 σ3 H5 x u _ LF r5 (step x H5 y5)) fun _ s6 ⟨σ6,H6,I6,q6⟩=>?_)
  refine wpAny_passesOwn hp (bC (hb _ s6 σ6 H6 _ I6 q6) fun f s7 q7=>?_)
  have again:∀{σ7:St} {H7:Hp},Inv X (pins++j2 fp s5.heap) σ7 H7 s7->N σ7 H7->∃m,m < n/\∃i σ' H',Inv X pins σ' H' s7/\tn i s7.heap/\(∀b∈fp,H' b=none)/\W i m σ' H':=fun{σ7 H7} I7 n7=>by
   obtain⟨m',hm,w7⟩:=hN σ7 H7 n7
   refine⟨m',hm,i+1,σ7,H7,I7.GW,T.keep _ _ _ Jr fun b hb o e=>(I7.pin (b,o) (List.mem_append_right _ (List.mem_append_right _ (ic hb e)))).1,fun b hb=>?_,w7⟩
   obtain⟨o,e,d⟩:=T.obj _ _ Jr b hb
   exact(I7.pin (b,o) (List.mem_append_right _ (List.mem_append_right _ (ic hb e)))).2.1
  cases f with
  |next=>obtain⟨σ7,H7,I7,n7⟩:=q7;exact again I7 n7
  |cont=>obtain⟨σ7,H7,I7,n7⟩:=q7;exact again I7 n7
  |brk=>obtain⟨σ7,H7,I7,q7⟩:=q7;exact⟨σ7,H7,I7.GW,q7⟩
  |ret v=>obtain⟨x7,σ7,H7,I7,r7,q7⟩:=q7;exact⟨x7,σ7,H7,I7.GW,r7,q7⟩
end
abbrev R2:=V->V->Hp->VK->Prop
def gU(X:Cx)(f:Value->Value->Sem Value)(r:R2):Prop:=
 ∀(pins:Va) (s:Shared) (σ:St) (H:Hp) (x y:V) (v u:Value) (Q:VK),Inv X pins σ H s->RelV x v->RelV y u->r x y H Q->
  wpAny (model X.prog X.w) X.A (f v u) (EP X pins σ Q) X.xe s
def CV(X:Cx)(f:Value->Sem Value)(r:V->Hp->VK->Prop):Prop:=
 ∀(pins:Va) (s:Shared) (σ:St) (H:Hp) (x:V) (v:Value) (Q:VK),Inv X pins σ H s->RelV x v->r x H Q->
  wpAny (model X.prog X.w) X.A (f v) (EP X pins σ Q) X.xe s
def eN(X:Cx)(f:Value)(r:List V->Hp->VK->Prop):Prop:=
 ∀(pins:Va) (s:Shared) (σ:St) (H:Hp) (xs:List V) (us:Vv) (Q:VK),Inv X pins σ H s->Vals xs us->r xs H Q->
  wpAny (model X.prog X.w) X.A (call f us) (EP X pins σ Q) X.xe s
def AM(r:R2)(ta tb:TE):TE:=fun σ H Q=>ta σ H fun x H1=>tb σ H1 fun y H2=>r x y H2 Q
def EK(r:V->Hp->VK->Prop)(ta:TE):TE:=fun σ H Q=>ta σ H fun x H1=>r x H1 Q
def rI(C:Int->Int->Prop)(g:Int->Int->V):R2:=fun x y H Q=>∃i j,x = .int i/\y = .int j/\C i j/\Q (g i j) H
def vK(g:Int->Int->V):R2:=fun x y H Q=>∃i j,x = .int i/\y = .int j/\Q (g i j) H
noncomputable def rU(g:Int->V):V->Hp->VK->Prop:=fun x H Q=>∃i,x = .int i/\Q (g i) H
section
variable {X:Cx} {a b c:Expr} {ta tb tc:TE} {pos:Pos}
def y9(ha:PE X a ta)(hb:PE X b tb){pins:Va}{s:Shared}{σ:St}{H:Hp}{R:V->V->Hp->Prop}(I:Inv X pins σ H s)
  (h:ta σ H fun x H1=>tb σ H1 fun y H2=>R x y H2) {Q:Vq} {f:Value->Value->Sem Value}
  (hf:∀v u s2 x y H2,Inv X pins σ H2 s2->RelV x v->RelV y u->R x y H2->wpAny (model X.prog X.w) X.A (f v u) Q X.xe s2) :
  wpAny (model X.prog X.w) X.A (eval a X.env) (fun v s₁=>wpAny (model X.prog X.w) X.A (eval b X.env) (fun u s₂=>wpAny (model X.prog X.w) X.A (f v u) Q X.xe s₂) X.xe s₁) X.xe s:=by
 refine bC (ha pins s σ H _ I h) fun v s1 ⟨x,H1,I1,r1,q1⟩=>?_
 refine bC (hb pins s1 σ H1 _ I1 q1) fun u s2 ⟨y,H2,I2,r2,q2⟩=>?_
 exact hf v u s2 x y H2 I2 r1 r2 q2
def Be{op:Operator}{r:R2}(ho:gU X (binaryOp op) r)(ha:PE X a ta)(hb:PE X b tb):PE X (.BinOp a op b pos) (AM r ta tb):=by
 intro pins s σ H Q I h
 exact wpAny_BinOp (y9 ha hb I h fun v u s2 x y H2 I2 rx ry q=>ho pins s2 σ H2 x y v u Q I2 rx ry q)
def Bf{op:UnaryOp}{r:V->Hp->VK->Prop}(ho:CV X (unaryOp op) r)(ha:PE X a ta):PE X (.UnaryOp op a pos) (EK r ta):=by
 intro pins s σ H Q I h
 exact UnaryOp_ (bC (ha pins s σ H _ I h) fun v s1 ⟨x,H1,I1,r1,q1⟩=>ho pins s1 σ H1 x v Q I1 r1 q1)
def CZ{f:Value->Value->Sem Value}{C:Int->Int->Prop}{g:Int->Int->Int}
  (rule:∀(i j:Int) (t u:Tok) (s:Shared) (Q:Vq) (E:Vq),C i j->Q (.int (g i j) s.toks) { s with toks:=s.toks+1 }->wpAny (model X.prog X.w) X.A (f (.int i t) (.int j u)) Q E s) :
  gU X f (rI C fun i j=>.int (g i j)):=by
 intro pins s σ H x y v u Q I rx ry h
 obtain⟨i,j,rfl,rfl,hc,q⟩:=h
 obtain⟨t,rfl⟩:=rx
 obtain⟨t',rfl⟩:=ry
 exact rule i j t t' s _ _ hc ⟨.int (g i j),H,I.tok _,⟨_,rfl⟩,q⟩
def Bg{f:Value->Value->Sem Value}{g:Int->Int->Int}
  (rule:∀(i j:Int) (t u:Tok) (s:Shared) (Q:Vq) (E:Vq),Q (.int (g i j) s.toks) { s with toks:=s.toks+1 }->wpAny (model X.prog X.w) X.A (f (.int i t) (.int j u)) Q E s) :
  gU X f (vK fun i j=>.int (g i j)):=by
 intro pins s σ H x y v u Q I rx ry h
 obtain⟨i,j,rfl,rfl,q⟩:=h
 obtain⟨t,rfl⟩:=rx
 obtain⟨t',rfl⟩:=ry
 exact rule i j t t' s _ _ ⟨.int (g i j),H,I.tok _,⟨_,rfl⟩,q⟩
def v4{f:Value->Value->Sem Value}{g:Int->Int->Bool}
  (rule:∀(i j:Int) (t u:Tok) (s:Shared) (Q:Vq) (E:Vq),Q (.bool (g i j)) s->wpAny (model X.prog X.w) X.A (f (.int i t) (.int j u)) Q E s) :
  gU X f (vK fun i j=>.bl (g i j)):=by
 intro pins s σ H x y v u Q I rx ry h
 obtain⟨i,j,rfl,rfl,q⟩:=h
 obtain⟨t,rfl⟩:=rx
 obtain⟨t',rfl⟩:=ry
 exact rule i j t t' s _ _ ⟨.bl (g i j),H,I,rfl,q⟩
def y_(i j:Int):Prop:=0<=j/\j<=1000000/\i.natAbs < 2 ^ 64
def IP(i j:Int):Prop:=(-(2 ^ 64) < i/\i < 2 ^ 64)\/(-(2 ^ 64) < j/\j < 2 ^ 64)
def IP.ok{i j:Int}(h:IP i j):IntMulOk i j:=by
 rcases h with⟨h1,h2⟩|⟨h1,h2⟩
 ·exact .of_left (intBits_le_64 h1 h2)
 ·exact .of_right (intBits_le_64 h1 h2)
def zb:gU X (binaryOp .Add) (vK fun i j=>.int (i+j)):=Bg fun _ _ _ _ _ _ _ q=>add_int q
def zc:gU X (binaryOp .Sub) (vK fun i j=>.int (i - j)):=Bg fun _ _ _ _ _ _ _ q=>sub_int q
def v5:gU X (binaryOp .Mod) (rI (fun _ j=>j≠0) fun i j=>.int (i.fmod j)):=CZ fun _ _ _ _ _ _ _ hc q=>mod_int' hc q
def zd:gU X (binaryOp .Pow) (rI y_ fun i j=>.int (i ^ j.toNat)):=CZ fun _ _ _ _ _ _ _ hc q=>pow_int_small hc.1 hc.2.1 hc.2.2 q
def EL{f:Value->Sem Value}{g:Int->Int}
  (rule:∀(i:Int) (t:Tok) (s:Shared) (Q:Vq) (E:Vq),Q (.int (g i) s.toks) { s with toks:=s.toks+1 }->wpAny (model X.prog X.w) X.A (f (.int i t)) Q E s) :
  CV X f (rU fun i=>.int (g i)):=by
 intro pins s σ H x v Q I rx h
 obtain⟨i,rfl,q⟩:=h
 obtain⟨t,rfl⟩:=rx
 exact rule i t s _ _ ⟨.int (g i),H,I.tok _,⟨_,rfl⟩,q⟩
def ze:CV X (unaryOp .USub) (rU fun i=>.int (-i)):=EL fun _ _ _ _ _ q=>neg_int q
end
noncomputable def Bh:V->V->Bool
 | .non,.non=>true | .non,.int _=>true | .int _,.non=>true | .non,.bl _=>true | .bl _,.non=>true | .non,.str _=>true | .str _,.non=>true
 | .int _,.int _=>true | .bl _,.bl _=>true | .str _,.str _=>true | .IZ _,.IZ _=>true
 | .int _,.str _=>true | .str _,.int _=>true | .bl _,.str _=>true | .str _,.bl _=>true
 |_,_=>false
def EM:R2:=fun x y H Q=>Bh x y=true/\Q (.bl (decide (x=y))) H
def EN:R2:=fun x y H Q=>Bh x y=true/\Q (.bl (!decide (x=y))) H
def qt{i j:Int}:decide (V.int i=V.int j)=(i == j):=by
 rw[Bool.eq_iff_iff]
 simp
def tj{i j:Bool}:decide (V.bl i=V.bl j)=(i == j):=by
 rw[Bool.eq_iff_iff]
 simp
def qu{i j:Str}:decide (V.str i=V.str j)=(i == j):=by
 rw[Bool.eq_iff_iff]
 simp
def qv{i j:Array UInt8}:decide (V.IZ i=V.IZ j)=(i.toList == j.toList):=by
 rw[Bool.eq_iff_iff]
 cases i
 cases j
 simp
section
variable {X:Cx} {a b c:Expr} {ta tb tc:TE} {pos:Pos}
def aM{pins:Va}{σ:St}{H:Hp}{s:Shared}{Q:VK}{k k':Bool}(I:Inv X pins σ H s)(q:Q (.bl k) H)(e:k=k'):EP X pins σ Q (.bool k') s:=by
 subst e
 exact⟨.bl k,H,I,rfl,q⟩
def tm:gU X (compareOp .Eq) EM:=by
 intro pins s σ H x y v u Q I rx ry h
 obtain⟨hs,q⟩:=h
 cases x with
 |non=>
  cases rx
  cases y with
  |non=>cases ry;exact PySem.EqNone.eq_none_none (aM I q (by simp))
  |bl j=>cases ry;exact PySem.EqNone.eq_none_bool (aM I q (by simp))
  |int j=>obtain⟨t',rfl⟩:=ry;exact PySem.EqNone.eq_none_int (aM I q (by simp))
  |str j=>obtain⟨t',rfl⟩:=ry;exact PySem.EqNone.eq_none_str (aM I q (by simp))
  |_=>exact absurd (show false=true from hs) Bool.false_ne_true
 |bl i=>
  cases rx
  cases y with
  |non=>cases ry;exact PySem.EqNone.eq_bool_none (aM I q (by simp))
  |bl j=>cases ry;exact eq_bool (aM I q tj)
  |str j=>obtain⟨t',rfl⟩:=ry;exact PySem.EqMixed.eq_bool_str (aM I q (by simp))
  |_=>exact absurd (show false=true from hs) Bool.false_ne_true
 |int i=>
  obtain⟨t,rfl⟩:=rx
  cases y with
  |non=>cases ry;exact PySem.EqNone.eq_int_none (aM I q (by simp))
  |int j=>obtain⟨t',rfl⟩:=ry;exact eq_int (aM I q qt)
  |str j=>obtain⟨t',rfl⟩:=ry;exact PySem.EqMixed.eq_int_str (aM I q (by simp))
  |_=>exact absurd (show false=true from hs) Bool.false_ne_true
 |str i=>
  obtain⟨t,rfl⟩:=rx
  cases y with
  |non=>cases ry;exact PySem.EqNone.eq_str_none (aM I q (by simp))
  |bl j=>cases ry;exact PySem.EqMixed.eq_str_bool (aM I q (by simp))
  |int j=>obtain⟨t',rfl⟩:=ry;exact PySem.EqMixed.eq_str_int (aM I q (by simp))
  |str j=>obtain⟨t',rfl⟩:=ry;exact eq_str (aM I q qu)
  |_=>exact absurd (show false=true from hs) Bool.false_ne_true
 |IZ i=>
  obtain⟨t,rfl⟩:=rx
  cases y with
  |IZ j=>obtain⟨t',rfl⟩:=ry;exact PySem.W.eq_bytes (aM I q qv)
  |_=>exact absurd (show false=true from hs) Bool.false_ne_true
 |_=>cases y<;>exact absurd (show false=true from hs) Bool.false_ne_true
def tq:gU X (compareOp .NotEq) EN:=by
 intro pins s σ H x y v u Q I rx ry h
 obtain⟨hs,q⟩:=h
 cases x with
 |non=>
  cases rx
  cases y with
  |non=>cases ry;exact PySem.EqNone.ne_none_none (aM I q (by simp))
  |bl j=>cases ry;exact PySem.EqNone.ne_none_bool (aM I q (by simp))
  |int j=>obtain⟨t',rfl⟩:=ry;exact PySem.EqNone.ne_none_int (aM I q (by simp))
  |str j=>obtain⟨t',rfl⟩:=ry;exact PySem.EqNone.ne_none_str (aM I q (by simp))
  |_=>exact absurd (show false=true from hs) Bool.false_ne_true
 |bl i=>
  cases rx
  cases y with
  |non=>cases ry;exact PySem.EqNone.ne_bool_none (aM I q (by simp))
  |bl j=>cases ry;exact ne_bool (aM I q (congrArg not tj))
  |str j=>obtain⟨t',rfl⟩:=ry;exact PySem.EqMixed.ne_bool_str (aM I q (by simp))
  |_=>exact absurd (show false=true from hs) Bool.false_ne_true
 |int i=>
  obtain⟨t,rfl⟩:=rx
  cases y with
  |non=>cases ry;exact PySem.EqNone.ne_int_none (aM I q (by simp))
  |int j=>obtain⟨t',rfl⟩:=ry;exact ne_int (aM I q (congrArg not qt))
  |str j=>obtain⟨t',rfl⟩:=ry;exact PySem.EqMixed.ne_int_str (aM I q (by simp))
  |_=>exact absurd (show false=true from hs) Bool.false_ne_true
 |str i=>
  obtain⟨t,rfl⟩:=rx
  cases y with
  |non=>cases ry;exact PySem.EqNone.ne_str_none (aM I q (by simp))
  |bl j=>cases ry;exact PySem.EqMixed.ne_str_bool (aM I q (by simp))
  |int j=>obtain⟨t',rfl⟩:=ry;exact PySem.EqMixed.ne_str_int (aM I q (by simp))
  |str j=>obtain⟨t',rfl⟩:=ry;exact ne_str (aM I q (congrArg not qu))
  |_=>exact absurd (show false=true from hs) Bool.false_ne_true
 |IZ i=>
  obtain⟨t,rfl⟩:=rx
  cases y with
  |IZ j=>obtain⟨t',rfl⟩:=ry;exact PySem.W.ne_bytes (aM I q (congrArg not qv))
  |_=>exact absurd (show false=true from hs) Bool.false_ne_true
 |_=>cases y<;>exact absurd (show false=true from hs) Bool.false_ne_true
def Bi:gU X (compareOp .Lt) (vK fun i j=>.bl (decide (i < j))):=v4 fun _ _ _ _ _ _ _ q=>lt_int q
def Bj:gU X (compareOp .LtE) (vK fun i j=>.bl (decide (i<=j))):=v4 fun _ _ _ _ _ _ _ q=>le_int q
def Bl:gU X (compareOp .Gt) (vK fun i j=>.bl (decide (j < i))):=v4 fun _ _ _ _ _ _ _ q=>gt_int q
def Bm:gU X (compareOp .GtE) (vK fun i j=>.bl (decide (j<=i))):=v4 fun _ _ _ _ _ _ _ q=>ge_int q
def zf:gU X (compareOp .Is) (fun x y H Q=>y = .non/\Q (.bl (decide (x = .non))) H):=by
 intro pins s σ H x y v u Q I rx ry h
 obtain⟨rfl,q⟩:=h
 cases ry
 refine is_none_gen (aM I q ?_)
 cases x<;>first
  |(cases rx;rfl)
  |(obtain⟨t,rfl⟩:=rx;rfl)
def v6:gU X (compareOp .IsNot) (fun x y H Q=>y = .non/\Q (.bl (!decide (x = .non))) H):=by
 intro pins s σ H x y v u Q I rx ry h
 obtain⟨rfl,q⟩:=h
 cases ry
 refine isnot_none_gen (aM I q ?_)
 cases x<;>first
  |(cases rx;rfl)
  |(obtain⟨t,rfl⟩:=rx;rfl)
def aJ(b:Expr){op:CmpOp}(h:op ≠ .In:=by decide)(h2:op ≠ .NotIn:=by decide):behindInMarks op b=false:=by
 have e1:(op == CmpOp.In)=false:=by cases op<;>first|rfl|exact absurd rfl h
 have e2:(op == CmpOp.NotIn)=false:=by cases op<;>first|rfl|exact absurd rfl h2
 cases b<;>simp[behindInMarks,e1,e2]
def v7{op:CmpOp}{r:R2}(ho:gU X (compareOp op) r)(ha:PE X a ta)(hb:PE X b tb)(hm:behindInMarks op b=false):PE X (.Compare a [op] [b] pos) (AM r ta tb):=by
 intro pins s σ H Q I h
 exact wpAny_Compare1 (y9 ha hb I h fun v u s2 x y H2 I2 rx ry q=>ho pins s2 σ H2 x y v u Q I2 rx ry q) hm
def Bn(t:TE):TT:=fun σ H Q=>t σ H fun x H'=>∃k,x = .bl k/\Q k H'
def v8{op:CmpOp}{r:R2}(ho:gU X (compareOp op) r)(ha:PE X a ta)(hb:PE X b tb)(hm:behindInMarks op b=false):PT X (.Compare a [op] [b] pos) (Bn (AM r ta tb)):=by
 intro pins s σ H Q I h
 refine wpAny_isTrue_Compare1 (bC (ha pins s σ H _ I h) fun v s1 ⟨x,H1,I1,r1,q1⟩=>bC (hb pins s1 σ H1 _ I1 q1) fun u s2 ⟨y,H2,I2,r2,q2⟩=>
  bC (ho pins s2 σ H2 x y v u _ I2 r1 r2 q2) fun c s3 ⟨z,H3,I3,r3,k,e,q3⟩=>?_) hm
 subst e
 cases r3
 exact wpAny_truthy_bool ⟨H3,I3,q3⟩
def i0:(sizeLine:Nat) < 2 ^ 63:=by rw[sizeLine_eq];decide
def oR:gU X (binaryOp .Add) (fun x y H Q=>∃i j,x = .str i/\y = .str j/\i.length+j.length<=sizeLine/\Q (.str (i++j)) H):=by
 intro pins s σ H x y v u Q I rx ry h
 obtain⟨i,j,rfl,rfl,hz,q⟩:=h
 obtain⟨t,rfl⟩:=rx
 obtain⟨t',rfl⟩:=ry
 exact add_str (fun t' tk=>⟨.str (i++j),H,I.tok _,⟨_,rfl⟩,q⟩) hz
def fX{x:V}{us:Vv}(r:Vals [x] us):∃u,us=[u]/\RelV x u:=by
 cases r with
 |cons r1 r2=>cases r2;exact⟨_,rfl,r1⟩
def xV{x y:V}{us:Vv}(r:Vals [x,y] us):∃u w',us=[u,w']/\RelV x u/\RelV y w':=by
 cases r with
 |cons r1 r2=>
  cases r2 with
  |cons r3 r4=>cases r4;exact⟨_,_,rfl,r1,r3⟩
def tt:eN X (.builtin "abs") (fun xs H Q=>∃i,xs=[.int i]/\Q (.int (if i < 0 then -i else i)) H):=by
 intro pins s σ H xs us Q I r h
 obtain⟨i,rfl,q⟩:=h
 obtain⟨u,rfl,t,rfl⟩:=fX r
 exact call_abs_int fun u tk=>⟨.int (if i < 0 then -i else i),H,I.tok _,⟨_,rfl⟩,q⟩
def rD(hc:X.calm=true):eN X (.builtin "max") (fun xs H Q=>∃i j,xs=[.int i,.int j]/\Q (.int (if j > i then j else i)) H):=by
 intro pins s σ H xs us Q I r h
 obtain⟨i,j,rfl,q⟩:=h
 obtain⟨u,w',rfl,⟨t,rfl⟩,⟨t',rfl⟩⟩:=xV r
 refine max_two_ints (I.ok.hd hc) fun h' tk k=>⟨_,H,I.kept k,?_,q⟩
 by_cases hj:j > i
 ·rw[if_pos hj,if_pos hj];exact⟨_,rfl⟩
 ·rw[if_neg hj,if_neg hj];exact⟨_,rfl⟩
def lB:eN X (.type "int") (fun xs H Q=>(∃i,xs=[.int i]/\Q (.int i) H)\/∃k,xs=[.bl k]/\Q (.int (if k then 1 else 0)) H):=by
 intro pins s σ H xs us Q I r h
 rcases h with⟨i,rfl,q⟩|⟨k,rfl,q⟩
 ·obtain⟨u,rfl,t,rfl⟩:=fX r
  exact call_int_int ⟨.int i,H,I,⟨_,rfl⟩,q⟩
 ·obtain⟨u,rfl,r1⟩:=fX r
  cases r1
  exact call_int_bool ⟨.int (if k then 1 else 0),H,I.tok _,⟨_,rfl⟩,q⟩
end
structure ObjM (h:Heap) (x dx C:Addr) (mA:Vr):Prop where
 obj:h.get? x=some (PySem.W.instObj C dx)
 ns:h.Ns1 dx mA
 ne:dx≠x
def rE{h:Heap}{dx:Addr}{mA:Vr}(n:h.Ns1 dx mA):∃od,h.get? dx=some od/\∀name,PySem.W.lookIn name od=some (mA name):=by
 obtain⟨o,es,ep,ho,hd,hk,_,hm⟩:=n
 refine⟨o,ho,fun name=>?_⟩
 have e:=hm name
 unfold nsFind findBy at e
 rw[<-Array.find?_toList]at e
 unfold PySem.W.lookIn
 rw[hd]
 dsimp only
 split
 ·rename_i y q
  rw[q]at e
  exact congrArg some e
 ·rename_i q
  rw[q]at e
  have a:es.toList.any (·.refKey)=false:=by
   rw[List.any_eq_false]
   intro y hy
   obtain⟨z,t,hkey⟩:=hk y (Array.mem_toList_iff.mp hy)
   simp[DictEntry.refKey,hkey]
  have a':¬es.toList.any (·.refKey)=true:=by rw[a];exact Bool.false_ne_true
  rw[if_neg a']
  exact congrArg some e
def ObjM.look{h:Heap}{x dx C:Addr}{mA:Vr}(I:ObjM h x dx C mA):∃od,PySem.W.InstAt h x (PySem.W.instObj C dx) C (some od)/\∀name,PySem.W.lookIn name od=some (mA name):=
 let ⟨od,ho,hl⟩:=rE I.ns
 ⟨od,⟨I.obj,rfl,rfl,ho⟩,hl⟩
section
variable {prog:Program} {w:World} {A:Around} {E:Vq} {s:Shared} {K:Vo} {x dx C f:Addr} {mA:Vr} {name:Str} {v:Value}
def v9{expr:Bool}{Q:Vq}(X:K.In s.heap)(I:ObjM s.heap x dx C mA)(hg:PySem.W.plainGet K C name=true)(hh:PySem.W.hasDictIn K C=true)
  (ha:PySem.W.findIn K (.ref C) name=some none) (hv:mA name=some v) (hv':PySem.W.handedIn v=true) (h:Q v { s with toks:=s.toks+1 }) :
  wpAny (model prog w) A (getAttr (.ref x) name expr) Q E s:=by
 obtain⟨od,J,hl⟩:=I.look
 exact PySem.W.get_value X J (PySem.W.plainGet_of hg).1 (PySem.W.findObj_own hh ha rfl (by rw[hl,hv])) hv' h
def tu{pl:Sem Bool}{Q:Value×List Value->Shared->Prop}(X:K.In s.heap)(I:ObjM s.heap x dx C mA)(hg:PySem.W.plainGet K C name=true)
  (hf:PySem.W.findIn K (.ref C) name=some (some (.ref f))) (ht:PySem.W.isFn K (.ref f)=true) (hv:mA name=none) (h:Q (.ref f,[.ref x]) s) :
  wpAny (model prog w) A (getMethod (.ref x) name pl) Q E s:=by
 obtain⟨od,J,hl⟩:=I.look
 exact PySem.W.method_fn X J (PySem.W.plainGet_of hg).1 (PySem.W.plainGet_of hg).2 hf (beq_iff_eq.mp ht) (by show(PySem.W.lookIn name od).map (·.isSome)=some false;rw[hl,hv];rfl) h
def v_{ns:Vs}{Q:Unit->Shared->Prop}(X:K.In s.heap)(I:ObjM s.heap x dx C mA)
  (hs:PySem.W.findIn K (.ref C) "__setattr__" = some (some (.builtin "object.__setattr__"))) (hp:PySem.W.plainOver K C=true) (ht:PySem.W.takerIn K C name=some none) (hh:PySem.W.hasDictIn K C=true)
  (hw:PySem.Within mA ns) (hsz:ns.length<=sizeLine)
  (h:∀h',ObjM h' x dx C (fun y=>if y=name then some v else mA y)->Heap.SameBut dx s.heap h'->Q () { s with heap:=h',toks:=s.toks+2 }) :
  wpAny (model prog w) A (setAttr (.ref x) name v) Q E s:=by
 obtain⟨od,J,hl⟩:=I.look
 refine PySem.W.set_plain X J hs (PySem.W.osa_open (s:={ s with toks:=s.toks+1 }) (r:=none) X J hp ht fun b=>?_)
 obtain⟨cd,hc,hd'⟩:=PySem.W.any_some hh
 have hx:s.heap.get? x=some ⟨.ref C,some dx,.plain,#[]⟩:=I.obj
 refine wpAny_bind (wpAny_pure (wpAny_bind (wpAny_bind (wpAny_loadPart hx (wpAny_bind (PySem.W.Looks.here (s:={ s with toks:=s.toks+1 }) (PySem.W.looks_clsIn X hc) ?_))))))
 rw[hd']
 refine wpAny_pure (a:=some dx) (wpAny_bind (wpAny_pure (wpAny_bind ?_)))
 refine wpAny_nsSet1 (s:={ s with toks:=s.toks+1 }) I.ns fun h' hn2 hs2=>?_
 obtain⟨oD,esD,epD,Nb,Nc,Nd⟩:=hn2.count (PySem.Within.cons name v hw)
 refine wpAny_bind (wpAny_lookBehind Nb (by rw[Nc];exact pastItsLine_dict (Nat.le_trans Nd (by rw[List.length_cons];omega))) ?_)
 exact wpAny_pure (h _ ⟨(hs2.2 _ (Ne.symm I.ne)).trans I.obj,hn2,I.ne⟩ hs2)
def tw{R:Result->Shared->Prop}{vs:Vv}{kw:List (Str×Value)}(X:K.In s.heap)(hm:PySem.W.makesIn K C=true)
  (hi:PySem.W.findIn K (.ref C) "__init__" = some (some (.ref f))) (hf:PySem.W.typeIn K (.ref f)=some (.type "function"))
  (h:codeAny (model prog w) (A.under (.builtin "type.__call__" ⟨.ref C::vs,kw⟩)) (.call (.ref f) ⟨.ref (s.heap.objs.size+1)::vs,kw⟩) (PySem.W.InitBack (s.heap.objs.size+1) R)
   { s with heap:=(s.heap.push PySem.W.emptyDict).push (PySem.W.instObj C s.heap.objs.size) }) :
  codeAny (model prog w) A (.call (.ref C) ⟨vs,kw⟩) R s:=by
 obtain⟨hh,g,d,t,os⟩:=s
 exact PySem.W.make_core (PySem.W.makes_of X hm) (PySem.W.looks_findIn X hi) (fun self=>PySem.W.bind_fn X self hf) (.inl rfl) h
end
noncomputable def putF(f:Str)(v:V):List (Str×V)->List (Str×V)
 |[]=>[(f,v)]
 |(g,x)::r=>if g=f then (g,v)::r else (g,x)::putF f v r
theorem jw(f g:Str)(v:V):∀fs:List (Str×V),(putF f v fs).lookup g=if g=f then some v else fs.lookup g
 |[]=>by
  show List.lookup g [(f,v)]=_
  by_cases h:g=f
  ·have hb:(g == f)=true:=beq_iff_eq.mpr h
   simp only[List.lookup,hb,if_pos h]
  ·have hb:(g == f)=false:=beq_eq_false_iff_ne.mpr h
   simp only[List.lookup,hb,if_neg h]
 |(k,x)::r=>by
  have ih:=jw f g v r
  rw[show putF f v ((k,x)::r)=(if k=f then (k,v)::r else (k,x)::putF f v r)from rfl]
  by_cases hk:k=f
  ·rw[if_pos hk]
   by_cases h:g=k
   ·have hb:(g == k)=true:=beq_iff_eq.mpr h
    simp only[List.lookup,hb,if_pos (h.trans hk)]
   ·have hb:(g == k)=false:=beq_eq_false_iff_ne.mpr h
    simp only[List.lookup,hb,if_neg (fun e:g=f=>h (e.trans hk.symm))]
  ·rw[if_neg hk]
   by_cases h:g=k
   ·have hb:(g == k)=true:=beq_iff_eq.mpr h
    simp only[List.lookup,hb,if_neg (fun e:g=f=>hk (h.symm.trans e))]
   ·have hb:(g == k)=false:=beq_eq_false_iff_ne.mpr h
    simp only[List.lookup,hb]
    exact ih
theorem i3(f:Str)(v:V):∀fs:List (Str×V),f∈(putF f v fs).map (·.1)/\∀g,g∈fs.map (·.1)->g∈(putF f v fs).map (·.1)
 |[]=>⟨by simp[putF],fun g h=>by simp at h⟩
 |(k,x)::r=>by
  obtain⟨i1,i2⟩:=i3 f v r
  rw[show putF f v ((k,x)::r)=(if k=f then (k,v)::r else (k,x)::putF f v r)from rfl]
  by_cases hk:k=f
  ·rw[if_pos hk]
   subst hk
   exact⟨by simp,fun g h=>by simpa using h⟩
  ·rw[if_neg hk]
   refine⟨?_,fun g h=>?_⟩
   ·rw[List.map_cons]
    exact List.mem_cons_of_mem _ i1
   ·rw[List.map_cons]at h ⊢
    rcases List.mem_cons.mp h with e|e
    ·exact List.mem_cons.mpr (.inl e)
    ·exact List.mem_cons_of_mem _ (i2 g e)
theorem jx(f:Str)(v:V):∀fs:List (Str×V),(putF f v fs).length<=fs.length+1
 |[]=>by simp[putF]
 |(k,x)::r=>by
  have ih:=jx f v r
  rw[show putF f v ((k,x)::r)=(if k=f then (k,v)::r else (k,x)::putF f v r)from rfl]
  by_cases hk:k=f
  ·rw[if_pos hk,List.length_cons,List.length_cons];omega
  ·rw[if_neg hk,List.length_cons,List.length_cons];omega
def Gp.some_of{v:V}{o:Option Value}(r:Gp (some v) o):∃u,o=some u/\RelV v u:=by
 cases o with
 |none=>exact(show False from r).elim
 |some u=>exact⟨u,rfl,r⟩
def Gp.none_of{o:Option Value}(r:Gp none o):o=none:=by
 cases o with
 |none=>rfl
 |some u=>exact(show False from r).elim
def rF{v:V}{u:Value}(r:RelV v u):PySem.W.handedIn u=true:=by
 cases v with
 |non=>cases (show u=Value.none from r);rfl
 |bl b=>cases (show u=Value.bool b from r);rfl
 |int i=>obtain⟨t,e⟩:=(show ∃t,u=Value.int i t from r);cases e;rfl
 |str x=>obtain⟨t,e⟩:=(show ∃t,u=Value.str x t from r);cases e;rfl
 |IZ b=>obtain⟨t,e⟩:=(show ∃t,u=Value.bytes b t from r);cases e;rfl
 |K5 b=>obtain⟨t,e⟩:=(show ∃t,u=Value.float b t from r);cases e;rfl
 |ref a=>cases (show u=Value.ref a from r);rfl
 |ty n=>cases (show u=Value.type n from r);rfl
section
variable {P:Program} {w:World} {H H':Hp} {h h':Heap} {a C dx:Addr} {fs fs':List (Str×V)}
def md(hok:GN P w H h)(e:H a=some (.ins C dx fs)):∃mA,ObjM h a dx C mA/\(∀f,Gp (fs.lookup f) (mA f))/\PySem.Within mA (fs.map (·.1))/\fs.length<=1000/\H dx=some (.own a):=by
 obtain⟨d,z,ne,ob,mA,n,r,q⟩:=(show Fu P w H h a (.ins C dx fs)from hok a _ e)
 exact⟨mA,⟨ob,n,ne⟩,r,q,z,d⟩
end
structure Cls (K:Vo) (C:Addr):Prop where
 pg:PySem.W.plainGet K C Str.empty=true
 hd:PySem.W.hasDictIn K C=true
 po:PySem.W.plainOver K C=true
 sa:PySem.W.findIn K (.ref C) "__setattr__" = some (some (.builtin "object.__setattr__"))
def Cls.get{K:Vo}{C:Addr}(c:Cls K C)(f:Str):PySem.W.plainGet K C f=true:=c.pg
def NoAttr(K:Vo)(C:Addr)(f:Str):Prop:=PySem.W.findIn K (.ref C) f=some none
def NoAttr.KB{K:Vo}{C:Addr}{f:Str}(n:NoAttr K C f):PySem.W.takerIn K C f=some none:=by
 unfold PySem.W.takerIn
 rw[show PySem.W.findIn K (.ref C) f=some none from n]
 rfl
structure tz (K:Vo) (C:Addr) (m:Str) (f:Addr):Prop where
 at_:PySem.W.findIn K (.ref C) m=some (some (.ref f))
 fn:PySem.W.isFn K (.ref f)=true
 kp:PySem.W.keepIn K (.ref f)=true
section
variable {X:Cx} {pins:Va} {σ:St} {H:Hp} {s:Shared} {a C dx:Addr} {fs:List (Str×V)} {f:Str} {v:V} {A:Around} {E:Vq}
def oS{b:Bool}{Q:Vq}(I:Inv X pins σ H s)(e:H a=some (.ins C dx fs))(c:Cls X.K C)(n:NoAttr X.K C f)(l:fs.lookup f=some v)
  (h:∀u s',Inv X pins σ H s'->RelV v u->Q u s'):wpAny (model X.prog X.w) A (getAttr (.ref a) f b) Q E s:=by
 obtain⟨mA,O,r,_,_,_⟩:=md I.hok e
 obtain⟨u,hu,ru⟩:=Gp.some_of (v:=v) (o:=mA f) (by rw[<-l];exact r f)
 exact v9 I.Ix O (c.get f) c.hd n hu (rF ru) (h u _ (I.tok _) ru)
def j3{m:Str}{g:Addr}{pl:Sem Bool}{Q:Value×List Value->Shared->Prop}(I:Inv X pins σ H s)(e:H a=some (.ins C dx fs))(c:Cls X.K C)(k:tz X.K C m g)(l:fs.lookup m=none)
  (h:Q (.ref g,[.ref a]) s):wpAny (model X.prog X.w) A (getMethod (.ref a) m pl) Q E s:=by
 obtain⟨mA,O,r,_,_,_⟩:=md I.hok e
 have hn:mA m=none:=Gp.none_of (by rw[<-l];exact r m)
 exact tu I.Ix O (c.get m) k.at_ k.fn hn h
def oU{y:V}{u:Value}{Q:Unit->Shared->Prop}(I:Inv X pins σ H s)(e:H a=some (.ins C dx fs))(c:Cls X.K C)(n:NoAttr X.K C f)(hl:fs.length < 1000)(ry:RelV y u)
  (h:∀s',Inv X pins σ (upd H a (.ins C dx (putF f y fs))) s'->Q () s'):wpAny (model X.prog X.w) A (setAttr (.ref a) f u) Q E s:=by
 obtain⟨mA,O,r,wi,_,ho⟩:=md I.hok e
 have hz:(fs.map (·.1)).length<=sizeLine:=by rw[List.length_map,sizeLine_eq];omega
 refine v_ I.Ix O c.sa c.po n.KB c.hd wi hz fun h' O' sb=>h _ ?_
 have hd:∃o,h'.get? dx=some o:=let ⟨o,_,_,e',_⟩:=O'.ns;⟨o,e'⟩
 refine I.write (x:=a) (e:=dx) (by rw[e];exact True.intro) (.inr ho) (fun b q hb z=>(sb.2 b hb).trans z) hd ?_
 refine⟨by rw[aC O.ne];exact ho,?_,O.ne,O'.obj,_,O'.ns,fun g=>?_,fun g hg=>?_⟩
 ·have:=jx f y fs;omega
 ·show Gp ((putF f y fs).lookup g) (if g=f then some u else mA g)
  rw[jw]
  by_cases q:g=f
  ·rw[if_pos q,if_pos q];exact ry
  ·rw[if_neg q,if_neg q];exact r g
 ·by_cases q:g=f
  ·rw[q];exact(i3 f y fs).1
  ·refine(i3 f y fs).2 g (wi g fun z=>hg ?_)
   show(if g=f then some u else mA g)=none
   rw[if_neg q];exact z
def Inv.made(I:Inv X pins σ H s):Inv X pins σ (upd (upd H s.heap.objs.size (.own (s.heap.objs.size+1))) (s.heap.objs.size+1) (.ins C s.heap.objs.size []))
  { s with heap:=(s.heap.push PySem.W.emptyDict).push (PySem.W.instObj C s.heap.objs.size) }:=by
 have e1:(s.heap.push PySem.W.emptyDict).get? s.heap.objs.size=some PySem.W.emptyDict:=Heap.get?_push_size s.heap rfl
 have e2:((s.heap.push PySem.W.emptyDict).push (PySem.W.instObj C s.heap.objs.size)).get? (s.heap.objs.size+1)=some (PySem.W.instObj C s.heap.objs.size):=by
  have:=Heap.get?_push_size (s.heap.push PySem.W.emptyDict) (o:=PySem.W.instObj C s.heap.objs.size) rfl
  rwa [Heap.size_push]at this
 have e3:(s.heap.push PySem.W.emptyDict).Ns s.heap.objs.size (fun _=>none):=⟨PySem.W.emptyDict,#[],_,e1,rfl,(fun e he=>absurd he (by simp)),fun _=>rfl⟩
 have I1:=I.laid (a:=s.heap.objs.size) (o:=.own (s.heap.objs.size+1)) (h':=s.heap.push PySem.W.emptyDict) (t':=s.toks) (fun b u q=>Heap.get?_push_of_some _ q) (Nat.le_refl _) ⟨_,e1⟩
 refine I1.laid (a:=s.heap.objs.size+1) (o:=.ins C s.heap.objs.size []) (t':=s.toks) (fun b u q=>Heap.get?_push_of_some _ q) (Nat.le_of_eq (Heap.size_push _ _)) ?_
 have ne:s.heap.objs.size≠s.heap.objs.size+1:=Nat.ne_of_lt (Nat.lt_succ_self _)
 refine⟨by rw[aC ne,aB],Nat.zero_le _,ne,e2,fun _=>none,(Heap.Ns1.of_empty e3).at fun o q=>Heap.get?_push_of_some _ q,fun _=>True.intro,fun y hy=>absurd rfl hy⟩
def wa{prog:Program}{w:World}{env:Env}{e:Expr}{f:Str}{pos:Pos}{s:Shared}{Q:Vq}(hb:attributeBase e f env (eval e env)=eval e env)
  (h:wpAny (model prog w) A (eval e env) (fun o s₁=>wpAny (model prog w) A (getAttr o f true) Q E s₁) E s):wpAny (model prog w) A (eval (.Attribute e f pos) env) Q E s:=
 Attribute_any_ h (by rw[arm_eval_Attribute,hb])
end
def Dq(K:Vo)(ta:TE)(f:Str):TE:=fun σ H Q=>ta σ H fun x H1=>∃a C dx fs v,x = .ref a/\H1 a=some (.ins C dx fs)/\Cls K C/\NoAttr K C f/\fs.lookup f=some v/\Q v H1
def Ds(K:Vo)(ta tv:TE)(f:Str):TS:=fun D σ H=>tv σ H fun y H1=>ta σ H1 fun x H2=>∃a C dx fs,x = .ref a/\H2 a=some (.ins C dx fs)/\Cls K C/\NoAttr K C f/\fs.length < 1000/\
 D.nx σ (upd H2 a (.ins C dx (putF f y fs)))
section
variable {X:Cx} {o e value:Expr} {f:Str} {pos pos' tpos:Pos} {ta tv:TE}
def zg(he:PE X e ta)(hb:attributeBase e f X.env (eval e X.env)=eval e X.env):PE X (.Attribute e f pos) (Dq X.K ta f):=by
 intro pins s σ H Q I h
 refine wa hb (bC (he pins s σ H _ I h) fun u s1 ⟨x,H1,I1,rx,a,C,dx,fs,v,ex,ea,c,n,l,q⟩=>?_)
 subst ex
 obtain rfl:u=Value.ref a:=rx
 exact oS I1 ea c n l fun u' s2 I2 ru=>⟨v,H1,I2,ru,q⟩
def zh(ha:PE X o ta)(hv:PE X value tv)(hs:swapsWith value (some (.Attribute o f pos')) pos.line X.env=pure false):PS X (.Assign [.Attribute o f pos'] value pos) (Ds X.K ta tv f):=by
 intro pins s σ H D I h
 refine plainObj_wpAny_Assign_Attribute (bC (hv pins s σ H _ I h) fun u s1 ⟨y,H1,I1,ry,q⟩=>bC (ha pins s1 σ H1 _ I1 q) fun ov s2 ⟨x,H2,I2,rx,a,C,dx,fs,ex,ea,c,n,l,q2⟩=>?_) hs
 subst ex
 obtain rfl:ov=Value.ref a:=rx
 exact oU I2 ea c n l ry fun s3 I3=>⟨σ,_,I3,q2⟩
end
structure Room (k:Nat) (A:Around):Prop where
 hd:A.handled=none
 dp:A.depth+3 * k+5 < recursionLimit
 un:A.units+16 * k+200 < cLine
 gd:A.guards=some []
def Room.mono{j k:Nat}{A:Around}(r:Room k A)(h:j<=k):Room j A:=⟨r.hd,by have:=r.dp;omega,by have:=r.un;omega,r.gd⟩
theorem Room.deeper{k:Nat}{A:Around}(r:Room (k+1) A)(env:Env):Room k (A.deeper env):=
 ⟨r.hd,by have:=r.dp;show A.depth+1+3 * k+5 < _;omega,by have:=r.un;show A.units+3+16 * k+200 < _;omega,r.gd⟩
def oV{A:Around}{C:Addr}{us:Vv}{kw:List (Str×Value)}:(A.under (.builtin "type.__call__" ⟨.ref C::us,kw⟩)).depth=A.depth+1:=by
 first|rfl|simp[Around.under,Code.weight,Code.isCreation,Code.isGuard,Code.isCaller,Code.frames,Code.isFrame,guardIds]
def oW{A:Around}{C:Addr}{us:Vv}{kw:List (Str×Value)}:(A.under (.builtin "type.__call__" ⟨.ref C::us,kw⟩)).units=A.units+1:=by
 first|rfl|simp[Around.under,Code.cUnits,Code.frames,Code.isFrame]
def nA{A:Around}{C:Addr}{us:Vv}{kw:List (Str×Value)}:(A.under (.builtin "type.__call__" ⟨.ref C::us,kw⟩)).guards=A.guards:=by
 first|rfl|(cases h:A.guards<;>simp[Around.under,Code.guards,Code.isGuard,guardIds,pushGuards,h])
def Room.make{k:Nat}{A:Around}(r:Room (k+1) A)(C:Addr)(us:Vv)(kw:List (Str×Value)):Room k (A.under (.builtin "type.__call__" ⟨.ref C::us,kw⟩)):=
 ⟨r.hd,by have:=r.dp;rw[oV];omega,by have:=r.un;rw[oW];omega,by rw[nA];exact r.gd⟩
theorem Room.depth{k:Nat}{A:Around}(r:Room k A):A.depth < recursionLimit:=by have:=r.dp;omega
def wb:TA:=fun _ H Q=>Q [] H
def tD(ta:TE)(tr:TA):TA:=fun σ H Q=>ta σ H fun x H1=>tr σ H1 fun xs H2=>Q (x::xs) H2
section
variable {X:Cx} {e:Expr} {es:List Expr} {te:TE} {t:TA} {pos:Pos}
def zi:PA X [] wb:=fun _ _ _ _ H Q I h=>Calls.spliced_nil ⟨[],H,I,.nil,h⟩
def wc(ha:PE X e te)(hr:PA X es t)(hs:starEach (e::es) X.env=(false,eval e X.env)::starEach es X.env:=by rfl):PA X (e::es) (tD te t):=by
 intro pos pins s σ H Q I h
 rw[hs]
 show wpAny _ _ (spliced ((false,eval e X.env)::backTo pos (starEach es X.env))) _ _ s
 refine Calls.spliced_cons (bC (ha pins s σ H _ I h) fun u s1 ⟨x,H1,I1,r1,q1⟩=>?_)
 exact bC (hr pos pins s1 σ H1 _ I1 q1) fun us s2 ⟨xs,H2,I2,r2,q2⟩=>⟨x::xs,H2,I2,.cons r1 r2,q2⟩
def Dt(t:TA):TE:=fun σ H Q=>t σ H fun xs H1=>xs.length<=sizeLine/\∀p,H1 p=none->Q (.ref p) (upd H1 p (.tup xs))
def Dv(t:TA):TE:=fun σ H Q=>t σ H fun xs H1=>xs.length<=sizeLine/\∀p,H1 p=none->Q (.ref p) (upd H1 p (.lst xs))
def zj{x1}(h:PA X es t):PE X (.Tuple es x1 pos) (Dt t):=by
 intro pins s σ H Q I hq
 refine wpAny_Tuple_spliced (bC (h pos pins s σ H _ I hq) fun us s1 ⟨xs,H1,I1,r,z,q⟩=>⟨by rw[<-r.length];exact z,?_⟩)
 have hf:H1 s1.heap.objs.size=none:=I1.hok.fresh (Nat.le_refl _)
 refine⟨.ref s1.heap.objs.size,upd H1 s1.heap.objs.size (.tup xs),I1.laid (t':=s1.toks) (fun b u e=>Heap.get?_push_of_some _ e) (Nat.le_refl _) ?_,rfl,q _ hf⟩
 exact⟨z,us,r,⟨_,Heap.get?_push_size _ rfl,rfl,rfl,_,rfl⟩⟩
def zk(h:PA X es t):PE X (.List es pos) (Dv t):=by
 intro pins s σ H Q I hq
 refine wpAny_List_spliced (bC (h pos pins s σ H _ I hq) fun us s1 ⟨xs,H1,I1,r,z,q⟩=>⟨by rw[<-r.length];exact z,?_⟩)
 have hf:H1 s1.heap.objs.size=none:=I1.hok.fresh (Nat.le_refl _)
 refine⟨.ref s1.heap.objs.size,upd H1 s1.heap.objs.size (.lst xs),I1.laid (t':=s1.toks) (fun b u e=>Heap.get?_push_of_some _ e) (Nat.le_refl _) ?_,rfl,q _ hf⟩
 exact⟨z,us,0,r,Heap.get?_push_size _ rfl⟩
end
abbrev Sp:=List V->Hp->VK->XK->Prop
abbrev tE:=List Env->Hp->Shared->XK->Value->Shared->Prop
structure IB (P:Program) (w:World) (K:Vo) (mg:Vr) (base:Heap) (A:Around) (outer:List Env) (s:Shared) (H:Hp):Prop where
 frames:A.frames=some outer
 mod:Mod K mg base
 bs:∀b o,base.get? b=some o->s.heap.get? b=some o/\H b=none
 Jm:base.objs.size<=s.heap.objs.size
 G5:s.heap.FunFrames base outer
 JG:∀b∈frs outer,H b=none
 hok:GN P w H s.heap
 bare:AllBare s.gens
def CE(outer:List Env)(P:Program)(w:World)(H:Hp)(s:Shared)(Q:VK)(u:Value)(s':Shared):Prop:=
 ∃v H',s'.os=s.os/\AllBare s'.gens/\Un (frs outer) [] H H' s.heap s'.heap/\GN P w H' s'.heap/\RelV v u/\Q v H'
def CR(CX:tE)(outer:List Env)(P:Program)(w:World)(H:Hp)(s:Shared)(Q:VK)(E:XK)(r:Result)(s':Shared):Prop:=
 match r with
 | .ok (.ret u)=>CE outer P w H s Q u s'
 | .ok _=>False
 | .error e=>CX outer H s E e s'
structure i4 (P:Program) (w:World) (K:Vo) (mg:Vr) (base:Heap) (CX:tE) (k:Nat) (f:Addr) (fd:FuncData) (ps:Vs) (sp:Sp):Prop where
 len:∀vs H Q E,sp vs H Q E->vs.length=ps.length
 run:∀(A:Around) (outer:List Env) (s:Shared) (H:Hp) (args:Args) (us:Vv) (vs:List V) (Q:VK) (E:XK),Room k A->IB P w K mg base A outer s H->BindsTo s fd args (ps.zip us)->Vals vs us->sp vs H Q E->
  codeAny (model P w) A (.call (.ref f) args) (CR CX outer P w H s Q E) s
def IB.make{P:Program}{w:World}{K:Vo}{mg:Vr}{base:Heap}{A:Around}{outer:List Env}{s:Shared}{H:Hp}(e:IB P w K mg base A outer s H)(C:Addr)(us:Vv)(kw:List (Str×Value)) :
  IB P w K mg base (A.under (.builtin "type.__call__" ⟨.ref C::us,kw⟩)) outer s H:=⟨by first|exact e.frames|(simpa [Around.under,Code.envs,Code.isFrame,pushEnvs]using e.frames),e.mod,e.bs,e.Jm,e.G5,e.JG,e.hok,e.bare⟩
section
variable {X:Cx} {pins:Va} {σ:St} {H:Hp} {s s':Shared}
def Inv.KC(I:Inv X pins σ H s):IB X.prog X.w X.K X.mg X.base X.A X.stack s H:=
 ⟨I.ok.frames,I.ok.mod,I.bs,Nat.le_trans I.ok.Jm I.sz,I.stack,I.II,I.hok,I.bare⟩
def Inv.after{Q:VK}{u:Value}(I:Inv X pins σ H s)(h:CE X.stack X.prog X.w H s Q u s'):EP X pins σ Q u s':=by
 obtain⟨v,H',os,bare,un,hok,r,q⟩:=h
 obtain⟨hh,g,d,t,os'⟩:=s'
 obtain rfl:os'=s.os:=os
 exact⟨v,H',I.call (h':=hh) (g':=g) (d':=d) (t':=t) (ch:=[]) un hok bare (fun b z=>absurd z (by simp)),r,q⟩
end
def Bo(sp:Sp)(dvs:List V)(E:XK)(t:TA):TE:=fun σ H Q=>t σ H fun vs H1=>sp (vs++dvs) H1 Q E
def xW(C:Addr)(m:Str)(sp:Sp)(dvs:List V)(E:XK)(ta:TE)(t:TA):TE:=fun σ H Q=>ta σ H fun x H1=>∃a dx fs,x = .ref a/\H1 a=some (.ins C dx fs)/\fs.lookup m=none/\
 t σ H1 fun vs H2=>sp (x::(vs++dvs)) H2 Q E
def Bp(C:Addr)(sp:Sp)(dvs:List V)(E:XK)(t:TA):TE:=fun σ H Q=>t σ H fun vs H1=>∀x dx,H1 x=none->H1 dx=none->dx≠x->
 sp (.ref x::(vs++dvs)) (upd (upd H1 dx (.own x)) x (.ins C dx [])) (fun v H2=>v = .non/\Q (.ref x) H2) E
def Binds(K:Vo)(fd:FuncData)(ps:Vs)(ds:Vv):Prop:=
 ∀(s:Shared) (us:Vv),K.In s.heap->(us++ds).length=ps.length->BindsTo s fd ⟨us,[]⟩ (ps.zip (us++ds))
def Binds.all{K:Vo}{fd:FuncData}{ps:Vs}(h:∀us:List Value,us.length=ps.length->bindArgs fd ⟨us,[]⟩=pure (ps.zip us)):Binds K fd ps []:=fun s us _ hl=>by
 rw[List.append_nil]at hl ⊢
 exact .of_eq (h us hl)
def ie(CX:tE)(X:Cx)(E:XK):Prop:=∀(pins:Va) (σ:St) (H:Hp) (s:Shared) (e:Value) (s':Shared),Inv X pins σ H s->CX X.stack H s E e s'->X.xe e s'
section
variable {X:Cx} {CX:tE} {k:Nat} {f C:Addr} {fd:FuncData} {ps:Vs} {sp:Sp} {dvs:List V} {ds:Vv} {E:XK} {x m:Str} {p pos apos:Pos} {e o:Expr} {es:List Expr} {ta:TE} {t:TA}
def oX{pins:Va}{σ:St}{H:Hp}{s:Shared}{Q:VK}{us:Vv}{vs:List V}(F:i4 X.prog X.w X.K X.mg X.base CX k f fd ps sp)(hr:Room k X.A)(hb:Binds X.K fd ps ds)(hd:Vals dvs ds)(hx:ie CX X E)
  (I:Inv X pins σ H s) (r:Vals vs us) (h:sp (vs++dvs) H Q E):wpAny (model X.prog X.w) X.A (call (.ref f) us) (EP X pins σ Q) X.xe s:=by
 have r2:Vals (vs++dvs) (us++ds):=r.append hd
 have hl:(us++ds).length=ps.length:=by rw[<-r2.length];exact F.len _ _ _ _ h
 refine wpAny_call (codeAny_mono (F.run X.A X.stack s H ⟨us,[]⟩ (us++ds) (vs++dvs) Q E hr I.KC (hb s us I.Ix hl) r2 h) fun r s' hq=>?_)
 cases r with
 |error e=>exact hx pins σ H s e s' I hq
 |ok fl=>
  cases fl with
  |ret u=>exact I.after hq
  |next=>exact False.elim hq
  |brk=>exact False.elim hq
  |cont=>exact False.elim hq
def we(F:i4 X.prog X.w X.K X.mg X.base CX k f fd ps sp)(hr:Room k X.A)(hg:Gl X x)(hm:X.mg x=some (.ref f))(hk:PySem.W.keepIn X.K (.ref f)=true)(hb:Binds X.K fd ps ds)(hd:Vals dvs ds)(hx:ie CX X E)
  (ha:PA X (e::es) t) (hdb:(x == ("__debug__":Str))=false:=by decide) (he:starEach (e::es) X.env=(false,eval e X.env)::starEach es X.env:=by rfl) (hpl:(backTo pos (starEach es X.env)).any (·.1)=false:=by rfl) :
  PE X (.Call (.Name x p) (e::es) [] pos) (Bo sp dvs E t):=by
 intro pins s σ H Q I h
 refine wpAny_Call_Name_kw (qq I hg hm ?_ hdb)
 refine PySem.W.callWith_K (h₀:=X.base) I.ok.mod.Kv hk (bC (ha pos pins s σ H _ I h) fun us s1 ⟨vs,H1,I1,r,q⟩=>⟨I1.Ix,?_⟩) he hpl
 exact oX F hr hb hd hx I1 r q
def wf{pl:Sem Bool}(he:PE X o ta)(c:Cls X.K C)(hm:tz X.K C m f)(F:i4 X.prog X.w X.K X.mg X.base CX k f fd ps sp)(hr:Room k X.A)(hb:Binds X.K fd ps ds)(hd:Vals dvs ds)(hx:ie CX X E)(ha:PA X (e::es) t)
  (hst:starEach (e::es) X.env=(false,eval e X.env)::starEach es X.env:=by rfl) (hpl:(backTo pos (starEach es X.env)).any (·.1)=false:=by rfl)
  (ht:eval (.Call (.Attribute o m apos) (e::es) [] pos) X.env=(do
   let ov <-eval o X.env
   standAt apos.atName
   let (f,first) <-holding [ov] (getMethod ov m pl)
   callWith pos f first (backTo pos (starEach (e::es) X.env)) (backToKw pos (keywordEach [] X.env))):=by rfl) :
  PE X (.Call (.Attribute o m apos) (e::es) [] pos) (xW C m sp dvs E ta t):=by
 intro pins s σ H Q I h
 refine PySem.W.methodCall_KW (pl:=pl) (bC (he pins s σ H _ I h) fun u s1 ⟨x,H1,I1,rx,a,dx,fs,ex,ea,l,q⟩=>?_) ht
 subst ex
 obtain rfl:u=Value.ref a:=rx
 refine j3 I1 ea c hm l ?_
 refine PySem.W.callWith_K (first:=[.ref a]) (h₀:=X.base) I.ok.mod.Kv hm.kp (bC (ha pos pins s1 σ H1 _ I1 q) fun us s2 ⟨vs,H2,I2,r,q2⟩=>⟨I2.Ix,?_⟩) hst hpl
 exact oX (us:=.ref a::us) (vs:=.ref a::vs) F hr hb hd hx I2 (.cons rfl r) q2
def tF{pl:Sem Bool}(he:PE X o ta)(c:Cls X.K C)(hm:tz X.K C m f)(F:i4 X.prog X.w X.K X.mg X.base CX k f fd ps sp)(hr:Room k X.A)(hb:Binds X.K fd ps ds)(hd:Vals dvs ds)(hx:ie CX X E)
  (ht:eval (.Call (.Attribute o m apos) [] [] pos) X.env=(do
   let ov <-eval o X.env
   standAt apos.atName
   let (f,first) <-holding [ov] (getMethod ov m pl)
   callWith pos f first (backTo pos (starEach [] X.env)) (backToKw pos (keywordEach [] X.env))):=by rfl) :
  PE X (.Call (.Attribute o m apos) [] [] pos) (xW C m sp dvs E ta wb):=by
 intro pins s σ H Q I h
 refine PySem.W.methodCall_KW (pl:=pl) (bC (he pins s σ H _ I h) fun u s1 ⟨x,H1,I1,rx,a,dx,fs,ex,ea,l,q⟩=>?_) ht
 subst ex
 obtain rfl:u=Value.ref a:=rx
 refine j3 I1 ea c hm l ?_
 exact PySem.W.callWith_K0 (first:=[.ref a]) I1.Ix hm.kp (oX (us:=[.ref a]) (vs:=[.ref a]) F hr hb hd hx I1 (.cons rfl .nil) q)
structure Mk (K:Vo) (C f:Addr):Prop where
 makes:PySem.W.makesIn K C=true
 init:PySem.W.findIn K (.ref C) "__init__" = some (some (.ref f))
 fn:PySem.W.isFn K (.ref f)=true
 kp:PySem.W.keepIn K (.ref C)=true
def tG{pins:Va}{σ:St}{H:Hp}{s:Shared}{Q:VK}{us:Vv}{vs:List V}(M:Mk X.K C f)(F:i4 X.prog X.w X.K X.mg X.base CX k f fd ps sp)(hr:Room (k+1) X.A)(hb:Binds X.K fd ps ds)(hd:Vals dvs ds)
  (hx:ie CX X E) (I:Inv X pins σ H s) (r:Vals vs us)
  (h:∀x dx,H x=none->H dx=none->dx≠x->sp (.ref x::(vs++dvs)) (upd (upd H dx (.own x)) x (.ins C dx [])) (fun v H2=>v = .non/\Q (.ref x) H2) E) :
  wpAny (model X.prog X.w) X.A (call (.ref C) us) (EP X pins σ Q) X.xe s:=by
 have hq:=h (s.heap.objs.size+1) s.heap.objs.size (I.hok.fresh (Nat.le_succ _)) (I.hok.fresh (Nat.le_refl _)) (Nat.ne_of_lt (Nat.lt_succ_self _))
 have I2:=Inv.made (C:=C) I
 have r2:Vals (V.ref (s.heap.objs.size+1)::(vs++dvs)) (Value.ref (s.heap.objs.size+1)::(us++ds)):=.cons rfl (r.append hd)
 have hl:(Value.ref (s.heap.objs.size+1)::us++ds).length=ps.length:=by
  have e:=r2.length
  rw[F.len _ _ _ _ hq]at e
  exact e.symm
 refine wpAny_call (tw (f:=f) I.Ix M.makes M.init (beq_iff_eq.mp M.fn) (codeAny_mono (F.run _ X.stack _ _ ⟨Value.ref (s.heap.objs.size+1)::us,[]⟩ (Value.ref (s.heap.objs.size+1)::(us++ds)) _ _ E (hr.make C us [])
  (I2.KC.make C us []) (hb _ (Value.ref (s.heap.objs.size+1)::us) I2.Ix hl) r2 hq) fun r s' hq'=>?_))
 cases r with
 |error e=>exact hx pins σ _ _ e s' I2 hq'
 |ok fl=>
  cases fl with
  |ret u=>
   obtain⟨v,H',I3,rv,ev,q3⟩:=I2.after hq'
   subst ev
   exact⟨rv,⟨V.ref (s.heap.objs.size+1),H',I3,rfl,q3⟩⟩
  |next=>exact False.elim hq'
  |brk=>exact False.elim hq'
  |cont=>exact False.elim hq'
def wg(M:Mk X.K C f)(F:i4 X.prog X.w X.K X.mg X.base CX k f fd ps sp)(hr:Room (k+1) X.A)(hg:Gl X x)(hm:X.mg x=some (.ref C))(hb:Binds X.K fd ps ds)(hd:Vals dvs ds)(hx:ie CX X E)
  (ha:PA X (e::es) t) (hdb:(x == ("__debug__":Str))=false:=by decide) (he:starEach (e::es) X.env=(false,eval e X.env)::starEach es X.env:=by rfl) (hpl:(backTo pos (starEach es X.env)).any (·.1)=false:=by rfl) :
  PE X (.Call (.Name x p) (e::es) [] pos) (Bp C sp dvs E t):=by
 intro pins s σ H Q I h
 refine wpAny_Call_Name_kw (qq I hg hm ?_ hdb)
 refine PySem.W.callWith_K (h₀:=X.base) I.ok.mod.Kv M.kp (bC (ha pos pins s σ H _ I h) fun us s1 ⟨vs,H1,I1,r,q⟩=>⟨I1.Ix,?_⟩) he hpl
 exact tG M F hr hb hd hx I1 r q
end
def PK(X:Cx)(kws:List Keyword)(t:TA):Prop:=
 ∀(pos:Pos) (pins:Va) (s:Shared) (σ:St) (H:Hp) (Q:List V->Hp->Prop),Inv X pins σ H s->t σ H Q->wpAny (model X.prog X.w) X.A (evalAll ((backToKw pos (keywordEach kws X.env)).map (·.2))) (AP X pins σ Q) X.xe s
section
variable {X:Cx} {CX:tE} {k:Nat} {f C:Addr} {fd:FuncData} {ps ks:Vs} {sp:Sp} {E:XK} {x m:Str} {p pos apos kpos:Pos} {e o:Expr} {es:List Expr} {kws:List Keyword} {te ta:TE} {t tk:TA} {nm:Option Str}
def zm:PK X [] wb:=fun _ _ _ _ H Q I h=>wpAny_evalAll_nil ⟨[],H,I,.nil,h⟩
def wj(ha:PE X e te)(hr:PK X kws t):PK X (⟨nm,e,kpos⟩::kws) (tD te t):=by
 intro pos pins s σ H Q I h
 show wpAny _ _ (evalAll ((do let v <-eval e X.env;standAt pos;pure v)::(backToKw pos (keywordEach kws X.env)).map (·.2))) _ _ s
 refine wpAny_evalAll_cons (wpAny_bind (bC (ha pins s σ H _ I h) fun u s1 ⟨x,H1,I1,r1,q1⟩=>wpAny_bind (wpAny_standAt (wpAny_pure ?_))))
 exact bC (hr pos pins s1 σ H1 _ I1 q1) fun us s2 ⟨xs,H2,I2,r2,q2⟩=>⟨x::xs,H2,I2,.cons r1 r2,q2⟩
variable {g:List Value->List Value->List Value} {gV:List V->List V->List V}
end
structure ff (N P:Vs) (sc:Scope):Prop where
 kind:sc.kind = .function
 co:sc.isCoroutine=false
 gen:sc.isGenerator=false
 nd:N.Nodup
 pre:N.take P.length=P
 par:∀x∈P,sc.names.lookup x=some .local\/sc.names.lookup x=some .cell
 JU:∀y∈sc.names,y.2 ≠ .free
theorem lD{kindOf:Str->Option NameKind}{x:Str}:∀{binds:List (Str×Value)} {m:Vr},(∀v,(x,v) ∉ binds)->bindL kindOf binds m x=m x
 |[],_,_=>rfl
 |(n,v)::r,m,h=>by
  unfold bindL
  rw[lD fun w hw=>h w (List.mem_cons_of_mem _ hw)]
  split
  ·have:x≠n:=by rintro rfl;exact h v List.mem_cons_self
   simp[this]
  ·rfl
theorem lE{kindOf:Str->Option NameKind}{x:Str}:∀{binds:List (Str×Value)} {m:Vr},(∀v,(x,v) ∉ binds)->bindC kindOf binds m x=m x
 |[],_,_=>rfl
 |(n,v)::r,m,h=>by
  unfold bindC
  rw[lE fun w hw=>h w (List.mem_cons_of_mem _ hw)]
  split
  ·rfl
  ·have:x≠n:=by rintro rfl;exact h v List.mem_cons_self
   simp[this]
theorem lF{kindOf:Str->Option NameKind}{x:Str}{v:Value}:∀{P:Vs} {vs:Vv} {i:Nat} {m:Vr},P.Nodup->P[i]?=some x->vs[i]?=some v->kindOf x=some .local->
  bindL kindOf (P.zip vs) m x=some v
 |[],_,_,_,_,h,_,_=>by simp at h
 |_::_,[],_,_,_,_,h,_=>by simp at h
 |p::P,w::vs,0,m,nd,h1,h2,hk=>by
  simp at h1 h2;subst h1;subst h2
  show bindL kindOf ((p,w)::P.zip vs) m p=_
  unfold bindL
  rw[lD fun v hv=>(List.nodup_cons.mp nd).1 (List.of_mem_zip hv).1,if_pos hk]
  simp
 |p::P,w::vs,i+1,m,nd,h1,h2,hk=>by
  show bindL kindOf ((p,w)::P.zip vs) m x=_
  unfold bindL
  exact lF (i:=i) (List.nodup_cons.mp nd).2 (by simpa using h1) (by simpa using h2) hk
theorem lG{kindOf:Str->Option NameKind}{x:Str}{v:Value}:∀{P:Vs} {vs:Vv} {i:Nat} {m:Vr},P.Nodup->P[i]?=some x->vs[i]?=some v->kindOf x≠some .local->
  bindC kindOf (P.zip vs) m x=some v
 |[],_,_,_,_,h,_,_=>by simp at h
 |_::_,[],_,_,_,_,h,_=>by simp at h
 |p::P,w::vs,0,m,nd,h1,h2,hk=>by
  simp at h1 h2;subst h1;subst h2
  show bindC kindOf ((p,w)::P.zip vs) m p=_
  unfold bindC
  rw[lE fun v hv=>(List.nodup_cons.mp nd).1 (List.of_mem_zip hv).1,if_neg hk]
  simp
 |p::P,w::vs,i+1,m,nd,h1,h2,hk=>by
  show bindC kindOf ((p,w)::P.zip vs) m x=_
  unfold bindC
  exact lG (i:=i) (List.nodup_cons.mp nd).2 (by simpa using h1) (by simpa using h2) hk
noncomputable def fY(N:Vs)(vs:List V):St:=vs.map some++List.replicate (N.length - vs.length) none
noncomputable def oY(CX:tE)(P:Program)(w:World)(K:Vo)(mg:Vr)(base:Heap)(N:Vs)(qual:Str)(scope:Scope)(f:Addr)(cd:Value)(A:Around)(outer:List Env)(s:Shared)(H:Hp)(E:XK):Cx where
 prog:=P
 w:=w
 K:=K
 mg:=mg
 base:=base
 A:=A.deeper (envOfC qual scope s.heap.objs.size f cd)
 N:=N
 s₀:=s
 H₀:=H
 env:=envOfC qual scope s.heap.objs.size f cd
 outer:=outer
 stack:=envOfC qual scope s.heap.objs.size f cd::outer
 ex:=[]
 calm:=true
 fn:=fun _=>true
 pn:=[]
 xe:=fun e s'=>wpAny (model P w) (A.deeper (envOfC qual scope s.heap.objs.size f cd)) (leaving (envOfC qual scope s.heap.objs.size f cd) e) (fun _ s''=>CX outer H s E e s'') (fun e' s''=>CX outer H s E e' s'') s'
def nB{sc:Scope}{n:Nat}{x:Str}(h:sc.names.lookup x=some .cell):∃c,(cellsFrom n sc.names []).lookup x=some c:=by
 have q:=PySem.W.cellsFrom_some sc.names n [] (.inl h)
 exact Option.isSome_iff_exists.mp q
def rG{CX:tE}{P:Program}{w:World}{K:Vo}{mg:Vr}{base:Heap}{N ps:Vs}{qual:Str}{scope:Scope}{f:Addr}{cd:Value}{A:Around}{outer:List Env}{s s1:Shared}{H:Hp}{E:XK}{us:Vv}{vs:List V}
  (S:ff N ps scope) (hd:A.handled=none) (e0:IB P w K mg base A outer s H) (hl:vs.length=ps.length) (r:Vals vs us)
  (x:InCallC s s.heap.objs.size (bindL (envOfC qual scope s.heap.objs.size f cd).kindOf (ps.zip us) fun _=>none) (cellsFrom (s.heap.objs.size+1) scope.names []) (bindC (envOfC qual scope s.heap.objs.size f cd).kindOf (ps.zip us) fun _=>none) s1) :
  Inv (oY CX P w K mg base N qual scope f cd A outer s H E) [] (fY N vs) H s1:=by
 have hpl:ps.length<=N.length:=by have:=congrArg List.length S.pre;rw[List.length_take]at this;omega
 obtain⟨h1,tk,rfl,hk⟩:=x.done
 have KD:∀b:Addr,b ∉ (oY CX P w K mg base N qual scope f cd A outer s H E).ex:=fun b z=>absurd (show b∈([]:List Addr)from z) (by simp)
 refine⟨⟨e0.mod,S.kind,rfl,rfl,Nat.le_refl _,fun y z c h1 h2=>?_,fun y hy=>?_,fun y c _ h=>?_,fun _=>hd,Around.frames_deeper e0.frames,.inr ⟨rfl,rfl⟩,fun b z=>absurd z (KD b),e0.bs,e0.Jm,fun b _ _=>KD b,fun b z=>absurd z (KD b),e0.G5,e0.JG⟩,
  rfl,e0.bare,Un.kept hk,⟨_,x.toInCall.ns,fun i y v h1 h2 h3=>?_⟩,fun y c h=>⟨_,x.cell y c h⟩,e0.hok.fresh (Nat.le_refl _),fun y c h=>?_,fun p hp=>absurd (show p∈([]:Va)from hp) (by simp),e0.hok.kept hk,?_⟩
 ·exact name_of_addr x.apart (PySem.mem_of_lookup h1) (PySem.mem_of_lookup h2)
 ·have hy:scope.names.lookup y=some .cell\/scope.names.lookup y=some .free:=hy
  rcases hy with hy|hy
  ·exact nB hy
  ·exact absurd rfl (S.JU _ (PySem.mem_of_lookup hy))
 ·exact Nat.le_of_lt (x.above y c (PySem.mem_of_lookup h))
 ·have hi:i < vs.length:=by
   unfold fY at h2
   by_cases hi:i < vs.length
   ·exact hi
   ·rw[List.getElem?_append_right (by simpa using hi)]at h2
    rw[List.getElem?_replicate]at h2
    split at h2<;>cases h2
  have ha:vs[i]?=some v:=by
   unfold fY at h2
   rw[List.getElem?_append_left (by simpa using hi),List.getElem?_map]at h2
   cases e:vs[i]? with
   |none=>rw[e]at h2;cases h2
   |some a=>rw[e]at h2;cases h2;rfl
  obtain⟨u,hu,rv⟩:=r.get ha
  have hp:ps[i]?=some y:=by
   rw[<-S.pre,List.getElem?_take_of_lt (by omega)];exact h1
  have My:ps.Nodup:=by rw[<-S.pre];exact S.nd.sublist (List.take_sublist _ _)
  refine⟨u,rv,?_⟩
  rcases S.par y (List.mem_of_getElem? hp)with k|k
  ·exact .inl ⟨k,lF My hp hu k⟩
  ·obtain⟨c,e⟩:=nB (n:=s.heap.objs.size+1) k
   refine .inr ⟨.inl k,c,e,?_⟩
   have q:=x.cell y c e
   rw[lG My hp hu (by show scope.names.lookup y≠_;rw[k];decide)]at q
   exact q
 ·exact e0.hok.fresh (Nat.le_of_lt (x.above y c (PySem.mem_of_lookup h)))
 ·unfold fY
  show _=N.length
  rw[List.length_append,List.length_map,List.length_replicate]
  omega
def Bq{CX:tE}{P:Program}{w:World}{K:Vo}{mg:Vr}{base:Heap}{k:Nat}{f:Addr}{name qual:Str}{params:Arguments}{body:List Stmt}{scope:Scope}{dV kV doc pm cdv ct oc:Value}{an od:Option Addr}
  {osl:Array (Option Value)} {N ps:Vs} {sp:Sp} (lk:K.lookup f=some ⟨oc,od,.func (PySem.W.fnOf name qual params body scope dV kV doc pm an cdv ct),osl⟩) (hcd:PySem.W.codeIn K cdv qual=true) (S:ff N ps scope)
  (len:∀vs H Q E,sp vs H Q E->vs.length=ps.length)
  (hbody:∀(A:Around) (outer:List Env) (s:Shared) (H:Hp) (vs:List V) (Q:VK) (E:XK),Room k (A.deeper (envOfC qual scope s.heap.objs.size f cdv))->sp vs H Q E->
   ∃t,Iy (oY CX P w K mg base N qual scope f cdv A outer s H E) body t/\t { nx:=fun _ H'=>Q .non H',rt:=Q } (fY N vs) H) :
  i4 P w K mg base CX (k+1) f (PySem.W.fnOf name qual params body scope dV kV doc pm an cdv ct) ps sp:=by
 refine⟨len,fun A outer s H args us vs Q E hr e0 hb r JI=>?_⟩
 have hl:=len _ _ _ _ JI
 have KX:K.In s.heap:=e0.mod.Kv.keeps fun b o e=>(e0.bs b o e).1
 have lim:s.heap.NoLimit:=e0.mod.nolimit.keeps fun b o e=>(e0.bs b o e).1
 have hkind:∀y∈ps.zip us,scope.names.lookup y.1=some .local\/(scope.names.lookup y.1=some .cell/\((cellsFrom (s.heap.objs.size+1) scope.names []).lookup y.1).isSome=true):=fun⟨n,v⟩ hy=>by
  rcases S.par n (List.of_mem_zip hy).1 with q|q
  ·exact .inl q
  ·exact .inr ⟨q,PySem.W.cellsFrom_some _ _ _ (.inl q)⟩
 refine codeAny_call_function hr.depth (KX _ _ lk) rfl S.co S.gen rfl (PySem.W.codeRec_of KX hcd) (hb _ _ _ _ ?_)
 refine wpAny_newFunctionEnv_cells S.kind hkind fun env he s1 x=>?_
 subst he
 refine⟨lim.keeps x.toInCall.keep,codeAny_func ?_⟩
 obtain⟨t,ht,hq⟩:=hbody A outer s H vs Q E (hr.deeper _) JI
 have I:Inv (oY CX P w K mg base N qual scope f cdv A outer s H E) [] (fY N vs) H s1:=rG S hr.hd e0 hl r x
 refine wpAny_mono (ht [] s1 (fY N vs) H _ I hq) (fun fl s' hs=>?_) fun e s' hs=>hs
 have fin:∀{σ':St} {H':Hp} {v:V} {u:Value},Inv (oY CX P w K mg base N qual scope f cdv A outer s H E) [] σ' H' s'->RelV v u->Q v H'->CE outer P w H s Q u s':=
  fun{σ' H' v u} J rv q=>⟨v,H',J.os,J.bare,J.base,J.hok,rv,q⟩
 cases fl with
 |ret u=>
  obtain⟨v,σ',H',J,rv,q⟩:=hs
  exact fin J rv q
 |next=>
  obtain⟨σ',H',J,q⟩:=hs
  exact fin (v:=V.non) (u:=Value.none) J rfl q
 |brk=>
  obtain⟨_,_,_,q⟩:=hs
  exact False.elim q
 |cont=>
  obtain⟨_,_,_,q⟩:=hs
  exact False.elim q
section
variable {X:Cx} {x:Str} {p pos:Pos} {e:Expr} {es:List Expr} {t:TA} {id T:String} {r:List V->Hp->VK->Prop}
def Ez(r:List V->Hp->VK->Prop)(t:TA):TE:=fun σ H Q=>t σ H fun vs H1=>r vs H1 Q
def tH(hc:eN X (.builtin id) r)(hg:Gl X x)(hm:X.mg x=none)(hv:bootBuiltins x=some (.builtin id))(ha:PA X (e::es) t)(hn:x ≠ "__name__":=by decide)(hdb:(x == ("__debug__":Str))=false:=by decide)
  (he:starEach (e::es) X.env=(false,eval e X.env)::starEach es X.env:=by rfl) (hpl:(backTo pos (starEach es X.env)).any (·.1)=false:=by rfl):PE X (.Call (.Name x p) (e::es) [] pos) (Ez r t):=by
 intro pins s σ H Q I h
 refine wpAny_Call_Name_kw (dS I hg hm hv ?_ hn hdb)
 exact PyProof.Rows.callWith_builtin1 (bC (ha pos pins s σ H _ I h) fun us s1 ⟨vs,H1,I1,r1,q1⟩=>hc pins s1 σ H1 vs us Q I1 r1 q1) he hpl
def rH(hc:eN X (.type T) r)(hg:Gl X x)(hm:X.mg x=none)(hv:bootBuiltins x=some (.type T))(ha:PA X (e::es) t)(hn:x ≠ "__name__":=by decide)(hdb:(x == ("__debug__":Str))=false:=by decide)
  (he:starEach (e::es) X.env=(false,eval e X.env)::starEach es X.env:=by rfl) (hpl:(backTo pos (starEach es X.env)).any (·.1)=false:=by rfl):PE X (.Call (.Name x p) (e::es) [] pos) (Ez r t):=by
 intro pins s σ H Q I h
 refine wpAny_Call_Name_kw (dS I hg hm hv ?_ hn hdb)
 exact PyProof.Rows.callWith_type1 (bC (ha pos pins s σ H _ I h) fun us s1 ⟨vs,H1,I1,r1,q1⟩=>hc pins s1 σ H1 vs us Q I1 r1 q1) he hpl
end
end L2
namespace HT
open PySem PyProof.Rows
section
open PySem.SeqAt
open PySem.AutoSeq1 (wpAny_loadPart')
open PySem.MeetsSeq PySem.MeetsSeq2 PySem.MeetsSeq3
end
section
variable {prog:Program} {w:World} {A:Around} {E:Vq} {s:Shared}
def wk{t b:Addr}{vs ws:Vv}{Q:Vq}(ht:IsTup s.heap t vs.toArray)(hb:IsTup s.heap b ws.toArray)(hv:vs≠[])
  (h1:ws=[]->Q (.ref t) s) (h2:ws≠[]->Q (.ref s.heap.objs.size) { s with heap:=s.heap.push { cls:=.type "tuple",data:=.seq (vs++ws).toArray } })
  (hsz:vs.length+ws.length<=sizeLine):wpAny (model prog w) A (binaryOp .Add (.ref t) (.ref b)) Q E s:=by
 obtain⟨⟨cls,dd,data,sl⟩,ho,hc,n,hd⟩:=id ht
 obtain⟨⟨LG,dd2,data2,sl2⟩,ho2,hc2,n2,hd2⟩:=id hb
 simp only at hc hd hc2 hd2
 subst hc hd hc2 hd2
 have e:vs.toArray++ws.toArray=(vs++ws).toArray:=by simp
 by_cases hw:ws=[]
 ·exact concat_meets ⟨_,ho,rfl⟩ ⟨_,ho2,rfl⟩ noFill_tuple_add seq_tuple_add PySem.F.slot_tuple_add PySem.F.entry_tuple_add (PySem.F.args_tuple_add_2 _ _)
   (tuple_addW1 t b vs.toArray ws.toArray n n2 dd dd2 sl sl2 (by simpa using hv) (by simp[hw])) ⟨ho,ho2,h1 hw⟩
 ·refine concat_meets ⟨_,ho,rfl⟩ ⟨_,ho2,rfl⟩ noFill_tuple_add seq_tuple_add PySem.F.slot_tuple_add PySem.F.entry_tuple_add (PySem.F.args_tuple_add_2 _ _)
   (tuple_addW2 t b vs.toArray ws.toArray n n2 dd dd2 sl sl2 (by simpa using hv) (by simpa using hw) (by rw[List.size_toArray,List.size_toArray];exact hsz)) ⟨ho,ho2,?_⟩
  rw[e]
  exact h2 hw
noncomputable def Fz(n d:Nat):Option Int->Nat
 |none=>d
 |some v=>if v < 0 then (v+(n:Int)).toNat else min v.toNat n
def j4(n d:Nat):Fz n d none=d:=rfl
def me(n d k:Nat):Fz n d (some (k:Int))=min k n:=by
 show(if (k:Int) < 0 then ((k:Int)+(n:Int)).toNat else min (k:Int).toNat n)=min k n
 rw[if_neg (by omega),Int.toNat_natCast]
def zn(n d:Nat)(hd:d<=n)(o:Option Int):Fz n d o<=n:=by
 cases o with
 |none=>exact hd
 |some v=>
  show(if v < 0 then (v+(n:Int)).toNat else min v.toNat n)<=n
  by_cases hv:v < 0
  ·rw[if_pos hv];omega
  ·rw[if_neg hv];exact Nat.min_le_right _ _
def qw(v:Int)(n d:Nat):(if v < 0 then max (v+(n:Int)) 0 else min v (n:Int))=((Fz n d (some v):Nat):Int):=by
 show(if v < 0 then max (v+(n:Int)) 0 else min v (n:Int))=(((if v < 0 then (v+(n:Int)).toNat else min v.toNat n):Nat):Int)
 by_cases hv:v < 0
 ·simp only[if_pos hv];omega
 ·simp only[if_neg hv];omega
def oZ(lo hi:Option Int)(n:Nat):Builtin.Slice.sliceAdjust lo hi 1 (n:Int)=(((Fz n 0 lo:Nat):Int),((Fz n n hi:Nat):Int)):=by
 have h1:¬((1:Int) < 0):=by omega
 unfold Builtin.Slice.sliceAdjust
 simp only[h1,if_false]
 refine Prod.ext ?_ ?_
 ·cases lo with
  |none=>rfl
  |some v=>exact qw v n 0
 ·cases hi with
  |none=>rfl
  |some v=>exact qw v n n
def o0(i j:Nat):Builtin.Slice.slicePlaces (i:Int) (j:Int) 1=j - i:=by
 unfold Builtin.Slice.slicePlaces
 have h1:(1:Int) > 0:=by omega
 simp only[h1,if_true,Int.ediv_one]
 split<;>omega
def j5{v:Value}{o:Option Int}{Q:Option Int->Shared->Prop}(p:IsPart v o)(h:Q o s):wpAny (model prog w) A (Builtin.Slice.slicePartIndex v) Q E s:=by
 cases p with
 |none=>exact slicePart_none h
 |int i t=>exact slicePart_int h
def eO{sl:Addr}{vl vu:Value}{lo hi:Option Int}{n:Nat}{Q:Int×Int×Nat->Shared->Prop}(hs:s.heap.IsSliceOf sl vl vu .none)(pl:IsPart vl lo)(pu:IsPart vu hi)
  (h:Q (((Fz n 0 lo:Nat):Int),1,Fz n n hi - Fz n 0 lo) s):wpAny (model prog w) A (Builtin.Slice.sliceApplied (.ref sl) (pure (n:Int))) Q E s:=by
 obtain⟨os,hos,hcs,hds⟩:=id hs
 unfold Builtin.Slice.sliceApplied Builtin.Slice.sliceFields
 refine wpAny_bind (wpAny_bind (wpAny_field hos hds (x:=vl) rfl (wpAny_bind (wpAny_field hos hds (x:=vu) rfl (wpAny_bind (wpAny_field hos hds (x:=.none) rfl (wpAny_pure ?_)))))))
 refine wpAny_bind (slicePart_none ?_)
 show wpAny _ _ (if ((1:Int) == 0)=true then _ else _) _ _ s
 rw[if_neg (by decide)]
 refine wpAny_bind (j5 pl (wpAny_bind (j5 pu (wpAny_bind (wpAny_pure ?_)))))
 show wpAny _ _ (match Builtin.Slice.sliceAdjust lo hi 1 (n:Int)with|(lo,hi)=>pure (lo,(1:Int),Builtin.Slice.slicePlaces lo hi 1)) _ _ s
 rw[oZ lo hi n]
 show wpAny _ _ (pure (((Fz n 0 lo:Nat):Int),(1:Int),Builtin.Slice.slicePlaces ((Fz n 0 lo:Nat):Int) ((Fz n n hi:Nat):Int) 1)) _ _ s
 rw[o0]
 exact wpAny_pure h
def tI(xs:Vw)(i k:Nat):((List.range k).filterMap fun(m:Nat)=>xs[((i:Int)+(m:Int) * 1).toNat]?).toArray=((xs.toList.drop i).take k).toArray:=by
 have e:(fun(m:Nat)=>xs[((i:Int)+(m:Int) * 1).toNat]?)=fun m=>xs[i+m]?:=by
  funext m
  have:((i:Int)+(m:Int) * 1).toNat=i+m:=by omega
  rw[this]
 rw[e]
 have:=pick_run xs i k
 rw[List.filterMap_map]at this
 have e2:((fun x=>xs[x]?) ∘ fun x=>i+x)=fun m=>xs[i+m]?:=rfl
 rw[e2]at this
 rw[this]
def iG{t sl:Addr}{items:Vw}{vl vu:Value}{lo hi:Option Int}{Q:Vq}(ht:IsTup s.heap t items)(hs:s.heap.IsSliceOf sl vl vu .none)(pl:IsPart vl lo)(pu:IsPart vu hi)
  (hw:¬(Fz items.size 0 lo=0/\Fz items.size items.size hi=items.size))
  (h:Q (.ref s.heap.objs.size) { s with heap:=s.heap.push { cls:=.type "tuple",data:=.seq ((items.toList.drop (Fz items.size 0 lo)).take (Fz items.size items.size hi - Fz items.size 0 lo)).toArray } })
  (hsz:items.size<=sizeLine):wpAny (model prog w) A (getItem (.ref t) (.ref sl)) Q E s:=by
 have IJ:sizeOk (.seq ((items.toList.drop (Fz items.size 0 lo)).take (Fz items.size items.size hi - Fz items.size 0 lo)).toArray):=by
  show((items.toList.drop (Fz items.size 0 lo)).take (Fz items.size items.size hi - Fz items.size 0 lo)).toArray.size<=sizeLine
  rw[List.size_toArray,List.length_take,List.length_drop,Array.length_toList]
  omega
 have hj:Fz items.size items.size hi<=items.size:=zn _ _ (Nat.le_refl _) hi
 obtain⟨os,hos,hcs,hds⟩:=id hs
 have LH:s.TypeIs (.ref sl) "slice":=⟨os,hos,hcs⟩
 unfold getItem
 try with_reducible refine wpAny_holding ?_
 first|refine wpAny_bind (wpAny_pure ?_)|skip
 refine wpAny_bind (wpAny_sequenceKey ht.typeIs (by decide) ?_)
 refine wpAny_bind (wpAny_callSpecial?_slot (name:=Str.ofString "__getitem__") ht.typeIs PyProof.Rows.slot_tuple_getitem
  (wpAny_call_entry PyProof.Rows.slot_tuple_getitem ht.typeIs entry_tuple_getitem ?_ (args_tuple_getitem _ _)))
 show wpAny _ _ (Builtin.Tuple.tupleItemsOf (.ref t) >>= _) _ _ s
 refine wpAny_bind (tupleItemsOf_ ht ?_)
 refine wpAny_bind (wpAny_typeOf LH ?_)
 rw[if_pos (by decide)]
 refine wpAny_bind (eO hs pl pu ?_)
 have hno:¬((((Fz items.size 0 lo:Nat):Int) == 0&&(1:Int) == 1&&(Fz items.size items.size hi - Fz items.size 0 lo) == items.size)=true):=by
  intro q
  rw[Bool.and_eq_true,Bool.and_eq_true]at q
  have q1:((Fz items.size 0 lo:Nat):Int)=0:=eq_of_beq q.1.1
  have q2:Fz items.size items.size hi - Fz items.size 0 lo=items.size:=eq_of_beq q.2
  exact hw ⟨by omega,by omega⟩
 show wpAny _ _ (if (((Fz items.size 0 lo:Nat):Int) == 0&&(1:Int) == 1&&(Fz items.size items.size hi - Fz items.size 0 lo) == items.size)=true then _ else _) _ _ s
 rw[if_neg hno,tI]
 first
  |exact wpAny_bind (m:=Builtin.Tuple.tupleExact _) (wpAny_newObj_type (wpAny_pure ⟨_,rfl,wpAny_pure h⟩) IJ)
  |exact wpAny_bind (m:=Builtin.Tuple.tupleExact _) (wpAny_newObj_type (wpAny_bind (wpAny_pure (wpAny_pure ⟨_,rfl,wpAny_pure h⟩))) IJ)
  |exact wpAny_bind (wpAny_bind (m:=Builtin.Tuple.tupleExact _) (wpAny_newObj_type (wpAny_pure (wpAny_pure ⟨_,rfl,wpAny_pure h⟩)) IJ))
  |exact wpAny_bind (wpAny_bind (m:=Builtin.Tuple.tupleExact _) (wpAny_newObj_type (wpAny_pure ⟨_,rfl,wpAny_pure h⟩) IJ))
end
end HT
namespace L2
open PySem PySem.Spec PyProof.Rows
abbrev TO:=St->Hp->(Option Int->Hp->Prop)->Prop
def PO(X:Cx)(e:Option Expr)(t:TO):Prop:=
 ∀(pins:Va) (s:Shared) (σ:St) (H:Hp) (Q:Option Int->Hp->Prop),Inv X pins σ H s->t σ H Q->
  wpAny (model X.prog X.w) X.A (evalPart e X.env) (fun u s'=>∃o H',Inv X pins σ H' s'/\IsPart u o/\Q o H') X.xe s
noncomputable def wm:TO:=fun _ H Q=>Q none H
noncomputable def Br(t:TE):TO:=fun σ H Q=>t σ H fun x H1=>∃i,x = .int i/\Q (some i) H1
def j6{ns:Vu}:∀{us:Vv},Vals (ns.map V.int) us->IntsAre us ns:=by
 induction ns with
 |nil=>intro us r;rw[List.map_nil]at r;cases r;exact .nil
 |cons n ns ih=>
  intro us r
  rw[List.map_cons]at r
  cases r with
  |cons r1 r2=>
   obtain⟨t,e⟩:=r1
   subst e
   exact .cons n t (ih r2)
section
variable {X:Cx} {e:Expr} {te:TE} {lo hi:Option Expr} {tl th:TO} {pos p2:Pos}
def wn:PO X none wm:=by
 intro pins s σ H Q I h
 rw[evalPart_none]
 exact wpAny_pure ⟨none,H,I,.none,h⟩
def wo(h:PE X e te):PO X (some e) (Br te):=by
 intro pins s σ H Q I hw
 rw[evalPart_some]
 refine bC (h pins s σ H _ I hw) fun u s1 ⟨x,H1,I1,r1,q1⟩=>?_
 obtain⟨i,rfl,q⟩:=q1
 obtain⟨t,rfl⟩:=r1
 exact⟨some i,H1,I1,.int i t,q⟩
def AN(X:Cx)(r:V->Option Int->Option Int->Hp->VK->Prop):Prop:=
 ∀(pins:Va) (s:Shared) (σ:St) (H:Hp) (x:V) (v vl vu:Value) (lo hi:Option Int) (sl:Addr) (Q:VK),Inv X pins σ H s->RelV x v->s.heap.IsSliceOf sl vl vu .none->IsPart vl lo->IsPart vu hi->r x lo hi H Q->
  ∃T id,typeLookup (.type T) "__getitem__" = pure (some (.builtin id))/\s.TypeIs v T/\wpAny (model X.prog X.w) X.A (getItem v (.ref sl)) (EP X pins σ Q) X.xe s
def EO(r:V->Option Int->Option Int->Hp->VK->Prop)(te:TE)(tl th:TO):TE:=fun σ H Q=>te σ H fun x H1=>tl σ H1 fun l H2=>th σ H2 fun u H3=>r x l u H3 Q
def tJ{r:V->Option Int->Option Int->Hp->VK->Prop}(hr:AN X r)(he:PE X e te)(hl:PO X lo tl)(hu:PO X hi th):PE X (.Subscript e (.Slice lo hi none p2) pos) (EO r te tl th):=by
 intro pins s σ H Q I h
 refine Subscript_ (bC (he pins s σ H _ I h) fun v s1 ⟨x,H1,I1,r1,q1⟩=>?_)
 refine wpAny_Slice (bC (hl pins s1 σ H1 _ I1 q1) fun vl s2 ⟨l,H2,I2,pl,q2⟩=>bC (hu pins s2 σ H2 _ I2 q2) fun vu s3 ⟨u,H3,I3,pu,q3⟩=>?_)
 rw[evalPart_none]
 refine wpAny_pure ?_
 have I4:Inv X pins σ H3 { s3 with heap:=s3.heap.push { cls:=.type "slice",data:=.fields #[vl,vu,.none] } }:=I3.kept (t':=s3.toks) fun b ob q=>Heap.get?_push_of_some _ q
 obtain⟨T,id,hT,ht,hg⟩:=hr pins { s3 with heap:=s3.heap.push { cls:=.type "slice",data:=.fields #[vl,vu,.none] } } σ H3 x v vl vu l u s3.heap.objs.size Q I4 r1 (Heap.IsSliceOf.new ..) pl pu q3
 show wpAny (model X.prog X.w) X.A (subscriptTail e (.Slice lo hi none p2) v (.ref s3.heap.objs.size)) (EP X pins σ Q) X.xe { s3 with heap:=s3.heap.push { cls:=.type "slice",data:=.fields #[vl,vu,.none] } }
 exact tail_any (ops:=[.ref s3.heap.objs.size,v]) ht hT hg (by with_unfolding_all rfl)
noncomputable def j7(xs:List V)(lo hi:Option Int):List V:=(xs.drop (HT.Fz xs.length 0 lo)).take (HT.Fz xs.length xs.length hi - HT.Fz xs.length 0 lo)
def jy(xs:List V)(lo hi:Option Int):(j7 xs lo hi).length<=xs.length:=by
 unfold j7
 rw[List.length_take,List.length_drop]
 omega
noncomputable def Dw(K:Vo):V->Option Int->Option Int->Hp->VK->Prop:=fun x lo hi H Q=>∃a xs,x = .ref a/\SqT K H a xs/\
 ¬(HT.Fz xs.length 0 lo=0/\HT.Fz xs.length xs.length hi=xs.length)/\∀p,H p=none->Q (.ref p) (upd H p (.tup (j7 xs lo hi)))
def zo:AN X (Dw X.K):=by
 intro pins s σ H x v vl vu lo hi sl Q I rx hs pl pu h
 obtain⟨a,xs,rfl,hx,hw,q⟩:=h
 cases rx
 obtain⟨its,r,ht,hz⟩:=I.tuple hx
 have hlen:its.toArray.size=xs.length:=by rw[List.size_toArray];exact r.length.symm
 refine⟨"tuple",_,PyProof.Rows.slot_tuple_getitem.lookup,ht.typeIs,?_⟩
 refine HT.iG ht hs pl pu (by rw[hlen];exact hw) ?_ (by rw[hlen];exact hz)
 rw[hlen]
 refine⟨.ref s.heap.objs.size,_,I.laid (t':=s.toks) (o:=.tup (j7 xs lo hi)) (fun b ob q=>Heap.get?_push_of_some _ q) (Nat.le_refl _) ?_,rfl,q _ (I.hok.fresh (Nat.le_refl _))⟩
 exact⟨Nat.le_trans (jy xs lo hi) hz,_,(r.drop (HT.Fz xs.length 0 lo)).take (HT.Fz xs.length xs.length hi - HT.Fz xs.length 0 lo),FT.new _ _⟩
def Bu(K:Vo):R2:=fun x y H Q=>∃a b xs ys,x = .ref a/\y = .ref b/\SqT K H a xs/\SqT K H b ys/\xs≠[]/\xs.length+ys.length<=sizeLine/\
 (ys=[]->Q (.ref a) H)/\(ys≠[]->∀p,H p=none->Q (.ref p) (upd H p (.tup (xs++ys))))
def Vals.HN{xs:List V}{us:Vv}(r:Vals xs us):us=[]↔xs=[]:=by
 cases r with
 |nil=>simp
 |cons _ _=>simp
def wq:gU X (binaryOp .Add) (Bu X.K):=by
 intro pins s σ H x y v u Q I rx ry h
 obtain⟨a,b,xs,ys,rfl,rfl,ha,hb,hx,hz,q1,q2⟩:=h
 cases rx
 cases ry
 obtain⟨its,r1,p1,_⟩:=I.tuple ha
 obtain⟨its2,r2,p2,_⟩:=I.tuple hb
 refine HT.wk p1 p2 (fun z=>hx (r1.HN.mp z)) (fun z=>⟨.ref a,H,I,rfl,q1 (r2.HN.mp z)⟩) (fun z=>?_) (by rw[<-r1.length,<-r2.length];exact hz)
 refine⟨.ref s.heap.objs.size,_,I.laid (t':=s.toks) (o:=.tup (xs++ys)) (fun b ob q=>Heap.get?_push_of_some _ q) (Nat.le_refl _) ?_,rfl,q2 (fun w=>z (r2.HN.mpr w)) _ (I.hok.fresh (Nat.le_refl _))⟩
 exact⟨by rw[List.length_append];exact hz,_,r1.append r2,FT.new _ _⟩
end
noncomputable def qx(n:Nat)(i:Int):Option Nat:=if 0<=i then (if i < n then some i.toNat else none) else if -(n:Int)<=i then some (i+n).toNat else none
noncomputable def FZ{α:Type}(xs:List α)(i:Int):Option α:=(qx xs.length i).bind fun j=>xs[j]?
def qz{n:Nat}{i:Int}{j:Nat}(h:qx n i=some j):seqIndex? i n=some j/\j < n/\-(n:Int)<=i/\i < n:=by
 unfold qx at h
 by_cases h0:0<=i
 ·rw[if_pos h0]at h
  by_cases h1:i < n
  ·rw[if_pos h1]at h
   have e:i.toNat=j:=Option.some.inj h
   exact⟨by rw[seqIndex_of h0 h1,e],by omega,by omega,h1⟩
  ·rw[if_neg h1]at h;cases h
 ·rw[if_neg h0]at h
  by_cases h1:-(n:Int)<=i
  ·rw[if_pos h1]at h
   have e:(i+n).toNat=j:=Option.some.inj h
   exact⟨by rw[seqIndex_neg (by omega) h1,e],by omega,h1,by omega⟩
  ·rw[if_neg h1]at h;cases h
def mf{α:Type}{xs:List α}{i:Int}{v:α}(h:FZ xs i=some v):∃j,seqIndex? i xs.length=some j/\xs[j]?=some v/\j < xs.length/\-(xs.length:Int)<=i/\i < xs.length:=by
 unfold FZ at h
 cases e:qx xs.length i with
 |none=>rw[e]at h;cases h
 |some j=>
  rw[e]at h
  obtain⟨h1,h2,h3,h4⟩:=qz e
  exact⟨j,h1,h,h2,h3,h4⟩
def bI{α:Type}{xs:List α}{j:Nat}{v:α}(h:xs[j]?=some v):FZ xs (j:Int)=some v:=by
 have hj:j < xs.length:=(List.getElem?_eq_some_iff.mp h).1
 have e:qx xs.length (j:Int)=some j:=by
  unfold qx
  rw[if_pos (by omega),if_pos (by omega)];simp
 unfold FZ;rw[e];exact h
def jT(b:Expr):Prop:=∀o i,subscripted b false o i=operate [o,i] (getItem o i)
def AO(X:Cx)(r:R2):Prop:=
 ∀(value slice:Expr) (pins:Va) (s:Shared) (σ:St) (H:Hp) (x y:V) (v u:Value) (Q:VK),Inv X pins σ H s->RelV x v->RelV y u->r x y H Q->
  subscripted slice false v u=operate [v,u] (getItem v u)->wpAny (model X.prog X.w) X.A (subscriptTail value slice v u) (EP X pins σ Q) X.xe s
def Dx(X:Cx)(id:String)(r:V->List V->Hp->VK->Prop):Prop:=
 ∀(pins:Va) (s:Shared) (σ:St) (H:Hp) (x:V) (xs:List V) (v:Value) (us:Vv) (Q:VK),Inv X pins σ H s->RelV x v->Vals xs us->r x xs H Q->
  wpAny (model X.prog X.w) X.A (call (.builtin id) (v::us)) (EP X pins σ Q) X.xe s
section
variable {X:Cx} {a b:Expr} {ta tb:TE} {pos:Pos}
def Bv{r:R2}(hr:AO X r)(ha:PE X a ta)(hb:PE X b tb)(hs:jT b):PE X (.Subscript a b pos) (AM r ta tb):=by
 intro pins s σ H Q I h
 exact Subscript_ (y9 ha hb I h fun v u s2 x y H2 I2 rx ry q=>hr a b pins s2 σ H2 x y v u Q I2 rx ry q (hs _ _))
def Dy(K:Vo):R2:=fun x y H Q=>∃p xs i v,x = .ref p/\y = .int i/\SqL K H p xs/\FZ xs i=some v/\Q v H
def Dz(K:Vo):R2:=fun x y H Q=>∃p xs i v,x = .ref p/\y = .int i/\SqT K H p xs/\FZ xs i=some v/\Q v H
def DA:R2:=fun x y H Q=>∃z i c,x = .str z/\y = .int i/\z.length<=sizeLine/\FZ z.cps.toList i=some c/\Q (.str ⟨#[c]⟩) H
def qA:AO X (Dy X.K):=by
 intro value slice pins s σ H x y v u Q I rx ry h hs
 obtain⟨p,xs,i,z,rfl,rfl,hq,he,q⟩:=h
 cases rx
 obtain⟨t,rfl⟩:=ry
 obtain⟨its,r,pl,hz⟩:=I.list hq
 obtain⟨j,h1,h2,h3,h4,h5⟩:=mf he
 obtain⟨w,ew,rw'⟩:=r.get h2
 have hl:=r.length
 have hn:=i0
 have fin:EP X pins σ Q w s:=⟨z,H,I,rw',q⟩
 by_cases h0:0<=i
 ·have hj:i.toNat=j:=by
   rw[seqIndex_of h0 h5]at h1
   exact Option.some.inj h1
  exact item_listR pl.isList h0 (by omega) (by rw[hj];simpa using ew) fin hs
 ·have hj:(i+(its.toArray.size:Int)).toNat=j:=by
   rw[seqIndex_neg (by omega) h4]at h1
   rw[List.size_toArray,<-hl]
   exact Option.some.inj h1
  exact subscriptTail_builtinR (x:=w) pl.isList.typeIs slot_list_getitem.lookup
   (wpAny_getItem_list_neg (Q:=fun r s'=>r=w/\EP X pins σ Q r s') pl.isList (by omega) (by rw[List.size_toArray]<;>omega) (by omega) (by rw[hj];simpa using ew) ⟨rfl,fin⟩) hs
def zp:AO X (Dz X.K):=by
 intro value slice pins s σ H x y v u Q I rx ry h hs
 obtain⟨p,xs,i,z,rfl,rfl,hq,he,q⟩:=h
 cases rx
 obtain⟨t,rfl⟩:=ry
 obtain⟨its,r,pl,hz⟩:=I.tuple hq
 obtain⟨j,h1,h2,h3,h4,h5⟩:=mf he
 obtain⟨w,ew,rw'⟩:=r.get h2
 have hl:=r.length
 have hn:=i0
 have fin:EP X pins σ Q w s:=⟨z,H,I,rw',q⟩
 exact subscriptTail_builtinR (x:=w) pl.typeIs slot_tuple_getitem.lookup
  (getItem_tuple (j:=j) (Q:=fun r s'=>r=w/\EP X pins σ Q r s') pl (by omega) (by omega) (by rw[List.size_toArray,<-hl];exact h1) (by simpa using ew) ⟨rfl,fin⟩) hs
def zq:AO X DA:=by
 intro value slice pins s σ H x y v u Q I rx ry h hs
 obtain⟨z,i,c,rfl,rfl,hz,he,q⟩:=h
 obtain⟨t,rfl⟩:=rx
 obtain⟨t',rfl⟩:=ry
 obtain⟨j,h1,h2,h3,h4,h5⟩:=mf he
 have hl:z.cps.toList.length=z.length:=by simp[Str.length]
 rw[hl]at h1 h4 h5
 have hn:=i0
 exact tail_any (typeIs_str s z t) slot_str_getitem.lookup (getItem_str (c:=c) (by
  have e1:decide (i < -(2 ^ 63:Int))=false:=decide_eq_false (by omega)
  have e2:decide (i>=2 ^ 63)=false:=decide_eq_false (by omega)
  rw[e1,e2,Bool.or_false]) (by rw[h1];simpa using h2) ⟨.str ⟨#[c]⟩,H,I.tok _,⟨_,rfl⟩,q⟩) hs
def o6(its:Vv)(n j:Nat)(u:Value):Obj.mapSeq (·.setIfInBounds j u) { cls:=.type "list",data:=.seq its.toArray n }={ cls:=.type "list",data:=.seq (its.set j u).toArray n }:=by
 simp[Obj.mapSeq]
theorem Inv.lst{pins:Va}{σ:St}{H:Hp}{s:Shared}{p:Addr}{xs:List V}(I:Inv X pins σ H s)(h:H p=some (.lst xs)) :
  ∃(its:Vv) (n:Nat),Vals xs its/\s.heap.get? p=some { cls:=.type "list",data:=.seq its.toArray n }/\xs.length<=sizeLine:=by
 obtain⟨z,its,n,r,e⟩:=I.hok p _ h
 exact⟨its,n,r,e,z⟩
def Inv.JV{pins:Va}{σ:St}{H:Hp}{s:Shared}{p:Addr}{xs ys:List V}{its its':Vv}{n n':Nat}{f:Obj->Obj}(I:Inv X pins σ H s)(h:H p=some (.lst xs))
  (ho:s.heap.get? p=some { cls:=.type "list",data:=.seq its.toArray n }) (hf:f { cls:=.type "list",data:=.seq its.toArray n }={ cls:=.type "list",data:=.seq its'.toArray n' }) (r:Vals ys its') (hz:ys.length<=sizeLine) (t:Nat) :
  Inv X pins σ (upd H p (.lst ys)) { s with heap:=s.heap.update p f,toks:=t }:=by
 have e:(s.heap.update p f).get? p=some { cls:=.type "list",data:=.seq its'.toArray n' }:=by
  rw[Heap.get?_update_self f ho (by rw[hf]<;>rfl),hf]
 refine I.write (x:=p) (e:=p) (by rw[h];trivial) (.inl rfl) (fun b u hb q=>(Heap.get?_update_other _ _ (Ne.symm hb)).trans q) ⟨_,e⟩ ?_
 exact⟨hz,its',n',r,e⟩
noncomputable def Bw:V->V->V->Hp->(Hp->Prop)->Prop:=fun o i v H Q=>∃p xs k j,o = .ref p/\i = .int k/\H p=some (.lst xs)/\qx xs.length k=some j/\Q (upd H p (.lst (xs.set j v)))
def tK:vX X Bw:=by
 intro pins s σ H o i v ov iv u Q I ro ri rv h
 obtain⟨p,xs,k,j,rfl,rfl,hp,hj,q⟩:=h
 cases ro
 obtain⟨t,rfl⟩:=ri
 obtain⟨its,n,r,ho,hz⟩:=I.lst hp
 obtain⟨h1,h2,h3,h4⟩:=qz hj
 have hl:=r.length
 have hn:=i0
 have I':Inv X pins σ (upd H p (.lst (xs.set j v))) { s with heap:=s.heap.update p (Obj.mapSeq (·.setIfInBounds j u)) }:=
  I.JV hp ho (o6 its n j u) (r.set rv j) (by rw[List.length_set];exact hz) s.toks
 by_cases h0:0<=k
 ·have hk:k.toNat=j:=by
   rw[seqIndex_of h0 h4]at h1
   exact Option.some.inj h1
  exact PySem.W.ki_setAt ho h0 (by omega) (by rw[List.size_toArray,<-hl];exact h4) (by rw[hk];exact⟨_,I',q⟩)
 ·have hk:(k+(its.toArray.size:Int)).toNat=j:=by
   rw[seqIndex_neg (by omega) h3]at h1
   rw[List.size_toArray,<-hl]
   exact Option.some.inj h1
  exact PySem.W.ki_setBack ho (by omega) (by rw[List.size_toArray,<-hl];exact h3) (by omega) (by rw[hk];exact⟨_,I',q⟩)
def mh(lo hi:Option Int)(n:Nat):(sliceBounds lo hi none n).1=((HT.Fz n 0 lo:Nat):Int)/\(sliceBounds lo hi none n).2.1=((HT.Fz n n hi:Nat):Int)/\(sliceBounds lo hi none n).2.2=1:=by
 refine⟨?_,?_,rfl⟩
 ·cases lo with
  |none=>simp[sliceBounds,HT.Fz]
  |some i=>
   simp only[sliceBounds,HT.Fz,Option.getD_none,show(1:Int) > 0 by decide,if_true]
   by_cases h:i < 0
   ·simp only[h,if_true]<;>omega
   ·simp only[h,if_false]<;>omega
 ·cases hi with
  |none=>simp[sliceBounds,HT.Fz]
  |some i=>
   simp only[sliceBounds,HT.Fz,Option.getD_none,show(1:Int) > 0 by decide,if_true]
   by_cases h:i < 0
   ·simp only[h,if_true]<;>omega
   ·simp only[h,if_false]<;>omega
def kX(its:Vv)(lo hi:Option Int):slicePick its.toArray lo hi none=((its.drop (HT.Fz its.length 0 lo)).take (HT.Fz its.length its.length hi - HT.Fz its.length 0 lo)).toArray:=by
 obtain⟨h1,h2,h3⟩:=mh lo hi its.toArray.size
 unfold slicePick
 rw[h1,h2,h3]
 simp only[sliceRange_one,pick_run,List.size_toArray]<;>rfl
noncomputable def DC(K:Vo):V->Option Int->Option Int->Hp->VK->Prop:=fun x lo hi H Q=>∃a xs,x = .ref a/\SqL K H a xs/\∀p,H p=none->Q (.ref p) (upd H p (.lst (j7 xs lo hi)))
def qB:AN X (DC X.K):=by
 intro pins s σ H x v vl vu lo hi sl Q I rx hs pl pu h
 obtain⟨a,xs,rfl,hx,q⟩:=h
 cases rx
 obtain⟨its,r,ht,hz⟩:=I.list hx
 have hlen:=r.length
 refine⟨"list",_,slot_list_getitem.lookup,ht.isList.typeIs,?_⟩
 refine wpAny_getItem_list_slice ht.isList hs pl pu .none (by simp) ?_ (by rw[List.size_toArray]<;>omega)
 rw[kX,<-hlen]
 refine⟨.ref s.heap.objs.size,_,I.laid (t':=s.toks) (o:=.lst (j7 xs lo hi)) (fun b ob q=>Heap.get?_push_of_some _ q) (Nat.le_refl _) ?_,rfl,q _ (I.hok.fresh (Nat.le_refl _))⟩
 exact⟨Nat.le_trans (jy xs lo hi) hz,_,0,(r.drop (HT.Fz xs.length 0 lo)).take (HT.Fz xs.length xs.length hi - HT.Fz xs.length 0 lo),Heap.get?_push_size _ rfl⟩
def fh:eN X (.builtin "len") (fun xs H Q=>∃p ys,xs=[.ref p]/\(SqL X.K H p ys\/SqT X.K H p ys)/\Q (.int ys.length) H):=by
 intro pins s σ H xs us Q I r h
 obtain⟨p,ys,rfl,hq,q⟩:=h
 obtain⟨u,rfl,rx⟩:=fX r
 cases rx
 have hn:=i0
 rcases hq with hq|hq
 ·obtain⟨its,r',pl,hz⟩:=I.list hq
  have hlen:=r'.length
  exact Calls.call_len_list pl.isList (by simp only[List.size_toArray]<;>omega) ⟨.int ys.length,H,I.tok _,⟨s.toks+1,by rw[List.size_toArray,hlen]⟩,q⟩
 ·obtain⟨its,r',pl,hz⟩:=I.tuple hq
  have hlen:=r'.length
  exact len_tuple pl (by simp only[List.size_toArray]<;>omega) ⟨.int ys.length,H,I.tok _,⟨s.toks+1,by rw[List.size_toArray,hlen]⟩,q⟩
def mj:eN X (.builtin "len") (fun xs H Q=>∃z,xs=[.str z]/\z.length<=sizeLine/\Q (.int z.length) H):=by
 intro pins s σ H xs us Q I r h
 obtain⟨z,rfl,hz,q⟩:=h
 obtain⟨u,rfl,t,rfl⟩:=fX r
 have hn:=i0
 exact len_str (by omega) ⟨.int z.length,H,I.tok _,⟨_,rfl⟩,q⟩
def gY:eN X (.type "tuple") (fun xs H Q=>∃p ys,xs=[.ref p]/\((SqL X.K H p ys/\∀l,H l=none->Q (.ref l) (upd H l (.tup ys)))\/(SqT X.K H p ys/\Q (.ref p) H))):=by
 intro pins s σ H xs us Q I r h
 obtain⟨p,ys,rfl,h⟩:=h
 obtain⟨u,rfl,rx⟩:=fX r
 cases rx
 rcases h with⟨hq,q⟩|⟨hq,q⟩
 ·obtain⟨its,r',pl,hz⟩:=I.list hq
  have hlen:=r'.length
  refine call_tuple_list pl.isList (fun h' kp=>?_) (by simp only[List.size_toArray]<;>omega)
  have I1:Inv X pins σ H { s with heap:=h' }:=I.kept (t':=s.toks) kp
  have I2:Inv X pins σ (upd H h'.objs.size (.tup ys)) { s with heap:=h'.push { cls:=.type "tuple",data:=.seq its.toArray } }:=
   I1.laid (t':=s.toks) (fun b o e=>Heap.get?_push_of_some _ e) (Nat.le_refl _) (show Fu X.prog X.w _ _ _ (.tup ys)from ⟨hz,its,r',FT.new _ _⟩)
  exact⟨.ref h'.objs.size,_,I2,rfl,q _ (I1.hok.fresh (Nat.le_refl _))⟩
 ·obtain⟨its,r',pl,hz⟩:=I.tuple hq
  exact call_tuple_same pl ⟨.ref p,H,I,rfl,q⟩
def C0(K:Vo)(T:String)(x:V)(H:Hp):Prop:=match x with
 | .str _=>T = "str"
 | .int _=>T = "int"
 | .ref p=>(T = "list"/\∃xs,SqL K H p xs)\/(T = "tuple"/\∃o,K.lookup p=some o/\o.cls = .type "tuple"/\o.dict=none) \/
   (T = "dict"/\((∃kvs,H p=some (.dK kvs))\/∃kvs,H p=some (.dT kvs)))\/(T = "set"/\∃S n,H p=some (.set S n))
 |_=>False
def tL{pins:Va}{σ:St}{H:Hp}{s:Shared}{T:String}{x:V}{v:Value}(I:Inv X pins σ H s)(r:RelV x v)(ty:C0 X.K T x H) :
  s.TypeIs v T/\∀a,v = .ref a->∃ob,s.heap.get? a=some ob/\ob.dict=none:=by
 cases x with
 |str z=>
  obtain⟨t,rfl⟩:=r
  cases (show T = "str" from ty)
  exact⟨typeIs_str s z t,fun _ e=>nomatch e⟩
 |int i=>
  obtain⟨t,rfl⟩:=r
  cases (show T = "int" from ty)
  exact⟨typeIs_int s i t,fun _ e=>nomatch e⟩
 |ref p=>
  cases r
  rcases ty with⟨rfl,xs,hq⟩|⟨rfl,o,hk,hc,hd⟩|⟨rfl,hk⟩|⟨rfl,S,n,hk⟩
  ·obtain⟨its,_,pl,_⟩:=I.list hq
   refine⟨pl.isList.typeIs,fun a e=>?_⟩
   cases e
   obtain⟨o,n,e,c,hd,_⟩:=pl
   exact⟨o,e,hd⟩
  ·refine⟨⟨o,I.Ix p o hk,hc⟩,fun a e=>?_⟩
   cases e
   exact⟨o,I.Ix _ o hk,hd⟩
  ·have z:∃o,s.heap.get? p=some o/\o.ExactDict:=by
    rcases hk with⟨kvs,hk⟩|⟨kvs,hk⟩
    ·obtain⟨_,_,_,_,o,_,_,e,ex,_⟩:=I.hok p _ hk
     exact⟨o,e,ex⟩
    ·obtain⟨_,_,_,_,o,_,_,e,ex,_⟩:=I.hok p _ hk
     exact⟨o,e,ex⟩
   obtain⟨o,e,ex⟩:=z
   refine⟨⟨o,e,ex.1⟩,fun a e2=>?_⟩
   cases e2
   exact⟨o,e,ex.2.1⟩
  ·obtain⟨o,_,_,_,e,ex,_⟩:=I.hok p _ hk
   refine⟨⟨o,e,ex.1⟩,fun a e2=>?_⟩
   cases e2
   exact⟨o,e,ex.2.1⟩
 |_=>exact False.elim ty
def DH(K:Vo)(T:String)(r:V->List V->Hp->VK->Prop)(to:TE):TE:=fun σ H Q=>to σ H fun x H1=>C0 K T x H1/\r x [] H1 Q
def EQ(K:Vo)(T:String)(r:V->List V->Hp->VK->Prop)(to:TE)(t:TA):TE:=fun σ H Q=>to σ H fun x H1=>C0 K T x H1/\t σ H1 fun xs H2=>r x xs H2 Q
variable {o e:Expr} {es:List Expr} {to:TE} {t:TA} {name:Str} {apos cpos:Pos} {T id:String} {r:V->List V->Hp->VK->Prop}
def zr(pa:PlainAttrs T)(slot:Slot T name id)(hty:typeOf (.builtin id)=pure (.type "method_descriptor"))(hm:Dx X id r)(ho:PE X o to)
  (hbase:attributeBase o name X.env (eval o X.env)=eval o X.env:=by rfl) (hline:(apos.endLine == cpos.line)=true:=by rfl):PE X (.Call (.Attribute o name apos) [] [] cpos) (DH X.K T r to):=by
 intro pins s σ H Q I h
 refine wpAny_Call_method0_late hbase hline (bC (ho pins s σ H _ I h) fun v s1 ⟨x,H1,I1,r1,ty,q1⟩=>?_)
 obtain⟨h1,h2⟩:=tL I1 r1 ty
 exact⟨T,id,pa,slot,hty,h1,h2,Calls.callWith_builtin rfl (PySem.evalArgs_none (hm pins s1 σ H1 x [] v [] Q I1 r1 .nil q1))⟩
def Bx(pa:PlainAttrs T)(slot:Slot T name id)(hty:typeOf (.builtin id)=pure (.type "method_descriptor"))(hm:Dx X id r)(ho:PE X o to)(ha:PA X (e::es) t)
  (hbase:attributeBase o name X.env (eval o X.env)=eval o X.env:=by rfl)
  (hfew:((backTo cpos (starEach (e::es) X.env)).all (fun x=>!x.1)&&(backToKw cpos (keywordEach [] X.env)).all (fun x=>x.1.isSome)
   && decide ((e::es).length+([]:List Keyword).length+(if ([]:List Keyword).isEmpty then 0 else 1) < 30))=true:=by rfl)
  (hline:(apos.endLine == cpos.line)=true:=by rfl) (hs:starEach (e::es) X.env=(false,eval e X.env)::starEach es X.env:=by rfl) (hplain:(backTo cpos (starEach es X.env)).any (·.1)=false:=by rfl) :
  PE X (.Call (.Attribute o name apos) (e::es) [] cpos) (EQ X.K T r to t):=by
 intro pins s σ H Q I h
 refine wpAny_Call_method_late hbase hfew hline rfl (bC (ho pins s σ H _ I h) fun v s1 ⟨x,H1,I1,r1,ty,q1⟩=>?_)
 obtain⟨h1,h2⟩:=tL I1 r1 ty
 refine⟨T,id,pa,slot,hty,h1,h2,?_⟩
 have hA:=ha cpos pins s1 σ H1 _ I1 q1
 rw[hs]at hA ⊢
 refine Calls.callWith_builtin (by show(false || (backTo cpos (starEach es X.env)).any (·.1))=false;rw[hplain]<;>rfl) (Calls.evalArgs_plain ?_)
 exact bC hA fun us s2 ⟨vs,H2,I2,r2,q2⟩=>hm pins s2 σ H2 x vs v us Q I2 r1 r2 q2
end
def C2(X:Cx)(id:String)(r:V->List V->Hp->VK->Prop):Prop:=
 ∀(pins:Va) (s:Shared) (σ:St) (H:Hp) (x:V) (xs:List V) (v:Value) (us:Vv) (Q:VK),Inv X pins σ H s->RelV x v->Vals xs us->r x xs H Q->
  wpAny (model X.prog X.w) X.A (call (.builtin id) (v::us)) (EP X pins σ Q) X.xe s
theorem Vals.one:∀{x:V} {us:Vv},Vals [x] us->∃u,us=[u]/\RelV x u
 |_,_,.cons r .nil=>⟨_,rfl,r⟩
theorem Vals.zero:∀{us:Vv},Vals [] us->us=[]
 |_,.nil=>rfl
theorem Vals.dropLast{xs:List V}{us:Vv}(h:Vals xs us):Vals xs.dropLast us.dropLast:=by
 induction h with
 |nil=>exact .nil
 |cons r t ih=>
  cases t with
  |nil=>exact .nil
  |cons q t'=>exact .cons r ih
theorem Vals.eraseIdx:∀{xs:List V} {us:Vv} (i:Nat),Vals xs us->Vals (xs.eraseIdx i) (us.eraseIdx i)
 |_,_,_,.nil=>.nil
 |_,_,0,.cons _ t=>t
 |_,_,i+1,.cons r t=>.cons r (Vals.eraseIdx i t)
theorem Vals.reverse{xs:List V}{us:Vv}(h:Vals xs us):Vals xs.reverse us.reverse:=by
 induction h with
 |nil=>exact .nil
 |cons r t ih=>rw[List.reverse_cons,List.reverse_cons];exact Vals.append ih (.cons r .nil)
theorem Vals.rep{xs:List V}{us:Vv}(h:Vals xs us):∀k:Nat,Vals (List.replicate k xs).flatten (List.replicate k us).flatten
 |0=>.nil
 |k+1=>by
  rw[List.replicate_succ,List.replicate_succ,List.flatten_cons,List.flatten_cons]
  exact Vals.append h (Vals.rep h k)
def o_{α:Type}(l:List α):l.eraseIdx (l.length - 1)=l.dropLast:=by
 induction l with
 |nil=>rfl
 |cons a r ih=>
  cases r with
  |nil=>rfl
  |cons b r=>
   have e:(a::b::r).length - 1=((b::r).length - 1)+1:=by
    have h1:(a::b::r).length=r.length+2:=rfl
    have h2:(b::r).length=r.length+1:=rfl
    omega
   rw[e,List.eraseIdx_cons_succ,ih]
   all_goals rfl
theorem lH{α:Type}:∀(l:List α) (i:Nat),(l.eraseIdx i).length<=l.length
 |[],_=>Nat.le_refl _
 |_::_,0=>Nat.le_succ _
 |_::r,i+1=>Nat.succ_le_succ (lH r i)
theorem lI(its:Vv):∀(k:Nat) (acc:Vv),
  List.foldl (fun x1 x2=>x1++x2) acc.toArray (List.replicate k its.toArray)=(acc++(List.replicate k its).flatten).toArray
 |0,acc=>by simp
 |k+1,acc=>by
  have e:acc.toArray++its.toArray=(acc++its).toArray:=by simp
  have e2:(acc++its)++(List.replicate k its).flatten=acc++(List.replicate (k+1) its).flatten:=by
   rw[List.replicate_succ,List.flatten_cons,List.append_assoc]
  rw[<-e2,<-lI its k (acc++its),<-e,List.replicate_succ,List.foldl_cons]
section
variable {X:Cx} {pins:Va} {σ:St} {H:Hp} {s:Shared} {l b:Addr} {xs ys zs:List V}
def Inv.Js{its its':Vv}{n:Nat}{f:Array Value->Array Value}{t':Nat}(I:Inv X pins σ H s)(hH:H l=some (.lst xs))
  (e:s.heap.get? l=some { cls:=.type "list",data:=.seq its.toArray n }) (hf:f its.toArray=its'.toArray) (hv:Vals ys its') (hz:ys.length<=sizeLine) :
  Inv X pins σ (upd H l (.lst ys)) { s with heap:=s.heap.update l (Obj.mapSeq f),toks:=t' }:=by
 have q:=PySem.IsL.update e f
 rw[hf]at q
 refine I.write (x:=l) (e:=l) (by rw[hH];exact trivial) (.inl rfl) (fun b' u hb hu=>(Heap.get?_update_other s.heap (Obj.mapSeq f) (Ne.symm hb)).trans hu) ⟨_,q⟩ ?_
 exact⟨hz,its',_,hv,q⟩
def Inv.IQ{its:Vv}{t':Nat}(I:Inv X pins σ H s)(hv:Vals ys its)(hz:ys.length<=sizeLine) :
  Inv X pins σ (upd H s.heap.objs.size (.lst ys)) { s with heap:=s.heap.push { cls:=.type "list",data:=.seq its.toArray },toks:=t' }:=
 I.laid (fun _ _ q=>Heap.get?_push_of_some _ q) (Nat.le_refl _) ⟨hz,its,0,hv,Heap.get?_push_size _ rfl⟩
theorem Inv.fresh(I:Inv X pins σ H s):H s.heap.objs.size=none:=I.hok.fresh (Nat.le_refl _)
def Inv.Ik(I:Inv X pins σ H s)(hH:H l=some (.lst xs)):xs.length<=sizeLine/\∃(its:Vv) (n:Nat),Vals xs its/\xs.length=its.length/\s.heap.get? l=some { cls:=.type "list",data:=.seq its.toArray n }:=by
 obtain⟨z,its,n,r,e⟩:=I.hok l _ hH
 exact⟨z,its,n,r,r.length,e⟩
def nC{n:Nat}(h:n<=sizeLine):Builtin.List.listTooLong n=false:=by
 unfold Builtin.List.listTooLong
 exact decide_eq_false (by omega)
end
section
variable {X:Cx}
noncomputable def wt:V->List V->Hp->VK->Prop:=fun x vs H Q=>∃l xs y,x = .ref l/\vs=[y]/\H l=some (.lst xs)/\xs.length < sizeLine/\Q .non (upd H l (.lst (xs++[y])))
def rJ:C2 X "list.append" wt:=by
 intro pins s σ H x vs v us Q I rx rv h
 obtain⟨l,xs,y,rfl,rfl,hH,hz,q⟩:=h
 cases rx
 obtain⟨u,rfl,ru⟩:=rv.one
 obtain⟨z,its,n,r,hl,e⟩:=I.Ik hH
 refine call_meets F.slot_list_append ⟨_,e,rfl⟩ F.entry_list_append (F.args_list_append_2 _ _) (PySem.list_append l its.toArray n u (by rw[List.size_toArray];omega)) ⟨e,?_⟩
 refine⟨.non,_,I.Js (its':=its++[u]) hH e (by simp) (r.append (.cons ru .nil)) ?_,rfl,q⟩
 rw[List.length_append,List.length_singleton]
 omega
noncomputable def wu:V->List V->Hp->VK->Prop:=fun x vs H Q=>∃l b xs zs,x = .ref l/\vs=[.ref b]/\H l=some (.lst xs)/\H b=some (.lst zs)/\xs.length+zs.length<=sizeLine/\Q .non (upd H l (.lst (xs++zs)))
def rK:C2 X "list.extend" wu:=by
 intro pins s σ H x vs v us Q I rx rv h
 obtain⟨l,b,xs,zs,rfl,rfl,hH,hB,hz,q⟩:=h
 cases rx
 obtain⟨u,rfl,ru⟩:=rv.one
 cases ru
 obtain⟨z,its,n,r,hl,e⟩:=I.Ik hH
 obtain⟨z2,its2,n2,r2,hl2,e2⟩:=I.Ik hB
 have hsz:its.toArray.size+its2.toArray.size<=sizeLine:=by rw[List.size_toArray,List.size_toArray];omega
 have Jb:¬(!its.toArray.isEmpty&&Builtin.List.listTooLong (its.toArray.size+its2.toArray.size))=true:=by
  rw[nC hsz,Bool.and_false]
  exact Bool.false_ne_true
 refine call_meets F.slot_list_extend ⟨_,e,rfl⟩ F.entry_list_extend (F.args_list_extend_2 _ _)
  (AutoSeq1.list_extend_list_list_0 l its.toArray n b its2.toArray n2 Jb (by rw[List.size_toArray];omega) (by omega)) ⟨e,e2,?_⟩
 refine⟨.non,_,I.Js (its':=its++its2) hH e (by simp) (r.append r2) ?_,rfl,q⟩
 rw[List.length_append]
 omega
noncomputable def DI:V->List V->Hp->VK->Prop:=fun x vs H Q=>∃l xs y,x = .ref l/\vs=[]/\H l=some (.lst xs)/\xs[xs.length - 1]?=some y/\Q y (upd H l (.lst xs.dropLast))
def zt:C2 X "list.pop" DI:=by
 intro pins s σ H x vs v us Q I rx rv h
 obtain⟨l,xs,y,rfl,rfl,hH,hy,q⟩:=h
 cases rx
 have Nf:=rv.zero
 subst Nf
 obtain⟨z,its,n,r,hl,e⟩:=I.Ik hH
 obtain⟨u,hu,ru⟩:=r.get hy
 have hy':its.toArray[its.toArray.size - 1]?=some u:=by
  show its.toArray[its.length - 1]?=some u
  rw[<-Array.getElem?_toList,<-hl]
  exact hu
 refine call_meets F.slot_list_pop ⟨_,e,rfl⟩ F.entry_list_pop (F.args_list_pop_1 _) (MeetsSeq.list_pop_last l its.toArray n u hy' (by rw[List.size_toArray];omega)) ⟨e,?_⟩
 refine⟨y,_,I.Js (its':=its.dropLast) hH e ?_ r.dropLast ?_,ru,q⟩
 ·show its.toArray.eraseIdxIfInBounds (its.toArray.size - 1)=its.dropLast.toArray
  rw[List.size_toArray,List.eraseIdxIfInBounds_toArray,o_]
 ·rw[List.length_dropLast]
  omega
noncomputable def zu:V->List V->Hp->VK->Prop:=fun x vs H Q=>∃l xs i k y,x = .ref l/\vs=[.int i]/\H l=some (.lst xs)/\-(2 ^ 63)<=i/\i < 2 ^ 63/\seqIndex? i xs.length=some k/\xs[k]?=some y/\Q y (upd H l (.lst (xs.eraseIdx k)))
def tM:C2 X "list.pop" zu:=by
 intro pins s σ H x vs v us Q I rx rv h
 obtain⟨l,xs,i,k,y,rfl,rfl,hH,h1,h2,hk,hy,q⟩:=h
 cases rx
 obtain⟨u,rfl,ru⟩:=rv.one
 obtain⟨t,rfl⟩:=ru
 obtain⟨z,its,n,r,hl,e⟩:=I.Ik hH
 obtain⟨w,hw,rw'⟩:=r.get hy
 refine call_meets F.slot_list_pop ⟨_,e,rfl⟩ F.entry_list_pop (F.args_list_pop_2 _ _)
  (MeetsSeq.list_pop_at l its.toArray n i t k w (fitsIndex_both h1 h2) (by rw[List.size_toArray,<-hl];exact hk) (by rw[<-Array.getElem?_toList];exact hw) (by rw[List.size_toArray];omega)) ⟨e,?_⟩
 refine⟨y,_,I.Js (its':=its.eraseIdx k) hH e ?_ (r.eraseIdx k) ?_,rw',q⟩
 ·show its.toArray.eraseIdxIfInBounds k=(its.eraseIdx k).toArray
  rw[List.eraseIdxIfInBounds_toArray]
 ·have:=lH xs k
  omega
def DJ:R2:=fun x y H Q=>∃l b xs zs,x = .ref l/\y = .ref b/\H l=some (.lst xs)/\H b=some (.lst zs)/\xs.length+zs.length<=sizeLine/\∀p,H p=none->Q (.ref p) (upd H p (.lst (xs++zs)))
def zv:gU X (binaryOp .Add) DJ:=by
 intro pins s σ H x y v u Q I rx ry h
 obtain⟨l,b,xs,zs,rfl,rfl,hH,hB,hz,q⟩:=h
 cases rx
 cases ry
 obtain⟨z,its,n,r,hl,e⟩:=I.Ik hH
 obtain⟨z2,its2,n2,r2,hl2,e2⟩:=I.Ik hB
 refine PySem.P.add_list e e2 ?_ (by rw[List.size_toArray,List.size_toArray];omega)
 have ea:its.toArray++its2.toArray=(its++its2).toArray:=by simp
 rw[ea]
 exact⟨.ref _,_,I.IQ (t':=s.toks) (r.append r2) (by rw[List.length_append];omega),rfl,q _ I.fresh⟩
def DK:R2:=fun x y H Q=>∃l k xs,x = .ref l/\y = .int k/\H l=some (.lst xs)/\-(2 ^ 63)<=k/\k < 2 ^ 63/\xs.length * k.toNat<=sizeLine/\
 ∀p,H p=none->Q (.ref p) (upd H p (.lst (List.replicate k.toNat xs).flatten))
def wv{α:Type}(xs:List α)(k:Nat):(List.replicate k xs).flatten.length=k * xs.length:=by
 induction k with
 |zero=>simp
 |succ k ih=>rw[List.replicate_succ,List.flatten_cons,List.length_append,ih,Nat.succ_mul,Nat.add_comm]
def zw:gU X (binaryOp .Mult) DK:=by
 intro pins s σ H x y v u Q I rx ry h
 obtain⟨l,k,xs,rfl,rfl,hH,h1,h2,hz,q⟩:=h
 cases rx
 obtain⟨t,rfl⟩:=ry
 obtain⟨z,its,n,r,hl,e⟩:=I.Ik hH
 have hlen:its.toArray.size * k.toNat<=sizeLine:=by rw[List.size_toArray,<-hl];exact hz
 have hcap:¬its.toArray.size * k.toNat > (2 ^ 63 - 1) / 8:=by
  have:(sizeLine:Nat)<=(2 ^ 63 - 1) / 8:=by decide
  omega
 have hfit:¬(!Builtin.List.listFitsIndex k)=true:=by
  rw[fitsIndex_both h1 h2]
  exact Bool.false_ne_true
 have Jb:¬Builtin.List.listTooLong (its.toArray.size * k.toNat)=true:=by
  rw[nC hlen]
  exact Bool.false_ne_true
 have hnew:List.foldl (fun x1 x2=>x1++x2) #[] (List.replicate (if its.toArray.isEmpty=true then 0 else k.toNat) its.toArray)=(List.replicate k.toNat its).flatten.toArray:=by
  have f0:∀m:Nat,List.foldl (fun x1 x2=>x1++x2) #[] (List.replicate m its.toArray)=(List.replicate m its).flatten.toArray:=fun m=>by
   have:=lI its m []
   rw[List.nil_append]at this
   exact this
  rw[f0]
  cases its with
  |nil=>simp
  |cons a r'=>rw[if_neg (by simp)]
 refine wpAny_binaryOp_repeat_ref (T:="list") (U:="int") (by decide) ⟨_,e,rfl⟩ (fun s'=>typeIs_int s' k t) noFill_list_mul F.fills_int_mul F.slot_int_rmul repeat_list F.slot_int_index.lookup
  (call_meets F.slot_int_rmul (typeIs_int s k t) F.entry_int_rmul (F.args_int_rmul_2 _ _) (int___rmul___int_list k t l its.toArray n)
   ⟨e,rfl,⟨_,e,rfl⟩,call_meets F.slot_list_mul ⟨_,e,rfl⟩ F.entry_list_mul (F.args_list_mul_2 _ _) (AutoListH.list___mul___list_int_3 l its.toArray n k t hfit hcap Jb) ⟨e,?_⟩⟩)
 rw[hnew]
 exact⟨.ref _,_,I.IQ (t':=s.toks) (r.rep k.toNat) (by rw[wv,Nat.mul_comm];exact hz),rfl,q _ I.fresh⟩
end
section
variable {κ:Type} [DecidableEq κ]
noncomputable def iH(kvs:List (κ×V))(k:κ):Option V:=(kvs.find? fun kv=>decide (kv.1=k)).map (·.2)
noncomputable def fZ(kvs:List (κ×V))(k:κ)(v:V):List (κ×V):=
 if (kvs.any fun kv=>decide (kv.1=k))=true then kvs.map (fun kv=>if kv.1=k then (kv.1,v) else kv) else kvs++[(k,v)]
def GA{p:κ×V}{r:List (κ×V)}{k:κ}(e:p.1=k):iH (p::r) k=some p.2:=by simp[iH,List.find?_cons,e]
def Go{p:κ×V}{r:List (κ×V)}{k:κ}(e:¬p.1=k):iH (p::r) k=iH r k:=by simp[iH,List.find?_cons,e]
theorem j8(k:κ):∀kvs:List (κ×V),(kvs.any fun kv=>decide (kv.1=k))=(iH kvs k).isSome
 |[]=>rfl
 |p::r=>by
  rw[List.any_cons]
  by_cases e:p.1=k
  ·simp only[GA e,decide_eq_true e,Bool.true_or,Option.isSome_some]
  ·rw[Go e,decide_eq_false e,Bool.false_or];exact j8 k r
def f_(kvs:List (κ×V))(k:κ)(v:V):(fZ kvs k v).length<=kvs.length+1:=by
 unfold fZ
 split
 ·rw[List.length_map];omega
 ·rw[List.length_append,List.length_cons,List.length_nil];omega
def Gp.IR{o:Option V}{u:Option Value}(r:Gp o u):o.isSome=u.isSome:=by
 cases o with
 |none=>cases u with
  |none=>rfl
  |some _=>exact(show False from r).elim
 |some _=>cases u with
  |none=>exact(show False from r).elim
  |some _=>rfl
theorem Gp.getD{o:Option V}{u:Option Value}{d:V}{d':Value}(r:Gp o u)(rd:RelV d d'):RelV (o.getD d) (u.getD d'):=by
 cases o with
 |none=>cases u with
  |none=>exact rd
  |some _=>exact(show False from r).elim
 |some _=>cases u with
  |none=>exact(show False from r).elim
  |some _=>exact r
def KV.val{kvs:List (κ×V)}{vs:List (κ×Value)}(r:KV kvs vs)(k:κ):Gp (iH kvs k) (valueAt vs k):=by
 unfold KV at r
 induction r with
 |nil=>exact True.intro
 |@cons p q ps qs h t ih=>
  obtain⟨h1,h2⟩:=h
  by_cases e:p.1=k
  ·have e':q.1=k:=h1.symm.trans e
   have b:valueAt (q::qs) k=some q.2:=by simp[valueAt,List.find?_cons,e']
   rw[GA e,b];exact h2
  ·have e':¬q.1=k:=fun z=>e (h1.trans z)
   have b:valueAt (q::qs) k=valueAt qs k:=by simp[valueAt,List.find?_cons,e']
   rw[Go e,b];exact ih
theorem KV.any{kvs:List (κ×V)}{vs:List (κ×Value)}(r:KV kvs vs)(k:κ):(kvs.any fun kv=>decide (kv.1=k))=vs.any fun kv=>decide (kv.1=k):=by
 unfold KV at r
 induction r with
 |nil=>rfl
 |cons h t ih=>rw[List.any_cons,List.any_cons,ih,h.1]
def KV.repl{kvs:List (κ×V)}{vs:List (κ×Value)}(r:KV kvs vs)(k:κ){y:V}{u:Value}(ry:RelV y u) :
  KV (kvs.map fun kv=>if kv.1=k then (kv.1,y) else kv) (vs.map fun kv=>if kv.1=k then (kv.1,u) else kv):=by
 unfold KV at r ⊢
 induction r with
 |nil=>exact .nil
 |@cons p q ps qs h t ih=>
  rw[List.map_cons,List.map_cons]
  refine .cons ?_ ih
  obtain⟨h1,h2⟩:=h
  by_cases e:p.1=k
  ·rw[if_pos e,if_pos (h1.symm.trans e)];exact⟨h1,ry⟩
  ·rw[if_neg e,if_neg (fun z=>e (h1.trans z))];exact⟨h1,h2⟩
def KV.put{kvs:List (κ×V)}{vs:List (κ×Value)}(r:KV kvs vs)(k:κ){y:V}{u:Value}(ry:RelV y u):KV (fZ kvs k y) (stored vs k u):=by
 unfold fZ stored
 rw[r.any k]
 by_cases e:(vs.any fun kv=>decide (kv.1=k))=true
 ·rw[if_pos e,if_pos e];exact r.repl k ry
 ·rw[if_neg e,if_neg e];exact Paired.snoc r ⟨rfl,ry⟩
theorem KV.length{kvs:List (κ×V)}{vs:List (κ×Value)}(r:KV kvs vs):kvs.length=vs.length:=Paired.length r
end
def nE{P:Program}{w:World}{k:b9}{u:Value}(r:RelV (kV k) u):(bn P w).is k u=true:=by
 cases k with
 |inl i=>obtain⟨t,e⟩:=(show ∃t,u=Value.int i t from r);subst e;exact nu P w i t
 |inr x=>obtain⟨t,e⟩:=(show ∃t,u=Value.str x t from r);subst e;exact nv P w x t
theorem lJ{P:Program}{w:World}:∀{ks:List b9} {us:Vv},Vals (ks.map kV) us->ItemsAre (bn P w) ks us
 |[],_,r=>by rw[List.map_nil]at r;cases r;exact .nil
 |k::ks,_,r=>by
  rw[List.map_cons]at r
  cases r with
  |cons h t=>exact .cons (nE h) (lJ t)
noncomputable abbrev KT(H:Hp):List (List b9×V)->List (List b9×Addr×Value)->Prop:=Paired fun p q=>p.1=q.1/\H q.2.1=some (.tup (p.1.map kV))/\RelV p.2 q.2.2
def KT.val{H:Hp}{kvs:List (List b9×V)}{xs:List (List b9×Addr×Value)}(r:KT H kvs xs)(k:List b9):Gp (iH kvs k) ((atKey xs k).map (·.2)):=by
 induction r with
 |nil=>exact True.intro
 |@cons p q ps qs h t ih=>
  obtain⟨h1,_,h2⟩:=h
  by_cases e:p.1=k
  ·have e':q.1=k:=h1.symm.trans e
   have b:atKey (q::qs) k=some q.2:=by simp[atKey,List.find?_cons,e']
   rw[GA e,b];exact h2
  ·have e':¬q.1=k:=fun z=>e (h1.trans z)
   have b:atKey (q::qs) k=atKey qs k:=by simp[atKey,List.find?_cons,e']
   rw[Go e,b];exact ih
def KT.repl{H:Hp}{kvs:List (List b9×V)}{xs:List (List b9×Addr×Value)}(r:KT H kvs xs)(k:List b9){y:V}{u:Value}(ry:RelV y u) :
  KT H (kvs.map fun kv=>if kv.1=k then (kv.1,y) else kv) (xs.map (putAt k u)):=by
 induction r with
 |nil=>exact .nil
 |@cons p q ps qs h t ih=>
  rw[List.map_cons,List.map_cons]
  refine .cons ?_ ih
  obtain⟨h1,h2,h3⟩:=h
  unfold putAt
  by_cases e:p.1=k
  ·rw[if_pos e,if_pos (h1.symm.trans e)];exact⟨h1,h2,ry⟩
  ·rw[if_neg e,if_neg (fun z=>e (h1.trans z))];exact⟨h1,h2,h3⟩
def KT.put{H:Hp}{kvs:List (List b9×V)}{xs:List (List b9×Addr×Value)}(r:KT H kvs xs)(k:List b9){b:Addr}{y:V}{u:Value}(hb:H b=some (.tup (k.map kV)))(ry:RelV y u) :
  KT H (fZ kvs k y) (storedH xs k b u):=by
 have e:(kvs.any fun kv=>decide (kv.1=k))=(atKey xs k).isSome:=by
  rw[j8,(r.val k).IR,Option.isSome_map]
 unfold fZ storedH
 rw[e]
 by_cases q:(atKey xs k).isSome=true
 ·rw[if_pos q,if_pos q];exact r.repl k ry
 ·rw[if_neg q,if_neg q];exact Paired.snoc r ⟨rfl,hb,ry⟩
def KT.keeps{H H':Hp}{kvs:List (List b9×V)}{xs:List (List b9×Addr×Value)}(r:KT H kvs xs)(ht:∀b ys,H b=some (.tup ys)->H' b=some (.tup ys)):KT H' kvs xs:=
 Paired.JQ r fun _ _ z=>⟨z.1,ht _ _ z.2.1,z.2.2⟩
section
variable {P:Program} {w:World} {H:Hp} {h:Heap} {a:Addr}
def xX{u:HO}(ok:GN P w H h)(e:Rd H a u):Fu P w H h a u:=e.ok ok
def lK{kvs:List (b9×V)}(ok:GN P w H h)(e:Rd H a (.dK kvs)):kvs.length<=sizeLine/\(a == sysModules)=false/\∃vs,KV kvs vs/\h.DictOf (bn P w) a vs:=
 show Fu P w H h a (.dK kvs)from xX ok e
def xY{kvs:List (b9×V)}(ok:GN P w H h)(e:H a=some (.dK kvs)):kvs.length<=sizeLine/\(a == sysModules)=false/\∃vs,KV kvs vs/\h.DictOf (bn P w) a vs:=lK ok (.inl e)
def fi{ks:List b9}(ok:GN P w H h)(e:H a=some (.tup (ks.map kV))):(tupleKind (bn P w)).is h ks a:=by
 obtain⟨_,its,r,o,h1,_,h2,n,h3⟩:=(show Fu P w H h a (.tup (ks.map kV))from ok a _ e)
 exact⟨o,its.toArray,n,h1,h2,h3,by simpa using lJ r⟩
def nF{kvs:List (List b9×V)}(ok:GN P w H h)(e:Rd H a (.dT kvs)):kvs.length<=sizeLine/\(a == sysModules)=false/\
  ∃xs,KT H kvs xs/\h.DictOfH (tupleKind (bn P w)) a xs:=by
 obtain⟨z,y,xs,r,o,es,ep,h1,h2,h3,h4,h5⟩:=(show Fu P w H h a (.dT kvs)from xX ok e)
 refine⟨z,y,xs,r,o,es,ep,h1,h2,h3,h4,fun x hx=>?_,h5⟩
 have all:∀{l:List (List b9×V)} {m:List (List b9×Addr×Value)},KT H l m->∀x∈m,(tupleKind (bn P w)).is h x.1 x.2.1:=by
  intro l m q
  induction q with
  |nil=>intro x hx;exact nomatch hx
  |@cons p q ps qs hq t ih=>
   intro x hx
   rcases List.mem_cons.mp hx with e|hx
   ·subst e
    exact fi ok (by rw[<-hq.1];exact hq.2.1)
   ·exact ih x hx
 exact all r x hx
def By{kvs:List (List b9×V)}(ok:GN P w H h)(e:H a=some (.dT kvs)):kvs.length<=sizeLine/\(a == sysModules)=false/\
  ∃xs,KT H kvs xs/\h.DictOfH (tupleKind (bn P w)) a xs:=nF ok (.inl e)
end
def DGet(H:Hp)(a:Addr)(y:V)(r:Option V):Prop:=
 (∃kvs k,Rd H a (.dK kvs)/\y=kV k/\r=iH kvs k)\/∃kvs k b,Rd H a (.dT kvs)/\y = .ref b/\H b=some (.tup (k.map kV))/\r=iH kvs k
def Jc(H:Hp)(a:Addr)(y v:V)(H':Hp):Prop:=
 (∃kvs k,H a=some (.dK kvs)/\y=kV k/\kvs.length < sizeLine/\H'=upd H a (.dK (fZ kvs k v))) \/
 ∃kvs k b,H a=some (.dT kvs)/\y = .ref b/\H b=some (.tup (k.map kV))/\kvs.length < sizeLine/\H'=upd H a (.dT (fZ kvs k v))
theorem DGet.k{H:Hp}{a:Addr}{kvs:List (b9×V)}{k:b9}(e:H a=some (.dK kvs)):DGet H a (kV k) (iH kvs k):=.inl ⟨kvs,k,.inl e,rfl,rfl⟩
theorem Jc.k{H:Hp}{a:Addr}{kvs:List (b9×V)}{k:b9}{v:V}(e:H a=some (.dK kvs))(hl:kvs.length < sizeLine):Jc H a (kV k) v (upd H a (.dK (fZ kvs k v))):=.inl ⟨kvs,k,e,rfl,hl,rfl⟩
section
variable {X:Cx} {pins:Va} {σ:St} {H:Hp} {s:Shared} {a:Addr} {y v:V} {u r:Value} {o:Option V} {A:Around} {E:Vq}
def Inv.big(I:Inv X pins σ H s):sysModules < s.heap.objs.size:=by
 have h:mainGlobals < s.heap.objs.size:=(I.mod.glob.keeps I.bk).lt
 exact Nat.lt_trans (by decide) h
def rL{Q:Vq}(hu:A.units+1 < cLine)(I:Inv X pins σ H s)(g:DGet H a y (some v))(ry:RelV y u)(h:∀w' s',Inv X pins σ H s'->RelV v w'->Q w' s') :
  wpAny (model X.prog X.w) A (getItem (.ref a) u) Q E s:=by
 rcases g with⟨kvs,k,e,ey,l⟩|⟨kvs,k,b,e,ey,eb,l⟩
 ·subst ey
  obtain⟨z,hd,vs,rel,dd⟩:=lK I.hok e
  obtain⟨w',hw,rw'⟩:=Gp.some_of (v:=v) (o:=valueAt vs k) (by rw[l];exact rel.val k)
  exact wpAny_getItem_of (nE ry) dd.mapOf hw (h w' _ (I.tok _) rw')
 ·subst ey
  cases (show u=Value.ref b from ry)
  obtain⟨z,hd,xs,rel,dd⟩:=nF I.hok e
  obtain⟨w',hw,rw'⟩:=Gp.some_of (v:=v) (o:=(atKey xs k).map (·.2)) (by rw[l];exact rel.val k)
  obtain⟨p,hp,hp2⟩:=Option.map_eq_some_iff.mp hw
  refine wpAny_getItem_heap (tupleKind_room_in1 hu) (fi I.hok eb) dd hp ?_
  rw[hp2]
  exact h w' _ (I.tok _) rw'
def mm{h':Heap}{t':Nat}{ob:HO}(I:Inv X pins σ H s)(mu:A3 (H a))(hs:Heap.SameBut a s.heap h')(he:∃q,h'.get? a=some q)(new:Fu X.prog X.w (upd H a ob) h' a ob) :
  Inv X pins σ (upd H a ob) { s with heap:=h',toks:=t' }:=
 I.write (x:=a) (e:=a) mu (.inl rfl) (fun b q hb z=>(hs.2 b hb).trans z) he new
def tN{P:Program}{w:World}{H':Hp}{h':Heap}{kvs:List (b9×V)}{vs:List (b9×Value)}(z:kvs.length<=sizeLine)(hd:(a == sysModules)=false)(rel:KV kvs vs)(dd:h'.DictOf (bn P w) a vs) :
  Fu P w H' h' a (.dK kvs):=⟨z,hd,vs,rel,dd⟩
def rM{H':Hp}{Q:Unit->Shared->Prop}(hu:A.units+1 < cLine)(I:Inv X pins σ H s)(g:Jc H a y v H')(ry:RelV y u)(rv:RelV v r)(h:∀s',Inv X pins σ H' s'->Q () s') :
  wpAny (model X.prog X.w) A (setItem (.ref a) u r) Q E s:=by
 rcases g with⟨kvs,k,e,ey,l,eH⟩|⟨kvs,k,b,e,ey,eb,l,eH⟩
 ·subst ey eH
  obtain⟨z,hd,vs,rel,dd⟩:=xY I.hok e
  have hz:vs.length<=sizeLine:=by rw[<-rel.length];exact z
  have hl:(fZ kvs k v).length<=sizeLine:=by have:=f_ kvs k v;omega
  refine wpAny_setItem_pairs (hsz:=hz) (nE ry) dd fun h' JW hs=>h _ ?_
  have he:∃q,h'.get? a=some q:=let ⟨q,_,_,hq,_⟩:=JW;⟨q,hq⟩
  exact mm I (by rw[e];exact True.intro) hs he (tN hl hd (rel.put k rv) JW)
 ·subst ey eH
  cases (show u=Value.ref b from ry)
  obtain⟨z,hd,xs,rel,dd⟩:=By I.hok e
  have hz:xs.length<=sizeLine:=by rw[<-Paired.length rel];exact z
  have hl:(fZ kvs k v).length<=sizeLine:=by have:=f_ kvs k v;omega
  refine wpAny_setItem_heap (hsz:=hz) (tupleKind_room_in1 hu) (fi I.hok eb) dd fun h' JW hs=>h _ ?_
  obtain⟨q,es,ep,hq,h2,h3,h4,_,h5⟩:=JW
  refine mm I (by rw[e];exact True.intro) hs ⟨q,hq⟩ ⟨hl,hd,_,(rel.put k eb rv).keeps fun c ys ec=>?_,q,es,ep,hq,h2,h3,h4,h5⟩
  rw[aC (A2 ec e (fun z=>nomatch z))]
  exact ec
end
section
variable {X:Cx} {pins:Va} {σ:St} {H:Hp} {s:Shared} {a:Addr} {kvs:List (b9×V)} {k:b9} {u:Value} {A:Around} {E:Vq}
def Bz{Q:Vq}(I:Inv X pins σ H s)(e:Rd H a (.dK kvs))(h:∀t s',Inv X pins σ H s'->Q (.int kvs.length t) s'):wpAny (model X.prog X.w) A (call (.builtin "len") [.ref a]) Q E s:=by
 obtain⟨z,hd,vs,rel,dd⟩:=lK I.hok e
 refine call_len_dict hd dd (by rw[<-rel.length];rw[sizeLine_eq]at z;omega) ?_
 rw[<-rel.length]
 exact h _ _ (I.tok _)
end
def nG{X:Cx}{pins:Va}{σ:St}{H:Hp}{s:Shared}{a:Addr}{y:V}{o:Option V}(I:Inv X pins σ H s)(g:DGet H a y o):s.TypeIs (.ref a) "dict":=by
 rcases g with⟨kvs,k,e,_,_⟩|⟨kvs,k,b,e,_,_,_⟩
 ·obtain⟨_,_,vs,_,dd⟩:=lK I.hok e
  exact dd.typeIs
 ·obtain⟨_,_,xs,_,dd⟩:=nF I.hok e
  exact dd.typeIs
def tO{P:Program}{w:World}{H:Hp}(h:Heap)(hb:sysModules < h.objs.size):Fu P w H (h.push { cls:=.type "dict",data:=.dict #[] }) h.objs.size (.dK []):=
 ⟨Nat.zero_le _,beq_eq_false_iff_ne.mpr (Ne.symm (Nat.ne_of_lt hb)),[],.nil,Heap.DictOf.new h⟩
noncomputable def mq:List (TE×TE)->St->Hp->(List (V×V)->Hp->Prop)->Prop
 |[],_,H,Q=>Q [] H
 |(tk,tv)::r,σ,H,Q=>tk σ H fun x H1=>tv σ H1 fun y H2=>mq r σ H2 fun ps H3=>Q ((x,y)::ps) H3
noncomputable abbrev VV:List (V×V)->List (Value×Value)->Prop:=Paired fun p q=>RelV p.1 q.1/\RelV p.2 q.2
def BB(X:Cx)(pos:Pos)(keys:List (Option Expr))(values:List Expr)(Hk:List (TE×TE)):Prop:=
 ∀(pins:Va) (s:Shared) (σ:St) (H:Hp) (Q:List (V×V)->Hp->Prop),Inv X pins σ H s->mq Hk σ H Q->
  wpAny (model X.prog X.w) X.A (evalPairs (pairTrees keys values X.env pos)) (fun vs s'=>∃ps H',Inv X pins σ H' s'/\VV ps vs/\Q ps H') X.xe s
def ww{X:Cx}{pos:Pos}:BB X pos [] [] []:=fun pins s σ H Q I h=>pairTrees_nil_walk ⟨[],H,I,.nil,h⟩
def tP{X:Cx}{pos:Pos}{k v:Expr}{ks:List (Option Expr)}{vs:List Expr}{tk tv:TE}{Hk:List (TE×TE)}(hk:PE X k tk)(hv:PE X v tv)(hr:BB X pos ks vs Hk) :
  BB X pos (some k::ks) (v::vs) ((tk,tv)::Hk):=fun pins s σ H Q I h=>
 pairTrees_cons_walk (bC (hk pins s σ H _ I h) fun u s1 ⟨x,H1,I1,rx,q1⟩=>bC (hv pins s1 σ H1 _ I1 q1) fun w2 s2 ⟨y,H2,I2,ry,q2⟩=>
  bC (hr pins s2 σ H2 _ I2 q2) fun ws s3 ⟨ps,H3,I3,rel,q3⟩=>⟨(x,y)::ps,H3,I3,.cons ⟨rx,ry⟩ rel,q3⟩)
noncomputable def i5(kvs more:List (b9×V)):List (b9×V):=more.foldl (fun acc kv=>fZ acc kv.1 kv.2) kvs
def KV.merge:∀{more:List (b9×V)} {rs:List (b9×Value)} {kvs:List (b9×V)} {vs:List (b9×Value)},KV more rs->KV kvs vs->KV (i5 kvs more) (merged vs rs):=by
 intro more rs kvs vs r
 unfold KV at r
 induction r generalizing kvs vs with
 |nil=>intro q;exact q
 |@cons p q ps qs h t ih=>
  intro r0
  have e:KV (fZ kvs p.1 p.2) (stored vs q.1 q.2):=by
   have:=r0.put p.1 h.2
   rw[<-h.1];exact this
  exact ih e
theorem gZ:∀(more kvs:List (b9×V)),(i5 kvs more).length<=kvs.length+more.length
 |[],kvs=>by show kvs.length<=kvs.length+0;omega
 |p::r,kvs=>by
  have h1:=gZ r (fZ kvs p.1 p.2)
  have h2:=f_ kvs p.1 p.2
  show(i5 (fZ kvs p.1 p.2) r).length<=_
  rw[List.length_cons];omega
theorem j9{P:Program}{w:World}:∀{kvs:List (b9×V)} {ws:List (Value×Value)},VV (kvs.map fun kv=>(kV kv.1,kv.2)) ws->∃rs,Carries (bn P w) ws rs/\KV kvs rs
 |[],_,r=>by rw[List.map_nil]at r;cases r;exact⟨[],True.intro,.nil⟩
 |p::kvs,_,r=>by
  rw[List.map_cons]at r
  cases r with
  |@cons a b as bs h t=>
   obtain⟨rs,c,q⟩:=j9 (P:=P) (w:=w) t
   obtain⟨b1,b2⟩:=b
   exact⟨(p.1,b2)::rs,⟨nE h.1,rfl,c⟩,.cons ⟨rfl,h.2⟩ q⟩
def BD(Hk:List (TE×TE)):TE:=fun σ H Q=>∀p,H p=none->mq Hk σ (upd H p (.dK [])) fun ps H2=>H2 p=some (.dK [])/\∃kvs:List (b9×V),ps=kvs.map (fun kv=>(kV kv.1,kv.2))/\kvs.length<=15/\Q (.ref p) (upd H2 p (.dK (i5 [] kvs)))
def wx{X:Cx}{pos:Pos}{keys:List (Option Expr)}{values:List Expr}{Hk:List (TE×TE)}(h:BB X pos keys values Hk)(hall:keys.all (·.isSome)=true)(hl:keys.length=values.length)(h0:keys≠[])
  (LJ:keys.length<=15):PE X (.Dict keys values pos) (BD Hk):=by
 intro pins s σ H Q I q
 have hn:=I.hok.fresh (Nat.le_refl s.heap.objs.size)
 have I1:=I.laid (a:=s.heap.objs.size) (o:=.dK []) (h':=s.heap.push { cls:=.type "dict",data:=.dict #[] }) (t':=s.toks) (fun _ _ q=>Heap.get?_push_of_some _ q) (Nat.le_refl _) (tO s.heap I.big)
 refine wpAny_Dict_walk (knd:=bn X.prog X.w) hall hl h0 LJ (bC (h pins _ σ _ _ I1 (q _ hn)) fun ws s2 ⟨ps,H2,I2,rel,e,kvs,ep,lk,q2⟩=>?_)
 subst ep
 obtain⟨rs,c,rk⟩:=j9 (P:=X.prog) (w:=X.w) rel
 obtain⟨z,hd,vs0,r0,dd⟩:=xY I2.hok e
 cases r0
 refine⟨rs,c,dd,fun h' JW hs=>⟨.ref s.heap.objs.size,_,?_,rfl,q2⟩⟩
 have hz:(i5 [] kvs).length<=sizeLine:=by
  have h1:=gZ kvs []
  rw[List.length_nil]at h1
  rw[sizeLine_eq];omega
 have he:∃q,h'.get? s.heap.objs.size=some q:=let ⟨q,_,_,hq,_⟩:=JW;⟨q,hq⟩
 exact mm I2 (by rw[e];exact True.intro) hs he (tN hz hd (rk.merge .nil) JW)
structure M2 (X:Cx) (o:Expr) (m:Str) (apos:Pos) (e f:Expr) (cpos:Pos):Prop where
 base:attributeBase o m X.env (eval o X.env)=eval o X.env
 few:((backTo cpos (starEach [e,f] X.env)).all (fun x=>!x.1)&&(backToKw cpos (keywordEach [] X.env)).all (fun x=>x.1.isSome)
  && decide (([e,f]:List Expr).length+([]:List Keyword).length+(if ([]:List Keyword).isEmpty then 0 else 1) < 30))=true
 line:(apos.endLine == cpos.line)=true
 trees:backTo cpos (starEach [e,f] X.env)=[(false,eval e X.env),(false,eval f X.env)]
def EA(H:Hp)(a:Addr):Prop:=(∃kvs,Rd H a (.dK kvs))\/∃kvs,Rd H a (.dT kvs)
def zz{X:Cx}{pins:Va}{σ:St}{H:Hp}{s:Shared}{a:Addr}(I:Inv X pins σ H s)(d:EA H a) :
  s.TypeIs (.ref a) "dict"/\(∀b,Value.ref a = .ref b->∃ob,s.heap.get? b=some ob/\ob.dict=none)/\(a == sysModules)=false:=by
 rcases d with⟨kvs,e⟩|⟨kvs,e⟩
 ·obtain⟨_,hd,vs,_,dd⟩:=lK I.hok e
  refine⟨dd.typeIs,fun b q=>?_,hd⟩
  cases q
  obtain⟨ob,_,_,h1,h2,_⟩:=dd
  exact⟨ob,h1,h2.2.1⟩
 ·obtain⟨_,hd,xs,_,dd⟩:=nF I.hok e
  refine⟨dd.typeIs,fun b q=>?_,hd⟩
  cases q
  obtain⟨ob,_,_,h1,h2,_⟩:=dd
  exact⟨ob,h1,h2.2.1⟩
section
variable {X:Cx} {pins:Va} {σ:St} {H:Hp} {s:Shared} {a:Addr} {y d:V} {u r:Value} {o:Option V} {A:Around} {E:Vq}
def zA{Q:Vq}(hu:A.units+1 < cLine)(I:Inv X pins σ H s)(g:DGet H a y o)(ry:RelV y u)(rd:RelV d r)(h:∀w' s',Inv X pins σ H s'->RelV (o.getD d) w'->Q w' s') :
  wpAny (model X.prog X.w) A (call (.builtin "dict.get") [.ref a,u,r]) Q E s:=by
 rcases g with⟨kvs,k,e,ey,l⟩|⟨kvs,k,b,e,ey,eb,l⟩
 ·subst ey
  obtain⟨z,hd,vs,rel,dd⟩:=lK I.hok e
  refine call_meetsIn PySem.F.slot_dict_get dd.typeIs PySem.F.entry_dict_get (PySem.F.args_dict_get_3 _ _ _) (meets_dict_get_default (bn X.prog X.w) a (nE ry) hd r) ⟨_,dd.mapOf,h _ _ (I.tok _) ?_⟩
  rw[l]
  exact(rel.val k).getD rd
 ·subst ey
  cases (show u=Value.ref b from ry)
  obtain⟨z,hd,xs,rel,dd⟩:=nF I.hok e
  refine call_meetsIn PySem.F.slot_dict_get dd.typeIs PySem.F.entry_dict_get (PySem.F.args_dict_get_3 _ _ _) (meetsH_dict_get_default (tupleKind (bn X.prog X.w)) a b hd r) ⟨tupleKind_room_in1 hu,k,xs,fi I.hok eb,dd,h _ _ (I.tok _) ?_⟩
  rw[l]
  exact(rel.val k).getD rd
end
def zB(td ty tx:TE):TE:=fun σ H Q=>td σ H fun x H1=>∃a,x = .ref a/\EA H1 a/\ty σ H1 fun y H2=>tx σ H2 fun z H3=>∃o,DGet H3 a y o/\Q (o.getD z) H3
section
variable {X:Cx} {o e f:Expr} {apos cpos:Pos} {td ty tx:TE}
def tQ(hu:X.A.units+1 < cLine)(ho:PE X o td)(he:PE X e ty)(hf:PE X f tx)(m:M2 X o "get" apos e f cpos):PE X (.Call (.Attribute o "get" apos) [e,f] [] cpos) (zB td ty tx):=by
 intro pins s σ H Q I h
 refine wpAny_Call_method m.base m.few m.line PySem.F.plainAttrs_dict PySem.F.slot_dict_get PySem.F.type_dict_get (bC (ho pins s σ H _ I h) fun u s1 ⟨x,H1,I1,rx,a,ex,d,q1⟩=>?_)
 subst ex
 obtain rfl:u=Value.ref a:=rx
 obtain⟨t1,t2,_⟩:=zz I1 d
 refine⟨t1,t2,?_⟩
 rw[m.trees]
 refine Calls.callWith_builtin rfl (Calls.evalArgs_plain (Calls.spliced_cons (bC (he pins s1 σ H1 _ I1 q1) fun iv s2 ⟨y,H2,I2,ry,q2⟩=>
  Calls.spliced_cons (bC (hf pins s2 σ H2 _ I2 q2) fun fv s3 ⟨z,H3,I3,rz,ov,g,q3⟩=>Calls.spliced_nil ?_))))
 exact zA hu I3 g ry rz fun w' s4 I4 rw'=>⟨_,H3,I4,rw',q3⟩
end
end L2
namespace Att
open PySem PySem.W PySem.Calls PyProof.Rows
def jI{P:Params}{h:Heap}:∀(ns:Vu) (vs:Vv),WellAll P h vs (ns.map WData.int)->IntsAre vs ns:=by
 intro ns
 induction ns with
 |nil=>
  intro vs w
  rw[List.map_nil]at w
  cases w
  exact .nil
 |cons n ns ih=>
  intro vs w
  rw[List.map_cons]at w
  cases w with
  |cons a b=>
   cases a
   exact .cons _ _ (ih _ b)
def rN{l:OpenLaw}{n:Nat}(hn:l.most=some n){P:Params}{h:Heap}{args:List WData}{vals:Vv}
  (hpre:l.row.toRowW.claim.pre args=true) (hwl:WellAll P h vals args) :
  ∃a vs ns,vals=[Value.ref a]/\args=[WData.list (ns.map WData.int)]/\h.get? a=some { cls:=.type "list",data:=.seq vs.toArray }/\IntsAre vs ns/\ns.length<=n:=by
 have hsh:WShape.hasAll [] args [.list .int]=true:=(pre_splitW hpre).1
 have hc:l.pre.holds [] { args:=args }=true:=(pre_splitW hpre).2
 obtain⟨d,r,rfl,h1,h2⟩:=hasAllW_cons hsh
 obtain rfl:=hasAllW_nil h2
 obtain⟨xs,rfl,h3⟩:=hasW_list h1
 obtain⟨ns,rfl⟩:=items_int h3
 have hlen:ns.length<=n:=by
  unfold OpenLaw.pre at hc
  have h4:(WTm.not (.lt (.lit (.int (n:Int))) (.len (.arg 0)))).holds [] { args:=[.list (ns.map .int)] }=true:=by
   have h4:=(holds_andW hc).1
   rw[hn]at h4
   exact h4
  have h5:=condW_of h4 (w_not (w_lt w_lit (w_len_list (w_arg rfl))))
  rw[List.length_map]at h5
  refine Nat.le_of_not_lt fun q=>?_
  have q':(n:Int) < ((ns.length:Nat):Int):=by omega
  first
   |(rw[decide_eq_true q']at h5;exact absurd h5 (by decide))
   |(simp at h5;omega)
 cases hwl with
 |cons w1 w2=>
  cases w2
  cases w1 with
  |list ho hall=>exact⟨_,_,ns,rfl,rfl,ho,jI ns _ hall,hlen⟩
def rO(l:OpenLaw)(args:List WData):l.row.toRowW.claim.post args (.bool true) args=true:=
 postW_of (r:=l.row.toRowW) (X:=(true == true))
  (show WShape.has [] (.bool true) .bool=true by first|rfl|decide|simp[WShape.has,WShape.arms,WShape.armsAll])
  (show(WTm.eq .res (.lit (.bool true))).value [] { args:=args,res:=some (.bool true),after:=args }=some (.bool (true == true))from w_eq_bool (w_res rfl) w_lit) rfl
def nH{l:OpenLaw}{n:Nat}{q:Program}{loose:Vs}{XP:(Vr)->Heap->Prop}{YP:World->Heap->Prop}{d:DefRec}
  (hn:l.most=some n) (hdf:d.params.defaults=[])
  (call:∀(w:World) (s₀ s₁:Shared) (mg mb:Vr) (fa:Addr) (o:Obj) (pm cd doc:Value) (a:Addr) (vs:Vv) (ns:Vu),
   Ground q loose [] XP w s₀ mg mb s₁.heap->YP w s₁.heap->
   s₁.heap.get? fa=some o->o.data = .func (docDef d.name d.params d.body d.scope pm cd doc)->s₁.heap.CodeRec cd d.name->mg d.name=some (.ref fa)->
   s₁.heap.get? a=some { cls:=.type "list",data:=.seq vs.toArray }->IntsAre vs ns->ns.length<=n->s₁.gens=#[]->
   codeAny (model l.prog w) callerA (.call (.ref fa) ⟨[.ref a],[]⟩) (fun r s'=>r = .ok (.ret (.bool true))/\OldK s₁.heap s'.heap/\s'.os=s₁.os/\AllBare s'.gens) s₁) :
  WalkO q loose XP YP l.row.toRowW d [] (fun f vs=>PySem.call f vs):=by
 intro w s₀ s₁ mg mb G Y fa o pm cd doc dV kV ho hd hcd hD hmg hg args vals as hpre hlay hrd hwl hlo
 obtain rfl:dV = .none:=Dflts.none hD hdf
 obtain rfl:kV = .none:=Dflts.noKw hD
 obtain⟨a,vs,ns,rfl,rfl,hobj,hints,hlen⟩:=rN hn hpre hwl
 refine enter_call (codeAny_mono (call w s₀ s₁ mg mb fa o pm cd doc a vs ns G Y ho (fd_plain hd) hcd hmg hobj hints hlen hg) fun r s' hq=>?_)
 obtain⟨rfl,h2,h3,h4⟩:=hq
 exact⟨.inl ⟨.bool true,.bool true,[],rfl,fun _=>rfl,.bool true,rO l _,fun _=>⟨List.Pairwise.nil,fun _ hm=>(nomatch hm)⟩⟩,h2,h3,h4⟩
end Att
namespace L2
open PySem PySem.Spec PyProof.Rows
theorem lL:∀{vs:Vv} {ns:Vu},IntsAre vs ns->Vals (ns.map V.int) vs
 |_,_,.nil=>.nil
 |_,_,.cons n t h=>.cons ⟨t,rfl⟩ (lL h)
def wy(H:Hp):Prop:=∀b,H b=none\/∃o xs,H b=some (.frz o (.lst xs))
def tR{P:Program}{w:World}{K:Vo}{mg mb:Vr}{CX:tE}{k:Nat}{fa a:Addr}{fd:FuncData}{x:Str}{sp:Sp}{s₁:Shared}{vs:Vv}{ns:Vu}
  (KX:K.In s₁.heap) (hns:s₁.heap.Ns mainGlobals mg) (hb:s₁.heap.Ns builtinsNs mb) (Ng:∀x:Str,x ≠ "__name__"->mb x=bootBuiltins x) (hlim:s₁.heap.NoLimit) (hg:s₁.gens=#[])
  (ha:s₁.heap.get? a=some { cls:=.type "list",data:=.seq vs.toArray }) (hi:IntsAre vs ns) (hl:ns.length<=sizeLine) (hr:Room k callerA)
  (F:∀base:Heap,K.In base->base.Ns mainGlobals mg->i4 P w K mg base CX k fa fd [x] sp) (hbind:∀(s:Shared) (u:Value),BindsTo s fd ⟨[u],[]⟩ [(x,u)])
  (JI:∀H:Hp,wy H->SqL K H a (ns.map V.int)->sp [.ref a] H (fun v _=>v = .bl true) fun _ _ _=>False)
  (LK:∀H e s',CX [] H s₁ (fun _ _ _=>False) e s'->False) :
  codeAny (model P w) callerA (.call (.ref fa) ⟨[.ref a],[]⟩) (fun r s'=>r = .ok (.ret (.bool true))/\OldK s₁.heap s'.heap/\s'.os=s₁.os/\AllBare s'.gens) s₁:=by
 have rv:=lL hi
 have LL:=hi.length
 -- from an abstract heap in which nothing but the script may be tracked
 have core:∀H:Hp,wy H->SqL K H a (ns.map V.int)->GN P w H s₁.heap->(∀b,H b≠none->b=a)->(H a≠none->K.lookup a=none)->
   codeAny (model P w) callerA (.call (.ref fa) ⟨[.ref a],[]⟩) (fun r s'=>r = .ok (.ret (.bool true))/\OldK s₁.heap s'.heap/\s'.os=s₁.os/\AllBare s'.gens) s₁:=by
  intro H hO hS hok hA hK
  have IK:∀{b:Addr} {o:Obj},s₁.heap.get? b=some o->H b=none->(l9 s₁.heap H).get? b=some o:=fun e n=>sW e n
  have KD:∀{b:Addr} {o:Obj} {es:Array DictEntry} {ep:Nat},s₁.heap.get? b=some o->o.data = .dict es ep->H b=none:=fun{b o es ep} e d=>by
   cases q:H b with
   |none=>rfl
   |some u=>
    have e':b=a:=hA b (by rw[q];simp)
    subst e'
    rw[ha]at e;cases e
    have d':Data.seq vs.toArray _=Data.dict es ep:=d
    cases d'
  have K9:∀{b:Addr} {m:Vr},s₁.heap.Ns b m->(l9 s₁.heap H).Ns b m:=fun{b m} ⟨o,es,ep,e,d,r⟩=>⟨o,es,ep,IK e (KD e d),d,r⟩
  have Mz:K.In (l9 s₁.heap H):=fun b o e=>IK (KX b o e) (by
   cases q:H b with
   |none=>rfl
   |some u=>
    have e':b=a:=hA b (by rw[q];simp)
    subst e'
    rw[hK (by rw[q];simp)]at e;cases e)
  have hM:Mod K mg (l9 s₁.heap H):=⟨Mz,K9 hns,⟨mb,K9 hb,Ng⟩,let ⟨mc,h1,h2⟩:=hlim;⟨mc,K9 h1,h2⟩⟩
  have e0:IB P w K mg (l9 s₁.heap H) callerA [] s₁ H:=⟨rfl,hM,fun b o e=>vR e,Nat.le_of_eq (rq _ _),trivial,fun b hb=>absurd (show b∈([]:List Addr)from hb) (by simp),hok,.of_eq hg⟩
  refine codeAny_mono ((F _ Mz (K9 hns)).run callerA [] s₁ H ⟨[.ref a],[]⟩ [.ref a] [.ref a] _ _ hr e0 (hbind s₁ (.ref a)) (.cons rfl .nil) (JI H hO hS)) fun r s' h=>?_
  cases r with
  |error e=>exact(LK H e s' h).elim
  |ok fl=>
   cases fl with
   |next=>exact False.elim h
   |brk=>exact False.elim h
   |cont=>exact False.elim h
   |ret u=>
    obtain⟨v,H',os,bare,un,LN,r',q⟩:=h
    have q':v = .bl true:=q
    subst q'
    obtain rfl:u=Value.bool true:=r'
    refine⟨rfl,OldK.of_keep fun b o e=>?_,os,bare⟩
    cases q:H b with
    |none=>exact un.keep b o e q (by intro z;exact absurd (show b∈([]:List Addr)from z) (by simp)) (by simp)
    |some u=>
     rcases hO b with z|⟨ob,xs,z⟩
     ·rw[q]at z;cases z
     ·have z2:=un.HM b ob _ z
      obtain⟨e1,_⟩:=hok b _ z
      obtain⟨e2,_⟩:=LN b _ z2
      rw[e]at e1;cases e1
      exact e2
 cases hk:K.lookup a with
 |some o=>
  -- the script is one of the module's own objects
  have e:=KX a o hk
  rw[ha]at e
  cases e
  refine core (fun _=>none) (fun _=>.inl rfl) (.inr ⟨_,vs.toArray,_,hk,rfl,rfl,rfl,by rw[List.size_toArray,LL];exact hl,by simpa using rv⟩) (fun b u z=>by have z':(none:Option HO)=some u:=z;cases z') (fun b z=>absurd rfl z) fun z=>absurd rfl z
 |none=>
  refine core (fun b=>if b=a then some (.frz { cls:=.type "list",data:=.seq vs.toArray } (.lst (ns.map V.int))) else none) (fun b=>?_) (.inl (.inr ⟨{ cls:=.type "list",data:=.seq vs.toArray },if_pos rfl⟩)) (fun b u z=>?_) (fun b z=>?_) fun _=>hk
  ·by_cases hb:b=a
   ·exact .inr ⟨_,_,if_pos hb⟩
   ·exact .inl (if_neg hb)
  ·by_cases hb:b=a
   ·have z':=(if_pos hb).symm.trans z
    cases z'
    subst hb
    exact⟨ha,by rw[List.length_map];exact hl,vs,_,rv,ha⟩
   ·have z':=(if_neg hb).symm.trans z
    cases z'
  ·by_cases hb:b=a
   ·exact hb
   ·exact absurd (if_neg hb) z
def wz{l:PySem.W.OpenLaw}{n k:Nat}{q:Program}{loose:Vs}{XP:(Vr)->Heap->Prop}{YP:World->Heap->Prop}{d:DefRec}{K:Params->PySem.W.Frag}{CX:World->tE}{sp:World->Sp}{x:Str}
  (hn:l.most=some n) (hn2:n<=sizeLine) (hdf:d.params.defaults=[]) (hr:Room k callerA)
  (hY:∀(w:World) (h:Heap),YP w h->(K w.params).In h)
  (F:∀(w:World) (mg:Vr) (fa:Addr) (h:Heap),(K w.params).In h->h.Ns mainGlobals mg->mg d.name=some (.ref fa)->
   ∃fd:FuncData,(∀(s:Shared) (u:Value),BindsTo s fd ⟨[u],[]⟩ [(x,u)])/\
    ∀base:Heap,(K w.params).In base->base.Ns mainGlobals mg->i4 l.prog w (K w.params) mg base (CX w) k fa fd [x] (sp w))
  (JI:∀(w:World) (H:Hp) (a:Addr) (ns:Vu),ns.length<=n->wy H->SqL (K w.params) H a (ns.map V.int)->sp w [.ref a] H (fun v _=>v = .bl true) fun _ _ _=>False)
  (LK:∀(w:World) (H:Hp) (s:Shared) (e:Value) (s':Shared),CX w [] H s (fun _ _ _=>False) e s'->False) :
  PySem.W.WalkO q loose XP YP l.row.toRowW d [] (fun f vs=>PySem.call f vs):=by
 refine Att.nH hn hdf fun w s₀ s₁ mg mb fa o pm cd doc a vs ns G Y ho hd hcd hmg hobj hints hlen hg=>?_
 have KX:=hY w _ Y
 obtain⟨fd,hb,hF⟩:=F w mg fa _ KX G.T.g hmg
 exact tR KX G.T.g G.T.b G.T.builtins G.T.nolimit hg hobj hints (Nat.le_trans hlen hn2) hr hF hb (fun H hO hS=>JI w H a ns hlen hO hS) fun H e s'=>LK w H s₁ e s'
noncomputable def dL(s:Stmt):Arguments:=match s with
 | .FunctionDef _ a _ _ _ _ _ _ _ _=>a
 |_=>{ posonlyargs:=[],args:=[],vararg:=none,kwonlyargs:=[],kw_defaults:=[],kwarg:=none,defaults:=[] }
noncomputable def bV(s:Stmt):List Stmt:=match s with
 | .FunctionDef _ _ b _ _ _ _ _ _ _=>b
 |_=>[]
noncomputable def aN(s:Stmt):Scope:=match s with
 | .FunctionDef _ _ _ _ _ _ sc _ _ _=>sc
 |_=>{ kind:=.function,names:=[],isGenerator:=false,isCoroutine:=false }
noncomputable abbrev xZ:tE:=fun _ _ _ _ _ _=>False
noncomputable abbrev E0:XK:=fun _ _ _=>False
def qC{X:Cx}:ie xZ X E0:=fun _ _ _ _ _ _ _ h=>h.elim
structure Jt (K:Vo) (x qual:Str) (st:Stmt) (f:Addr) (fd:FuncData):Prop where
 ex:∃(oc:Value) (od:Option Addr) (kV doc pm:Value) (an:Option Addr) (cdv ct:Value) (osl:Array (Option Value)),
  fd=PySem.W.fnOf x qual (dL st) (bV st) (aN st) .none kV doc pm an cdv ct/\K.lookup f=some ⟨oc,od,.func fd,osl⟩/\PySem.W.codeIn K cdv qual=true
 kp:PySem.W.keepIn K (.ref f)=true
section
variable {P:Program} {w:World} {K:Vo} {mg:Vr} {base:Heap}
def Jt.ok{x qual:Str}{st:Stmt}{f:Addr}{fd:FuncData}{N ps:Vs}{k:Nat}{sp:Sp}(F:Jt K x qual st f fd)(S:ff N ps (aN st))(len:∀vs H Q E,sp vs H Q E->vs.length=ps.length)
  (hbody:∀(cdv:Value) (A:Around) (outer:List Env) (s:Shared) (H:Hp) (vs:List V) (Q:VK) (E:XK),Room k (A.deeper (envOfC qual (aN st) s.heap.objs.size f cdv))->sp vs H Q E->
   ∃t,Iy (oY xZ P w K mg base N qual (aN st) f cdv A outer s H E).KA (bV st) t/\t { nx:=fun _ H'=>Q .non H',rt:=Q } (fY N vs) H):i4 P w K mg base xZ (k+1) f fd ps sp:=by
 obtain⟨oc,od,kV,doc,pm,an,cdv,ct,osl,rfl,lk,hcd⟩:=F.ex
 refine Bq lk hcd S len fun A outer s H vs Q E hr JI=>?_
 obtain⟨t,h,q⟩:=hbody cdv A outer s H vs Q E hr JI
 exact⟨t,h.KA,q⟩
def Jt.binds{x qual:Str}{st:Stmt}{f:Addr}{fd:FuncData}{ps:Vs}(F:Jt K x qual st f fd)
  (h:∀(kV doc pm:Value) (an:Option Addr) (cdv ct:Value) (us:Vv),us.length=ps.length->bindArgs (PySem.W.fnOf x qual (dL st) (bV st) (aN st) .none kV doc pm an cdv ct) ⟨us,[]⟩=pure (ps.zip us)):Binds K fd ps []:=by
 obtain⟨oc,od,kV,doc,pm,an,cdv,ct,osl,rfl,lk,hcd⟩:=F.ex
 exact .all (h kV doc pm an cdv ct)
def mv{x qual:Str}{st:Stmt}{f:Addr}{oc:Value}{od an:Option Addr}{osl:Array (Option Value)}{kV doc pm cdv ct:Value}(l:K.lookup f=some ⟨oc,od,.func (PySem.W.fnOf x qual (dL st) (bV st) (aN st) .none kV doc pm an cdv ct),osl⟩)
  (c:PySem.W.codeIn K cdv qual=true) (k:PySem.W.keepIn K (.ref f)=true):Jt K x qual st f (PySem.W.fnOf x qual (dL st) (bV st) (aN st) .none kV doc pm an cdv ct):=⟨⟨oc,od,kV,doc,pm,an,cdv,ct,osl,rfl,l,c⟩,k⟩
end
def gS{n:Nat}(h:n<=1000):n < sizeLine:=Nat.lt_of_le_of_lt h (by decide)
section
variable {X:Cx}
def rP:eN X (.builtin "len") (fun xs H Q=>∃a kvs,xs=[V.ref a]/\H a=some (.dK kvs)/\Q (.int kvs.length) H):=by
 intro pins s σ H xs us Q I r h
 obtain⟨a,kvs,rfl,ha,q⟩:=h
 obtain⟨u,rfl,ru⟩:=fX r
 cases ru
 exact Bz I (.inl ha) fun t s' I'=>⟨.int kvs.length,H,I',⟨t,rfl⟩,q⟩
end
end L2
set_option maxHeartbeats 4000000
namespace L2
open PySem PySem.Spec PyProof.Rows
def mx{prog:Program}{w:World}{A:Around}{R:Result->Shared->Prop}{s:Shared}{elt target iter:Expr}{ifs:List Expr}{scope:Scope}{pos:Pos}{it acc:Value}{env:Env}(I:Nat->Shared->Prop)
  (turn:∀n s,I n s->wpAny (model prog w) A (pyNext it) (fun r s₁=>match r with
   |none=>R (.ok .next) s₁
   |some v=>wpAny (model prog w) A (letOwnedTupleGo target it v) (fun _ s₁'=>wpAny (model prog w) A (assign target env v) (fun _ s₂=>
     wpAny (model prog w) A (forIn ifs true fun c r=>if r=true then do let ok <-isTrue c env (eval c env);pure (ForInStep.yield ok) else pure (ForInStep.yield r)) (fun ok s₃=>
      if ok=true then wpAny (model prog w) A (eval elt env) (fun x s₄=>
       wpAny (model prog w) A (call (.builtin "list.append") [acc,x]) (fun _ s₅=>∃m,m < n/\I m s₅) (fun _ _=>False) s₄) (fun _ _=>False) s₃
      else ∃m,m < n/\I m s₃) (fun _ _=>False) s₂) (fun _ _=>False) s₁') (fun _ _=>False) s₁) (fun _ _=>False) s)
  (n:Nat) (h:I n s) :
  codeAny (model prog w) A (.compLoop (.ListComp elt [⟨target,iter,ifs,0⟩] scope pos) 0 it acc env) R s:=by
 refine codeAny_loop rfl I (fun n s hI=>?_) n h
 show wpAny _ A ((compTurn (.ListComp elt [⟨target,iter,ifs,0⟩] scope pos) 0 it acc env).onRaise (fun x=>do noteFrame x env;theTreesLotGoes x)) _ _ s
 refine wpAny_noted ?_
 rw[compTurn_list]
 refine wpAny_bind (wpAny_standAt (wpAny_bind (wpAny_mono (turn n s hI) (fun r s₁ h₁=>?_) fun _ _ h'=>h'.elim)))
 cases r with
 |none=>exact wpAny_pure h₁
 |some v=>
  refine wpAny_bind (wpAny_mono h₁ (fun _ s₁' h₁'=>?_) fun _ _ h'=>h'.elim)
  refine wpAny_bind (wpAny_mono h₁' (fun _ s₂ h₂=>wpAny_bind (wpAny_mono h₂ (fun ok s₃ h₃=>?_) fun _ _ h'=>h'.elim)) fun _ _ h'=>h'.elim)
  cases ok with
  |false=>exact wpAny_pure ⟨rfl,h₃⟩
  |true=>
   exact wpAny_bind (wpAny_bind (wpAny_mono h₃ (fun x s₄ h₄=>wpAny_bind (wpAny_mono h₄ (fun _ s₅ h₅=>wpAny_pure (wpAny_pure ⟨rfl,h₅⟩)) fun _ _ h'=>h'.elim)) fun _ _ h'=>h'.elim))
structure Bk where
 C:Addr
 s:Shared
 H:Hp
 fp:List Addr
 pn:Va
noncomputable def de(env:Env)(fs:Vs):List (Str×Addr):=fs.map fun x=>(x,(env.cells.lookup x).getD 0)
noncomputable abbrev Cx.GJ(X:Cx)(N:Vs)(scope:Scope)(fs:Vs)(B:Bk):Cx:=
 { X with N:=N,s₀:=B.s,H₀:=B.H,env:=compEnvC scope (de X.env fs) B.C X.env,outer:=X.stack,ex:=B.fp,fn:=fun _=>false,pn:=B.pn,xe:=fun _ _=>False }
noncomputable def cL(env:Env):List Str->Prop
 |[]=>True
 |x::r=>(∃c,env.cells.lookup x=some c)/\cL env r
theorem jz{env:Env}:∀{fs:Vs},cL env fs->∀{x:Str} {c:Addr},(de env fs).lookup x=some c->env.cells.lookup x=some c
 |[],_,x,c,h=>by cases h
 |y::r,k,x,c,h=>by
  obtain⟨⟨d,hd⟩,k⟩:=k
  have h':List.lookup x ((y,(env.cells.lookup y).getD 0)::de env r)=some c:=h
  rw[List.lookup_cons]at h'
  cases e:x == y with
  |true=>
   rw[e]at h'
   have e':x=y:=by simpa using e
   subst e'
   rw[hd]at h'
   rw[hd]
   exact h'
  |false=>
   rw[e]at h'
   exact jz k h'
noncomputable def my(names:List (Str×NameKind))(cl:List (Str×Addr)):Bool:=names.all fun y=>(y.2 != .cell&&y.2 != .free) || (cl.lookup y.1).isSome
def tS{names:List (Str×NameKind)}{cl:List (Str×Addr)}{x:Str}{k:NameKind}(h:my names cl=true)(e:names.lookup x=some k)(hk:k = .cell\/k = .free):∃c,cl.lookup x=some c:=by
 have hm:(x,k)∈names:=PySem.mem_of_lookup e
 have q:=List.all_eq_true.mp h _ hm
 have z:(cl.lookup x).isSome=true:=by
  rcases hk with rfl|rfl
  ·simpa using q
  ·simpa using q
 exact Option.isSome_iff_exists.mp z
noncomputable def F0(env:Env)(scope:Scope)(cl:List (Str×Addr)):List Str->Prop
 |[]=>True
 |x::r=>((env.scope.names.lookup x=some .cell\/env.scope.names.lookup x=some .free)/\((relabel scope env).names.lookup x=some .cell\/(relabel scope env).names.lookup x=some .free)/\cl.lookup x=env.cells.lookup x)/\F0 env scope cl r
theorem F0.mem{env:Env}{scope:Scope}{cl:List (Str×Addr)}:∀{l:Vs},F0 env scope cl l->∀x∈l,
  (env.scope.names.lookup x=some .cell\/env.scope.names.lookup x=some .free)/\((relabel scope env).names.lookup x=some .cell\/(relabel scope env).names.lookup x=some .free)/\cl.lookup x=env.cells.lookup x
 |[],_,x,h=>nomatch h
 |y::r,k,x,h=>by
  rcases List.mem_cons.mp h with rfl|h
  ·exact k.1
  ·exact F0.mem k.2 x h
noncomputable def eP(own:Nat)(fr:List Nat)(σ:St):St:=List.replicate own none++fr.map fun j=>(σ[j]?).getD none
noncomputable abbrev i6(us:Vv):Obj:={ cls:=.type "list",data:=.seq us.toArray us.length }
def rQ(us:Vv)(u:Value):({ cls:=.type "list",data:=.seq (us.toArray.push u) (us.length+1) }:Obj)=i6 (us++[u]):=by
 show({ cls:=.type "list",data:=.seq (us.toArray.push u) (us.length+1) }:Obj)={ cls:=.type "list",data:=.seq (us++[u]).toArray (us++[u]).length }
 rw[List.length_append,List.length_singleton,List.push_toArray]
section
variable {X:Cx} {pins:Va} {σ:St} {H:Hp} {s:Shared}
def Inv.KE{D:Addr}{us:Vv}{n:Nat}{ys:List V}(I:Inv X pins σ H s)(f:fT X pins H D)(e:s.heap.get? D=some { cls:=.type "list",data:=.seq us.toArray n })(r:Vals ys us)(hz:ys.length<=sizeLine) :
  Inv X pins σ (upd H D (.lst ys)) s:=by
 obtain⟨f0,f1,f2,f3,f4,f5⟩:=f
 have nD:∀b u,H b=some u->b≠D:=fun b u q=>bf q f0
 have hok:GN X.prog X.w (upd H D (.lst ys)) s.heap:=fun b u q=>by
  by_cases hb:b=D
  ·subst hb
   rw[aB]at q
   cases q
   exact⟨hz,us,n,r,e⟩
  ·rw[aC hb]at q
   exact(I.hok b u q).stay (fun _ _ _ z=>z) (fun c z=>by rw[aC (nD c _ z)];exact z) fun c xs z=>by rw[aC (nD c _ z)];exact z
 exact I.step (H':=upd H D (.lst ys)) (h':=s.heap) (g':=s.gens) (t':=s.toks) (d':=s.drawn) (ch:=[D])
  (fun b hb=>by
   have z:b=D:=by simpa using hb
   subst z
   exact⟨f3,f1,f4,f5⟩)
  (fun _ _ _ _ _ q _=>q) (fun _ o _ _ _ q _=>⟨o.slots,q⟩)
  (fun b o hb _ n=>by rw[aC (fun z=>hb (by simp[z]))];exact n)
  (fun _ o _ q=>⟨o,q⟩) (fun b xs q=>by rw[aC (nD b _ q)];exact q) (fun b o u q=>by rw[aC (nD b _ q)];exact q)
  (fun b ps q=>⟨#[],by rw[aC (nD b _ q),q];simp⟩) (fun _ q=>q) hok I.bare
def zC{N:Vs}{scope:Scope}{fs:Vs}{C:Addr}{fp:List Addr}(I:Inv X pins σ H s)(hkind:scope.kind = .function)(hC:s.heap.objs.size<=C)(hcl:cL X.env fs)
  (hhas:my (relabel scope X.env).names (de X.env fs)=true) (hf:∀b∈fp,fT X pins H b) (hlt:∀b∈fp,b < s.heap.objs.size):(X.GJ N scope fs ⟨C,s,H,fp,X.pn++pins⟩).Ok where
 mod:=I.ok.mod
 kind:=hkind
 glob:=I.ok.glob
 blt:=I.ok.blt
 above:=hC
 inj:=fun x y c h1 h2=>I.ok.inj x y c (jz hcl h1) (jz hcl h2)
 has:=fun x hx=>by
  rcases hx with e|e
  ·exact tS hhas e (.inl rfl)
  ·exact tS hhas e (.inr rfl)
 Kn:=fun x c h=>by cases h
 hd:=I.ok.hd
 frames:=I.ok.frames
 stk:=.inl rfl
 Lx:=fun b hb=>⟨Nat.ne_of_lt (Nat.lt_of_lt_of_le (hlt b hb) hC),fun x c e=>(hf b hb).2.2.2.2.1 x c (jz hcl e)⟩
 bs:=I.bs
 Jm:=Nat.le_trans I.ok.Jm I.sz
 IN:=fun b o e hb=>(hf b hb).2.2.2.1.elim (fun z=>I.ok.IN b o e z) fun z=>absurd (Nat.lt_of_lt_of_le (Heap.lt_size e) (Nat.le_trans I.ok.Jm z)) (Nat.lt_irrefl _)
 Ja:=fun b hb z=>(List.mem_cons.mp (I.G6 b z)).elim (hf b hb).2.1 (hf b hb).2.2.1
 G5:=I.stack
 JG:=I.II
def wA{N:Vs}{scope:Scope}{fs:Vs}{C D:Addr}{fp:List Addr}{own:Nat}{fr:List Nat}{h₁:Heap}{m0:Vr}{t':Nat}(I:Inv X pins σ H s)
  (ok:(X.GJ N scope fs ⟨C,s,H,fp,X.pn++pins⟩).Ok) (hC:s.heap.objs.size<=C) (hD:s.heap.objs.size<=D) (hDC:D≠C) (hcl:cL X.env fs)
  (old:∀b o,s.heap.get? b=some o->h₁.get? b=some o) (hns:h₁.Ns C m0) (hacc:h₁.get? D=some (i6 [])) (hlen:N.length=own+fr.length) (hN:(N.drop own).map some=fr.map fun j=>X.N[j]?)
  (hF:F0 X.env scope (de X.env fs) (N.drop own)) :
  Inv (X.GJ N scope fs ⟨C,s,H,fp,X.pn++pins⟩) [(D,i6 [])] (eP own fr σ) H { s with heap:=h₁,toks:=t' }:=by
 refine⟨ok,rfl,I.bare,Un.kept old,⟨m0,hns,fun i x v e1 e2 e3=>?_⟩,fun x c e=>?_,I.hok.fresh hC,fun x c e=>I.Gy x c (jz hcl e),fun p hp=>?_,I.hok.kept old,?_⟩
 ·have e1:N[i]?=some x:=e1
  by_cases hi:i < own
  ·unfold eP at e2
   rw[List.getElem?_append_left (by rw[List.length_replicate];exact hi),List.getElem?_replicate,if_pos hi]at e2
   cases e2
  ·obtain⟨k,rfl⟩:∃k,i=own+k:=⟨i - own,by omega⟩
   have e1':(N.drop own)[k]?=some x:=by rw[List.getElem?_drop];exact e1
   have q:=congrArg (fun l=>l[k]?) hN
   simp only[List.getElem?_map,e1',Option.map_some]at q
   unfold eP at e2
   rw[List.getElem?_append_right (by rw[List.length_replicate];omega),List.length_replicate,Nat.add_sub_cancel_left,List.getElem?_map]at e2
   cases hj:fr[k]? with
   |none=>rw[hj]at e2;cases e2
   |some j=>
    rw[hj]at e2 q
    simp only[Option.map_some,Option.some.injEq]at e2 q
    have hσ:σ[j]?=some (some v):=by
     cases z:σ[j]? with
     |none=>rw[z]at e2;cases e2
     |some w=>rw[z]at e2;simp only[Option.getD_some]at e2;rw[e2]
    obtain⟨k1,k2,k3⟩:=hF.mem x (List.mem_of_getElem? e1')
    obtain⟨m,hn,hl⟩:=I.loc
    have vis:CS X.env.scope x:=by
     rcases k1 with z|z
     ·exact .inr (.inl z)
     ·exact .inr (.inr z)
    obtain⟨u,ru,l⟩:=hl j x v q.symm hσ vis
    rcases l with⟨hk,_⟩|⟨_,c,hc,o,ho,hd⟩
    ·have hk':X.env.scope.names.lookup x=some .local:=hk
     rcases k1 with z|z
     ·rw[z]at hk';cases hk'
     ·rw[z]at hk';cases hk'
    ·exact⟨u,ru,.inr ⟨k2,c,k3.trans hc,o,old _ _ ho,hd⟩⟩
 ·obtain⟨v,o,ho,hd⟩:=I.cell x c (jz hcl e)
  exact⟨v,o,old _ _ ho,hd⟩
 ·rcases List.mem_append.mp hp with z|z
  ·obtain⟨e,n,ne,nf,d⟩:=I.pin p z
   exact⟨old _ _ e,n,Nat.ne_of_lt (Nat.lt_of_lt_of_le (Heap.lt_size e) hC),fun q=>(List.mem_cons.mp (I.G6 _ q)).elim ne nf,d⟩
  ·have z':p=(D,i6 []):=by simpa using z
   subst z'
   exact⟨hacc,I.hok.fresh hD,hDC,fun q=>(List.mem_cons.mp (I.G6 _ q)).elim (fun e=>absurd e (Nat.ne_of_gt (Nat.lt_of_lt_of_le I.lt hD))) (I.Kw hD),fun v z=>by cases z⟩
 ·show(eP own fr σ).length=N.length
  unfold eP
  rw[List.length_append,List.length_replicate,List.length_map,hlen]
end
def PF(X:Cx)(ifs:List Expr)(t:TT):Prop:=
 ∀(pins:Va) (s:Shared) (σ:St) (H:Hp) (Q:Bool->Hp->Prop),Inv X pins σ H s->t σ H Q->
  wpAny (model X.prog X.w) X.A (forIn ifs true fun c r=>if r=true then do let ok <-isTrue c X.env (eval c X.env);pure (ForInStep.yield ok) else pure (ForInStep.yield r)) (TP X pins σ Q) X.xe s
def DM:TT:=fun _ H Q=>Q true H
def zD{X:Cx}:PF X [] DM:=fun _ _ _ H _ I h=>wpAny_tests_nil ⟨H,I,h⟩
def zE{X:Cx}{c:Expr}{t:TT}(h:PT X c t):PF X [c] t:=fun pins s σ H Q I q=>wpAny_tests_one (h pins s σ H Q I q)
def x8(J:It)(g:TG)(tc:TT)(te:TE)(own:Nat)(σ':St)(fin:List V->Hp->Prop)(H1:Hp):Prop:=
 ∃W:Nat->Nat->List V->Hp->Prop,(∃m,W 0 m [] H1)/\∀i m ys H,W i m ys H->
  (J.stop i H/\ys.length<=sizeLine/\fin ys H) \/
  (J.go i H/\ys.length<=sizeLine/\∃Nx:List V->Hp->Prop,(∀ys' H',Nx ys' H'->∃m',m' < m/\W (i+1) m' ys' H')/\∀x H',J.K8 i H x H'->g x σ' H' fun σ2 H2=>σ2.drop own=σ'.drop own/\tc σ2 H2 fun b H3=>
   if b=true then te σ2 H3 fun y H4=>Nx (ys++[y]) H4 else Nx ys H3)
section
variable {X:Cx} {pins:Va} {σ:St} {H:Hp} {s:Shared}
variable {elt iter tg:Expr} {ifs:List Expr} {scope:Scope} {pos:Pos} {N:Vs} {own:Nat} {fr:List Nat} {fs:Vs} {g:TG} {tc:TT} {te:TE}
def j_{J:It}{fp:List Addr}{it:Addr}{tn:Nat->Heap->Prop}{fin:List V->Hp->Prop}{E:Vq}{RR:Value->Addr->Result->Shared->Prop}
  (hc:X.calm=true) (hcell:∀y∈scope.names,y.2 ≠ .cell) (hkind:scope.kind = .function) (hcl:cL X.env fs) (hhas:my (relabel scope X.env).names (de X.env fs)=true)
  (hlen:N.length=own+fr.length) (hN:(N.drop own).map some=fr.map fun j=>X.N[j]?) (hF:F0 X.env scope (de X.env fs) (N.drop own))
  (hg:∀B,PG (X.GJ N scope fs B) tg g) (hf:∀B,PF (X.GJ N scope fs B) ifs tc) (he:∀B,PE (X.GJ N scope fs B) elt te)
  (I:Inv X pins σ H s) (T:ma X.prog X.w X.K tg J fp it tn) (st:tn 0 s.heap) (f:∀b∈fp,fT X pins H b) (W:x8 J g tc te own (eP own fr σ) fin H)
  (hRR:∀D C s' ys H' m',Inv X pins σ (upd H' D (.lst ys)) s'->H' D=none->s'.heap.Ns C m'->fT X pins (upd H' D (.lst ys)) C->fin ys H'->RR (.ref D) C (.ok .next) s') :
  wpAny (model X.prog X.w) X.A (newList []) (fun acc s₃=>wpAny (model X.prog X.w) X.A (newFunctionEnv scope X.env.globals (de X.env fs) [] X.env.qual none .none (some X.env)) (fun cenv s₄=>
   codeAny (model X.prog X.w) X.A (.compStart (.ListComp elt [⟨tg,iter,ifs,0⟩] scope pos) 0 (.ref it) acc { cenv with scope:=relabel scope X.env }) (RR acc cenv.locals) s₄) E s₃) E s:=by
 refine wpAny_newObj_type (wpAny_newFunctionEnv hcell (by intro y hy;simp at hy) (fun h₁ JX Ju=>?_) hkind)
 dsimp only at JX Ju ⊢
 generalize LP:s.heap.push { cls:=.type "list",dict:=none,data:=.seq ([]:Vv).toArray }=H2 at JX Ju ⊢
 have hC:H2.objs.size=s.heap.objs.size+1:=by rw[<-LP,Heap.size_push]
 have JY:s.heap.objs.size<=H2.objs.size:=by rw[hC];exact Nat.le_succ _
 have hDC:s.heap.objs.size≠H2.objs.size:=by rw[hC];exact Nat.ne_of_lt (Nat.lt_succ_self _)
 have below:∀b,b < s.heap.objs.size->b≠H2.objs.size/\b≠s.heap.objs.size:=fun b hb=>⟨by rw[hC];exact Nat.ne_of_lt (Nat.lt_succ_of_lt hb),Nat.ne_of_lt hb⟩
 have old:∀b o,s.heap.get? b=some o->h₁.get? b=some o:=fun b o e=>Ju.extBut b o (below b (Heap.lt_size e)).1 (Heap.get?_push_of_some _ (LP▸Heap.get?_push_of_some _ e))
 have hacc:h₁.get? s.heap.objs.size=some (i6 []):=Ju.extBut _ _ hDC (Heap.get?_push_of_some _ (LP▸Heap.get?_push_size _ rfl))
 have hlt:∀b∈fp,b < s.heap.objs.size:=fun b hb=>by
  obtain⟨o,e,_⟩:=T.obj 0 _ st b hb
  exact Heap.lt_size e
 obtain⟨Wv,⟨m0,w0⟩,turn⟩:=W
 have ok:=zC (N:=N) I hkind JY hcl hhas f hlt
 have loop:∀s₃:Shared,s₃={ s with heap:=h₁,toks:=s.toks+([]:List (Str×Value)).length }->
   codeAny (model X.prog X.w) X.A (.compLoop (.ListComp elt [⟨tg,iter,ifs,0⟩] scope pos) 0 (.ref it) (.ref s.heap.objs.size) (compEnvC scope (de X.env fs) H2.objs.size X.env))
    (RR (.ref s.heap.objs.size) H2.objs.size) s₃:=by
  rintro s₃ rfl
  have I0:=wA (own:=own) (fr:=fr) (t':=s.toks+([]:List (Str×Value)).length) I ok JY (Nat.le_refl _) hDC hcl old JX hacc hlen hN hF
  have Nh:tn 0 h₁:=T.keep 0 _ _ st fun b _ o e=>old b o e
  have stat:∀{us:Vv} {H':Hp},(∀b∈fp,H' b=none)->∀b∈fp,fT (X.GJ N scope fs ⟨H2.objs.size,s,H,fp,X.pn++pins⟩) [(s.heap.objs.size,i6 us)] H' b:=fun{us H'} hn b hb=>by
   obtain⟨f0,f1,f2,f3,f4,f5⟩:=f b hb
   refine⟨hn b hb,(below b (hlt b hb)).1,fun z=>(List.mem_cons.mp (I.G6 b z)).elim f1 f2,.inl hb,fun x c e=>f4 x c (jz hcl e),fun p hp=>?_⟩
   rcases List.mem_append.mp hp with z|z
   ·exact f5 p z
   ·have z':p=(s.heap.objs.size,i6 us):=by simpa using z
    subst z'
    exact Ne.symm (below b (hlt b hb)).2
  have LQ:∀p∈X.pn++pins,p.1 < s.heap.objs.size:=fun p hp=>Heap.lt_size (I.pin p hp).1
  refine mx (fun k s'=>∃i ys us H',Inv (X.GJ N scope fs ⟨H2.objs.size,s,H,fp,X.pn++pins⟩) [(s.heap.objs.size,i6 us)] (eP own fr σ) H' s'/\Vals ys us/\tn i s'.heap/\(∀b∈fp,H' b=none)/\Wv i k ys H') ?_ m0
   ⟨0,[],[],H,I0,.nil,Nh,fun b hb=>(f b hb).1,w0⟩
  rintro n s' ⟨i,ys,us,H',I',rv,st',MA,w'⟩
  rcases turn i n ys H' w' with⟨stop,hz,LU⟩|⟨go,hz,Nx,MB,step⟩
  ·refine bC (T.done (X.GJ N scope fs ⟨H2.objs.size,s,H,fp,X.pn++pins⟩) rfl rfl rfl hc i _ s' _ H' (fun _ _=>False) I' (stat MA) st' stop) (fun r s1 ⟨hr,I1⟩=>?_)
   subst hr
   show RR _ _ (.ok .next) s1
   have IX:Inv X pins σ H' s1:=I.Kz I1.os I1.base I1.hok I1.bare fun b hb=>by
    obtain⟨f0,f1,f2,f3,f4,f5⟩:=f b hb
    exact⟨f3,f1,f4,f5⟩
   obtain⟨eD,nD,_⟩:=I1.pin (s.heap.objs.size,i6 us) (by simp)
   have IT:=IX.KE (I.Hf (H':=H') (Nat.le_refl _) nD) eD rv hz
   obtain⟨m',hn',_⟩:=I1.loc
   exact hRR _ _ s1 ys H' m' IT nD hn' (I.Hf JY (by rw[aC (Ne.symm hDC)];exact I1.free)) LU
  ·refine bC (T.item (X.GJ N scope fs ⟨H2.objs.size,s,H,fp,X.pn++pins⟩) rfl rfl rfl hc i _ s' _ H' (fun _ _=>False) I' (stat MA) st' go) (fun r s1 ⟨u,hr,h1⟩=>?_)
   subst hr
   show wpAny _ _ (letOwnedTupleGo tg (.ref it) u) _ _ s1
   refine bC h1 (fun _ s5 ⟨x,H5,I5,r5,y5,Jr,LD⟩=>?_)
   have LF:=I5.pinned (stat LD) (T.obj _ _ Jr)
   refine bC (hg _ _ s5 _ H5 x u _ LF r5 (step x H5 y5)) (fun _ s6 ⟨σ6,H6,I6,Ni,q6⟩=>?_)
   refine bC (hf _ _ s6 σ6 H6 _ I6 q6) (fun b s7 ⟨H7,I7,q7⟩=>?_)
   -- JZ the turn's own names
   have forget:∀{H8:Hp} {s8:Shared} {pl:Va},Inv (X.GJ N scope fs ⟨H2.objs.size,s,H,fp,X.pn++pins⟩) pl σ6 H8 s8->Inv (X.GJ N scope fs ⟨H2.objs.size,s,H,fp,X.pn++pins⟩) pl (eP own fr σ) H8 s8:=fun{H8 s8 pl} I8=>by
    refine I8.weak (I0.len.trans I8.len.symm) fun j v e=>?_
    by_cases hj:j < own
    ·unfold eP at e
     rw[List.getElem?_append_left (by rw[List.length_replicate];exact hj),List.getElem?_replicate,if_pos hj]at e
     cases e
    ·obtain⟨k,rfl⟩:∃k,j=own+k:=⟨j - own,by omega⟩
     rw[<-List.getElem?_drop]at e ⊢
     rw[Ni]
     exact e
   have K_:∀{H8:Hp} {s8:Shared},Inv (X.GJ N scope fs ⟨H2.objs.size,s,H,fp,X.pn++pins⟩) ([(s.heap.objs.size,i6 us)]++j2 fp s5.heap) σ6 H8 s8->∀b∈fp,∀o,s5.heap.get? b=some o->s8.heap.get? b=some o/\H8 b=none:=fun I8 b hb o e=>
    let z:=I8.pin (b,o) (List.mem_append_right _ (List.mem_append_right _ (ic hb e)))
    ⟨z.1,z.2.1⟩
   cases b with
   |false=>
    show ∃m,m < n/\_
    obtain⟨m',hm,w7⟩:=MB _ _ (show Nx ys H7 from q7)
    refine⟨m',hm,i+1,ys,us,H7,(forget I7).GW,rv,T.keep _ _ _ Jr fun b hb o e=>(K_ I7 b hb o e).1,fun b hb=>?_,w7⟩
    obtain⟨o,e,_⟩:=T.obj _ _ Jr b hb
    exact(K_ I7 b hb o e).2
   |true=>
    show wpAny _ _ (eval elt _) _ _ s7
    have Nj:te σ6 H7 fun y H4=>Nx (ys++[y]) H4:=q7
    refine bC (he _ _ s7 σ6 H7 _ I7 Nj) (fun v s8 ⟨y,H8,I8,r8,n8⟩=>?_)
    obtain⟨m',hm,w8⟩:=MB _ _ n8
    obtain⟨eD,nD,MC,Nk,_⟩:=I8.pin (s.heap.objs.size,i6 us) (List.mem_append_right _ (List.mem_append_left _ (by simp)))
    refine append_at (hsz:=by show us.toArray.size<=sizeLine;rw[List.size_toArray,<-rv.length];exact hz) eD fun h9 MD Nl=>?_
    have J0:Inv (X.GJ N scope fs ⟨H2.objs.size,s,H,fp,X.pn++pins⟩) [] σ6 H8 s8:=I8.Hj fun p hp=>nomatch hp
    have J1:Inv (X.GJ N scope fs ⟨H2.objs.size,s,H,fp,X.pn++pins⟩) [] σ6 H8 { s8 with heap:=h9 }:=J0.turned (t':=s8.toks) (it:=s.heap.objs.size) (fun b o hb e=>(MD.2 b hb).trans e) nD MC (.inr (Nat.le_refl _))
     (fun x c e z=>by
      obtain⟨v',q⟩:=I.cell x c (jz hcl e)
      exact absurd (Nat.lt_of_lt_of_le q.lt (by rw[z];exact Nat.le_refl _)) (Nat.lt_irrefl _))
     (fun p hp=>by
      rw[List.append_nil]at hp
      exact Nat.ne_of_lt (LQ p hp))
    have J2:Inv (X.GJ N scope fs ⟨H2.objs.size,s,H,fp,X.pn++pins⟩) [(s.heap.objs.size,i6 (us++[v]))] σ6 H8 { s8 with heap:=h9 }:=J1.Hj fun p hp=>by
     have z':p=(s.heap.objs.size,i6 (us++[v])):=by simpa using hp
     subst z'
     exact⟨Nl.trans (congrArg some (rQ us v)),nD,MC,Nk,fun v z=>by cases z⟩
    refine⟨m',hm,i+1,ys++[y],us++[v],H8,forget J2,Vals.append rv (.cons r8 .nil),T.keep _ _ _ Jr fun b hb o e=>(MD.2 b (below b (hlt b hb)).2).trans (K_ I8 b hb o e).1,fun b hb=>?_,w8⟩
    obtain⟨o,e,_⟩:=T.obj _ _ Jr b hb
    exact(K_ I8 b hb o e).2
 exact codeAny_compStart_list (loop _ rfl) (T.self _ 0 _ _ _ (T.keep 0 _ _ st fun b _ o e=>old b o e) (loop _ rfl))
def tT(wi:TI)(g:TG)(tc:TT)(te:TE)(own:Nat)(fr:List Nat):TE:=fun σ H Q=>wi σ H fun J H1=>
 x8 J g tc te own (eP own fr σ) (fun ys H2=>∀D,H2 D=none->Q (.ref D) (upd H2 D (.lst ys))) H1
def wB(fs:Vs)(own:Nat)(fr:List Nat)(N:Vs){wi:TI}(hc:X.calm=true)(hclos:closureFor scope X.env=pure (de X.env fs))(hcell:∀y∈scope.names,y.2 ≠ .cell)(hkind:scope.kind = .function)
  (hnames:∀x∈scope.names,x.2 = .local->scope.names.lookup x.1=some .local) (hcl:cL X.env fs) (hhas:my (relabel scope X.env).names (de X.env fs)=true)
  (hlen:N.length=own+fr.length) (hN:(N.drop own).map some=fr.map fun j=>X.N[j]?) (hF:F0 X.env scope (de X.env fs) (N.drop own))
  (hi:PI X tg iter wi) (hg:∀B,PG (X.GJ N scope fs B) tg g) (hf:∀B,PF (X.GJ N scope fs B) ifs tc) (he:∀B,PE (X.GJ N scope fs B) elt te)
  (hs:∀x,foldedSetIterable iter X.env x=pure x:=by intro _;rfl):PE X (.ListComp elt [⟨tg,iter,ifs,0⟩] scope pos) (tT wi g tc te own fr):=by
 intro pins s σ H Q I h
 rw[eval_ListComp]
 refine wpAny_comprehension_free (use:=none) (g:=⟨tg,iter,ifs,0⟩) (gs:=[]) rfl hs hclos hkind hnames (bC (hi pins s σ H _ I h) fun v s1 h1=>bC h1 fun itv s2 h2=>?_)
 obtain⟨it,fp,tn,J,H2,e,I2,T,st2,f2,W⟩:=h2
 subst e
 refine j_ (RR:=fun acc C=>compPost (model X.prog X.w) X.A X.xe none (EP X pins σ Q) acc C) hc hcell hkind hcl hhas hlen hN hF hg hf he I2 T st2 f2 W ?_
 intro D C s' ys H' m' I' nD hn fC fin
 exact⟨m',hn,fun h' hs'=>⟨.ref D,_,I'.turned (t':=s'.toks) (fun b o hb e=>(hs'.2 b hb).trans e) fC.1 fC.2.1 fC.2.2.2.1 fC.2.2.2.2.1 fC.2.2.2.2.2,rfl,fin D nD⟩⟩
def wC(fs:Vs)(own:Nat)(fr:List Nat)(N:Vs){wi:TI}{i:Nat}{y:Str}{py spos:Pos}(hX:X.N.Nodup)(hix:X.N[i]?=some y)(hy:X.env.scope.names.lookup y=some .local)
  (hsw:swapsWith (.ListComp elt [⟨tg,iter,ifs,0⟩] scope pos) (some (.Name y py)) spos.line X.env=pure true)
  (hc:X.calm=true) (hclos:closureFor scope X.env=pure (de X.env fs)) (hcell:∀y∈scope.names,y.2 ≠ .cell) (hkind:scope.kind = .function)
  (hnames:∀x∈scope.names,x.2 = .local->scope.names.lookup x.1=some .local) (hcl:cL X.env fs) (hhas:my (relabel scope X.env).names (de X.env fs)=true)
  (hlen:N.length=own+fr.length) (hN:(N.drop own).map some=fr.map fun j=>X.N[j]?) (hF:F0 X.env scope (de X.env fs) (N.drop own))
  (hi:PI X tg iter wi) (hg:∀B,PG (X.GJ N scope fs B) tg g) (hf:∀B,PF (X.GJ N scope fs B) ifs tc) (he:∀B,PE (X.GJ N scope fs B) elt te)
  (hs:∀x,foldedSetIterable iter X.env x=pure x:=by intro _;rfl):PS X (.Assign [.Name y py] (.ListComp elt [⟨tg,iter,ifs,0⟩] scope pos) spos) (v0 (tT wi g tc te own fr) (nz i)):=by
 intro pins s σ H D I h
 rw[exec_Assign_Name_used _ _ _ _ hsw]
 refine wpAny_bind (wpAny_standAt (wpAny_bind ?_))
 show wpAny _ X.A (do let _ <-comprehension (.ListComp elt [⟨tg,iter,ifs,0⟩] scope pos) scope X.env _ (newList []) false (eval iter X.env) (some (assign (.Name y py) X.env))) _ _ s
 refine wpAny_bind (wpAny_mono (wpAny_comprehension_free (use:=some (assign (.Name y py) X.env)) (Q:=fun _ s'=>SP X pins D .next s') (g:=⟨tg,iter,ifs,0⟩) (gs:=[]) rfl hs hclos hkind hnames
  (bC (hi pins s σ H _ I h) fun v s1 h1=>bC h1 fun itv s2 h2=>?_)) (fun _ s' hq=>wpAny_pure (wpAny_pure hq)) fun _ _ e=>e)
 obtain⟨it,fp,tn,J,H2,e,I2,T,st2,f2,W⟩:=h2
 subst e
 refine j_ (RR:=fun acc C=>compPost (model X.prog X.w) X.A X.xe (some (assign (.Name y py) X.env)) (fun _ s'=>SP X pins D .next s') acc C) hc hcell hkind hcl hhas hlen hN hF hg hf he I2 T st2 f2 W ?_
 intro Da C s' ys H' m' I' nD hn fC fin
 show wpAny _ X.A (assign (.Name y py) X.env (.ref Da)) _ _ s'
 refine wpAny_assign_Name (ly (v:=.ref Da) I' hX hix (.inl hy) rfl (fun s2 I3 ⟨a,sb,ha⟩=>?_) (.inr hy))
 have ca:C≠a:=by
  rcases ha with z|z
  ·rw[z];exact fC.2.1
  ·exact Ne.symm (fC.2.2.2.2.1 _ _ z)
 exact⟨m',hn.sameBut sb ca,fun h' hs'=>⟨_,_,I3.turned (t':=s2.toks) (fun b o hb e=>(hs'.2 b hb).trans e) fC.1 fC.2.1 fC.2.2.2.1 fC.2.2.2.2.1 fC.2.2.2.2.2,fin Da nD⟩⟩
end
end L2
namespace PySem
open Sem (wp)
namespace F
def rR:typeLookup (.type "list_reverseiterator") "__len__" = pure none:=by rw[typeLookup_type,builtinLookup_eq_fast];kernel_rfl
def tU:typeLookup (.type "list_reverseiterator") "__length_hint__" = pure (some (.builtin "list_reverseiterator.__length_hint__")):=by rw[typeLookup_type,builtinLookup_eq_fast];kernel_rfl
end F
section
variable {prog:Program} {w:World} {A:Around} {s:Shared} {R:Result->Shared->Prop}
variable {I:Addr} {fp wr:List Addr} {G:Array GenState->Array GenState->Prop} {n:Nat} {P:Nat->Value->Prop} {St:Nat->Shared->Prop}
def ph(W:WalksS prog w A.in1 I fp wr G n P St)(hT:∀i s,St i s->s.TypeIs (.ref I) "list_reverseiterator")(S:Addr)(res:Value)(c₀:Nat)(hst:St 0 s)(hSf:S ∉ fp)(hI:I∈fp)
  (hS:s.heap.get? S=some { cls:=.type "list",data:=.seq #[] c₀ })
  (hR:∀s' acc' c',Moved (S::wr) G s s'->s'.heap.get? S=some { cls:=.type "list",dict:=none,data:=.seq acc' c',slots:=#[] }->ItemsOf P acc' n->R (.ok (.ret res)) s') (hn:n<=sizeLine) :
  wpAny (model prog w) A.in1 (Builtin.List.listExtendWith (.ref S) (.ref I) res)
   (fun fin s'=>match fin with | .done f=>R (.ok f) s' | .again c'=>c'.quiet=true/\codeAny (model prog w) A c' R s') (fun e s'=>R (.error e) s') s:=by
 have hSI:S≠I:=fun e=>hSf (e▸hI)
 have h1:Builtin.List.listSameRef (.ref S) (.ref I)=false:=by simp[Builtin.List.listSameRef,hSI]
 unfold Builtin.List.listExtendWith
 refine wpAny_bind (wpAny_typeOf (hT 0 _ hst) ?_)
 rw[if_neg (by rw[h1];decide)]
 refine wpAny_bind (W.self 0 _ _ _ hst ?_)
 refine wpAny_bind (wpAny_holding ?_)
 unfold Builtin.List.listLengthHint
 refine wpAny_bind (wpAny_specialOf (hT 0 _ hst) F.rR ?_)
 show wpAny _ A.in1 (specialOf (Value.ref I) (Str.ofString "__length_hint__") >>= _) _ _ _
 refine wpAny_bind (wpAny_specialOf (hT 0 _ hst) F.tU ?_)
 (generalize hid:("list_reverseiterator.__length_hint__":String)=LV;wp_delta;rw[show splitId LV=some ("list_reverseiterator","__length_hint__")from by subst hid;decide +kernel];subst hid)
 refine wpAny_bind (wpAny_isInstance (b:=true) (hT 0 _ hst) (by rw[isSubtype_type];kernel_rfl) ?_)
 refine wpAny_pure ?_
 rw[if_neg (by decide)]
 exact wpAny_pure ⟨plainId_quiet F.plain_extend_loop _,codeAny_extend_loopS W hn _ hSf _ n 0 _ _ _ rfl (Nat.zero_le _) hst hS (ItemsOf.nil P) fun s' acc' c' hm hS' hacc=>hR s' acc' c' hm hS' hacc⟩
def kY(W:WalksS prog w A.in1 I fp wr G n P St)(hT:∀i s,St i s->s.TypeIs (.ref I) "list_reverseiterator")(S:Addr)(hst:St 0 s)(hSf:S ∉ fp)(hI:I∈fp)
  (hS:s.heap.get? S=some { cls:=.type "list",data:=.seq #[] })
  (hR:∀s' acc' c',Moved (S::wr) G s s'->s'.heap.get? S=some { cls:=.type "list",dict:=none,data:=.seq acc' c',slots:=#[] }->ItemsOf P acc' n->R (.ok (.ret .none)) s') (hn:n<=sizeLine) :
  wpAny (model prog w) A.in1 (Builtin.«list.__init__» ⟨[.ref S,.ref I],[]⟩)
   (fun fin s'=>match fin with | .done f=>R (.ok f) s' | .again c'=>c'.quiet=true/\codeAny (model prog w) A c' R s') (fun e s'=>R (.error e) s') s:=by
 show wpAny _ A.in1 (do let old <-Builtin.List.listItems (.ref S);Builtin.List.listUpdate (.ref S) (fun _=>#[]);letGo old.toList.reverse;Builtin.List.listExtendWith (.ref S) (.ref I) .none) _ _ s
 refine wpAny_bind ?_
 unfold Builtin.List.listItems
 refine wpAny_bind (wpAny_seqItems hS rfl (wpAny_pure ?_))
 show wpAny _ A.in1 (updateSeq S (fun _=>#[]) >>= fun _=>letGo (#[]:Vw).toList.reverse >>= fun _=>Builtin.List.listExtendWith (.ref S) (.ref I) .none) _ _ s
 refine wpAny_bind (wpAny_updateSeq hS rfl ?_)
 have La:=Heap.get?_update_self (Obj.mapSeq (fun _=>(#[]:Vw))) hS rfl
 have HP:∀b o,b≠S->s.heap.get? b=some o->(s.heap.update S (Obj.mapSeq (fun _=>(#[]:Vw)))).get? b=some o:=
  fun b o hb e=>(Heap.get?_update_other _ _ (Ne.symm hb)).trans e
 refine wpAny_bind (wpAny_letGo ?_)
 refine ph (hn:=hn) W hT S .none _ (W.frame 0 s _ s.toks hst (Nat.le_refl _) fun b hb o e=>HP b o (fun h=>hSf (h▸hb)) e) hSf hI La fun s' acc' c' hm hS' hacc=>?_
 exact hR s' acc' c' (Moved.trans W.gtrans ((Moved.refl W.grefl).then_heap (Nat.le_refl _) fun b o hb e=>HP b o (fun h=>hb (h▸List.mem_cons_self)) e) hm) hS' hacc
end
section
variable {prog:Program} {w:World} {A:Around} {E:Vq} {s:Shared}
def kZ{I l:Addr}{items:Vw}{Q:Vq}(hh:A.handled=none)(hl:s.heap.IsList l items)(hit:s.heap.IsRevIter I l ((items.size:Int) - 1))(hne:l≠I)(hn:items.size<=sizeLine)
  (hQ:∀h' tk acc' c',(∀b o,b≠I->s.heap.get? b=some o->h'.get? b=some o)->h'.get? s.heap.objs.size=some { cls:=.type "list",dict:=none,data:=.seq acc' c',slots:=#[] }->
   acc'.toList=items.toList.reverse->Q (.ref s.heap.objs.size) { s with heap:=h',toks:=tk }) :
  wpAny (model prog w) A (call (.type "list") [.ref I]) Q E s:=by
 have W:=(Walks.listRev (prog:=prog) (w:=w) (A:=A.in1.in1) hh I l hne items).toS
 have J3:I < s.heap.objs.size:=by obtain⟨o,ho,_⟩:=hit;exact Heap.lt_size ho
 have LW:l < s.heap.objs.size:=by obtain⟨o,ho,_⟩:=hl;exact Heap.lt_size ho
 have hfp:∀b∈[I,l],b < s.heap.objs.size:=fun b hb=>by
  rcases List.mem_cons.mp hb with rfl|hb
  ·exact J3
  ·rw[List.mem_singleton.mp hb];exact LW
 have hSf:s.heap.objs.size ∉ [I,l]:=fun hm=>Nat.lt_irrefl _ (hfp _ hm)
 have hst:(fun i (s:Shared)=>i<=items.size/\s.heap.IsRevIter I l ((items.size:Int) - 1 - (i:Int))/\s.heap.IsList l items) 0 s:=⟨Nat.zero_le _,by simpa using hit,hl⟩
 refine callType_codes (Q₁:=fun obj s₁=>obj = .ref s.heap.objs.size/\s₁={ s with heap:=s.heap.push { cls:=.type "list",data:=.seq #[] } }) F.called_list (F.typeCall_list_1 _) F.entry_list_init
  (code_list_new _ ⟨rfl,rfl⟩) fun obj s₁ h₁=>?_
 obtain⟨rfl,rfl⟩:=h₁
 have hS:(s.heap.push { cls:=.type "list",data:=.seq #[] }).get? s.heap.objs.size=some { cls:=.type "list",data:=.seq #[] }:=Heap.get?_push_size _ rfl
 refine⟨⟨_,hS,rfl⟩,F.args_list_init_2 _ _,kY (hn:=hn) W (fun i s st=>st.2.1.typeIs) _ (W.frame 0 s _ s.toks hst (Nat.le_refl _) fun b _ o e=>Heap.get?_push_of_some _ e) hSf (List.mem_cons_self ..) hS fun s' acc' c' hm hS' hacc=>?_⟩
 refine⟨rfl,?_⟩
 rw[hm.eq_with]
 refine hQ s'.heap s'.toks acc' c' (fun b o hb e=>hm.heap b o (fun z=>?_) (Heap.get?_push_of_some _ e)) hS' ?_
 ·rcases List.mem_cons.mp z with z|z
  ·exact absurd (Heap.lt_size e) (by rw[z];exact Nat.lt_irrefl _)
  ·exact hb (List.mem_singleton.mp z)
 ·obtain⟨hsz,hP⟩:=hacc
  apply List.ext_getElem?
  intro j
  by_cases hj:j < items.size
  ·have hj':j < acc'.size:=by rw[hsz];exact hj
   have q:=hP j acc'[j] (by simp[hj'])
   have e1:acc'.toList[j]?=some acc'[j]:=by simp[hj']
   rw[e1,List.getElem?_reverse (by simpa using hj)]
   simpa using q.symm
  ·rw[List.getElem?_eq_none (by simpa [hsz]using hj),List.getElem?_eq_none (by simpa using hj)]
end
end PySem
namespace L2
open PySem PySem.Spec PyProof.Rows
section
variable {X:Cx}
def tV(K:Vo)(te:TE):TE:=fun σ H Q=>te σ H fun x H1=>∃a xs,x = .ref a/\SqL K H1 a xs/\∀q,H1 q=none->Q (.ref q) (upd H1 q (.lst xs.reverse))
def pj{e:Expr}{te:TE}{p1 p2 q1 q2:Pos}(hc:X.calm=true)(he:PE X e te)(J4:Gl X "list")(hm1:X.mg "list" = none)(J5:Gl X "reversed")(hm2:X.mg "reversed" = none)
  (hs:starEach [e] X.env=[(false,eval e X.env)]:=by rfl) (hs2:starEach [.Call (.Name "reversed" p2) [e] [] q2] X.env=[(false,eval (.Call (.Name "reversed" p2) [e] [] q2) X.env)]:=by rfl) :
  PE X (.Call (.Name "list" p1) [.Call (.Name "reversed" p2) [e] [] q2] [] q1) (tV X.K te):=by
 intro pins s σ H Q I h
 refine wpAny_Call_Name_kw (dS I J4 hm1 (u:=.type "list") (by decide +kernel) ?_)
 refine PyProof.Rows.callWith_type1 ?_ hs2 rfl
 rw[hs2]
 show wpAny _ _ (spliced ((false,eval (.Call (.Name "reversed" p2) [e] [] q2) X.env)::backTo q1 [])) _ _ s
 refine Calls.spliced_cons ?_
 refine wpAny_Call_Name_kw (dS I J5 hm2 (u:=.type "reversed") boot_reversed ?_)
 refine PyProof.Rows.callWith_type1 ?_ hs rfl
 rw[hs]
 show wpAny _ _ (spliced ((false,eval e X.env)::backTo q2 [])) _ _ s
 refine Calls.spliced_cons (bC (he pins s σ H _ I h) fun u s1 ⟨x,H1,I1,r1,a,xs,ex,hx,q⟩=>?_)
 subst ex
 cases r1
 obtain⟨its,rv,p,hz⟩:=I1.list hx
 have hl:=rv.length
 have hal:a < s1.heap.objs.size:=by obtain⟨o,ho,_⟩:=p.isList;exact Heap.lt_size ho
 refine Calls.spliced_nil (call_reversed_list p.isList ?_)
 refine Calls.spliced_nil ?_
 refine kZ (I.ok.hd hc) (p.isList.push _) ⟨_,Heap.get?_push_size _ rfl,rfl,rfl⟩ (Nat.ne_of_lt hal) (by rw[List.size_toArray,<-hl];exact hz) fun h' tk acc c hk hS ha=>?_
 have hsz:(s1.heap.push (revObj a ((its.toArray.size:Int) - 1))).objs.size=s1.heap.objs.size+1:=Heap.size_push _ _
 have hle:s1.heap.objs.size<=(s1.heap.push (revObj a ((its.toArray.size:Int) - 1))).objs.size:=by rw[hsz];exact Nat.le_succ _
 refine⟨.ref _,_,I1.laid (a:=(s1.heap.push (revObj a ((its.toArray.size:Int) - 1))).objs.size) (o:=.lst xs.reverse) (h':=h') (t':=tk) (fun b u e=>hk b u (Nat.ne_of_lt (Heap.lt_size e)) (Heap.get?_push_of_some _ e)) hle ?_,rfl,q _ (I1.hok.fresh hle)⟩
 refine⟨by rw[List.length_reverse];exact hz,its.reverse,c,Vals.reverse rv,?_⟩
 rw[hS]
 have e:acc=its.reverse.toArray:=by
  apply Array.toList_inj.mp
  rw[ha]
 rw[e]
end
section
variable {X:Cx}
noncomputable abbrev sgn(c:Nat):Str:=⟨#[c]⟩
noncomputable def DN(z:Str):It:=⟨fun i _=>i < z.cps.size,fun i H x H'=>H'=H/\∃c,z.cps[i]?=some c/\x = .str (sgn c),fun i _=>z.cps.size<=i⟩
def tW{P:Program}{w:World}{K:Vo}{tg:Expr}{ty:String}(hty:ty = "str_ascii_iterator" \/ ty = "str_iterator")(it:Addr)(z:Str)(t:Tok):ma P w K tg (DN z) [it] it (fun i h=>i<=z.cps.size/\h.IsStrIter it ty z t i):=by
 have W:∀A':Around,A'.handled=none->Walks P w A' it [it] [it] z.cps.size (SignAt z) (fun i h=>h.IsStrIter it ty z t i):=fun A' hA=>by
  rcases hty with rfl|rfl
  ·exact Walks.strAscii hA it z t
  ·exact Walks.strWide hA it z t
 have nt:(["enumerate","zip","dict_itemiterator","dict_reverseitemiterator","odict_iterator","itertools.zip_longest","itertools.pairwise"].contains ty)=false:=by
  rcases hty with rfl|rfl<;>decide
 refine⟨by simp,fun i h st b hb=>?_,fun i h h' st k=>?_,?_,?_,?_⟩
 ·have e:b=it:=by simpa using hb
  subst e
  obtain⟨_,o,e,c,d⟩:=st
  exact⟨o,e,fun v q=>by rw[d]at q;cases q⟩
 ·obtain⟨hi,o,e,r⟩:=st
  exact⟨hi,o,k it (by simp) o e,r⟩
 ·intro X hP hw hK hc i pins s σ H E I hf st hg
  subst hP hw hK
  obtain⟨f0,f1,f2,f3,f4,f5⟩:=hf it (by simp)
  refine(W X.A (I.ok.hd hc)).item i s _ _ hg st.2 fun v h' tk hv st' kk=>?_
  obtain⟨c,u,hcp,rfl⟩:=hv
  have I1:Inv X pins σ H { s with heap:=h',toks:=tk }:=I.turned (fun b o hb e=>kk b o (by simpa using hb) e) f0 f1 f3 f4 f5
  obtain⟨o,e,co,d⟩:=id st'
  exact⟨_,rfl,qr (s:={ s with heap:=h',toks:=tk }) e co d nt ⟨.str (sgn c),H,I1,⟨u,rfl⟩,⟨rfl,c,hcp,rfl⟩,⟨hg,st'⟩,fun b hb=>(hf b hb).1⟩⟩
 ·intro X hP hw hK hc i pins s σ H E I hf st hg
  subst hP hw hK
  obtain⟨f0,f1,f2,f3,f4,f5⟩:=hf it (by simp)
  have e:i=z.cps.size:=Nat.le_antisymm st.1 hg
  subst e
  exact(W X.A (I.ok.hd hc)).done s _ _ st.2 fun h' tk kk=>⟨rfl,I.turned (fun b o hb e=>kk b o (by simpa using hb) e) f0 f1 f3 f4 f5⟩
 ·intro A i s Q E st h
  rcases hty with rfl|rfl
  ·exact wpAny_pyIter_striter_ascii st.2 h
  ·exact wpAny_pyIter_striter_wide st.2 h
def rT(hc:X.calm=true):eN X (.builtin "all") (fun xs H Q=>∃(p:Addr) (bs:List Bool),xs=[.ref p]/\SqL X.K H p (bs.map V.bl)/\Q (.bl (bs.all id)) H):=by
 intro pins s σ H xs us Q I r h
 obtain⟨p,bs,rfl,hp,q⟩:=h
 obtain⟨u,rfl,rx⟩:=fX r
 cases rx
 obtain⟨its,rv,pl,hz⟩:=I.list hp
 have hl:=rv.length
 rw[List.length_map]at hl
 have hlt:p < s.heap.objs.size:=by obtain⟨o,ho,_⟩:=pl.isList;exact Heap.lt_size ho
 refine call_all_walk (wpAny_pyIter_list pl.isList ?_)
 have up:∀b o,s.heap.get? b=some o->(s.heap.push { cls:=.type "list_iterator",data:=.fields #[.ref p,.int 0 0] }).get? b=some o:=fun b o e=>Heap.get?_push_of_some _ e
 refine⟨s.heap.objs.size,_,_,_,_,_,fun i=>(bs[i]?).getD true,rfl,Walks.list (A:=X.A.in1) (I.ok.hd hc) s.heap.objs.size p (Nat.ne_of_lt hlt) its.toArray,⟨⟨_,Heap.get?_push_size _ rfl,rfl,rfl⟩,pl.isList.push _⟩,?_,fun h' tk hk=>?_⟩
 ·intro i v s' Q' E' hv hq
  have hi:i < its.length:=by
   by_cases z:i < its.length
   ·exact z
   ·rw[Array.getElem?_eq_none (by simpa using z)]at hv;cases hv
  obtain⟨u',e1,r1⟩:=rv.get (i:=i) (x:=.bl bs[i]) (by rw[List.getElem?_map,List.getElem?_eq_getElem (by omega)];rfl)
  have e2:v=u':=by
   have z:its[i]?=some v:=by simpa using hv
   rw[z]at e1;exact Option.some.inj e1
  subst e2
  cases (show v=Value.bool bs[i] from r1)
  refine wpAny_truthy_bool ?_
  have hq':Q' ((bs[i]?).getD true) s':=hq
  rw[List.getElem?_eq_getElem (show i < bs.length by omega)]at hq'
  exact hq'
 ·have e:(List.range its.toArray.size).all (fun i=>(bs[i]?).getD true)=bs.all id:=by
   rw[List.size_toArray,<-hl,Bool.eq_iff_iff,List.all_eq_true,List.all_eq_true]
   constructor
   ·intro h1 x hx
    obtain⟨j,hj,e⟩:=List.getElem_of_mem hx
    have q1:=h1 j (List.mem_range.mpr hj)
    rw[List.getElem?_eq_getElem hj]at q1
    rw[<-e];exact q1
   ·intro h1 j hj
    have hj':=List.mem_range.mp hj
    rw[List.getElem?_eq_getElem hj']
    exact h1 _ (List.getElem_mem hj')
  rw[e]
  exact⟨.bl _,H,(I.kept (t':=tk) (h':=h') fun b o eo=>hk b o (by
   intro hm
   have hb:b=s.heap.objs.size:=by simpa using hm
   exact absurd (Heap.lt_size eo) (by rw[hb];exact Nat.lt_irrefl _)) (up b o eo)),rfl,q⟩
end
section
variable {X:Cx}
noncomputable def DO:V->Option Int->Option Int->Hp->VK->Prop:=fun x lo hi H Q=>∃z,x = .str z/\z.length<=sizeLine/\Q (.str (Txt.slice z lo hi)) H
def zF:AN X DO:=by
 intro pins s σ H x v vl vu lo hi sl Q I rx hs pl pu h
 obtain⟨z,rfl,hz,q⟩:=h
 obtain⟨t,rfl⟩:=rx
 refine⟨"str",_,F.slot_str_getitem.lookup,typeIs_str _ _ _,?_⟩
 obtain⟨o,e,c,d⟩:=hs
 have fin:∀l u:Option (Int×Tok),(vl=partValue l/\lo=l.map (·.1))->(vu=partValue u/\hi=u.map (·.1))->wpAny (model X.prog X.w) X.A (getItem (.str z t) (.ref sl)) (EP X pins σ Q) X.xe s:=by
  rintro l u ⟨rfl,rfl⟩ ⟨rfl,rfl⟩
  exact wpAny_getItem_str_slice (l:=l) (u:=u) (st:=none) ⟨o,e,c,d⟩ rfl (post_val_or_str ⟨Nat.le_trans (Txt.slice_le z _ _) hz,fun t' k=>⟨.str _,H,I.tok k,⟨t',rfl⟩,q⟩⟩)
 cases pl with
 |none=>
  cases pu with
  |none=>exact fin none none ⟨rfl,rfl⟩ ⟨rfl,rfl⟩
  |int j uj=>exact fin none (some (j,uj)) ⟨rfl,rfl⟩ ⟨rfl,rfl⟩
 |int i ui=>
  cases pu with
  |none=>exact fin (some (i,ui)) none ⟨rfl,rfl⟩ ⟨rfl,rfl⟩
  |int j uj=>exact fin (some (i,ui)) (some (j,uj)) ⟨rfl,rfl⟩ ⟨rfl,rfl⟩
end
end L2
namespace Zt
open PySem
open Sem (wp)
def Si(kd:Bool)(h:Heap)(a t:Addr)(i:Nat):Prop:=cond kd (h.IsListIter a t i) (h.IsTupleIter a t i)
def Sq(kd:Bool)(h:Heap)(a:Addr)(xs:Vw):Prop:=cond kd (h.IsList a xs) (h.IsTuple a xs)
theorem Si.at{kd:Bool}{h h':Heap}{a t:Addr}{i:Nat}(x:Si kd h a t i)(e:∀o,h.get? a=some o->h'.get? a=some o):Si kd h' a t i:=match kd,x with|true,x=>Heap.IsListIter.at x e|false,x=>Heap.IsTupleIter.at x e
theorem Sq.at{kd:Bool}{h h':Heap}{a:Addr}{xs:Vw}(x:Sq kd h a xs)(e:∀o,h.get? a=some o->h'.get? a=some o):Sq kd h' a xs:=match kd,x with|true,x=>Heap.IsList.at x e|false,x=>Heap.IsTuple.at x e
def Sq.lt{kd:Bool}{h:Heap}{a:Addr}{xs:Vw}(x:Sq kd h a xs):a < h.objs.size:=match kd,x with|true,⟨_,e,_⟩=>Heap.lt_size e|false,⟨_,e,_⟩=>Heap.lt_size e
def Si.ob{kd:Bool}{h:Heap}{a t:Addr}{i:Nat}(x:Si kd h a t i):∃o f,h.get? a=some o/\o.data = .fields f:=match kd,x with|true,⟨o,e,_,d⟩=>⟨o,_,e,d⟩|false,⟨o,e,_,d⟩=>⟨o,_,e,d⟩
def Si.extBut{kd:Bool}{h h':Heap}{a c t:Addr}{i:Nat}(x:Si kd h a t i)(e:Heap.ExtBut c h h')(n:a≠c):Si kd h' a t i:=x.at fun _ q=>e _ _ n q
def Sq.extBut{kd:Bool}{h h':Heap}{a c:Addr}{xs:Vw}(x:Sq kd h a xs)(e:Heap.ExtBut c h h')(n:a≠c):Sq kd h' a xs:=x.at fun _ q=>e _ _ n q
section
variable {prog:Program} {w:World} {A:Around} {E:Vq} {s:Shared}
def nx{j t:Addr}{i:Nat}{its:Vw}{x:Value}{Q:Vq}(hj:s.heap.IsTupleIter j t i)(ht:s.heap.IsTuple t its)(hx:its[i]?=some x)
  (k:∀g:Heap,g.IsTupleIter j t (i+1)->Heap.SameBut j s.heap g->Q x { s with heap:=g }):wpAny (model prog w) A (Builtin.SmallTypes.nextOf (.ref j)) Q E s:=by
 obtain⟨ob,eb,kb,db⟩:=id hj
 obtain⟨oc,ec,_,nc,dc⟩:=ht
 unfold Builtin.SmallTypes.nextOf
 refine wpAny_bind (wpAny_callSpecial?_slot (name:=Str.ofString "__next__") hj.typeIs F.slot_tuple_iterator_next (wpAny_call_entry F.slot_tuple_iterator_next hj.typeIs F.entry_tuple_iterator_next ?_ (F.args_tuple_iterator_next_1 _)))
 show wpAny _ _ (field (.ref j) 0 >>= _) _ _ s;refine wpAny_bind (wpAny_field eb db (x:=.ref t) rfl ?_)
 show wpAny _ _ (if (Value.ref t == Value.none)=true then _ else _) _ _ s;rw[if_neg (show ¬((Value.ref t == Value.none)=true)from Bool.false_ne_true)]
 show wpAny _ _ (field (.ref j) 1 >>= _) _ _ s;refine wpAny_bind (wpAny_field eb db (x:=.int i 0) rfl ?_)
 show wpAny _ _ (seqItems? (.ref t) >>= _) _ _ s;refine wpAny_bind (wpAny_seqItems ec dc ?_)
 simp only[Int.toNat_natCast,hx];refine wpAny_bind (wpAny_setField eb db (by simp) (wpAny_pure ⟨x,rfl,wpAny_pure (k _ ?_ (Heap.SameBut.update ..))⟩))
 exact⟨_,Heap.get?_update_self _ eb (Obj.isFreed_of_fields (Obj.data_mapFields db _)),(Obj.cls_mapFields ..).trans kb,by rw[Obj.data_mapFields db];simp[rawInt]⟩
def EB{j t:Addr}{i:Nat}{its:Vw}{Q:Vq}(hh:A.handled=none)(hj:s.heap.IsTupleIter j t i)(ht:s.heap.IsTuple t its)(hx:its[i]?=none)
  (k:∀(g:Heap) (e:Addr),Heap.ExtBut j s.heap g->(∃o,g.get? e=some o/\o.cls = .type "StopIteration")->E (.ref e) { s with heap:=g }):wpAny (model prog w) A (Builtin.SmallTypes.nextOf (.ref j)) Q E s:=by
 obtain⟨ob,eb,kb,db⟩:=id hj
 obtain⟨oc,ec,_,nc,dc⟩:=ht
 unfold Builtin.SmallTypes.nextOf
 refine wpAny_bind (wpAny_callSpecial?_slot (name:=Str.ofString "__next__") hj.typeIs F.slot_tuple_iterator_next (wpAny_call_entry F.slot_tuple_iterator_next hj.typeIs F.entry_tuple_iterator_next ?_ (F.args_tuple_iterator_next_1 _)))
 show wpAny _ _ (field (.ref j) 0 >>= _) _ _ s;refine wpAny_bind (wpAny_field eb db (x:=.ref t) rfl ?_)
 show wpAny _ _ (if (Value.ref t == Value.none)=true then _ else _) _ _ s;rw[if_neg (show ¬((Value.ref t == Value.none)=true)from Bool.false_ne_true)]
 show wpAny _ _ (field (.ref j) 1 >>= _) _ _ s;refine wpAny_bind (wpAny_field eb db (x:=.int i 0) rfl ?_)
 show wpAny _ _ (seqItems? (.ref t) >>= _) _ _ s;refine wpAny_bind (wpAny_seqItems ec dc ?_)
 simp only[Int.toNat_natCast,hx];refine wpAny_bind (wpAny_rule (wpAny_bind (wpAny_setField eb db (by simp) ?_)))
 show wpAny _ _ (newExc (.type "StopIteration") [] >>= _) _ _ _;refine wpAny_bind ?_
 simp only[newExc,newTuple];refine wpAny_bind (wpAny_newObj_type ?_ (by size_fits))
 refine wpAny_bind (m:=firstArgMember _ _) (wpAny_of_eq (a:=Value.none) (by first|rfl|(simp only[firstArgMember];rfl)) ?_);refine wpAny_newObj_type ?_ (by size_fits)
 simp only[raiseNew];refine wpAny_bind (wpAny_handled ?_)
 first|(rw[hh])|(rw[show A.in1.handled=none from hh])
 exact wpAny_bind (wpAny_pure (wpAny_throw (k _ _ (((Heap.SameBut.update ..).extBut.push _).push _) ⟨_,Heap.get?_push_size _ rfl,rfl⟩)))
def DP{kd:Bool}{j t:Addr}{i:Nat}{its:Vw}{x:Value}{Q:Vq}(hj:Si kd s.heap j t i)(ht:Sq kd s.heap t its)(hx:its[i]?=some x)
  (k:∀g:Heap,Si kd g j t (i+1)->Heap.SameBut j s.heap g->Q x { s with heap:=g }):wpAny (model prog w) A (Builtin.SmallTypes.nextOf (.ref j)) Q E s:=by
 cases kd with
 |true=>exact wpAny_nextOf_list_item hj ht hx k
 |false=>exact nx hj ht hx k
def BE{kd:Bool}{j t:Addr}{i:Nat}{its:Vw}{Q:Vq}(hh:A.handled=none)(hj:Si kd s.heap j t i)(ht:Sq kd s.heap t its)(hx:its[i]?=none)
  (k:∀(g:Heap) (e:Addr),Heap.ExtBut j s.heap g->(∃o,g.get? e=some o/\o.cls = .type "StopIteration")->E (.ref e) { s with heap:=g }):wpAny (model prog w) A (Builtin.SmallTypes.nextOf (.ref j)) Q E s:=by
 cases kd with
 |true=>exact wpAny_nextOf_list_end hh hj ht hx k
 |false=>exact EB hh hj ht hx k
variable {ka kb:Bool} {z TI TO i1 i2 l1 l2:Addr} {k1 k2:Nat} {xs ys:Vw} {x y a b:Value}
def wD{Q:Vq}(D:ZipApart z TI TO i1 i2 l1 l2)(gz:IsZip s.heap z TI TO .none)(gI:IsPair s.heap TI (.ref i1) (.ref i2))(gO:IsPair s.heap TO a b)
  (g1:Si ka s.heap i1 l1 k1) (g2:Si kb s.heap i2 l2 k2) (t1:Sq ka s.heap l1 xs) (t2:Sq kb s.heap l2 ys) (hx:xs[k1]?=some x) (hy:ys[k2]?=some y)
  (k:∀g,IsZip g z TI TO (rawInt s.heap.objs.size)->IsPair g TO x y->Si ka g i1 l1 (k1+1)->Si kb g i2 l2 (k2+1)->IsPair g s.heap.objs.size x y->
   (∀c o,c≠z->c≠TO->c≠i1->c≠i2->s.heap.get? c=some o->g.get? c=some o)->Q (.ref s.heap.objs.size) { s with heap:=g }) :
  wpAny (model prog w) A (Builtin.«zip.__next__» ⟨[.ref z],[]⟩) (fun fin s'=>∃v,fin = .done (.ret v)/\Q v s') E s:=by
 show wpAny _ _ (field (.ref z) 2 >>= _) _ _ _;refine wpAny_bind (wpAny_field gz rfl (x:=.bool false) rfl ?_)
 show wpAny _ _ (field (.ref z) 3 >>= _) _ _ _;refine wpAny_bind (wpAny_field gz rfl (x:=.ref TI) rfl (wpAny_bind (wpAny_seqItems gI rfl ?_)))
 show wpAny _ _ (Builtin.SmallTypes.ownedTupleIsFree (.ref z) >>= _) _ _ _;refine wpAny_bind ?_;unfold Builtin.SmallTypes.ownedTupleIsFree
 refine wpAny_bind (wpAny_field gz rfl (x:=.none) rfl (wpAny_pure ?_));simp only[if_true]
 refine wpAny_bind (wpAny_rule (wpAny_bind (wpAny_field gz rfl (x:=.ref TO) rfl (wpAny_bind (wpAny_setField_rec gz (by simp) fun h₁ z1 q1=>?_)))))
 replace z1:IsZip h₁ z TI TO .ellipsis:=z1
 refine wpAny_bind ?_;simp only[List.zipIdx_cons,List.zipIdx_nil,List.forIn_cons,List.forIn_nil]
 refine wpAny_bind (wpAny_bind (wpAny_onRaise ?_));show wpAny _ _ (Builtin.SmallTypes.nextOf (.ref i1) >>= _) _ _ _
 refine wpAny_bind (DP (g1.extBut q1.extBut D.i1z) (t1.extBut q1.extBut D.l1z) hx fun h₂ n1 q2=>wpAny_pure ?_)
 have o2:IsPair h₂ TO a b:=q2.extBut _ _ D.TOi1 (q1.extBut _ _ D.TOz gO)
 refine wpAny_bind (wpAny_seqItems o2 rfl (wpAny_bind (wpAny_updateSeq_pair o2 fun h₃ o3 q3=>?_)))
 replace o3:IsPair h₃ TO x b:=o3
 refine wpAny_bind (wpAny_letGo (wpAny_pure ?_));refine wpAny_bind (wpAny_bind (wpAny_onRaise ?_));show wpAny _ _ (Builtin.SmallTypes.nextOf (.ref i2) >>= _) _ _ _
 refine wpAny_bind (DP (((g2.extBut q1.extBut D.i2z).extBut q2.extBut D.i12.symm).extBut q3.extBut D.TOi2.symm) (((t2.extBut q1.extBut D.l2z).extBut q2.extBut D.l2i1).extBut q3.extBut D.l2TO) hy fun h₄ n2 q4=>wpAny_pure ?_)
 have o4:IsPair h₄ TO x b:=q4.extBut _ _ D.TOi2 o3
 refine wpAny_bind (wpAny_seqItems o4 rfl (wpAny_bind (wpAny_updateSeq_pair o4 fun h₅ o5 q5=>?_)))
 replace o5:IsPair h₅ TO x y:=o5
 refine wpAny_bind (wpAny_letGo (wpAny_pure (wpAny_pure ?_)));refine wpAny_bind (wpAny_seqItems o5 rfl (wpAny_bind (wpAny_newTuple ?_)))
 have sz:h₅.objs.size=s.heap.objs.size:=by rw[q5.1,q4.1,q3.1,q2.1,q1.1]
 have z5:IsZip h₅ z TI TO .ellipsis:=q5.extBut _ _ D.TOz.symm (q4.extBut _ _ D.i2z.symm (q3.extBut _ _ D.TOz.symm (q2.extBut _ _ D.i1z.symm z1)))
 have kk:∀c o,c≠z->c≠TO->c≠i1->c≠i2->s.heap.get? c=some o->h₅.get? c=some o:=fun c o c1 c2 c3 c4 e=>q5.extBut _ _ c2 (q4.extBut _ _ c4 (q3.extBut _ _ c2 (q2.extBut _ _ c3 (q1.extBut _ _ c1 e))))
 have m1:Si ka h₅ i1 l1 (k1+1):=((n1.extBut q3.extBut D.TOi1.symm).extBut q4.extBut D.i12).extBut q5.extBut D.TOi1.symm
 have m2:Si kb h₅ i2 l2 (k2+1):=n2.extBut q5.extBut D.TOi2.symm
 have zl:z < h₅.objs.size:=Heap.lt_size z5
 show wpAny _ _ (Builtin.SmallTypes.ownedTupleHandOut (.ref z) (.ref h₅.objs.size) >>= _) _ _ _;refine wpAny_bind ?_;unfold Builtin.SmallTypes.ownedTupleHandOut
 have z6:IsZip (h₅.push { cls:=.type "tuple",data:=.seq #[x,y] }) z TI TO .ellipsis:=Heap.get?_push_of_some _ z5
 refine wpAny_bind (wpAny_setField_rec z6 (by simp) fun h₇ z7 q7=>?_)
 replace z7:IsZip h₇ z TI TO (rawInt h₅.objs.size):=z7
 refine wpAny_setField_rec z7 (by simp) fun h₈ z8 q8=>?_
 replace z8:IsZip h₈ z TI TO (rawInt h₅.objs.size):=z8
 have up:∀c o,c≠z->h₅.get? c=some o->h₈.get? c=some o:=fun c o c1 e=>q8.extBut _ _ c1 (q7.extBut _ _ c1 (Heap.get?_push_of_some _ e))
 have T8:IsPair h₈ h₅.objs.size x y:=q8.extBut _ _ (Nat.ne_of_gt zl) (q7.extBut _ _ (Nat.ne_of_gt zl) (Heap.get?_push_size _ rfl))
 rw[sz]at z8 T8
 refine wpAny_pure ⟨_,rfl,?_⟩
 show Q (.ref h₅.objs.size) _
 rw[sz]
 exact k h₈ z8 (up _ _ D.TOz o5) (m1.at fun o e=>up _ o D.i1z e) (m2.at fun o e=>up _ o D.i2z e) T8 fun c o c1 c2 c3 c4 e=>up c o c1 (kk c o c1 c2 c3 c4 e)
def zG{Q:Fin->Shared->Prop}(hh:A.handled=none)(D:ZipApart z TI TO i1 i2 l1 l2)(gz:IsZip s.heap z TI TO .none)(gI:IsPair s.heap TI (.ref i1) (.ref i2))(gO:IsPair s.heap TO a b)
  (g1:Si ka s.heap i1 l1 k1) (g2:Si kb s.heap i2 l2 k2) (t1:Sq ka s.heap l1 xs) (t2:Sq kb s.heap l2 ys) (he:xs[k1]?=none\/ys[k2]?=none)
  (k:∀(g:Heap) (e:Addr),(∀c o,c≠z->c≠TO->c≠i1->c≠i2->s.heap.get? c=some o->g.get? c=some o)->(∃o,g.get? e=some o/\o.cls = .type "StopIteration")->E (.ref e) { s with heap:=g }) :
  wpAny (model prog w) A (Builtin.«zip.__next__» ⟨[.ref z],[]⟩) Q E s:=by
 show wpAny _ _ (field (.ref z) 2 >>= _) _ _ _;refine wpAny_bind (wpAny_field gz rfl (x:=.bool false) rfl ?_)
 show wpAny _ _ (field (.ref z) 3 >>= _) _ _ _;refine wpAny_bind (wpAny_field gz rfl (x:=.ref TI) rfl (wpAny_bind (wpAny_seqItems gI rfl ?_)))
 show wpAny _ _ (Builtin.SmallTypes.ownedTupleIsFree (.ref z) >>= _) _ _ _;refine wpAny_bind ?_;unfold Builtin.SmallTypes.ownedTupleIsFree
 refine wpAny_bind (wpAny_field gz rfl (x:=.none) rfl (wpAny_pure ?_));simp only[if_true]
 refine wpAny_bind (wpAny_rule (wpAny_bind (wpAny_field gz rfl (x:=.ref TO) rfl (wpAny_bind (wpAny_setField_rec gz (by simp) fun h₁ z1 q1=>?_)))))
 replace z1:IsZip h₁ z TI TO .ellipsis:=z1
 refine wpAny_bind ?_;simp only[List.zipIdx_cons,List.zipIdx_nil,List.forIn_cons,List.forIn_nil]
 refine wpAny_bind (wpAny_bind (wpAny_onRaise ?_));show wpAny _ _ (Builtin.SmallTypes.nextOf (.ref i1) >>= _) _ _ _
 cases hx:xs[k1]? with
 |none=>
  refine wpAny_bind (BE hh (g1.extBut q1.extBut D.i1z) (t1.extBut q1.extBut D.l1z) hx fun h₂ e q2 ⟨oe,ge,ce⟩=>?_)
  have z2:IsZip h₂ z TI TO .ellipsis:=q2 _ _ D.i1z.symm z1
  have ez:e≠z:=fun u=>by subst u;rw[z2]at ge;cases ge;simp at ce
  exact wpAny_setField_rec z2 (by simp) fun h₃ _ q3=>k h₃ e (fun c o c1 _ c3 _ u=>q3.extBut _ _ c1 (q2 _ _ c3 (q1.extBut _ _ c1 u))) ⟨oe,q3.extBut _ _ ez ge,ce⟩
 |some x=>
  have hy:ys[k2]?=none:=he.elim (fun q=>by rw[hx]at q;cases q) id
  refine wpAny_bind (DP (g1.extBut q1.extBut D.i1z) (t1.extBut q1.extBut D.l1z) hx fun h₂ n1 q2=>wpAny_pure ?_)
  have o2:IsPair h₂ TO a b:=q2.extBut _ _ D.TOi1 (q1.extBut _ _ D.TOz gO)
  refine wpAny_bind (wpAny_seqItems o2 rfl (wpAny_bind (wpAny_updateSeq_pair o2 fun h₃ o3 q3=>?_)))
  refine wpAny_bind (wpAny_letGo (wpAny_pure ?_));refine wpAny_bind (wpAny_bind (wpAny_onRaise ?_));show wpAny _ _ (Builtin.SmallTypes.nextOf (.ref i2) >>= _) _ _ _
  refine wpAny_bind (BE hh (((g2.extBut q1.extBut D.i2z).extBut q2.extBut D.i12.symm).extBut q3.extBut D.TOi2.symm) (((t2.extBut q1.extBut D.l2z).extBut q2.extBut D.l2i1).extBut q3.extBut D.l2TO) hy fun h₄ e q4 ⟨oe,ge,ce⟩=>?_)
  have z4:IsZip h₄ z TI TO .ellipsis:=q4 _ _ D.i2z.symm (q3.extBut _ _ D.TOz.symm (q2.extBut _ _ D.i1z.symm z1))
  have ez:e≠z:=fun u=>by subst u;rw[z4]at ge;cases ge;simp at ce
  exact wpAny_setField_rec z4 (by simp) fun h₅ _ q5=>k h₅ e (fun c o c1 c2 c3 c4 u=>q5.extBut _ _ c1 (q4 _ _ c4 (q3.extBut _ _ c2 (q2.extBut _ _ c3 (q1.extBut _ _ c1 u))))) ⟨oe,q5.extBut _ _ ez ge,ce⟩
def rV{Q:Option Value->Shared->Prop}(D:ZipApart z TI TO i1 i2 l1 l2)(gz:IsZip s.heap z TI TO .none)(gI:IsPair s.heap TI (.ref i1) (.ref i2))(gO:IsPair s.heap TO a b)
  (g1:Si ka s.heap i1 l1 k1) (g2:Si kb s.heap i2 l2 k2) (t1:Sq ka s.heap l1 xs) (t2:Sq kb s.heap l2 ys) (hx:xs[k1]?=some x) (hy:ys[k2]?=some y)
  (k:∀g,IsZip g z TI TO (rawInt s.heap.objs.size)->IsPair g TO x y->Si ka g i1 l1 (k1+1)->Si kb g i2 l2 (k2+1)->IsPair g s.heap.objs.size x y->
   (∀c o,c≠z->c≠TO->c≠i1->c≠i2->s.heap.get? c=some o->g.get? c=some o)->Q (some (.ref s.heap.objs.size)) { s with heap:=g }):wpAny (model prog w) A (pyNext (.ref z)) Q E s:=by
 have ty:s.TypeIs (.ref z) "zip":=⟨_,gz,rfl⟩
 unfold pyNext
 exact wpAny_bind (wpAny_attempt (wpAny_callSpecial?_slot (name:=Str.ofString "__next__") ty F.slot_zip_next (wpAny_call_entry F.slot_zip_next ty F.entry_zip_next
  (wD D gz gI gO g1 g2 t1 t2 hx hy fun g a1 a2 a3 a4 a5 a6=>wpAny_pure (k g a1 a2 a3 a4 a5 a6)) (F.args_zip_next_1 _))))
def tX{Q:Option Value->Shared->Prop}(hh:A.handled=none)(D:ZipApart z TI TO i1 i2 l1 l2)(gz:IsZip s.heap z TI TO .none)(gI:IsPair s.heap TI (.ref i1) (.ref i2))(gO:IsPair s.heap TO a b)
  (g1:Si ka s.heap i1 l1 k1) (g2:Si kb s.heap i2 l2 k2) (t1:Sq ka s.heap l1 xs) (t2:Sq kb s.heap l2 ys) (he:xs[k1]?=none\/ys[k2]?=none)
  (k:∀g:Heap,(∀c o,c≠z->c≠TO->c≠i1->c≠i2->s.heap.get? c=some o->g.get? c=some o)->Q none { s with heap:=g }):wpAny (model prog w) A (pyNext (.ref z)) Q E s:=by
 have ty:s.TypeIs (.ref z) "zip":=⟨_,gz,rfl⟩
 unfold pyNext
 refine wpAny_bind (wpAny_attempt (wpAny_callSpecial?_slot (name:=Str.ofString "__next__") ty F.slot_zip_next (wpAny_call_entry F.slot_zip_next ty F.entry_zip_next (zG hh D gz gI gO g1 g2 t1 t2 he fun g e kk ⟨o,ho,hc⟩=>?_) (F.args_zip_next_1 _))))
 exact wpAny_bind (wpAny_isInstance (T:="StopIteration") (b:=true) ⟨o,ho,hc⟩ isSubtype_stop (wpAny_pure (k _ kk)))
end
noncomputable abbrev it(kd:Bool)(l:Addr):Obj:={ cls:=.type (cond kd "list_iterator" "tuple_iterator"),data:=.fields #[.ref l,.int 0 0] }
def Si.mk{kd:Bool}{h:Heap}{a l:Addr}(e:h.get? a=some (it kd l)):Si kd h a l 0:=match kd,e with|true,e=>⟨_,e,rfl,rfl⟩|false,e=>⟨_,e,rfl,rfl⟩
noncomputable abbrev H1(ka:Bool)(h:Heap)(l1:Addr):Heap:=h.push (it ka l1)
noncomputable abbrev H2(ka kb:Bool)(h:Heap)(l1 l2:Addr):Heap:=(H1 ka h l1).push (it kb l2)
noncomputable abbrev H3(ka kb:Bool)(h:Heap)(l1 l2:Addr):Heap:=(H2 ka kb h l1 l2).push { cls:=.type "tuple",data:=.seq #[.ref h.objs.size,.ref (H1 ka h l1).objs.size] }
noncomputable abbrev H4(ka kb:Bool)(h:Heap)(l1 l2:Addr):Heap:=(H3 ka kb h l1 l2).push { cls:=.type "tuple",data:=.seq #[.none,.none] }
noncomputable abbrev H5(ka kb:Bool)(h:Heap)(l1 l2:Addr):Heap:=(H4 ka kb h l1 l2).push { cls:=.type "zip",data:=.fields #[.none,.bool false,.bool false,.ref (H2 ka kb h l1 l2).objs.size,.ref (H3 ka kb h l1 l2).objs.size] }
def i7(ka kb:Bool)(l1 l2:Addr)(xs ys:Vw) :
  Meets (Builtin.«zip.__new__» ⟨[.type "zip",.ref l1,.ref l2],[]⟩) (fun _ R s=>Sq ka s.heap l1 xs/\Sq kb s.heap l2 ys/\R (.ok (.ret (.ref (H4 ka kb s.heap l1 l2).objs.size))) { s with heap:=H5 ka kb s.heap l1 l2 }):=
 .of_wp fun prog w A R s h=>by
  obtain⟨hp,g,d,tk,os⟩:=s;obtain⟨e1,e2,h⟩:=h
  have hsub:=sub_zip
  match ka,kb,e1,e2,h with
  |false,false,e1,e2,h=>
   have L1:Heap.IsTuple (Shared.heap ⟨hp,g,d,tk,os⟩) l1 xs:=e1
   have L2:Heap.IsTuple (Shared.heap ⟨hp.push { cls:=.type "tuple_iterator",data:=.fields #[.ref l1,.int 0 0] },g,d,tk,os⟩) l2 ys:=Heap.IsTuple.push e2 _
   wp_walk using wpAny_pyIter_tuple L1,wpAny_pyIter_tuple L2
   exact⟨_,rfl,h⟩
  |false,true,e1,e2,h=>
   have L1:Heap.IsTuple (Shared.heap ⟨hp,g,d,tk,os⟩) l1 xs:=e1
   have L2:Heap.IsList (Shared.heap ⟨hp.push { cls:=.type "tuple_iterator",data:=.fields #[.ref l1,.int 0 0] },g,d,tk,os⟩) l2 ys:=Heap.IsList.push e2 _
   wp_walk using wpAny_pyIter_tuple L1,wpAny_pyIter_list L2
   exact⟨_,rfl,h⟩
  |true,false,e1,e2,h=>
   have L1:Heap.IsList (Shared.heap ⟨hp,g,d,tk,os⟩) l1 xs:=e1
   have L2:Heap.IsTuple (Shared.heap ⟨hp.push { cls:=.type "list_iterator",data:=.fields #[.ref l1,.int 0 0] },g,d,tk,os⟩) l2 ys:=Heap.IsTuple.push e2 _
   wp_walk using wpAny_pyIter_list L1,wpAny_pyIter_tuple L2
   exact⟨_,rfl,h⟩
  |true,true,e1,e2,h=>
   have L1:Heap.IsList (Shared.heap ⟨hp,g,d,tk,os⟩) l1 xs:=e1
   have L2:Heap.IsList (Shared.heap ⟨hp.push { cls:=.type "list_iterator",data:=.fields #[.ref l1,.int 0 0] },g,d,tk,os⟩) l2 ys:=Heap.IsList.push e2 _
   wp_walk using wpAny_pyIter_list L1,wpAny_pyIter_list L2
   exact⟨_,rfl,h⟩
section
variable {ka kb:Bool} {prog:Program} {w:World} {A:Around} {E:Vq} {s:Shared}
def kc{l1 l2:Addr}{xs ys:Vw}{Q:Vq}(e1:Sq ka s.heap l1 xs)(e2:Sq kb s.heap l2 ys)
  (k:∀g,IsZip g (s.heap.objs.size+4) (s.heap.objs.size+2) (s.heap.objs.size+3) .none->IsPair g (s.heap.objs.size+2) (.ref s.heap.objs.size) (.ref (s.heap.objs.size+1))->
   IsPair g (s.heap.objs.size+3) .none .none->Si ka g s.heap.objs.size l1 0->Si kb g (s.heap.objs.size+1) l2 0->
   (∀c o,s.heap.get? c=some o->g.get? c=some o)->Q (.ref (s.heap.objs.size+4)) { s with heap:=g }) :
  wpAny (model prog w) A (call (.type "zip") [.ref l1,.ref l2]) Q E s:=by
 refine callType_new F.called_zip (by decide) (F.typeCall_zip_2 _ _) (F.newCall_zip_2 _ _) (fun obj=>F.args_object_init_3 obj _ _) F.entry_zip_new (i7 ka kb l1 l2 xs ys) ⟨e1,e2,?_⟩
 have z1:(H1 ka s.heap l1).objs.size=s.heap.objs.size+1:=Heap.size_push ..
 have z2:(H2 ka kb s.heap l1 l2).objs.size=s.heap.objs.size+2:=by rw[Heap.size_push,z1]
 have z3:(H3 ka kb s.heap l1 l2).objs.size=s.heap.objs.size+3:=by rw[Heap.size_push,z2]
 have z4:(H4 ka kb s.heap l1 l2).objs.size=s.heap.objs.size+4:=by rw[Heap.size_push,z3]
 have g5:(H5 ka kb s.heap l1 l2).get? (H4 ka kb s.heap l1 l2).objs.size=some _:=Heap.get?_push_size _ rfl
 have g4:(H5 ka kb s.heap l1 l2).get? (H3 ka kb s.heap l1 l2).objs.size=some _:=Heap.get?_push_of_some _ (Heap.get?_push_size _ rfl)
 have g3:(H5 ka kb s.heap l1 l2).get? (H2 ka kb s.heap l1 l2).objs.size=some _:=Heap.get?_push_of_some _ (Heap.get?_push_of_some _ (Heap.get?_push_size _ rfl))
 have g2:(H5 ka kb s.heap l1 l2).get? (H1 ka s.heap l1).objs.size=some _:=Heap.get?_push_of_some _ (Heap.get?_push_of_some _ (Heap.get?_push_of_some _ (Heap.get?_push_size _ rfl)))
 have g1:(H5 ka kb s.heap l1 l2).get? s.heap.objs.size=some _:=Heap.get?_push_of_some _ (Heap.get?_push_of_some _ (Heap.get?_push_of_some _ (Heap.get?_push_of_some _ (Heap.get?_push_size _ rfl))))
 show _/\_
 rw[z2,z3,z4]at g5
 rw[z1,z2]at g3
 rw[z3]at g4
 rw[z1]at g2
 rw[z4]
 exact⟨⟨_,g5,rfl⟩,k _ g5 g3 g4 (.mk g1) (.mk g2) fun c o e=>Heap.get?_push_of_some _ (Heap.get?_push_of_some _ (Heap.get?_push_of_some _ (Heap.get?_push_of_some _ (Heap.get?_push_of_some _ e))))⟩
end
end Zt
namespace L2
open PySem PySem.Spec PyProof.Rows
section
variable {X:Cx} {pins:Va} {σ:St} {H:Hp} {s:Shared} {h':Heap}
def Inv.GK{t':Nat}{fp:List Addr}(I:Inv X pins σ H s)(k:∀b o,b ∉ fp->s.heap.get? b=some o->h'.get? b=some o)(hf:∀b∈fp,fT X pins H b):Inv X pins σ H { s with heap:=h',toks:=t' }:=by
 have Ky:∀b u,H b=some u->b ∉ fp:=fun b u e z=>by rw[(hf b z).1]at e;cases e
 refine I.step (g':=s.gens) (d':=s.drawn) (ch:=fp) (fun b hb=>?_) (fun b o _ _ hc e _=>k b o hc e) (fun b o _ _ hc e _=>⟨o.slots,k b o hc e⟩) (fun _ _ _ _ n=>n)
  (fun b o hc e=>⟨o,k b o hc e⟩) (fun _ _ e=>e) (fun _ _ _ e=>e) (fun b ps e=>⟨#[],by rw[e];simp⟩) (fun m hm=>?_) (fun b u e=>?_) I.bare
 ·obtain⟨f0,f1,f2,f3,f4,f5⟩:=hf b hb
  exact⟨f3,f1,f4,f5⟩
 ·obtain⟨o,es,ep,ho,r⟩:=hm
  exact⟨o,es,ep,k _ o (fun z=>(hf _ z).2.1 rfl) ho,r⟩
 ·refine(I.hok b u e).stay (fun c v hc q=>k c v ?_ q) (fun _ q=>q) fun _ _ q=>q
  rcases hc with z|z
  ·rw[z];exact Ky b u e
  ·exact Ky c _ z
def Inv.IC{D:Addr}{us:Vv}{ys:List V}(I:Inv X pins σ H s)(f:fT X pins H D)(e:FT s.heap D us.toArray)(r:Vals ys us)(hz:ys.length<=sizeLine) :
  Inv X pins σ (upd H D (.tup ys)) s:=by
 obtain⟨f0,f1,f2,f3,f4,f5⟩:=f
 have nD:∀b u,H b=some u->b≠D:=fun b u q=>bf q f0
 have hok:GN X.prog X.w (upd H D (.tup ys)) s.heap:=fun b u q=>by
  by_cases hb:b=D
  ·subst hb
   rw[aB]at q
   cases q
   exact⟨hz,us,r,e⟩
  ·rw[aC hb]at q
   exact(I.hok b u q).stay (fun _ _ _ z=>z) (fun c z=>by rw[aC (nD c _ z)];exact z) fun c xs z=>by rw[aC (nD c _ z)];exact z
 exact I.step (H':=upd H D (.tup ys)) (h':=s.heap) (g':=s.gens) (t':=s.toks) (d':=s.drawn) (ch:=[D])
  (fun b hb=>by
   have z:b=D:=by simpa using hb
   subst z
   exact⟨f3,f1,f4,f5⟩)
  (fun _ _ _ _ _ q _=>q) (fun _ o _ _ _ q _=>⟨o.slots,q⟩)
  (fun b o hb _ n=>by rw[aC (fun z=>hb (by simp[z]))];exact n)
  (fun _ o _ q=>⟨o,q⟩) (fun b xs q=>by rw[aC (nD b _ q)];exact q) (fun b o u q=>by rw[aC (nD b _ q)];exact q)
  (fun b ps q=>⟨#[],by rw[aC (nD b _ q),q];simp⟩) (fun _ q=>q) hok I.bare
end
def rW(kd:Bool)(K:Vo)(H:Hp)(a:Addr)(xs:List V):Prop:=cond kd (SqL K H a xs) (SqT K H a xs)
def Inv.IS{X:Cx}{pins:Va}{σ:St}{H:Hp}{s:Shared}{kd:Bool}{a:Addr}{xs:List V}(I:Inv X pins σ H s)(h:rW kd X.K H a xs):∃its:List Value,Vals xs its/\Zt.Sq kd s.heap a its.toArray:=by
 cases kd with
 |true=>obtain⟨i,r,p,z⟩:=I.list h;exact⟨i,r,p.isList⟩
 |false=>obtain⟨i,r,p,z⟩:=I.tuple h;exact⟨i,r,p⟩
def Inv.Il{X:Cx}{pins:Va}{σ:St}{H:Hp}{s:Shared}{kd:Bool}{a:Addr}{xs ys:List V}(I:Inv X pins σ H s)(h:rW kd X.K H a xs)(g:rW kd X.K H a ys):xs=ys:=by
 cases kd with
 |true=>exact I.Hl h g
 |false=>exact I.G7 h g
noncomputable def DQ(ka kb:Bool)(K:Vo)(a b:Addr):It:=
  ⟨fun i H=>∃xs ys x y,rW ka K H a xs/\rW kb K H b ys/\xs[i]?=some x/\ys[i]?=some y,
   fun i H v H'=>∃p x y,v = .ref p/\H p=none/\H'=upd H p (.tup [x,y])/\∀xs ys,rW ka K H a xs->rW kb K H b ys->xs[i]?=some x/\ys[i]?=some y,
   fun i H=>∃xs ys,rW ka K H a xs/\rW kb K H b ys/\(xs.length<=i\/ys.length<=i)⟩
def tY{ka kb:Bool}{P:Program}{w:World}{K:Vo}{elts:List Expr}{k0:Nat}{GO:Pos}{z TI TO i1 i2 a b:Addr}(D:ZipApart z TI TO i1 i2 a b) :
  ma P w K (.Tuple elts k0 GO) (DQ ka kb K a b) [z,TI,TO,i1,i2] z (fun i h=>IsZip h z TI TO .none/\IsPair h TI (.ref i1) (.ref i2)/\(∃x y,IsPair h TO x y)/\Zt.Si ka h i1 a i/\Zt.Si kb h i2 b i) where
 mem:=by simp
 obj:=fun i h st c hc=>by
  obtain⟨gz,gI,⟨x,y,gO⟩,g1,g2⟩:=st
  obtain⟨o1,_,e1,d1⟩:=g1.ob;obtain⟨o2,_,e2,d2⟩:=g2.ob
  simp only[List.mem_cons,List.not_mem_nil,or_false]at hc
  rcases hc with rfl|rfl|rfl|rfl|rfl
  ·exact⟨_,gz,fun v q=>by cases q⟩
  ·exact⟨_,gI,fun v q=>by cases q⟩
  ·exact⟨_,gO,fun v q=>by cases q⟩
  ·exact⟨_,e1,fun v q=>by rw[d1]at q;cases q⟩
  ·exact⟨_,e2,fun v q=>by rw[d2]at q;cases q⟩
 keep:=fun i h h' st k=>by
  obtain⟨gz,gI,⟨x,y,gO⟩,g1,g2⟩:=st
  exact⟨k z (by simp) _ gz,k TI (by simp) _ gI,⟨x,y,k TO (by simp) _ gO⟩,g1.at fun o e=>k i1 (by simp) o e,g2.at fun o e=>k i2 (by simp) o e⟩
 item:=by
  intro X hP hw hK hc i pins s σ H E I hf st hg
  subst hP hw hK
  obtain⟨gz,gI,⟨ta,tb,gO⟩,g1,g2⟩:=st
  obtain⟨xs,ys,x,y,IL,Lb,hx,hy⟩:=hg
  obtain⟨ia,ra,pa⟩:=I.IS IL
  obtain⟨ib,rb,pb⟩:=I.IS Lb
  obtain⟨u,hu,ru⟩:=ra.get hx
  obtain⟨v,hv,rv⟩:=rb.get hy
  refine Zt.rV D gz gI gO g1 g2 pa pb (x:=u) (y:=v) (by simpa using hu) (by simpa using hv) fun g a1 a2 a3 a4 a5 a6=>?_
  refine⟨_,rfl,wpAny_letOwnedTupleGo_zip (s:={ s with heap:=g }) a1 fun g' z' q'=>?_⟩
  have kk:∀c o,c ∉ [z,TI,TO,i1,i2]->s.heap.get? c=some o->g'.get? c=some o:=fun c o hc e=>by
   simp only[List.mem_cons,List.not_mem_nil,or_false,not_or]at hc
   exact q'.extBut _ _ hc.1 (a6 c o hc.1 hc.2.2.1 hc.2.2.2.1 hc.2.2.2.2 e)
  have I1:Inv X pins σ H { s with heap:=g' }:=I.GK (t':=s.toks) kk hf
  have f0:fT X pins H s.heap.objs.size:=I.Hf (Nat.le_refl _) (I.hok.fresh (Nat.le_refl _))
  have eT:FT g' s.heap.objs.size [u,v].toArray:=⟨_,q'.extBut _ _ (Nat.ne_of_gt (Heap.lt_size gz)) a5,rfl,rfl,_,rfl⟩
  have I2:=I1.IC f0 eT (.cons ru (.cons rv .nil)) (by show 2<=sizeLine;decide)
  refine⟨.ref s.heap.objs.size,_,I2,rfl,⟨s.heap.objs.size,x,y,rfl,f0.1,rfl,fun xs' ys' h1 h2=>by rw[I.Il h1 IL,I.Il h2 Lb];exact⟨hx,hy⟩⟩,
   ⟨z',q'.extBut _ _ D.TIz (a6 TI _ D.TIz D.TITO D.TIi1 D.TIi2 gI),⟨_,_,q'.extBut _ _ D.TOz a2⟩,a3.extBut q'.extBut D.i1z,a4.extBut q'.extBut D.i2z⟩,fun c hc=>?_⟩
  have hlt:c < s.heap.objs.size:=by
   obtain⟨_,_,e1,_⟩:=g1.ob
   obtain⟨_,_,e2,_⟩:=g2.ob
   simp only[List.mem_cons,List.not_mem_nil,or_false]at hc
   rcases hc with rfl|rfl|rfl|rfl|rfl
   ·exact Heap.lt_size gz
   ·exact Heap.lt_size gI
   ·exact Heap.lt_size gO
   ·exact Heap.lt_size e1
   ·exact Heap.lt_size e2
  rw[aC (Nat.ne_of_lt hlt)]
  exact(hf c hc).1
 done:=by
  intro X hP hw hK hc i pins s σ H E I hf st hg
  subst hP hw hK
  obtain⟨gz,gI,⟨ta,tb,gO⟩,g1,g2⟩:=st
  obtain⟨xs,ys,IL,Lb,hl⟩:=hg
  obtain⟨ia,ra,pa⟩:=I.IS IL
  obtain⟨ib,rb,pb⟩:=I.IS Lb
  have la:=ra.length
  have lb:=rb.length
  refine Zt.tX (I.ok.hd hc) D gz gI gO g1 g2 pa pb ?_ fun g kk=>⟨rfl,I.GK (t':=s.toks) (fun c o hc e=>?_) hf⟩
  ·rcases hl with q|q
   ·exact .inl (by simp;omega)
   ·exact .inr (by simp;omega)
  ·simp only[List.mem_cons,List.not_mem_nil,or_false,not_or]at hc
   exact kk c o hc.1 hc.2.2.1 hc.2.2.2.1 hc.2.2.2.2 e
 self:=fun _ _ _ _ _ st h=>wpAny_pyIter_zip st.1 h
section
variable {X:Cx}
def DR(K:Vo)(ta:TA):TI:=fun σ H R=>ta σ H fun vs H1=>∃ka kb a b,vs=[.ref a,.ref b]/\(∃xs,rW ka K H1 a xs)/\(∃ys,rW kb K H1 b ys)/\R (DQ ka kb K a b) H1
def tZ{elts:List Expr}{k0:Nat}{GO:Pos}{a b:Expr}{ta:TA}{p pos:Pos}(hg:Gl X "zip")(hm:X.mg "zip" = none)(hv:bootBuiltins "zip" = some (.type "zip"))(ha:PA X [a,b] ta)
  (hs:starEach [a,b] X.env=[(false,eval a X.env),(false,eval b X.env)]:=by rfl) (hs2:starEach [b] X.env=[(false,eval b X.env)]:=by rfl):PI X (.Tuple elts k0 GO) (.Call (.Name "zip" p) [a,b] [] pos) (DR X.K ta):=by
 intro pins s σ H R I h
 refine Call_ (dS I hg hm hv (PyProof.Rows.callWith_type1 (bC (ha pos pins s σ H _ I h) fun us s1 ⟨vs,H1,I1,r1,q1⟩=>?_) (by rw[hs,hs2]) (by rw[hs2];rfl)))
 obtain⟨ka,kb,a,b,e,⟨xs,qa⟩,⟨ys,qb⟩,q⟩:=q1
 subst e
 obtain⟨u,v,rfl,ru,rv⟩:=xV r1
 cases ru
 cases rv
 obtain⟨ia,ra,pa⟩:=I1.IS qa
 obtain⟨ib,rb,pb⟩:=I1.IS qb
 have la:a < s1.heap.objs.size:=pa.lt
 have lb:b < s1.heap.objs.size:=pb.lt
 refine Zt.kc pa pb fun g gz gI gO g1 g2 kk=>?_
 refine wpAny_pyIter_zip (s:={ s1 with heap:=g }) gz ?_
 refine⟨_,[s1.heap.objs.size+4,s1.heap.objs.size+2,s1.heap.objs.size+3,s1.heap.objs.size,s1.heap.objs.size+1],_,_,H1,rfl,I1.kept (t':=s1.toks) kk,tY (zipApart_new la lb),⟨gz,gI,⟨_,_,gO⟩,g1,g2⟩,fun c hc=>?_,q⟩
 have hle:s1.heap.objs.size<=c:=by
  simp only[List.mem_cons,List.not_mem_nil,or_false]at hc
  rcases hc with rfl|rfl|rfl|rfl|rfl
  ·exact Nat.le_add_right _ _
  ·exact Nat.le_add_right _ _
  ·exact Nat.le_add_right _ _
  ·exact Nat.le_refl _
  ·exact Nat.le_add_right _ _
 exact I1.Hf hle (I1.hok.fresh hle)
end
section
variable {env:Env} {rest:List Expr} {pos:Pos}
def wE{x:Str}:starEach (.Name x pos::rest) env=(false,eval (.Name x pos) env)::starEach rest env:=rfl
def rX{a:Expr}{gs:List Comprehension}{sc:Scope}:starEach (.ListComp a gs sc pos::rest) env=(false,eval (.ListComp a gs sc pos) env)::starEach rest env:=rfl
end
noncomputable def DS(K:Vo)(a:Addr):It:=
  ⟨fun i H=>∃xs x,SqL K H a xs/\xs[i]?=some x,
   fun i H v H'=>∃p x,v = .ref p/\H p=none/\H'=upd H p (.tup [.int (i:Nat),x])/\∀xs,SqL K H a xs->xs[i]?=some x,
   fun i H=>∃xs,SqL K H a xs/\xs.length<=i⟩
def rY{P:Program}{w:World}{K:Vo}{elts:List Expr}{k0:Nat}{GO:Pos}{e it a:Addr}(hei:e≠it) :
  ma P w K (.Tuple elts k0 GO) (DS K a) [e,it] e (fun i h=>(∃old,IsEnum h e it i old)/\h.IsListIter it a i) where
 mem:=by simp
 obj:=fun i h st c hc=>by
  obtain⟨⟨old,ge⟩,⟨o1,e1,_,d1⟩⟩:=st
  simp only[List.mem_cons,List.not_mem_nil,or_false]at hc
  rcases hc with rfl|rfl
  ·exact⟨_,ge,fun v q=>by cases q⟩
  ·exact⟨_,e1,fun v q=>by rw[d1]at q;cases q⟩
 keep:=fun i h h' st k=>by
  obtain⟨⟨old,ge⟩,g1⟩:=st
  exact⟨⟨old,k e (by simp) _ ge⟩,g1.at fun o q=>k it (by simp) o q⟩
 item:=by
  intro X hP hw hK hc i pins s σ H E I hf st hg
  subst hP hw hK
  obtain⟨⟨old,ge⟩,g1⟩:=st
  obtain⟨xs,x,IL,hx⟩:=hg
  obtain⟨ia,ra,pa,za⟩:=I.list IL
  obtain⟨u,hu,ru⟩:=ra.get hx
  refine wpAny_pyNext_enum_item ge g1 pa.isList (x:=u) (by simpa using hu) hei fun g a1 a2 a3 a4 a5=>?_
  refine⟨_,rfl,wpAny_letOwnedTupleGo_enum (s:={ s with heap:=g,toks:=s.toks+1 }) a1 fun g' z' q'=>?_⟩
  have kk:∀c o,c ∉ [e,it]->s.heap.get? c=some o->g'.get? c=some o:=fun c o hc q=>by
   simp only[List.mem_cons,List.not_mem_nil,or_false,not_or]at hc
   exact(q'.2 c hc.1).trans (a5 c o hc.1 hc.2 q)
  have I1:Inv X pins σ H { s with heap:=g',toks:=s.toks+1 }:=I.GK kk hf
  have f0:fT X pins H s.heap.objs.size:=I.Hf (Nat.le_refl _) (I.hok.fresh (Nat.le_refl _))
  have LX:s.heap.objs.size≠e:=Nat.ne_of_gt (Heap.lt_size ge)
  have eT:FT g' s.heap.objs.size [Value.int i s.toks,u].toArray:=⟨_,(q'.2 _ LX).trans a3,rfl,rfl,_,rfl⟩
  have I2:=I1.IC (ys:=[.int i,x]) f0 eT (.cons ⟨_,rfl⟩ (.cons ru .nil)) (by show 2<=sizeLine;decide)
  refine⟨.ref s.heap.objs.size,_,I2,rfl,⟨s.heap.objs.size,x,rfl,f0.1,rfl,fun xs' h1=>by rw[I.Hl h1 IL];exact hx⟩,⟨⟨u,by simpa using z'⟩,a2.at fun o q=>(q'.2 it hei.symm).trans q⟩,fun c hc=>?_⟩
  have hlt:c < s.heap.objs.size:=by
   obtain⟨o1,e1,_⟩:=g1
   simp only[List.mem_cons,List.not_mem_nil,or_false]at hc
   rcases hc with rfl|rfl
   ·exact Heap.lt_size ge
   ·exact Heap.lt_size e1
  rw[aC (Nat.ne_of_lt hlt)]
  exact(hf c hc).1
 done:=by
  intro X hP hw hK hc i pins s σ H E I hf st hg
  subst hP hw hK
  obtain⟨⟨old,ge⟩,g1⟩:=st
  obtain⟨xs,IL,hl⟩:=hg
  obtain⟨ia,ra,pa,za⟩:=I.list IL
  have la:=ra.length
  refine wpAny_pyNext_enum_end (I.ok.hd hc) ge g1 pa.isList (by simp;omega) fun g kk=>⟨rfl,I.GK (t':=s.toks) (fun c o hc q=>?_) hf⟩
  simp only[List.mem_cons,List.not_mem_nil,or_false,not_or]at hc
  exact kk c o hc.2 q
 self:=fun _ _ _ _ _ st h=>by
  obtain⟨⟨old,ge⟩,_⟩:=st
  exact wpAny_pyIter_enum ge h
end L2
namespace Et
open PySem
open Sem (wp)
open AutoSeq1 (wpAny_loadPart')
def x9{P:Program}{w:World}{A:Around}(hh:A.handled=none)(it t:Addr)(hne:t≠it)(its:Vw) :
  Draws P w A it [it,t] its.size (fun i v=>its[i]?=some v) (fun i h=>h.IsTupleIter it t i/\h.IsTuple t its) where
 live:=fun i h st=>let ⟨⟨o,e,_⟩,_⟩:=st;⟨o,e⟩
 frame:=fun i h h' st k=>⟨st.1.at fun o e=>k it (by simp) o e,let ⟨o,e,r⟩:=st.2;⟨o,k t (by simp) o e,r⟩⟩
 item:=fun i s Q E hi st hQ=>Zt.nx st.1 st.2 (Array.getElem?_eq_getElem hi) fun g a b=>hQ _ g s.toks (Array.getElem?_eq_getElem hi) ⟨a,st.2.extBut b.extBut hne⟩ b
 done:=fun s Q E st hE=>Zt.EB hh st.1 st.2 (Array.getElem?_eq_none (Nat.le_refl _)) hE
noncomputable abbrev E1(h:Heap)(l:Addr):Heap:=h.push { cls:=.type "tuple_iterator",data:=.fields #[.ref l,.int 0 0] }
noncomputable abbrev E2(h:Heap)(l:Addr):Heap:=(E1 h l).push { cls:=.type "enumerate",data:=.fields #[.none,.bool false,.ref h.objs.size,rawInt 0,.none,.none] }
def i7(l:Addr)(its:Vw)(n:Nat)(dct:Option Addr)(sl:Array (Option Value)) :
  Meets (Builtin.«enumerate.__new__» ⟨[.type "enumerate",.ref l],[]⟩) (fun _ R s=>s.heap.get? l=some { cls:=.type "tuple",dict:=dct,data:=.seq its n,slots:=sl }/\R (.ok (.ret (.ref (E1 s.heap l).objs.size))) { s with heap:=E2 s.heap l }):=
 .of_wp fun prog w A R s h=>by
  obtain⟨hp,g,d,tk,os⟩:=s;obtain⟨hl,h⟩:=h
  have hsub:=sub_enumerate
  have T:Heap.IsTuple (Shared.heap ⟨hp,g,d,tk,os⟩) l its:=⟨_,hl,rfl,n,rfl⟩
  wp_walk using wpAny_loadPart' hl
  refine wpAny_stack_any fun st=>wpAny_pure ?_
  split
  ·rename_i c _ _ _ _ _
   cases (c == Value.type "enumerate")
   ·wp_walk using wpAny_loadPart' hl,wpAny_pyIter_tuple T
    exact⟨_,rfl,h⟩
   ·wp_walk using wpAny_loadPart' hl,wpAny_pyIter_tuple T
    exact⟨_,rfl,h⟩
  ·wp_walk using wpAny_loadPart' hl,wpAny_pyIter_tuple T
   exact⟨_,rfl,h⟩
def kc{P:Program}{w:World}{A:Around}{E:Vq}{s:Shared}{l:Addr}{its:Vw}{Q:Vq}(hT:s.heap.IsTuple l its)
  (k:∀g,IsEnum g (s.heap.objs.size+1) s.heap.objs.size 0 .none->g.IsTupleIter s.heap.objs.size l 0->(∀b o,s.heap.get? b=some o->g.get? b=some o)->Q (.ref (s.heap.objs.size+1)) { s with heap:=g }) :
  wpAny (model P w) A (call (.type "enumerate") [.ref l]) Q E s:=by
 obtain⟨⟨c,dct,dt,sl⟩,hl,hc,n,hd⟩:=hT
 replace hc:c = .type "tuple":=hc
 replace hd:dt = .seq its n:=hd
 subst hc hd
 refine callType_new F.called_enumerate (by decide) (F.typeCall_enumerate_1 _) (F.newCall_enumerate_1 _) (fun obj=>F.args_object_init_2 obj _) F.entry_enumerate_new (i7 l its n dct sl) ⟨hl,?_⟩
 have hz:(E1 s.heap l).objs.size=s.heap.objs.size+1:=Heap.size_push ..
 show _/\_
 rw[hz]
 have he:IsEnum (E2 s.heap l) (s.heap.objs.size+1) s.heap.objs.size 0 .none:=by
  have q:=Heap.get?_push_size (E1 s.heap l) (o:={ cls:=.type "enumerate",data:=.fields #[.none,.bool false,.ref s.heap.objs.size,rawInt 0,.none,.none] }) rfl
  rw[hz]at q
  exact q
 exact⟨⟨_,he,rfl⟩,k _ he ⟨_,Heap.get?_push_of_some _ (Heap.get?_push_size _ rfl),rfl,rfl⟩ fun b o x=>Heap.get?_push_of_some _ (Heap.get?_push_of_some _ x)⟩
end Et
namespace L2
open PySem PySem.Spec PyProof.Rows
noncomputable def DT(K:Vo)(a:Addr):It:=
  ⟨fun i H=>∃xs x,SqT K H a xs/\xs[i]?=some x,
   fun i H v H'=>∃p x,v = .ref p/\H p=none/\H'=upd H p (.tup [.int (i:Nat),x])/\∀xs,SqT K H a xs->xs[i]?=some x,
   fun i H=>∃xs,SqT K H a xs/\xs.length=i⟩
def pA{P:Program}{w:World}{K:Vo}{elts:List Expr}{k0:Nat}{GO:Pos}{e it a:Addr}(hei:e≠it)(Nm:a≠e)(hai:a≠it) :
  ma P w K (.Tuple elts k0 GO) (DT K a) [e,it] e (fun i h=>(∃old,IsEnum h e it i old)/\h.IsTupleIter it a i) where
 mem:=by simp
 obj:=fun i h st c hc=>by
  obtain⟨⟨old,ge⟩,⟨o1,e1,_,d1⟩⟩:=st
  simp only[List.mem_cons,List.not_mem_nil,or_false]at hc
  rcases hc with rfl|rfl
  ·exact⟨_,ge,fun v q=>by cases q⟩
  ·exact⟨_,e1,fun v q=>by rw[d1]at q;cases q⟩
 keep:=fun i h h' st k=>by
  obtain⟨⟨old,ge⟩,g1⟩:=st
  exact⟨⟨old,k e (by simp) _ ge⟩,g1.at fun o q=>k it (by simp) o q⟩
 item:=by
  intro X hP hw hK hc i pins s σ H E I hf st hg
  subst hP hw hK
  obtain⟨⟨old,ge⟩,g1⟩:=st
  obtain⟨xs,x,IL,hx⟩:=hg
  obtain⟨ia,ra,pa,za⟩:=I.tuple IL
  obtain⟨u,hu,ru⟩:=ra.get hx
  have hil:i < ia.toArray.size:=by
   rcases Nat.lt_or_ge i ia.length with q|q
   ·simpa using q
   ·rw[List.getElem?_eq_none q]at hu;cases hu
  refine wpAny_pyNext_enum_itemD (Et.x9 (P:=X.prog) (w:=X.w) (A:=X.A.in1) (I.ok.hd hc) it a hai ia.toArray) ge ⟨g1,(show s.heap.IsTuple a ia.toArray from pa)⟩ hil hei (by simp[hei,Ne.symm Nm]) fun v g tk hv a1 a2 a3 a4 a5=>?_
  have ev:v=u:=by
   have q:ia[i]?=some v:=by simpa using hv
   rw[q]at hu
   exact Option.some.inj hu
  subst ev
  refine⟨_,rfl,wpAny_letOwnedTupleGo_enum (s:={ s with heap:=g,toks:=tk+1 }) a1 fun g' z' q'=>?_⟩
  have kk:∀c o,c ∉ [e,it]->s.heap.get? c=some o->g'.get? c=some o:=fun c o hc q=>by
   simp only[List.mem_cons,List.not_mem_nil,or_false,not_or]at hc
   exact(q'.2 c hc.1).trans (a5 c o hc.1 hc.2 q)
  have I1:Inv X pins σ H { s with heap:=g',toks:=tk+1 }:=I.GK kk hf
  have f0:fT X pins H s.heap.objs.size:=I.Hf (Nat.le_refl _) (I.hok.fresh (Nat.le_refl _))
  have LX:s.heap.objs.size≠e:=Nat.ne_of_gt (Heap.lt_size ge)
  have eT:FT g' s.heap.objs.size [Value.int i tk,v].toArray:=⟨_,(q'.2 _ LX).trans a3,rfl,rfl,_,rfl⟩
  have I2:=I1.IC (ys:=[.int i,x]) f0 eT (.cons ⟨_,rfl⟩ (.cons ru .nil)) (by show 2<=sizeLine;decide)
  refine⟨.ref s.heap.objs.size,_,I2,rfl,⟨s.heap.objs.size,x,rfl,f0.1,rfl,fun xs' h1=>by rw[I.G7 h1 IL];exact hx⟩,⟨⟨v,by simpa using z'⟩,a2.1.at fun o q=>(q'.2 it hei.symm).trans q⟩,fun c hc=>?_⟩
  have hlt:c < s.heap.objs.size:=by
   obtain⟨o1,e1,_⟩:=g1
   simp only[List.mem_cons,List.not_mem_nil,or_false]at hc
   rcases hc with rfl|rfl
   ·exact Heap.lt_size ge
   ·exact Heap.lt_size e1
  rw[aC (Nat.ne_of_lt hlt)]
  exact(hf c hc).1
 done:=by
  intro X hP hw hK hc i pins s σ H E I hf st hg
  subst hP hw hK
  obtain⟨⟨old,ge⟩,g1⟩:=st
  obtain⟨xs,IL,hl⟩:=hg
  obtain⟨ia,ra,pa,za⟩:=I.tuple IL
  have la:=ra.length
  have ei:i=ia.toArray.size:=by simp;omega
  subst ei
  refine wpAny_pyNext_enum_endD (Et.x9 (P:=X.prog) (w:=X.w) (A:=X.A.in1) (I.ok.hd hc) it a hai ia.toArray) ge ⟨g1,(show s.heap.IsTuple a ia.toArray from pa)⟩ fun g kk=>⟨rfl,I.GK (t':=s.toks) (fun c o hc q=>?_) hf⟩
  simp only[List.mem_cons,List.not_mem_nil,or_false,not_or]at hc
  exact kk c o hc.2 q
 self:=fun _ _ _ _ _ st h=>by
  obtain⟨⟨old,ge⟩,_⟩:=st
  exact wpAny_pyIter_enum ge h
section
variable {X:Cx}
def zH:gU X (compareOp .Is) (fun x y H Q=>x = .bl true/\y = .bl true/\Q (.bl true) H):=by
 intro pins s σ H x y v u Q I rx ry h
 obtain⟨rfl,rfl,q⟩:=h
 cases (show v=Value.bool true from rx)
 cases (show u=Value.bool true from ry)
 exact wpAny_is_self rfl ⟨.bl true,H,I,rfl,q⟩
def rZ:gU X (compareOp .IsNot) (fun x y H Q=>x = .bl true/\y = .bl true/\Q (.bl false) H):=by
 intro pins s σ H x y v u Q I rx ry h
 obtain⟨rfl,rfl,q⟩:=h
 cases (show v=Value.bool true from rx)
 cases (show u=Value.bool true from ry)
 exact wpAny_isNot_self rfl ⟨.bl false,H,I,rfl,q⟩
end
end L2
namespace Wd
open PySem L2 PyProof.Rows
end Wd
namespace M3
noncomputable def aF(t b:Int):Int:=(if b < 0 then -t else t) / (Int.gcd t b:Int)
noncomputable def aG(t b:Int):Int:=(if b < 0 then -b else b) / (Int.gcd t b:Int)
def fj{t b:Int}(h:b≠0):0 < Int.gcd t b:=Nat.gcd_pos_of_pos_right _ (by omega)
def pB{t b:Int}(h:b≠0):(Int.gcd t b:Int)<=b.natAbs:=by
 have q:Nat.gcd t.natAbs b.natAbs<=b.natAbs:=Nat.gcd_le_right _ (by omega)
 have e:Int.gcd t b=Nat.gcd t.natAbs b.natAbs:=rfl
 omega
def t5(t b:Int):Int.gcd (-t) (-b)=Int.gcd t b:=by rw[Int.gcd_neg,Int.neg_gcd]
def x_(t b:Int):∃x y:Int,t=(Int.gcd t b:Int) * x/\b=(Int.gcd t b:Int) * y:=by
 obtain⟨x,hx⟩:=Int.gcd_dvd_left t b
 obtain⟨y,hy⟩:=Int.gcd_dvd_right t b
 exact⟨x,y,hx,hy⟩
def pC{t b x y g:Int}(hg:g=(Int.gcd t b:Int))(h:b≠0)(ht:t=g * x)(hb:b=g * y):aF t b=(if y < 0 then -x else x)/\aG t b=(if y < 0 then -y else y):=by
 have gp:0 < g:=by rw[hg];exact Int.natCast_pos.mpr (fj h)
 have hy:b < 0↔y < 0:=by
  rw[hb]
  constructor
  ·intro q
   by_cases z:y < 0
   ·exact z
   ·have:=Int.mul_nonneg (Int.le_of_lt gp) (Int.not_lt.mp z)
    omega
  ·intro q
   exact Int.mul_neg_of_pos_of_neg gp q
 unfold aF aG
 rw[<-hg]
 by_cases z:y < 0
 ·rw[if_pos (hy.mpr z),if_pos (hy.mpr z),if_pos z,if_pos z]
  constructor
  ·rw[ht,<-Int.mul_neg,Int.mul_ediv_cancel_left _ (by omega)]
  ·rw[hb,<-Int.mul_neg,Int.mul_ediv_cancel_left _ (by omega)]
 ·rw[if_neg (fun q=>z (hy.mp q)),if_neg (fun q=>z (hy.mp q)),if_neg z,if_neg z]
  constructor
  ·rw[ht,Int.mul_ediv_cancel_left _ (by omega)]
  ·rw[hb,Int.mul_ediv_cancel_left _ (by omega)]
def wF{t b x y:Int}(h:b≠0)(ht:t=(Int.gcd t b:Int) * x)(hb:b=(Int.gcd t b:Int) * y):Int.gcd x y=1:=by
 have gp:=fj (t:=t) h
 have q:Int.gcd ((Int.gcd t b:Int) * x) ((Int.gcd t b:Int) * y)=(Int.gcd t b:Int).natAbs * Int.gcd x y:=Int.gcd_mul_left _ _ _
 rw[<-ht,<-hb,Int.natAbs_natCast]at q
 have q2:Int.gcd t b * 1=Int.gcd t b * Int.gcd x y:=by omega
 exact(Nat.eq_of_mul_eq_mul_left gp q2).symm
structure zI (a b:Int):Prop where
 pos:0 < b
 one:Int.gcd a b=1
def cz{t b:Int}(h:b≠0):zI (aF t b) (aG t b):=by
 obtain⟨x,y,ht,hb⟩:=x_ t b
 have c:=wF h ht hb
 obtain⟨e1,e2⟩:=pC rfl h ht hb
 have y0:y≠0:=fun z=>h (by rw[hb,z,Int.mul_zero])
 rw[e1,e2]
 by_cases z:y < 0
 ·rw[if_pos z,if_pos z]
  exact⟨by omega,by rw[t5];exact c⟩
 ·rw[if_neg z,if_neg z]
  exact⟨by omega,c⟩
def ke{a b x y:Int}(L:zI a b)(hy:0 < y)(e:x * b=a * y):aF x y=a/\aG x y=b:=by
 have b0:=L.pos
 have d1:b.natAbs ∣ a.natAbs * y.natAbs:=by
  rw[<-Int.natAbs_mul,<-e,Int.natAbs_mul]
  exact Nat.dvd_mul_left _ _
 have c:Nat.Coprime b.natAbs a.natAbs:=by
  show Nat.gcd b.natAbs a.natAbs=1
  rw[Nat.gcd_comm]
  exact L.one
 obtain⟨k,hk⟩:=Int.natAbs_dvd_natAbs.mp (c.dvd_of_dvd_mul_left d1)
 have k0:0 < k:=by
  by_cases z:0 < k
  ·exact z
  ·have:=Int.mul_nonneg (Int.le_of_lt b0) (show 0 <= -k by omega)
   rw[Int.mul_neg]at this
   omega
 have hx:x=a * k:=by
  have q:x * b=a * k * b:=by rw[e,hk,Int.mul_assoc,Int.mul_comm k b]
  exact Int.eq_of_mul_eq_mul_right (by omega) q
 have g:(Int.gcd x y:Int)=k:=by
  rw[hx,hk,Int.gcd_mul_right,L.one,Nat.one_mul]
  omega
 have q:=pC (g:=k) (x:=a) (y:=b) (t:=x) (b:=y) g.symm (by omega) (by rw[hx,Int.mul_comm]) (by rw[hk,Int.mul_comm])
 rw[if_neg (by omega),if_neg (by omega)]at q
 exact q
def t6{a b:Int}(L:zI a b):aF a b=a/\aG a b=b:=ke L L.pos rfl
def a8{t b:Int}(h:b≠0):aF t b * b=t * aG t b:=by
 obtain⟨x,y,ht,hb⟩:=x_ t b
 obtain⟨e1,e2⟩:=pC rfl h ht hb
 rw[e1,e2]
 have q:x * b=t * y:=by
  have e3:x * ((Int.gcd t b:Int) * y)=(Int.gcd t b:Int) * x * y:=by rw[<-Int.mul_assoc,Int.mul_comm x]
  rw[<-ht,<-hb]at e3
  exact e3
 by_cases z:y < 0
 ·rw[if_pos z,if_pos z,Int.neg_mul,Int.mul_neg,q]
 ·rw[if_neg z,if_neg z]
  exact q
def zJ{g x y:Int}(h:g≠0)(e:x * g=y * g):x=y:=Int.eq_of_mul_eq_mul_right h e
def nI{t b:Int}(h:b≠0):t.fdiv (if b < 0 then -(Int.gcd t b:Int) else (Int.gcd t b:Int))=aF t b/\b.fdiv (if b < 0 then -(Int.gcd t b:Int) else (Int.gcd t b:Int))=aG t b:=by
 have gp:(0:Int) < (Int.gcd t b:Int):=Int.natCast_pos.mpr (fj h)
 have d1:=Int.gcd_dvd_left t b
 have d2:=Int.gcd_dvd_right t b
 unfold aF aG
 by_cases z:b < 0
 ·rw[if_pos z,if_pos z,if_pos z,Int.fdiv_neg (by omega),if_pos d1,Int.fdiv_neg (by omega),if_pos d2,Int.fdiv_eq_ediv_of_dvd d1,Int.fdiv_eq_ediv_of_dvd d2,Int.neg_ediv_of_dvd d1,Int.neg_ediv_of_dvd d2]
  exact⟨rfl,rfl⟩
 ·rw[if_neg z,if_neg z,if_neg z,Int.fdiv_eq_ediv_of_dvd d1,Int.fdiv_eq_ediv_of_dvd d2]
  exact⟨rfl,rfl⟩
def nJ(x y:Int):Int.gcd y (x.fmod y)=Int.gcd x y:=by
 have q:=Int.mul_fdiv_add_fmod x y
 have e:Int.gcd y (x.fmod y+x.fdiv y * y)=Int.gcd y (x.fmod y):=Int.gcd_add_mul_right_right _ _ _
 rw[<-e,Int.mul_comm (x.fdiv y) y,Int.add_comm,q,Int.gcd_comm]
def ga{t b T B:Int}(h:b≠0)(h1:-T<=t)(h2:t<=T)(h3:-B<=b)(h4:b<=B)(hT:0<=T)(hB:0<=B):-T<=aF t b/\aF t b<=T/\0 < aG t b/\aG t b<=B:=by
 have gp:(0:Int) < (Int.gcd t b:Int):=Int.natCast_pos.mpr (fj h)
 have L:=(cz (t:=t) h).pos
 have key:∀z M:Int,0<=M->-M<=z->z<=M->-M<=z / (Int.gcd t b:Int)/\z / (Int.gcd t b:Int)<=M:=fun z M hM z1 z2=>by
  generalize (Int.gcd t b:Int)=g at gp
  have m2:M * 1<=M * g:=Int.mul_le_mul_of_nonneg_left (by omega) hM
  have m3:-M * g = -(M * g):=Int.neg_mul M g
  exact⟨Int.le_ediv_of_mul_le gp (by omega),Int.ediv_le_of_le_mul gp (by omega)⟩
 have k1:=key (if b < 0 then -t else t) T hT (by split<;>omega) (by split<;>omega)
 have k2:=key (if b < 0 then -b else b) B hB (by split<;>omega) (by split<;>omega)
 exact⟨k1.1,k1.2,L,k2.2⟩
end M3
namespace Xc
open PySem PySem.W PySem.Calls PyProof.Rows Builtin Builtin.ObjectAttr
structure DU (h:Heap) (e:Addr) (oe:Obj) (vs:Vw):Prop where
 at_:h.get? e=some oe
 dat:oe.data = .fields vs
 tb:vs[1]?=some .none\/∃T oT ts,vs[1]?=some (.ref T)/\T≠e/\h.get? T=some oT/\oT.data = .fields ts/\ts[3]?=some .none
end Xc
namespace L2
open PySem PySem.Spec PyProof.Rows Xc
def ER(X:Cx)(pins:Va)(H:Hp)(h:Heap)(a C dx:Addr):Prop:=
 ∃oe vs,DU h a oe vs/\oe.cls = .ref C/\oe.dict=some dx/\fT X pins H a/\∀T,vs[1]?=some (.ref T)->fT X pins H T
def XD(dx:Addr)(fs:List (Str×V))(h:Heap):Prop:=∃mA,h.Ns1 dx mA/\(∀f,Gp (fs.lookup f) (mA f))/\PySem.Within mA (fs.map (·.1))
end L2
namespace L3
open PySem L2
inductive PV where
 |non|bl (b:Bool)|int (i:Int)|str (x:Str)|tup (xs:List PV)|cl (xs:List PV)|ref (a:Addr)|ty (n:String)|exc (c:Str) (ks:Vs) (ps:List PV)|cls (c:Str)
def Ko(K:Vo)(H:Hp)(a:Addr)(xs:List V):Prop:=
 (∃o,H a=some (.frz o (.lst xs))) \/
  ∃(o:Obj) (its:Vw) (n:Nat),K.lookup a=some o/\o.cls = .type "list"/\o.dict=none/\o.data = .seq its n/\its.size<=sizeLine/\Vals xs its.toList
def Ko.sq{K:Vo}{H:Hp}{a:Addr}{xs:List V}(h:Ko K H a xs):SqL K H a xs:=h.elim (fun z=>.inl (.inr z)) .inr
def Lc(H:Hp)(a C:Addr)(ks:Vs)(vs:List V):Prop:=
 ∃oe dx od,H a=some (.frz oe (.ext fun _=>True))/\oe.cls = .ref C/\oe.dict=some dx/\(∀c,oe.data ≠ .cls c)/\H dx=some (.frz od (.ext (XD dx (ks.zip vs))))
def Hg(K:Vo)(c:Str)(C:Addr):Prop:=PySem.W.nsIn K mainGlobals c=some (some (.ref C))
mutual
inductive Rep (K:Vo) (H:Hp):V->PV->Prop
 |non:Rep K H .non .non
 |bl (b:Bool):Rep K H (.bl b) (.bl b)
 |int (i:Int):Rep K H (.int i) (.int i)
 |str (x:Str):Rep K H (.str x) (.str x)
 |ty (n:String):Rep K H (.ty n) (.ty n)
 |ref (a:Addr):Rep K H (.ref a) (.ref a)
 |tup {a:Addr} {vs:List V} {ps:List PV}:SqT K H a vs->Reps K H vs ps->Rep K H (.ref a) (.tup ps)
 |cl {a:Addr} {vs:List V} {ps:List PV}:Ko K H a vs->Reps K H vs ps->Rep K H (.ref a) (.cl ps)
 |exc {a C:Addr} {c:Str} {ks:Vs} {vs:List V} {ps:List PV}:Hg K c C->Lc H a C ks vs->Reps K H vs ps->Rep K H (.ref a) (.exc c ks ps)
 |cls {C:Addr} {c:Str}:Hg K c C->Rep K H (.ref C) (.cls c)
inductive Reps (K:Vo) (H:Hp):List V->List PV->Prop
 |nil:Reps K H [] []
 |cons {v:V} {p:PV} {vs:List V} {ps:List PV}:Rep K H v p->Reps K H vs ps->Reps K H (v::vs) (p::ps)
end
structure Grow (K:Vo) (H H':Hp):Prop where
 t:∀a vs,SqT K H a vs->SqT K H' a vs
 c:∀a vs,Ko K H a vs->Ko K H' a vs
 x:∀a o u,H a=some (.frz o u)->H' a=some (.frz o u)
def Grow.refl{K:Vo}{H:Hp}:Grow K H H:=⟨fun _ _ h=>h,fun _ _ h=>h,fun _ _ _ h=>h⟩
def Grow.trans{K:Vo}{H H1 H2:Hp}(a:Grow K H H1)(b:Grow K H1 H2):Grow K H H2:=⟨fun x vs h=>b.t x vs (a.t x vs h),fun x vs h=>b.c x vs (a.c x vs h),fun x o u h=>b.x x o u (a.x x o u h)⟩
def Lc.mono{K:Vo}{H H':Hp}(g:Grow K H H'){a C:Addr}{ks:Vs}{vs:List V}(h:Lc H a C ks vs):Lc H' a C ks vs:=let ⟨oe,dx,od,h1,h2,h3,h4,h5⟩:=h;⟨oe,dx,od,g.x _ _ _ h1,h2,h3,h4,g.x _ _ _ h5⟩
def Grow.of{K:Vo}{H H':Hp}(h:∀a xs,H a=some (.tup xs)->H' a=some (.tup xs))(h2:∀a o u,H a=some (.frz o u)->H' a=some (.frz o u)):Grow K H H':=by
 refine⟨fun a vs q=>?_,fun a vs q=>?_,h2⟩
 ·rcases q with(q|⟨o,q⟩)|q
  ·exact .inl (.inl (h a vs q))
  ·exact .inl (.inr ⟨o,h2 a o _ q⟩)
  ·exact .inr q
 ·rcases q with⟨o,q⟩|q
  ·exact .inl ⟨o,h2 a o _ q⟩
  ·exact .inr q
def Grow.same{K:Vo}{H H':Hp}(h:∀c o,H c=some o->H' c=some o):Grow K H H':=.of (fun a _ q=>h a _ q) (fun a _ _ q=>h a _ q)
def Grow.new{K:Vo}{H:Hp}{p:Addr}{o:HO}(h:H p=none):Grow K H (upd H p o):=.same fun c u q=>by rw[aC (bf q h)];exact q
noncomputable def Mu:HO->Prop
 | .tup _=>False
 | .frz _ _=>False
 |_=>True
def Grow.mut{K:Vo}{H:Hp}{p:Addr}{o u:HO}(h:H p=some u)(m:Mu u):Grow K H (upd H p o):=
 .of (fun a xs q=>by rw[aC (fun e=>by subst e;rw[h]at q;cases q;exact m)];exact q) (fun a _ _ q=>by rw[aC (fun e=>by subst e;rw[h]at q;cases q;exact m)];exact q)
mutual
theorem Rep.mono{K:Vo}{H H':Hp}(g:Grow K H H'):∀{v:V} {p:PV},Rep K H v p->Rep K H' v p
 |_,_,.non=>.non
 |_,_,.bl b=>.bl b
 |_,_,.int i=>.int i
 |_,_,.str x=>.str x
 |_,_,.ty n=>.ty n
 |_,_,.ref a=>.ref a
 |_,_,.tup h r=>.tup (g.t _ _ h) (Reps.mono g r)
 |_,_,.cl h r=>.cl (g.c _ _ h) (Reps.mono g r)
 |_,_,.exc n h r=>.exc n (h.mono g) (Reps.mono g r)
 |_,_,.cls n=>.cls n
theorem Reps.mono{K:Vo}{H H':Hp}(g:Grow K H H'):∀{vs:List V} {ps:List PV},Reps K H vs ps->Reps K H' vs ps
 |_,_,.nil=>.nil
 |_,_,.cons a r=>.cons (Rep.mono g a) (Reps.mono g r)
end
theorem Reps.length{K:Vo}{H:Hp}:∀{vs:List V} {ps:List PV},Reps K H vs ps->vs.length=ps.length
 |_,_,.nil=>rfl
 |_,_,.cons _ r=>by rw[List.length_cons,List.length_cons,Reps.length r]
theorem Reps.append{K:Vo}{H:Hp}:∀{vs us:List V} {ps qs:List PV},Reps K H vs ps->Reps K H us qs->Reps K H (vs++us) (ps++qs)
 |_,_,_,_,.nil,s=>s
 |_,_,_,_,.cons a r,s=>.cons a (Reps.append r s)
theorem Reps.get{K:Vo}{H:Hp}:∀{vs:List V} {ps:List PV} {i:Nat} {p:PV},Reps K H vs ps->ps[i]?=some p->∃v,vs[i]?=some v/\Rep K H v p
 |_,_,_,_,.nil,e=>by simp at e
 |_,_,0,_,.cons a r,e=>by simp at e;subst e;exact⟨_,rfl,a⟩
 |_,_,i+1,p,.cons a r,e=>by
  obtain⟨v,h1,h2⟩:=Reps.get (i:=i) (p:=p) r (by simpa using e)
  exact⟨v,by simpa using h1,h2⟩
theorem Reps.take{K:Vo}{H:Hp}:∀{vs:List V} {ps:List PV} (n:Nat),Reps K H vs ps->Reps K H (vs.take n) (ps.take n)
 |_,_,0,_=>.nil
 |_,_,_+1,.nil=>.nil
 |_,_,n+1,.cons a r=>.cons a (Reps.take n r)
theorem Reps.drop{K:Vo}{H:Hp}:∀{vs:List V} {ps:List PV} (n:Nat),Reps K H vs ps->Reps K H (vs.drop n) (ps.drop n)
 |_,_,0,r=>r
 |_,_,_+1,.nil=>.nil
 |_,_,n+1,.cons _ r=>Reps.drop n r
theorem Reps.set{K:Vo}{H:Hp}{v:V}{p:PV}(q:Rep K H v p):∀{vs:List V} {ps:List PV} (n:Nat),Reps K H vs ps->Reps K H (vs.set n v) (ps.set n p)
 |_,_,_,.nil=>.nil
 |_,_,0,.cons _ r=>.cons q r
 |_,_,n+1,.cons a r=>.cons a (Reps.set q n r)
theorem Reps.eraseIdx{K:Vo}{H:Hp}:∀{vs:List V} {ps:List PV} (n:Nat),Reps K H vs ps->Reps K H (vs.eraseIdx n) (ps.eraseIdx n)
 |_,_,_,.nil=>.nil
 |_,_,0,.cons _ r=>r
 |_,_,n+1,.cons a r=>.cons a (Reps.eraseIdx n r)
theorem Reps.reverse{K:Vo}{H:Hp}:∀{vs:List V} {ps:List PV},Reps K H vs ps->Reps K H vs.reverse ps.reverse
 |_,_,.nil=>.nil
 |_,_,.cons a r=>by rw[List.reverse_cons,List.reverse_cons];exact(Reps.reverse r).append (.cons a .nil)
theorem Reps.dropLast{K:Vo}{H:Hp}{vs:List V}{ps:List PV}(r:Reps K H vs ps):Reps K H vs.dropLast ps.dropLast:=by
 rw[List.dropLast_eq_take,List.dropLast_eq_take,r.length]
 exact r.take _
inductive SO where
 |lst (xs:List PV)
 |dct (kvs:List (b9×PV))
 |ins (c:Str) (fs:List (Str×PV))
abbrev aw:=Addr->Option SO
noncomputable def Fc(S:aw)(a:Addr)(o:SO):aw:=fun b=>if b=a then some o else S b
def aa{S:aw}{a:Addr}{o:SO}:Fc S a o a=some o:=by unfold Fc;rw[if_pos rfl]
def aq{S:aw}{a b:Addr}{o:SO}(h:b≠a):Fc S a o b=S b:=by unfold Fc;rw[if_neg h]
inductive Fl (K:Vo) (H:Hp) {κ:Type}:List (κ×V)->List (κ×PV)->Prop
 |nil:Fl K H [] []
 |cons {k:κ} {v:V} {p:PV} {vs:List (κ×V)} {ps:List (κ×PV)}:Rep K H v p->Fl K H vs ps->Fl K H ((k,v)::vs) ((k,p)::ps)
theorem Fl.mono{K:Vo}{H H':Hp}(g:Grow K H H'){κ:Type}:∀{vs:List (κ×V)} {ps:List (κ×PV)},Fl K H vs ps->Fl K H' vs ps
 |_,_,.nil=>.nil
 |_,_,.cons a r=>.cons (a.mono g) (Fl.mono g r)
theorem Fl.length{K:Vo}{H:Hp}{κ:Type}:∀{vs:List (κ×V)} {ps:List (κ×PV)},Fl K H vs ps->vs.length=ps.length
 |_,_,.nil=>rfl
 |_,_,.cons _ r=>by rw[List.length_cons,List.length_cons,Fl.length r]
noncomputable def HQ(K:Vo)(H:Hp)(a:Addr):SO->Prop
 | .lst xs=>∃vs,H a=some (.lst vs)/\Reps K H vs xs
 | .dct kvs=>∃kv,H a=some (.dK kv)/\Fl K H kv kvs
 | .ins c fs=>∃C dx f',Hg K c C/\H a=some (.ins C dx f')/\Fl K H f' fs
theorem HQ.stay{K:Vo}{H H':Hp}(g:Grow K H H'){a:Addr}(e:H' a=H a):∀{o:SO},HQ K H a o->HQ K H' a o
 | .lst _,⟨vs,h,r⟩=>⟨vs,e.trans h,r.mono g⟩
 | .dct _,⟨vs,h,r⟩=>⟨vs,e.trans h,r.mono g⟩
 | .ins _ _,⟨C,dx,vs,n,h,r⟩=>⟨C,dx,vs,n,e.trans h,r.mono g⟩
theorem HQ.some{K:Vo}{H:Hp}{a:Addr}:∀{o:SO},HQ K H a o->∃u,H a=Option.some u/\Mu u
 | .lst _,⟨_,h,_⟩=>⟨_,h,trivial⟩
 | .dct _,⟨_,h,_⟩=>⟨_,h,trivial⟩
 | .ins _ _,⟨_,_,_,_,h,_⟩=>⟨_,h,trivial⟩
def Fh(K:Vo)(H:Hp)(S:aw):Prop:=∀a o,S a=some o->HQ K H a o
def Fh.free{K:Vo}{H:Hp}{S:aw}(r:Fh K H S){p:Addr}(h:H p=none):S p=none:=by
 cases e:S p with
 |none=>rfl
 |some o=>
  obtain⟨u,q,_⟩:=(r p o e).some
  rw[h]at q;cases q
def Fh.grow{K:Vo}{H H':Hp}{S:aw}(r:Fh K H S)(h:∀c o,H c=some o->H' c=some o):Fh K H' S:=fun a o e=>by
 obtain⟨u,q,_⟩:=(r a o e).some
 exact(r a o e).stay (.same h) ((h a u q).trans q.symm)
def Fh.other{K:Vo}{H:Hp}{S:aw}(r:Fh K H S){p:Addr}{o:HO}(h:H p=none):Fh K (upd H p o) S:=r.grow fun c u q=>by rw[aC (bf q h)];exact q
theorem Fh.new{K:Vo}{H:Hp}{S:aw}(r:Fh K H S){p:Addr}{u:HO}{o:SO}(h:H p=none)(q:HQ K (upd H p u) p o):Fh K (upd H p u) (Fc S p o):=fun a x e=>by
 by_cases z:a=p
 ·subst z;rw[aa]at e;cases e;exact q
 ·rw[aq z]at e;exact(r a x e).stay (.new h) (aC z)
def Fh.put{K:Vo}{H:Hp}{S:aw}(r:Fh K H S){p:Addr}{u0 u:HO}{o:SO}(h:H p=some u0)(m:Mu u0)(q:HQ K (upd H p u) p o):Fh K (upd H p u) (Fc S p o):=fun a x e=>by
 by_cases z:a=p
 ·subst z;rw[aa]at e;cases e;exact q
 ·rw[aq z]at e;exact(r a x e).stay (.mut h m) (aC z)
abbrev cZ:=List (Option PV)
noncomputable def lk:cZ->Nat->Option PV
 |[],_=>none
 |x::_,0=>x
 |_::r,i+1=>lk r i
def t7{σ:cZ}{i:Nat}{p:PV}(h:lk σ i=some p):σ[i]?=some (some p):=by
 induction σ generalizing i with
 |nil=>cases h
 |cons x r ih=>
  cases i with
  |zero=>exact congrArg some h
  |succ i=>exact ih h
structure Fp (K:Vo) (H:Hp) (σ:St) (σ3:cZ):Prop where
 len:σ.length=σ3.length
 at':∀(i:Nat) (p:PV),σ3[i]?=some (some p)->∃v,σ[i]?=some (some v)/\Rep K H v p
theorem Fp.mono{K:Vo}{H H':Hp}{σ:St}{σ3:cZ}(r:Fp K H σ σ3)(g:Grow K H H'):Fp K H' σ σ3:=⟨r.len,fun i p e=>let ⟨v,h,q⟩:=r.at' i p e;⟨v,h,q.mono g⟩⟩
theorem Fp.set{K:Vo}{H:Hp}{σ:St}{σ3:cZ}(r:Fp K H σ σ3){v:V}{p:PV}(q:Rep K H v p)(i:Nat):Fp K H (σ.set i (some v)) (σ3.set i (some p)):=by
 refine⟨by rw[List.length_set,List.length_set,r.len],fun j x e=>?_⟩
 rw[List.getElem?_set]at e ⊢
 split at e
 ·rename_i hij
  rw[if_pos hij]
  subst hij
  split at e
  ·rename_i hl
   cases e
   rw[if_pos (by rw[r.len];exact hl)]
   exact⟨v,rfl,q⟩
  ·cases e
 ·rename_i hij
  rw[if_neg hij]
  exact r.at' j x e
abbrev bE:=PV->aw->Prop
abbrev ci:=PV->cZ->aw->Prop
abbrev aQ:=cZ->aw->bE->ci->Prop
abbrev jA:=cZ->aw->(Bool->aw->Prop)->ci->Prop
abbrev ES:=cZ->aw->(List PV->aw->Prop)->ci->Prop
structure kf where
 nx:cZ->aw->Prop
 rt:bE
 ex:ci
 bk:cZ->aw->Prop:=fun _ _=>False
 ct:cZ->aw->Prop:=fun _ _=>False
abbrev bS:=kf->cZ->aw->Prop
def I9(X:Cx)(H:Hp)(E:ci):Prop:=∀(c:Str) (ks:Vs) (ps:List PV) (σ3:cZ) (S':aw) (H':Hp) (pins:Va) (σ:St) (s':Shared) (a C dx:Addr) (od:Obj) (vs:List V),E (.exc c ks ps) σ3 S'->Hg X.K c C->vs.length=ks.length->
 H' dx=some (.frz od (.ext (XD dx (ks.zip vs))))->Reps X.K H' vs ps->Fh X.K H' S'->Fp X.K H' σ σ3->Grow X.K H H'->Inv X pins σ H' s'->ER X pins H' s'.heap a C dx->X.xe (.ref a) s'
def I9.mono{X:Cx}{H H':Hp}{E:ci}(x:I9 X H E)(g:Grow X.K H H'):I9 X H' E:=fun c ks ps σ3 S' H2 pins σ s' a C dx od vs h1 h2 h3 h4 h5 h6 h7 h8 h9 Nn=>x c ks ps σ3 S' H2 pins σ s' a C dx od vs h1 h2 h3 h4 h5 h6 h7 (g.trans h8) h9 Nn
def I_(K:Vo)(H:Hp)(Q3:bE)(Q:VK):Prop:=∀p S' v H',Q3 p S'->Rep K H' v p->Fh K H' S'->Grow K H H'->Q v H'
def I_.mono{K:Vo}{H H':Hp}{Q3:bE}{Q:VK}(r:I_ K H Q3 Q)(g:Grow K H H'):I_ K H' Q3 Q:=fun p S' v H2 h1 h2 h3 h4=>r p S' v H2 h1 h2 h3 (g.trans h4)
def Kp(K:Vo)(H:Hp)(N3:cZ->aw->Prop)(N:St->Hp->Prop):Prop:=∀σ3 S' σ H',N3 σ3 S'->Fp K H' σ σ3->Fh K H' S'->Grow K H H'->N σ H'
def Kp.mono{K:Vo}{H H':Hp}{Q3:cZ->aw->Prop}{Q:St->Hp->Prop}(r:Kp K H Q3 Q)(g:Grow K H H'):Kp K H' Q3 Q:=fun p S' v H2 h1 h2 h3 h4=>r p S' v H2 h1 h2 h3 (g.trans h4)
def LE(X:Cx)(t:aQ):TE:=fun σ H Q=>∃σ3 S Q3 E3,Fp X.K H σ σ3/\Fh X.K H S/\t σ3 S Q3 E3/\I9 X H E3/\I_ X.K H Q3 Q
def LT(X:Cx)(t:jA):TT:=fun σ H Q=>∃σ3 S Q3 E3,Fp X.K H σ σ3/\Fh X.K H S/\t σ3 S Q3 E3/\I9 X H E3/\∀b S' H',Q3 b S'->Fh X.K H' S'->Grow X.K H H'->Q b H'
def LS(X:Cx)(t:bS):TS:=fun D σ H=>∃σ3 S D3,Fp X.K H σ σ3/\Fh X.K H S/\t D3 σ3 S/\I9 X H D3.ex/\Kp X.K H D3.nx D.nx/\I_ X.K H D3.rt D.rt/\Kp X.K H D3.bk D.bk/\Kp X.K H D3.ct D.ct
structure a_ (X:Cx) (e:Expr) (t:aQ):Prop where
 ok:PE X e (LE X t)
structure pD (X:Cx) (e:Expr) (t:jA):Prop where
 ok:PT X e (LT X t)
structure zK (X:Cx) (e:Expr) (t:jA):Prop where
 ok:PW X e (LT X t)
structure oI (X:Cx) (st:Stmt) (t:bS):Prop where
 ok:PS X st (LS X t)
structure jJ (X:Cx) (st:List Stmt) (t:bS):Prop where
 ok:Iy X st (LS X t)
def aK{X:Cx}{e:Expr}{t t':TE}(h:PE X e t)(k:∀σ H Q,t' σ H Q->t σ H Q):PE X e t':=fun pins s σ H Q I q=>h pins s σ H Q I (k σ H Q q)
def pE{X:Cx}{e:Expr}{t t':TT}(h:PT X e t)(k:∀σ H Q,t' σ H Q->t σ H Q):PT X e t':=fun pins s σ H Q I q=>h pins s σ H Q I (k σ H Q q)
def t8{X:Cx}{e:Expr}{t t':TT}(h:PW X e t)(k:∀σ H Q,t' σ H Q->t σ H Q):PW X e t':=fun wh pins s σ H Q I q=>h wh pins s σ H Q I (k σ H Q q)
def dC{X:Cx}{e:Stmt}{t t':TS}(h:PS X e t)(k:∀D σ H,t' D σ H->t D σ H):PS X e t':=fun pins s σ H D I q=>h pins s σ H D I (k D σ H q)
def qD{X:Cx}{e:List Stmt}{t t':TS}(h:Iy X e t)(k:∀D σ H,t' D σ H->t D σ H):Iy X e t':=fun pins s σ H D I q=>h pins s σ H D I (k D σ H q)
section
variable {X:Cx} {a b c e o:Expr} {es:List Expr} {ta tb tc te:aQ} {pos:Pos}
def v3(i:Nat):aQ:=fun σ S Q _=>match lk σ i with|some p=>Q p S|none=>False
def ad(i:Nat){x:Str}(hN:X.N[i]?=some x:=by rfl)(hv:CS X.env.scope x:=by first|exact Or.inl rfl|exact Or.inr (Or.inl rfl)|exact Or.inr (Or.inr rfl))(hd:(x == ("__debug__":Str))=false:=by decide)
  (hcd:(x == ("__classdict__":Str))=false:=by decide):a_ X (.Name x pos) (v3 i):=
 ⟨aK (yJ hN hv hd hcd) fun σ H Q ⟨σ3,S,Q3,E3,rσ,rS,h,xo,k⟩=>by
  unfold v3 at h
  split at h
  ·rename_i p e
   obtain⟨v,ev,rv⟩:=rσ.at' i p (t7 e)
   exact⟨v,ev,k p S v H h rv rS .refl⟩
  ·exact h.elim⟩
def c3(p:PV):aQ:=fun _ S Q _=>Q p S
def ag{i:Int}{j:Nat}:a_ X (.Constant (.int i) j pos) (c3 (.int i)):=⟨aK yK fun σ H Q ⟨σ3,S,Q3,E3,rσ,rS,h,xo,k⟩=>k _ S _ H h (.int i) rS .refl⟩
def fk{i:Bool}{j:Nat}:a_ X (.Constant (.bool i) j pos) (c3 (.bl i)):=⟨aK A4 fun σ H Q ⟨σ3,S,Q3,E3,rσ,rS,h,xo,k⟩=>k _ S _ H h (.bl i) rS .refl⟩
def cM{i:Str}{j:Nat}:a_ X (.Constant (.str i) j pos) (c3 (.str i)):=⟨aK yM fun σ H Q ⟨σ3,S,Q3,E3,rσ,rS,h,xo,k⟩=>k _ S _ H h (.str i) rS .refl⟩
def g6{j:Nat}:a_ X (.Constant .none j pos) (c3 .non):=⟨aK yL fun σ H Q ⟨σ3,S,Q3,E3,rσ,rS,h,xo,k⟩=>k _ S _ H h .non rS .refl⟩
def DV{x:Str}{n:String}(hg:Gl X x)(hm:X.mg x=none)(hv:bootBuiltins x=some (.type n))(hn:x ≠ "__name__":=by decide)(hd:(x == ("__debug__":Str))=false:=by decide):a_ X (.Name x pos) (c3 (.ty n)):=
 ⟨aK (vS (v:=.ty n) hg hm hv rfl hn hd) fun σ H Q ⟨σ3,S,Q3,E3,rσ,rS,h,xo,k⟩=>k _ S _ H h (.ty n) rS .refl⟩
noncomputable def af:List aQ->ES
 |[],_,S,Q,_=>Q [] S
 |t::ts,σ,S,Q,E=>t σ S (fun x S1=>af ts σ S1 (fun xs S2=>Q (x::xs) S2) E) E
noncomputable def C3:List TE->TA
 |[]=>wb
 |t::ts=>tD t (C3 ts)
structure kg (X:Cx) (es:List Expr) (ts:List aQ):Prop where
 ok:PA X es (C3 (ts.map (LE X)))
def t9:kg X [] []:=⟨zi⟩
def t_{ts:List aQ}(hs:starEach (e::es) X.env=(false,eval e X.env)::starEach es X.env)(ha:a_ X e te)(hr:kg X es ts):kg X (e::es) (te::ts):=⟨wc ha.ok hr.ok hs⟩
theorem cH:∀{ts:List aQ} {σ:L2.St} {H:Hp} {Q:List V->Hp->Prop} {σ3:cZ} {S:aw} {Q3:List PV->aw->Prop} {E3:ci},Fp X.K H σ σ3->Fh X.K H S->af ts σ3 S Q3 E3->I9 X H E3->
  (∀ps S' vs H',ps.length=ts.length->Q3 ps S'->Reps X.K H' vs ps->Fh X.K H' S'->Grow X.K H H'->Q vs H')->C3 (ts.map (LE X)) σ H Q
 |[],σ,H,Q,σ3,S,Q3,E3,rσ,rS,h,xo,k=>k [] S [] H rfl h .nil rS .refl
 |t::ts,σ,H,Q,σ3,S,Q3,E3,rσ,rS,h,xo,k=>
  ⟨σ3,S,_,E3,rσ,rS,h,xo,fun p S1 v H1 h1 rv Fm g1=>cH (rσ.mono g1) Fm h1 (xo.mono g1) fun ps S2 vs H2 hl h2 LY GL g2=>k (p::ps) S2 (v::vs) H2 (by rw[List.length_cons,List.length_cons,hl]) h2 (.cons (rv.mono g2) LY) GL (g1.trans g2)⟩
def aS(ts:List aQ):aQ:=fun σ S Q E=>af ts σ S (fun xs S1=>Q (.tup xs) S1) E
def bx{ts:List aQ}{x1:Nat}(h:kg X es ts)(hn:ts.length<=1000:=by exact Nat.le_of_ble_eq_true rfl):a_ X (.Tuple es x1 pos) (aS ts):=
 ⟨aK (zj h.ok) fun σ H Q ⟨σ3,S,Q3,E3,rσ,rS,hq,xo,k⟩=>cH rσ rS hq xo fun ps S' vs H' hl q rv GB g=>
  ⟨Nat.le_of_lt (gS (by rw[rv.length,hl];exact hn)),fun p hp=>k _ S' _ _ q (.tup (SqT.of aB) (rv.mono (.new hp))) (GB.other hp) (g.trans (.new hp))⟩⟩
def cO(ts:List aQ):aQ:=fun σ S Q E=>af ts σ S (fun xs S1=>∀p,S1 p=none->Q (.ref p) (Fc S1 p (.lst xs))) E
def fN{ts:List aQ}(h:kg X es ts)(hn:ts.length<=1000:=by exact Nat.le_of_ble_eq_true rfl):a_ X (.List es pos) (cO ts):=
 ⟨aK (zk h.ok) fun σ H Q ⟨σ3,S,Q3,E3,rσ,rS,hq,xo,k⟩=>cH rσ rS hq xo fun ps S' vs H' hl q rv GB g=>
  ⟨Nat.le_of_lt (gS (by rw[rv.length,hl];exact hn)),fun p hp=>k _ _ _ _ (q p (GB.free hp)) (.ref p) (GB.new hp ⟨vs,aB,rv.mono (.new hp)⟩) (g.trans (.new hp))⟩⟩
abbrev R3:=PV->PV->aw->bE->Prop
def LR(X:Cx)(r:R3):R2:=fun x y H Q=>∃px py S Q3,Rep X.K H x px/\Rep X.K H y py/\Fh X.K H S/\r px py S Q3/\I_ X.K H Q3 Q
structure ig (X:Cx) (f:Value->Value->Sem Value) (r:R3):Prop where
 ok:gU X f (LR X r)
def ai(r:R3)(ta tb:aQ):aQ:=fun σ S Q E=>ta σ S (fun x S1=>tb σ S1 (fun y S2=>r x y S2 Q) E) E
def iI{r:R3}{σ:L2.St}{H:Hp}{Q:VK}:LE X (ai r ta tb) σ H Q->AM (LR X r) (LE X ta) (LE X tb) σ H Q:=fun⟨σ3,S,Q3,E3,rσ,rS,h,xo,k⟩=>
 ⟨σ3,S,_,E3,rσ,rS,h,xo,fun x S1 v H1 h1 rx Fm g1=>⟨σ3,S1,_,E3,rσ.mono g1,Fm,h1,xo.mono g1,fun y S2 u H2 h2 ry GL g2=>⟨x,y,S2,Q3,rx.mono g2,ry,GL,h2,k.mono (g1.trans g2)⟩⟩⟩
def ax{op:Operator}{r:R3}(ho:ig X (binaryOp op) r)(ha:a_ X a ta)(hb:a_ X b tb):a_ X (.BinOp a op b pos) (ai r ta tb):=⟨aK (Be ho.ok ha.ok hb.ok) fun _ _ _=>iI⟩
def eQ{op:CmpOp}{r:R3}(ho:ig X (compareOp op) r)(ha:a_ X a ta)(hb:a_ X b tb)(hm:behindInMarks op b=false):a_ X (.Compare a [op] [b] pos) (ai r ta tb):=⟨aK (v7 ho.ok ha.ok hb.ok hm) fun _ _ _=>iI⟩
def bg(t:aQ):jA:=fun σ S Q E=>t σ S (fun v S'=>match v with | .bl k=>Q k S'|_=>False) E
def ua{σ:L2.St}{H:Hp}{Q:Bool->Hp->Prop}:LT X (bg te) σ H Q->LE X te σ H (fun x H'=>∃k,x = .bl k/\Q k H'):=fun⟨σ3,S,Q3,E3,rσ,rS,h,xo,k⟩=>
 ⟨σ3,S,_,E3,rσ,rS,h,xo,fun p S' v H' h1 rv GB g=>by
  cases p with
  |bl z=>cases rv;exact⟨z,rfl,k z S' H' h1 GB g⟩
  |_=>exact h1.elim⟩
def cI{op:CmpOp}{r:R3}(ho:ig X (compareOp op) r)(ha:a_ X a ta)(hb:a_ X b tb)(hm:behindInMarks op b=false):pD X (.Compare a [op] [b] pos) (bg (ai r ta tb)):=
 ⟨pE (v8 ho.ok ha.ok hb.ok hm) fun σ H Q ⟨σ3,S,Q3,E3,rσ,rS,h,xo,k⟩=>iI ⟨σ3,S,_,E3,rσ,rS,h,xo,fun p S' v H' h1 rv GB g=>by
  cases p with
  |bl z=>cases rv;exact⟨z,rfl,k z S' H' h1 GB g⟩
  |_=>exact h1.elim⟩⟩
def dH(h:a_ X e te)(he:∀whole,isTrue e X.env whole=(do let v <-whole;standAt e.pos;holding [v] (truthy v)):=by intro _;rfl):pD X e (bg te):=
 ⟨pE (yN h.ok he) fun σ H Q q=>ua q⟩
end
section
variable {X:Cx} {a b c:Expr} {rest:List Expr} {ta tb te:aQ} {tA tB:jA} {pos:Pos}
def jK(t u:jA):jA:=fun σ S Q E=>t σ S (fun c S1=>if c=true then u σ S1 Q E else Q false S1) E
def jL(t u:jA):jA:=fun σ S Q E=>t σ S (fun c S1=>if c=true then Q true S1 else u σ S1 Q E) E
def df(t:jA):jA:=fun σ S Q E=>t σ S (fun c S1=>Q (!c) S1) E
def mz(ha:pD X a tA):zK X (.BoolOp .And [a] pos) tA:=⟨vT ha.ok⟩
def g7(ha:pD X a tA):zK X (.BoolOp .Or [a] pos) tA:=⟨yO ha.ok⟩
def qE(ha:pD X a tA)(hb:zK X (.BoolOp .And (b::rest) pos) tB):zK X (.BoolOp .And (a::b::rest) pos) (jK tA tB):=
 ⟨t8 (yP ha.ok hb.ok) fun σ H Q ⟨σ3,S,Q3,E3,rσ,rS,h,xo,k⟩=>⟨σ3,S,_,E3,rσ,rS,h,xo,fun c S1 H1 h1 Fm g1=>by
  cases c with
  |true=>rw[if_pos rfl]at h1 ⊢;exact⟨σ3,S1,Q3,E3,rσ.mono g1,Fm,h1,xo.mono g1,fun b S2 H2 h2 GL g2=>k b S2 H2 h2 GL (g1.trans g2)⟩
  |false=>rw[if_neg (by decide)]at h1 ⊢;exact k false S1 H1 h1 Fm g1⟩⟩
def k4(ha:pD X a tA)(hb:zK X (.BoolOp .Or (b::rest) pos) tB):zK X (.BoolOp .Or (a::b::rest) pos) (jL tA tB):=
 ⟨t8 (A5 ha.ok hb.ok) fun σ H Q ⟨σ3,S,Q3,E3,rσ,rS,h,xo,k⟩=>⟨σ3,S,_,E3,rσ,rS,h,xo,fun c S1 H1 h1 Fm g1=>by
  cases c with
  |true=>rw[if_pos rfl]at h1 ⊢;exact k true S1 H1 h1 Fm g1
  |false=>rw[if_neg (by decide)]at h1 ⊢;exact⟨σ3,S1,Q3,E3,rσ.mono g1,Fm,h1,xo.mono g1,fun b S2 H2 h2 GL g2=>k b S2 H2 h2 GL (g1.trans g2)⟩⟩⟩
def qF(h:zK X a tA):pD X a tA:=⟨h.ok.pt⟩
def eR(ha:pD X a tA):pD X (.UnaryOp .Not a pos) (df tA):=
 ⟨pE (yQ ha.ok) fun σ H Q ⟨σ3,S,Q3,E3,rσ,rS,h,xo,k⟩=>⟨σ3,S,_,E3,rσ,rS,h,xo,fun c S1 H1 h1 Fm g1=>k (!c) S1 H1 h1 Fm g1⟩⟩
def dv(t u:aQ):aQ:=fun σ S Q E=>t σ S (fun v S1=>match v with | .bl c=>if c=true then u σ S1 Q E else Q (.bl false) S1|_=>False) E
def lM(t:aQ):aQ:=fun σ S Q E=>t σ S (fun v S1=>match v with | .bl c=>Q (.bl (!c)) S1|_=>False) E
def lN{op:BoolOp}(h:a_ X a ta):a_ X (.BoolOp op [a] pos) ta:=⟨yR h.ok⟩
def kh(ha:a_ X a ta)(hb:a_ X (.BoolOp .And (b::rest) pos) tb):a_ X (.BoolOp .And (a::b::rest) pos) (dv ta tb):=
 ⟨aK (yS ha.ok hb.ok) fun σ H Q ⟨σ3,S,Q3,E3,rσ,rS,h,xo,k⟩=>⟨σ3,S,_,E3,rσ,rS,h,xo,fun p S1 v H1 h1 rv Fm g1=>by
  cases p with
  |bl z=>
   cases rv
   refine⟨z,rfl,?_⟩
   cases z with
   |true=>rw[if_pos rfl];exact⟨σ3,S1,Q3,E3,rσ.mono g1,Fm,h1,xo.mono g1,k.mono g1⟩
   |false=>rw[if_neg (by decide)];exact k _ S1 _ H1 h1 (.bl false) Fm g1
  |_=>exact h1.elim⟩⟩
def BF(ha:a_ X a ta):a_ X (.UnaryOp .Not a pos) (lM ta):=
 ⟨aK (yT ha.ok) fun σ H Q ⟨σ3,S,Q3,E3,rσ,rS,h,xo,k⟩=>⟨σ3,S,_,E3,rσ,rS,h,xo,fun p S1 v H1 h1 rv Fm g1=>by
  cases p with
  |bl z=>cases rv;exact⟨z,rfl,k _ S1 _ H1 h1 (.bl _) Fm g1⟩
  |_=>exact h1.elim⟩⟩
def nK(t:jA)(ta tb:aQ):aQ:=fun σ S Q E=>t σ S (fun c S1=>if c=true then ta σ S1 Q E else tb σ S1 Q E) E
def ya(hc:pD X c tA)(ha:a_ X a ta)(hb:a_ X b tb):a_ X (.IfExp c a b pos) (nK tA ta tb):=
 ⟨aK (sX hc.ok ha.ok hb.ok) fun σ H Q ⟨σ3,S,Q3,E3,rσ,rS,h,xo,k⟩=>⟨σ3,S,_,E3,rσ,rS,h,xo,fun c S1 H1 h1 Fm g1=>by
  cases c with
  |true=>rw[if_pos rfl]at h1 ⊢;exact⟨σ3,S1,Q3,E3,rσ.mono g1,Fm,h1,xo.mono g1,k.mono g1⟩
  |false=>rw[if_neg (by decide)]at h1 ⊢;exact⟨σ3,S1,Q3,E3,rσ.mono g1,Fm,h1,xo.mono g1,k.mono g1⟩⟩⟩
abbrev BG:=PV->aw->bE->Prop
noncomputable def EU(X:Cx)(r:BG):V->Hp->VK->Prop:=fun x H Q=>∃px S Q3,Rep X.K H x px/\Fh X.K H S/\r px S Q3/\I_ X.K H Q3 Q
structure EC (X:Cx) (f:Value->Sem Value) (r:BG):Prop where
 ok:CV X f (EU X r)
def jB(r:BG)(ta:aQ):aQ:=fun σ S Q E=>ta σ S (fun x S1=>r x S1 Q) E
def jM{op:UnaryOp}{r:BG}(ho:EC X (unaryOp op) r)(ha:a_ X a ta):a_ X (.UnaryOp op a pos) (jB r ta):=
 ⟨aK (Bf ho.ok ha.ok) fun σ H Q ⟨σ3,S,Q3,E3,rσ,rS,h,xo,k⟩=>⟨σ3,S,_,E3,rσ,rS,h,xo,fun p S1 v H1 h1 rv Fm g1=>⟨p,S1,Q3,rv,Fm,h1,k.mono g1⟩⟩⟩
noncomputable def dw:BG:=fun x S Q=>match x with | .int i=>Q (.int (-i)) S|_=>False
def dD:EC X (unaryOp .USub) dw:=⟨fun pins s σ H x v Q I rx ⟨px,S,Q3,r1,rS,h,k⟩=>by
 cases px with
 |int i=>cases r1;exact ze pins s σ H _ v Q I rx ⟨i,rfl,k _ S _ H h (.int _) rS .refl⟩
 |_=>exact h.elim⟩
end
section
variable {X:Cx}
def bN(g:Int->Int->PV):R3:=fun x y S Q=>match x,y with | .int i,.int j=>Q (g i j) S|_,_=>False
def d_(C:Int->Int->Prop)(g:Int->Int->PV):R3:=fun x y S Q=>match x,y with | .int i,.int j=>C i j/\Q (g i j) S|_,_=>False
def zL{f:Value->Value->Sem Value}{g:Int->Int->Int}(h:gU X f (vK fun i j=>.int (g i j))):ig X f (bN fun i j=>.int (g i j)):=⟨fun pins s σ H x y v u Q I rx ry ⟨px,py,S,Q3,r1,r2,rS,q,k⟩=>by
 cases px with
 |int i=>
  cases py with
  |int j=>cases r1;cases r2;exact h pins s σ H _ _ v u Q I rx ry ⟨i,j,rfl,rfl,k _ S _ H q (.int _) rS .refl⟩
  |_=>exact q.elim
 |_=>exact q.elim⟩
def jU{f:Value->Value->Sem Value}{g:Int->Int->Bool}(h:gU X f (vK fun i j=>.bl (g i j))):ig X f (bN fun i j=>.bl (g i j)):=⟨fun pins s σ H x y v u Q I rx ry ⟨px,py,S,Q3,r1,r2,rS,q,k⟩=>by
 cases px with
 |int i=>
  cases py with
  |int j=>cases r1;cases r2;exact h pins s σ H _ _ v u Q I rx ry ⟨i,j,rfl,rfl,k _ S _ H q (.bl _) rS .refl⟩
  |_=>exact q.elim
 |_=>exact q.elim⟩
def mB{f:Value->Value->Sem Value}{C:Int->Int->Prop}{g:Int->Int->Int}(h:gU X f (rI C fun i j=>.int (g i j))):ig X f (d_ C fun i j=>.int (g i j)):=⟨fun pins s σ H x y v u Q I rx ry ⟨px,py,S,Q3,r1,r2,rS,q,k⟩=>by
 cases px with
 |int i=>
  cases py with
  |int j=>cases r1;cases r2;exact h pins s σ H _ _ v u Q I rx ry ⟨i,j,rfl,rfl,q.1,k _ S _ H q.2 (.int _) rS .refl⟩
  |_=>exact q.elim
 |_=>exact q.elim⟩
def ki(i j:Int):Prop:=j≠0/\j.natAbs < 2 ^ 8000
def pF{n:Nat}(h:n < 2 ^ 8000):n.log2 < 9000:=by
 by_cases z:n=0
 ·rw[z];decide +kernel
 ·exact Nat.lt_trans ((Nat.log2_lt z).mpr h) (by decide)
def zM:ig X (binaryOp .Sub) (bN fun i j=>.int (i - j)):=zL zc
def zN:ig X (binaryOp .Mod) (d_ (fun _ j=>j≠0) fun i j=>.int (i.fmod j)):=mB v5
def wG:ig X (binaryOp .FloorDiv) (d_ ki fun i j=>.int (i.fdiv j)):=mB (CZ fun _ _ _ _ _ _ _ hc q=>PyProof.Rows.floordiv_int hc.1 q (.inl (PyProof.noPylong_of_log2 (pF hc.2))))
def zO:ig X (binaryOp .Pow) (d_ y_ fun i j=>.int (i ^ j.toNat)):=mB zd
def BH:ig X (compareOp .Lt) (bN fun i j=>.bl (decide (i < j))):=jU Bi
def BI:ig X (compareOp .LtE) (bN fun i j=>.bl (decide (i<=j))):=jU Bj
def BJ:ig X (compareOp .Gt) (bN fun i j=>.bl (decide (j < i))):=jU Bl
def BK:ig X (compareOp .GtE) (bN fun i j=>.bl (decide (j<=i))):=jU Bm
end
end L3
namespace L2
open PySem PySem.Spec PyProof.Rows
section
variable {X:Cx}
def BL(K:Vo):R2:=fun x y H Q=>∃a b xs ys,x = .ref a/\y = .ref b/\SqT K H a xs/\SqT K H b ys/\xs.length+ys.length<=sizeLine/\∀r H',(∀c o,H c=some o->H' c=some o)->SqT K H' r (xs++ys)->Q (.ref r) H'
def wH:gU X (binaryOp .Add) (BL X.K):=by
 intro pins s σ H x y v u Q I rx ry h
 obtain⟨a,b,xs,ys,rfl,rfl,ha,hb,hz,q⟩:=h
 by_cases hx:xs=[]
 ·subst hx
  cases rx
  cases ry
  obtain⟨its,r1,p1,_⟩:=I.tuple ha
  obtain⟨its2,r2,p2,_⟩:=I.tuple hb
  cases r1
  obtain⟨⟨cls,dd,data,sl⟩,ho,hc,n,hd⟩:=id p1
  obtain⟨⟨LG,dd2,data2,sl2⟩,ho2,hc2,n2,hd2⟩:=id p2
  simp only at hc hd hc2 hd2
  subst hc hd hc2 hd2
  exact concat_meets ⟨_,ho,rfl⟩ ⟨_,ho2,rfl⟩ noFill_tuple_add seq_tuple_add PySem.F.slot_tuple_add PySem.F.entry_tuple_add (PySem.F.args_tuple_add_2 _ _)
   (tuple_addW0 a b _ its2.toArray n n2 dd dd2 sl sl2 rfl) ⟨ho,ho2,⟨.ref b,H,I,rfl,q b H (fun _ _ e=>e) hb⟩⟩
 ·exact wq pins s σ H _ _ v u Q I rx ry ⟨a,b,xs,ys,rfl,rfl,ha,hb,hx,hz,fun e=>q a H (fun _ _ e=>e) (by rw[e,List.append_nil];exact ha),
   fun _ p hp=>q p _ (fun c o e=>by rw[aC (bf e hp)];exact e) (SqT.of aB)⟩
end
end L2
namespace L3
open PySem L2
section
variable {X:Cx}
def bv:R3:=fun x y S Q=>match x,y with
 | .int i,.int j=>Q (.int (i+j)) S
 | .str i,.str j=>i.length+j.length<=sizeLine/\Q (.str (i++j)) S
 | .tup i,.tup j=>i.length+j.length<=sizeLine/\Q (.tup (i++j)) S
 | .ref i,.ref j=>match S i,S j with
  |some (.lst xs),some (.lst ys)=>xs.length+ys.length<=sizeLine/\∀p,S p=none->Q (.ref p) (Fc S p (.lst (xs++ys)))
  |_,_=>False
 |_,_=>False
def aT:ig X (binaryOp .Add) bv:=⟨fun pins s σ H x y v u Q I rx ry ⟨px,py,S,Q3,r1,r2,rS,q,k⟩=>by
 unfold bv at q
 split at q
 ·cases r1;cases r2
  exact zb pins s σ H _ _ v u Q I rx ry ⟨_,_,rfl,rfl,k _ S _ H q (.int _) rS .refl⟩
 ·cases r1;cases r2
  exact oR pins s σ H _ _ v u Q I rx ry ⟨_,_,rfl,rfl,q.1,k _ S _ H q.2 (.str _) rS .refl⟩
 ·cases r1 with
  |tup h1 s1=>
   cases r2 with
   |tup h2 s2=>
    refine wH pins s σ H _ _ v u Q I rx ry ⟨_,_,_,_,rfl,rfl,h1,h2,by rw[s1.length,s2.length];exact q.1,fun r H' hs hr=>?_⟩
    exact k _ S _ H' q.2 (.tup hr ((s1.mono (.same hs)).append (s2.mono (.same hs)))) (rS.grow hs) (.same hs)
 ·cases r1;cases r2
  split at q
  ·rename_i i j xs ys e1 e2
   obtain⟨vs,h1,s1⟩:=rS _ _ e1
   obtain⟨us,h2,s2⟩:=rS _ _ e2
   exact zv pins s σ H _ _ v u Q I rx ry ⟨_,_,_,_,rfl,rfl,h1,h2,by rw[s1.length,s2.length];exact q.1,fun p hp=>k _ _ _ _ (q.2 p (rS.free hp)) (.ref p) (rS.new hp ⟨_,aB,(s1.append s2).mono (.new hp)⟩) (.new hp)⟩
  ·exact q.elim
 ·exact q.elim⟩
end
mutual
inductive Dat (S:aw):PV->PyData->Prop
 |non:Dat S .non .none
 |bl (b:Bool):Dat S (.bl b) (.bool b)
 |int (i:Int):Dat S (.int i) (.int i)
 |str (x:Str):Dat S (.str x) (.str x)
 |tup {ps:List PV} {ds:List PyData}:Hh S ps ds->Dat S (.tup ps) (.tuple ds)
 |cl {ps:List PV} {ds:List PyData}:Hh S ps ds->Dat S (.cl ps) (.list ds)
 |ref {a:Addr} {ps:List PV} {ds:List PyData}:S a=some (.lst ps)->Hh S ps ds->Dat S (.ref a) (.list ds)
inductive Hh (S:aw):List PV->List PyData->Prop
 |nil:Hh S [] []
 |cons {p:PV} {d:PyData} {ps:List PV} {ds:List PyData}:Dat S p d->Hh S ps ds->Hh S (p::ps) (d::ds)
end
section
variable {X:Cx} {pins:Va} {σ:L2.St} {H:Hp} {s:Shared} {S:aw}
def pG(I:Inv X pins σ H s)(rS:Fh X.K H S):(∀{p:PV} {d:PyData},Dat S p d->∀{v:V} {u:Value},Rep X.K H v p->RelV v u->∃as,Reads s.heap u d as)/\∀{ps:List PV} {ds:List PyData},Hh S ps ds->∀{vs:List V} {us:Vv},Reps X.K H vs ps->Vals vs us->∃as,ReadsAll s.heap us ds as:=by
 have one:=@Dat.rec S (motive_1:=fun p d _=>∀{v:V} {u:Value},Rep X.K H v p->RelV v u->∃as,Reads s.heap u d as) (motive_2:=fun ps ds _=>∀{vs:List V} {us:Vv},Reps X.K H vs ps->Vals vs us->∃as,ReadsAll s.heap us ds as)
 have two:=@Hh.rec S (motive_1:=fun p d _=>∀{v:V} {u:Value},Rep X.K H v p->RelV v u->∃as,Reads s.heap u d as) (motive_2:=fun ps ds _=>∀{vs:List V} {us:Vv},Reps X.K H vs ps->Vals vs us->∃as,ReadsAll s.heap us ds as)
 have c1:∀{v:V} {u:Value},Rep X.K H v .non->RelV v u->∃as,Reads s.heap u .none as:=fun h r=>by cases h;cases r;exact⟨_,.none⟩
 have c2:∀(b:Bool) {v:V} {u:Value},Rep X.K H v (.bl b)->RelV v u->∃as,Reads s.heap u (.bool b) as:=fun b _ _ h r=>by cases h;cases r;exact⟨_,.bool b⟩
 have c3:∀(i:Int) {v:V} {u:Value},Rep X.K H v (.int i)->RelV v u->∃as,Reads s.heap u (.int i) as:=fun i _ _ h r=>by cases h;obtain⟨t,rfl⟩:=r;exact⟨_,.int i t⟩
 have c4:∀(x:Str) {v:V} {u:Value},Rep X.K H v (.str x)->RelV v u->∃as,Reads s.heap u (.str x) as:=fun x _ _ h r=>by cases h;obtain⟨t,rfl⟩:=r;exact⟨_,.str x t⟩
 have c5:∀{ps:List PV} {ds:List PyData},Hh S ps ds->(∀{vs:List V} {us:Vv},Reps X.K H vs ps->Vals vs us->∃as,ReadsAll s.heap us ds as)->∀{v:V} {u:Value},Rep X.K H v (.tup ps)->RelV v u->∃as,Reads s.heap u (.tuple ds) as:=fun _ ih _ _ h r=>by
  cases h with
  |tup h rs=>
   cases r
   obtain⟨its,rv,⟨o,ho,hc,n,hd⟩,hz⟩:=I.tuple h
   obtain⟨as,q⟩:=ih rs rv
   exact⟨as,.tuple ho hc hd (by simpa using q)⟩
 have c6:∀{ps:List PV} {ds:List PyData},Hh S ps ds->(∀{vs:List V} {us:Vv},Reps X.K H vs ps->Vals vs us->∃as,ReadsAll s.heap us ds as)->∀{v:V} {u:Value},Rep X.K H v (.cl ps)->RelV v u->∃as,Reads s.heap u (.list ds) as:=fun _ ih _ _ h r=>by
  cases h with
  |cl h rs=>
   cases r
   obtain⟨its,rv,⟨o,n,ho,hc,_,hd⟩,hz⟩:=I.list h.sq
   obtain⟨as,q⟩:=ih rs rv
   exact⟨_,.list ho hc hd (by simpa using q)⟩
 have c7:∀{a:Addr} {ps:List PV} {ds:List PyData},S a=some (.lst ps)->Hh S ps ds->(∀{vs:List V} {us:Vv},Reps X.K H vs ps->Vals vs us->∃as,ReadsAll s.heap us ds as)->∀{v:V} {u:Value},Rep X.K H v (.ref a)->RelV v u->∃as,Reads s.heap u (.list ds) as:=fun e _ ih _ _ h r=>by
  cases h
  cases r
  obtain⟨vs,hv,rs⟩:=rS _ _ e
  obtain⟨its,rv,⟨o,n,ho,hc,_,hd⟩,hz⟩:=I.list (SqL.of hv)
  obtain⟨as,q⟩:=ih rs rv
  exact⟨_,.list ho hc hd (by simpa using q)⟩
 have c8:∀{vs:List V} {us:Vv},Reps X.K H vs []->Vals vs us->∃as,ReadsAll s.heap us [] as:=fun h r=>by cases h;cases r;exact⟨_,.nil⟩
 have c9:∀{p:PV} {d:PyData} {ps:List PV} {ds:List PyData},Dat S p d->Hh S ps ds->(∀{v:V} {u:Value},Rep X.K H v p->RelV v u->∃as,Reads s.heap u d as)->(∀{vs:List V} {us:Vv},Reps X.K H vs ps->Vals vs us->∃as,ReadsAll s.heap us ds as)->∀{vs:List V} {us:Vv},Reps X.K H vs (p::ps)->Vals vs us->∃as,ReadsAll s.heap us (d::ds) as:=fun _ _ i1 i2 _ _ h r=>by
  cases h with
  |cons a rs=>
   cases r with
   |cons r1 r2=>
    obtain⟨as,q⟩:=i1 a r1
    obtain⟨bs,q2⟩:=i2 rs r2
    exact⟨_,.cons q q2⟩
 exact⟨fun h=>one c1 c2 c3 c4 c5 c6 c7 c8 c9 h,fun h=>two c1 c2 c3 c4 c5 c6 c7 c8 c9 h⟩
def Dat.reads(I:Inv X pins σ H s)(rS:Fh X.K H S){p:PV}{d:PyData}{v:V}{u:Value}(h:Dat S p d)(r:Rep X.K H v p)(r2:RelV v u):∃as,Reads s.heap u d as:=(pG I rS).1 h r r2
end
section
variable {X:Cx}
def dU(neg:Bool):R3:=fun x y S Q=>match x,y with
 | .int i,.int j=>Q (.bl (neg != decide (i=j))) S
 | .str i,.str j=>Q (.bl (neg != decide (i=j))) S
 | .bl i,.bl j=>Q (.bl (neg != decide (i=j))) S
 |x,y=>∃d d',Dat S x d/\Dat S y d'/\d.canLay0=true/\d'.canLay0=true/\min d.depth d'.depth<=150/\Q (.bl (neg != PyData.eqv d d')) S
def nL(hu:X.A.units+150 < cLine):ig X (compareOp .Eq) (dU false):=⟨fun pins s σ H x y v u Q I rx ry ⟨px,py,S,Q3,r1,r2,rS,q,k⟩=>by
 unfold dU at q
 split at q
 ·cases r1;cases r2
  exact tm pins s σ H _ _ v u Q I rx ry ⟨rfl,k _ S _ H (by simpa using q) (.bl _) rS .refl⟩
 ·cases r1;cases r2
  exact tm pins s σ H _ _ v u Q I rx ry ⟨rfl,k _ S _ H (by simpa using q) (.bl _) rS .refl⟩
 ·cases r1;cases r2
  exact tm pins s σ H _ _ v u Q I rx ry ⟨rfl,k _ S _ H (by simpa using q) (.bl _) rS .refl⟩
 ·obtain⟨d,d',h1,h2,c1,c2,hd,q⟩:=q
  obtain⟨as,a1⟩:=h1.reads I rS r1 rx
  obtain⟨bs,a2⟩:=h2.reads I rS r2 ry
  exact SeqAt.compareEq_reads a1 a2 c1 c2 (by omega) ⟨.bl _,H,I,rfl,k _ S _ H (by simpa using q) (.bl _) rS .refl⟩⟩
def BM(hu:X.A.units+150 < cLine):ig X (compareOp .NotEq) (dU true):=⟨fun pins s σ H x y v u Q I rx ry ⟨px,py,S,Q3,r1,r2,rS,q,k⟩=>by
 unfold dU at q
 split at q
 ·cases r1;cases r2
  exact tq pins s σ H _ _ v u Q I rx ry ⟨rfl,k _ S _ H (by simpa using q) (.bl _) rS .refl⟩
 ·cases r1;cases r2
  exact tq pins s σ H _ _ v u Q I rx ry ⟨rfl,k _ S _ H (by simpa using q) (.bl _) rS .refl⟩
 ·cases r1;cases r2
  exact tq pins s σ H _ _ v u Q I rx ry ⟨rfl,k _ S _ H (by simpa using q) (.bl _) rS .refl⟩
 ·obtain⟨d,d',h1,h2,c1,c2,hd,q⟩:=q
  obtain⟨as,a1⟩:=h1.reads I rS r1 rx
  obtain⟨bs,a2⟩:=h2.reads I rS r2 ry
  exact SeqAt.compareNe_reads a1 a2 c1 c2 (by omega) ⟨.bl _,H,I,rfl,k _ S _ H (by simpa using q) (.bl _) rS .refl⟩⟩
def kU(neg:Bool):R3:=fun x y S Q=>match y with
 | .non=>Q (.bl (neg != match x with | .non=>true|_=>false)) S
 | .bl true=>match x with | .bl true=>Q (.bl (neg != true)) S|_=>False
 |_=>False
def yb:ig X (compareOp .Is) (kU false):=⟨fun pins s σ H x y v u Q I rx ry ⟨px,py,S,Q3,r1,r2,rS,q,k⟩=>by
 unfold kU at q
 split at q
 ·cases r2
  refine zf pins s σ H _ _ v u Q I rx ry ⟨rfl,?_⟩
  cases r1<;>exact k _ S _ H (by simpa using q) (.bl _) rS .refl
 ·cases r2
  split at q
  ·cases r1
   exact zH pins s σ H _ _ v u Q I rx ry ⟨rfl,rfl,k _ S _ H (by simpa using q) (.bl _) rS .refl⟩
  ·exact q.elim
 ·exact q.elim⟩
def kj:ig X (compareOp .IsNot) (kU true):=⟨fun pins s σ H x y v u Q I rx ry ⟨px,py,S,Q3,r1,r2,rS,q,k⟩=>by
 unfold kU at q
 split at q
 ·cases r2
  refine v6 pins s σ H _ _ v u Q I rx ry ⟨rfl,?_⟩
  cases r1<;>exact k _ S _ H (by simpa using q) (.bl _) rS .refl
 ·cases r2
  split at q
  ·cases r1
   exact rZ pins s σ H _ _ v u Q I rx ry ⟨rfl,rfl,k _ S _ H (by simpa using q) (.bl _) rS .refl⟩
  ·exact q.elim
 ·exact q.elim⟩
noncomputable def iJ(S:aw):PV->Option (List PV)
 | .tup xs=>some xs
 | .cl xs=>some xs
 | .ref a=>match S a with|some (.lst xs)=>some xs|_=>none
 |_=>none
def zP{H:Hp}{S:aw}{v:V}{p:PV}{xs:List PV}(rS:Fh X.K H S)(r:Rep X.K H v p)(h:iJ S p=some xs):∃a vs,v = .ref a/\(SqL X.K H a vs\/SqT X.K H a vs)/\Reps X.K H vs xs:=by
 unfold iJ at h
 split at h
 ·cases h;cases r with|tup h1 rs=>exact⟨_,_,rfl,.inr h1,rs⟩
 ·cases h;cases r with|cl h1 rs=>exact⟨_,_,rfl,.inl h1.sq,rs⟩
 ·cases r
  split at h
  ·rename_i e
   cases h
   obtain⟨vs,hv,rs⟩:=rS _ _ e
   exact⟨_,vs,rfl,.inl (SqL.of hv),rs⟩
  ·cases h
 ·cases h
theorem Fl.any{K:Vo}{H:Hp}{κ:Type} [DecidableEq κ](k:κ):∀{vs:List (κ×V)} {ps:List (κ×PV)},Fl K H vs ps->(iH vs k).isSome=ps.any fun kv=>decide (kv.1=k)
 |_,_,.nil=>rfl
 |_,_,.cons (k:=k') a r=>by
  rw[List.any_cons,<-Fl.any k r]
  by_cases e:k'=k
  ·rw[GA e];simp[e]
  ·rw[Go e];simp[e]
end
end L3
namespace HT
open PySem PySem.Spec PyProof.Rows
section
variable {prog:Program} {w:World} {A:Around} {E:Vq} {s:Shared}
def iK{t sl:Addr}{items:Vw}{vl vu:Value}{lo hi:Option Int}{Q:Vq}(ht:IsTup s.heap t items)(hs:s.heap.IsSliceOf sl vl vu .none)(pl:IsPart vl lo)(pu:IsPart vu hi)
  (hw:Fz items.size 0 lo=0/\Fz items.size items.size hi=items.size)
  (h:Q (.ref t) s):wpAny (model prog w) A (getItem (.ref t) (.ref sl)) Q E s:=by
 obtain⟨os,hos,hcs,hds⟩:=id hs
 have LH:s.TypeIs (.ref sl) "slice":=⟨os,hos,hcs⟩
 unfold getItem
 try with_reducible refine wpAny_holding ?_
 first|refine wpAny_bind (wpAny_pure ?_)|skip
 refine wpAny_bind (wpAny_sequenceKey ht.typeIs (by decide) ?_)
 refine wpAny_bind (wpAny_callSpecial?_slot (name:=Str.ofString "__getitem__") ht.typeIs PyProof.Rows.slot_tuple_getitem
  (wpAny_call_entry PyProof.Rows.slot_tuple_getitem ht.typeIs entry_tuple_getitem ?_ (args_tuple_getitem _ _)))
 show wpAny _ _ (Builtin.Tuple.tupleItemsOf (.ref t) >>= _) _ _ s
 refine wpAny_bind (tupleItemsOf_ ht ?_)
 refine wpAny_bind (wpAny_typeOf LH ?_)
 rw[if_pos (by decide)]
 refine wpAny_bind (eO hs pl pu ?_)
 have hyes:(((Fz items.size 0 lo:Nat):Int) == 0&&(1:Int) == 1&&(Fz items.size items.size hi - Fz items.size 0 lo) == items.size)=true:=by
  rw[hw.1,hw.2];simp
 show wpAny _ _ (if (((Fz items.size 0 lo:Nat):Int) == 0&&(1:Int) == 1&&(Fz items.size items.size hi - Fz items.size 0 lo) == items.size)=true then _ else _) _ _ s
 rw[if_pos hyes]
 unfold Builtin.Tuple.tupleIsExact
 refine wpAny_bind (wpAny_bind (wpAny_typeOf ht.typeIs (wpAny_pure ?_)))
 rw[if_pos (by decide)]
 first
  |exact wpAny_bind (wpAny_rule (wpAny_pure ⟨_,rfl,wpAny_pure h⟩))
  |exact wpAny_bind (wpAny_rule (wpAny_bind (wpAny_pure (wpAny_pure ⟨_,rfl,wpAny_pure h⟩))))
  |exact wpAny_bind (wpAny_rule (wpAny_bind (wpAny_pure ⟨_,rfl,wpAny_pure h⟩)))
end
end HT
namespace L2
open PySem PySem.Spec PyProof.Rows
section
variable {X:Cx}
noncomputable def BN(K:Vo):V->Option Int->Option Int->Hp->VK->Prop:=fun x lo hi H Q=>∃a xs,x = .ref a/\SqT K H a xs/\∀r H',(∀c o,H c=some o->H' c=some o)->SqT K H' r (j7 xs lo hi)->Q (.ref r) H'
def wI:AN X (BN X.K):=by
 intro pins s σ H x v vl vu lo hi sl Q I rx hs pl pu h
 obtain⟨a,xs,rfl,hx,q⟩:=h
 by_cases hw:HT.Fz xs.length 0 lo=0/\HT.Fz xs.length xs.length hi=xs.length
 ·cases rx
  obtain⟨its,r,ht,hz⟩:=I.tuple hx
  have hlen:its.toArray.size=xs.length:=by rw[List.size_toArray];exact r.length.symm
  refine⟨"tuple",_,PyProof.Rows.slot_tuple_getitem.lookup,ht.typeIs,HT.iK ht hs pl pu (by rw[hlen];exact hw) ⟨.ref a,H,I,rfl,q a H (fun _ _ e=>e) ?_⟩⟩
  have e:j7 xs lo hi=xs:=by unfold j7;rw[hw.1,hw.2];simp
  rw[e];exact hx
 ·exact zo pins s σ H _ v vl vu lo hi sl Q I rx hs pl pu ⟨a,xs,rfl,hx,hw,fun p hp=>q p _ (fun c o e=>by rw[aC (bf e hp)];exact e) (SqT.of aB)⟩
def wJ(hu:X.A.units+1 < cLine):AO X (fun x y H Q=>∃a v,x = .ref a/\DGet H a y (some v)/\Q v H):=by
 intro value slice pins s σ H x y v u Q I rx ry h hs
 obtain⟨a,z,rfl,g,q⟩:=h
 cases rx
 exact tail_any (nG I g) PySem.F.slot_dict_getitem.lookup (rL hu I g ry fun w' s3 I3 rw'=>⟨z,H,I3,rw',q⟩) hs
def ub(hu:X.A.units+1 < cLine):vX X (fun o i v H Q=>∃a H',o = .ref a/\Jc H a i v H'/\Q H'):=by
 intro pins s σ H o i v ov iv u Q I ro ri rv h
 obtain⟨a,H',rfl,g,q⟩:=h
 cases ro
 exact rM hu I g ri rv fun s' I'=>⟨H',I',q⟩
end
end L2
namespace L3
open PySem L2
theorem Reps.FZ{K:Vo}{H:Hp}{vs:List V}{ps:List PV}{i:Int}{p:PV}(r:Reps K H vs ps)(h:L2.FZ ps i=some p):∃v,L2.FZ vs i=some v/\Rep K H v p:=by
 unfold L2.FZ at h ⊢
 rw[r.length]
 cases e:qx ps.length i with
 |none=>rw[e]at h;cases h
 |some j=>
  rw[e]at h
  obtain⟨v,h1,h2⟩:=r.get h
  exact⟨v,h1,h2⟩
noncomputable def kl:PV->Option b9
 | .int i=>some (.inl i)
 | .str x=>some (.inr x)
 |_=>none
def fi{K:Vo}{H:Hp}{v:V}{p:PV}{k:b9}(r:Rep K H v p)(h:kl p=some k):v=kV k:=by
 cases p with
 |int i=>cases h;cases r;rfl
 |str i=>cases h;cases r;rfl
 |_=>cases h
noncomputable def d9{κ:Type} [DecidableEq κ]:List (κ×PV)->κ->Option PV
 |[],_=>none
 |(k',v)::r,k=>if k'=k then some v else d9 r k
theorem Fl.val{K:Vo}{H:Hp}{κ:Type} [DecidableEq κ]{k:κ}{p:PV}:∀{vs:List (κ×V)} {ps:List (κ×PV)},Fl K H vs ps->d9 ps k=some p->∃v,iH vs k=some v/\Rep K H v p
 |_,_,.nil,h=>by cases h
 |_,_,.cons (k:=k') a r,h=>by
  unfold d9 at h
  split at h
  ·rename_i e;cases h;exact⟨_,GA e,a⟩
  ·rename_i e;rw[Go e];exact Fl.val r h
theorem Fl.valN{K:Vo}{H:Hp}{κ:Type} [DecidableEq κ]{k:κ}:∀{vs:List (κ×V)} {ps:List (κ×PV)},Fl K H vs ps->d9 ps k=none->iH vs k=none
 |_,_,.nil,_=>rfl
 |_,_,.cons (k:=k') a r,h=>by
  unfold d9 at h
  split at h
  ·cases h
  ·rename_i e;rw[Go e];exact Fl.valN r h
section
variable {X:Cx} {a b e lo hi:Expr} {ta tb te:aQ} {pos p2:Pos}
structure ED (X:Cx) (r:R3):Prop where
 ok:AO X (LR X r)
def BO{r:R3}(hr:ED X r)(ha:a_ X a ta)(hb:a_ X b tb)(hs:jT b):a_ X (.Subscript a b pos) (ai r ta tb):=⟨aK (Bv hr.ok ha.ok hb.ok hs) fun _ _ _=>iI⟩
def ak:R3:=fun x y S Q=>match x with
 | .tup xs=>match y with | .int i=>(match FZ xs i with|some v=>Q v S|none=>False)|_=>False
 | .cl xs=>match y with | .int i=>(match FZ xs i with|some v=>Q v S|none=>False)|_=>False
 | .str z=>match y with | .int i=>z.length<=sizeLine/\(match FZ z.cps.toList i with|some c=>Q (.str ⟨#[c]⟩) S|none=>False)|_=>False
 | .ref a=>match S a with
  |some (.lst xs)=>(match y with | .int i=>(match FZ xs i with|some v=>Q v S|none=>False)|_=>False)
  |some (.dct kvs)=>(match kl y with|some k=>(match d9 kvs k with|some v=>Q v S|none=>False)|none=>False)
  |_=>False
 |_=>False
def EE(hu:X.A.units+1 < cLine):ED X ak:=⟨fun value slice pins s σ H x y v u Q I rx ry ⟨px,py,S,Q3,r1,r2,rS,q,k⟩ hs=>by
 unfold ak at q
 split at q
 ·split at q
  ·split at q
   ·rename_i e
    cases r2
    cases r1 with
    |tup h1 rs=>
     obtain⟨w,hw,rw'⟩:=rs.FZ e
     exact zp value slice pins s σ H _ _ v u Q I rx ry ⟨_,_,_,w,rfl,rfl,h1,hw,k _ S _ H q rw' rS .refl⟩ hs
   ·exact q.elim
  ·exact q.elim
 ·split at q
  ·split at q
   ·rename_i e
    cases r2
    cases r1 with
    |cl h1 rs=>
     obtain⟨w,hw,rw'⟩:=rs.FZ e
     exact qA value slice pins s σ H _ _ v u Q I rx ry ⟨_,_,_,w,rfl,rfl,h1.sq,hw,k _ S _ H q rw' rS .refl⟩ hs
   ·exact q.elim
  ·exact q.elim
 ·split at q
  ·obtain⟨hz,q⟩:=q
   split at q
   ·rename_i e
    cases r1;cases r2
    exact zq value slice pins s σ H _ _ v u Q I rx ry ⟨_,_,_,rfl,rfl,hz,e,k _ S _ H q (.str _) rS .refl⟩ hs
   ·exact q.elim
  ·exact q.elim
 ·split at q
  ·rename_i e0
   split at q
   ·split at q
    ·rename_i e
     cases r1;cases r2
     obtain⟨vs,hv,rs⟩:=rS _ _ e0
     obtain⟨w,hw,rw'⟩:=rs.FZ e
     exact qA value slice pins s σ H _ _ v u Q I rx ry ⟨_,_,_,w,rfl,rfl,SqL.of hv,hw,k _ S _ H q rw' rS .refl⟩ hs
    ·exact q.elim
   ·exact q.elim
  ·rename_i e0
   split at q
   ·rename_i ek
    split at q
    ·rename_i ev
     cases r1
     have e1:=fi r2 ek
     subst e1
     obtain⟨kv,hv,rk⟩:=rS _ _ e0
     obtain⟨w,hw,rw'⟩:=rk.val ev
     refine wJ hu value slice pins s σ H _ _ v u Q I rx ry ⟨_,w,rfl,?_,k _ S _ H q rw' rS .refl⟩ hs
     rw[<-hw]
     exact DGet.k hv
    ·exact q.elim
   ·exact q.elim
  ·exact q.elim
 ·exact q.elim⟩
abbrev AQ:=cZ->aw->(Option Int->aw->Prop)->ci->Prop
noncomputable def LO(X:Cx)(t:AQ):TO:=fun σ H Q=>∃σ3 S Q3 E3,Fp X.K H σ σ3/\Fh X.K H S/\t σ3 S Q3 E3/\I9 X H E3/\∀o S' H',Q3 o S'->Fh X.K H' S'->Grow X.K H H'->Q o H'
structure C4 (X:Cx) (e:Option Expr) (t:AQ):Prop where
 ok:PO X e (LO X t)
noncomputable def uc:AQ:=fun _ S Q _=>Q none S
noncomputable def oJ(t:aQ):AQ:=fun σ S Q E=>t σ S (fun v S'=>match v with | .int i=>Q (some i) S'|_=>False) E
def ue{e:Option Expr}{t t':TO}(h:PO X e t)(k:∀σ H Q,t' σ H Q->t σ H Q):PO X e t':=fun pins s σ H Q I q=>h pins s σ H Q I (k σ H Q q)
def mC:C4 X none uc:=⟨ue wn fun σ H Q ⟨σ3,S,Q3,E3,rσ,rS,h,xo,k⟩=>k none S H h rS .refl⟩
def gb(h:a_ X e te):C4 X (some e) (oJ te):=⟨ue (wo h.ok) fun σ H Q ⟨σ3,S,Q3,E3,rσ,rS,h,xo,k⟩=>⟨σ3,S,_,E3,rσ,rS,h,xo,fun p S' v H' h1 rv GB g=>by
 cases p with
 |int i=>cases rv;exact⟨i,rfl,k _ S' H' h1 GB g⟩
 |_=>exact h1.elim⟩⟩
noncomputable def eK{α:Type}(xs:List α)(lo hi:Option Int):List α:=(xs.drop (HT.Fz xs.length 0 lo)).take (HT.Fz xs.length xs.length hi - HT.Fz xs.length 0 lo)
def Reps.cut{K:Vo}{H:Hp}{vs:List V}{ps:List PV}(r:Reps K H vs ps)(lo hi:Option Int):Reps K H (j7 vs lo hi) (eK ps lo hi):=by
 unfold j7 eK
 rw[r.length]
 exact(r.drop _).take _
def km(x:PV)(lo hi:Option Int)(S:aw)(Q:bE):Prop:=match x with
 | .tup xs=>Q (.tup (eK xs lo hi)) S
 | .cl xs=>∀p,S p=none->Q (.ref p) (Fc S p (.lst (eK xs lo hi)))
 | .str z=>z.length<=sizeLine/\Q (.str (Txt.slice z lo hi)) S
 | .ref a=>match S a with|some (.lst xs)=>∀p,S p=none->Q (.ref p) (Fc S p (.lst (eK xs lo hi)))|_=>False
 |_=>False
noncomputable def EV(X:Cx):V->Option Int->Option Int->Hp->VK->Prop:=fun x lo hi H Q=>∃px S Q3,Rep X.K H x px/\Fh X.K H S/\km px lo hi S Q3/\I_ X.K H Q3 Q
def EW:AN X (EV X):=by
 intro pins s σ H x v vl vu lo hi sl Q I rx hs pl pu ⟨px,S,Q3,r1,rS,q,k⟩
 unfold km at q
 split at q
 ·cases r1 with
  |tup h1 rs=>exact wI pins s σ H _ v vl vu lo hi sl Q I rx hs pl pu ⟨_,_,rfl,h1,fun r H' hh hr=>k _ S _ H' q (.tup hr ((rs.cut lo hi).mono (.same hh))) (rS.grow hh) (.same hh)⟩
 ·cases r1 with
  |cl h1 rs=>exact qB pins s σ H _ v vl vu lo hi sl Q I rx hs pl pu ⟨_,_,rfl,h1.sq,fun p hp=>k _ _ _ _ (q p (rS.free hp)) (.ref p) (rS.new hp ⟨_,aB,(rs.cut lo hi).mono (.new hp)⟩) (.new hp)⟩
 ·cases r1
  exact zF pins s σ H _ v vl vu lo hi sl Q I rx hs pl pu ⟨_,rfl,q.1,k _ S _ H q.2 (.str _) rS .refl⟩
 ·split at q
  ·rename_i e
   cases r1
   obtain⟨vs,hv,rs⟩:=rS _ _ e
   exact qB pins s σ H _ v vl vu lo hi sl Q I rx hs pl pu ⟨_,_,rfl,SqL.of hv,fun p hp=>k _ _ _ _ (q p (rS.free hp)) (.ref p) (rS.new hp ⟨_,aB,(rs.cut lo hi).mono (.new hp)⟩) (.new hp)⟩
  ·exact q.elim
 ·exact q.elim
def cP(te:aQ)(tl th:AQ):aQ:=fun σ S Q E=>te σ S (fun x S1=>tl σ S1 (fun l S2=>th σ S2 (fun u S3=>km x l u S3 Q) E) E) E
def gT{lo hi:Option Expr}{tl th:AQ}(he:a_ X e te)(hl:C4 X lo tl)(hu:C4 X hi th):a_ X (.Subscript e (.Slice lo hi none p2) pos) (cP te tl th):=
 ⟨aK (tJ EW he.ok hl.ok hu.ok) fun σ H Q ⟨σ3,S,Q3,E3,rσ,rS,h,xo,k⟩=>⟨σ3,S,_,E3,rσ,rS,h,xo,fun x S1 v H1 h1 rx Fm g1=>⟨σ3,S1,_,E3,rσ.mono g1,Fm,h1,xo.mono g1,fun l S2 H2 h2 GL g2=>
  ⟨σ3,S2,_,E3,rσ.mono (g1.trans g2),GL,h2,xo.mono (g1.trans g2),fun u S3 H3 h3 JJ g3=>⟨x,S3,Q3,rx.mono (g2.trans g3),JJ,h3,k.mono (g1.trans (g2.trans g3))⟩⟩⟩⟩⟩
def wK:gU X (binaryOp .Mult) (rI IntMulOk fun i j=>.int (i * j)):=CZ fun _ _ _ _ _ _ _ hc q=>PyProof.Rows.mul_int q hc
def aU:R3:=fun x y S Q=>match x,y with
 | .int i,.int j=>IntMulOk i j/\Q (.int (i * j)) S
 | .ref a,.int j=>(match S a with|some (.lst xs)=>-(2 ^ 63)<=j/\j < 2 ^ 63/\xs.length * j.toNat<=sizeLine/\∀p,S p=none->Q (.ref p) (Fc S p (.lst (List.replicate j.toNat xs).flatten))|_=>False)
 |_,_=>False
theorem Reps.rep{K:Vo}{H:Hp}{vs:List V}{ps:List PV}(r:Reps K H vs ps):∀n:Nat,Reps K H (List.replicate n vs).flatten (List.replicate n ps).flatten
 |0=>.nil
 |n+1=>by
  rw[List.replicate_succ,List.replicate_succ,List.flatten_cons,List.flatten_cons]
  exact r.append (Reps.rep r n)
def aI:ig X (binaryOp .Mult) aU:=⟨fun pins s σ H x y v u Q I rx ry ⟨px,py,S,Q3,r1,r2,rS,q,k⟩=>by
 unfold aU at q
 split at q
 ·cases r1;cases r2
  exact wK pins s σ H _ _ v u Q I rx ry ⟨_,_,rfl,rfl,q.1,k _ S _ H q.2 (.int _) rS .refl⟩
 ·split at q
  ·rename_i e
   cases r1;cases r2
   obtain⟨vs,hv,rs⟩:=rS _ _ e
   exact zw pins s σ H _ _ v u Q I rx ry ⟨_,_,_,rfl,rfl,hv,q.1,q.2.1,by rw[rs.length];exact q.2.2.1,fun p hp=>k _ _ _ _ (q.2.2.2 p (rS.free hp)) (.ref p) (rS.new hp ⟨_,aB,(rs.rep _).mono (.new hp)⟩) (.new hp)⟩
  ·exact q.elim
 ·exact q.elim⟩
end
end L3
namespace L2
open PySem PySem.Spec PyProof.Rows
section
variable {X:Cx}
def r6(hc:X.calm=true):eN X (.builtin "any") (fun xs H Q=>∃(p:Addr) (bs:List Bool),xs=[.ref p]/\SqL X.K H p (bs.map V.bl)/\Q (.bl (bs.any id)) H):=by
 intro pins s σ H xs us Q I r h
 obtain⟨p,bs,rfl,hp,q⟩:=h
 obtain⟨u,rfl,rx⟩:=fX r
 cases rx
 obtain⟨its,rv,pl,hz⟩:=I.list hp
 have hl:=rv.length
 rw[List.length_map]at hl
 have hlt:p < s.heap.objs.size:=by obtain⟨o,ho,_⟩:=pl.isList;exact Heap.lt_size ho
 refine call_any_walk (wpAny_pyIter_list pl.isList ?_)
 have up:∀b o,s.heap.get? b=some o->(s.heap.push { cls:=.type "list_iterator",data:=.fields #[.ref p,.int 0 0] }).get? b=some o:=fun b o e=>Heap.get?_push_of_some _ e
 refine⟨s.heap.objs.size,_,_,_,_,_,fun i=>(bs[i]?).getD false,rfl,Walks.list (A:=X.A.in1) (I.ok.hd hc) s.heap.objs.size p (Nat.ne_of_lt hlt) its.toArray,⟨⟨_,Heap.get?_push_size _ rfl,rfl,rfl⟩,pl.isList.push _⟩,?_,fun h' tk hk=>?_⟩
 ·intro i v s' Q' E' hv hq
  have hi:i < its.length:=by
   by_cases z:i < its.length
   ·exact z
   ·rw[Array.getElem?_eq_none (by simpa using z)]at hv;cases hv
  obtain⟨u',e1,r1⟩:=rv.get (i:=i) (x:=.bl bs[i]) (by rw[List.getElem?_map,List.getElem?_eq_getElem (by omega)];rfl)
  have e2:v=u':=by
   have z:its[i]?=some v:=by simpa using hv
   rw[z]at e1;exact Option.some.inj e1
  subst e2
  cases (show v=Value.bool bs[i] from r1)
  refine wpAny_truthy_bool ?_
  have hq':Q' ((bs[i]?).getD false) s':=hq
  rw[List.getElem?_eq_getElem (show i < bs.length by omega)]at hq'
  exact hq'
 ·have e:(List.range its.toArray.size).any (fun i=>(bs[i]?).getD false)=bs.any id:=by
   rw[List.size_toArray,<-hl,Bool.eq_iff_iff,List.any_eq_true,List.any_eq_true]
   constructor
   ·rintro⟨i,hi,h1⟩
    have hi':i < bs.length:=List.mem_range.mp hi
    rw[List.getElem?_eq_getElem hi']at h1
    exact⟨bs[i],List.getElem_mem hi',h1⟩
   ·rintro⟨x,hx,h1⟩
    obtain⟨i,hi,e⟩:=List.getElem_of_mem hx
    exact⟨i,List.mem_range.mpr hi,by rw[List.getElem?_eq_getElem hi,e];exact h1⟩
  refine⟨.bl (bs.any id),H,?_,by rw[e];rfl,q⟩
  exact I.kept (t':=tk) fun b o z=>hk b o (by
   intro q2
   have q3:b=s.heap.objs.size:=by simpa using q2
   rw[q3]at z
   exact absurd (Heap.lt_size z) (Nat.lt_irrefl _)) (up b o z)
def pI{pins:Va}{σ:St}{H:Hp}{s:Shared}{x:Value}{t:Value}{p:Heap->Prop}{vs:List V}{tp:Addr}{b:Bool}{Q:Vq}{E:Vq}(I:Inv X pins σ H s)(Z:PySem.W.KitX X.K x t p)(hp:p s.heap)(hx:x ≠ .builtin "__main__.__loader__#opaque")
  (ht:SqT X.K H tp vs) (e:∀its,Vals vs its->PySem.W.kitAny X.K t its=some b) (h:∀tk,Q (.bool b) { s with toks:=tk }):wpAny (model X.prog X.w) X.A (call (.builtin "isinstance") [x,.ref tp]) Q E s:=by
 obtain⟨its,rv,⟨⟨cls,dd,data,sl⟩,ho,hc,n,hd⟩,hz⟩:=I.tuple ht
 simp only at hc hd
 subst hc hd
 exact PySem.W.kia_tup Z I.Ix hp ho (e its rv) hx h
end
end L2
namespace L3
open PySem L2
abbrev nM:=List PV->aw->bE->Prop
section
variable {X:Cx} {e o:Expr} {es:List Expr} {te to:aQ} {ts:List aQ} {x:Str} {p pos apos cpos:Pos}
noncomputable def LC(X:Cx)(r:nM):List V->Hp->VK->Prop:=fun xs H Q=>∃ps S Q3,Reps X.K H xs ps/\Fh X.K H S/\r ps S Q3/\I_ X.K H Q3 Q
structure eU (X:Cx) (f:Value) (r:nM):Prop where
 ok:eN X f (LC X r)
def ah(r:nM)(ts:List aQ):aQ:=fun σ S Q E=>af ts σ S (fun ps S1=>r ps S1 Q) E
def qG{r:nM}{σ:L2.St}{H:Hp}{Q:VK}:LE X (ah r ts) σ H Q->C3 (ts.map (LE X)) σ H fun vs H1=>LC X r vs H1 Q:=fun⟨σ3,S,Q3,E3,rσ,rS,h,xo,k⟩=>
 cH rσ rS h xo fun ps S' vs H' hl q rv GB g=>⟨ps,S',Q3,rv,GB,q,k.mono g⟩
def wL{id:String}{r:nM}(hc:eU X (.builtin id) r)(hg:Gl X x)(hm:X.mg x=none)(hv:bootBuiltins x=some (.builtin id))(he:starEach (e::es) X.env=(false,eval e X.env)::starEach es X.env)(ha:kg X (e::es) ts)
  (hn:x ≠ "__name__":=by decide) (hdb:(x == ("__debug__":Str))=false:=by decide) (hpl:(backTo pos (starEach es X.env)).any (·.1)=false:=by rfl):a_ X (.Call (.Name x p) (e::es) [] pos) (ah r ts):=
 ⟨aK (tH hc.ok hg hm hv ha.ok hn hdb he hpl) fun _ _ _=>qG⟩
def wM{id:String}{r:nM}(hc:eU X (.type id) r)(hg:Gl X x)(hm:X.mg x=none)(hv:bootBuiltins x=some (.type id))(he:starEach (e::es) X.env=(false,eval e X.env)::starEach es X.env)(ha:kg X (e::es) ts)
  (hn:x ≠ "__name__":=by decide) (hdb:(x == ("__debug__":Str))=false:=by decide) (hpl:(backTo pos (starEach es X.env)).any (·.1)=false:=by rfl):a_ X (.Call (.Name x p) (e::es) [] pos) (ah r ts):=
 ⟨aK (rH hc.ok hg hm hv ha.ok hn hdb he hpl) fun _ _ _=>qG⟩
def aX:nM:=fun ps S Q=>match ps with
 |[.tup xs]=>Q (.int xs.length) S
 |[.cl xs]=>Q (.int xs.length) S
 |[.str z]=>z.length<=sizeLine/\Q (.int z.length) S
 |[.ref a]=>(match S a with|some (.lst xs)=>Q (.int xs.length) S|some (.dct kvs)=>Q (.int kvs.length) S|_=>False)
 |_=>False
def bO:eU X (.builtin "len") aX:=⟨fun pins s σ H xs us Q I r ⟨ps,S,Q3,rp,rS,q,k⟩=>by
 unfold aX at q
 split at q
 ·cases rp with|cons a rr=>cases rr;cases a with|tup h rs=>exact fh pins s σ H _ us Q I r ⟨_,_,rfl,.inr h,by rw[rs.length];exact k _ S _ H q (.int _) rS .refl⟩
 ·cases rp with|cons a rr=>cases rr;cases a with|cl h rs=>exact fh pins s σ H _ us Q I r ⟨_,_,rfl,.inl h.sq,by rw[rs.length];exact k _ S _ H q (.int _) rS .refl⟩
 ·cases rp with|cons a rr=>cases rr;cases a;exact mj pins s σ H _ us Q I r ⟨_,rfl,q.1,k _ S _ H q.2 (.int _) rS .refl⟩
 ·cases rp with
  |cons a rr=>
   cases rr;cases a
   split at q
   ·rename_i e
    obtain⟨vs,hv,rs⟩:=rS _ _ e
    exact fh pins s σ H _ us Q I r ⟨_,_,rfl,.inl (SqL.of hv),by rw[rs.length];exact k _ S _ H q (.int _) rS .refl⟩
   ·rename_i e
    obtain⟨vs,hv,rs⟩:=rS _ _ e
    exact rP pins s σ H _ us Q I r ⟨_,_,rfl,hv,by rw[rs.length];exact k _ S _ H q (.int _) rS .refl⟩
   ·exact q.elim
 ·exact q.elim⟩
def r9:nM:=fun ps S Q=>match ps with|[.int i]=>Q (.int (if i < 0 then -i else i)) S|_=>False
def BP:eU X (.builtin "abs") r9:=⟨fun pins s σ H xs us Q I r ⟨ps,S,Q3,rp,rS,q,k⟩=>by
 unfold r9 at q
 split at q
 ·cases rp with|cons a rr=>cases rr;cases a;exact tt pins s σ H _ us Q I r ⟨_,rfl,k _ S _ H q (.int _) rS .refl⟩
 ·exact q.elim⟩
def kn:nM:=fun ps S Q=>match ps with|[.int i,.int j]=>Q (.int (if j > i then j else i)) S|_=>False
def uf(hc:X.calm=true):eU X (.builtin "max") kn:=⟨fun pins s σ H xs us Q I r ⟨ps,S,Q3,rp,rS,q,k⟩=>by
 unfold kn at q
 split at q
 ·cases rp with|cons a rr=>cases rr with|cons b r3=>cases r3;cases a;cases b;exact rD hc pins s σ H _ us Q I r ⟨_,_,rfl,k _ S _ H q (.int _) rS .refl⟩
 ·exact q.elim⟩
def g_:nM:=fun ps S Q=>match ps with|[.int i]=>Q (.int i) S|[.bl b]=>Q (.int (if b then 1 else 0)) S|_=>False
def yc:eU X (.type "int") g_:=⟨fun pins s σ H xs us Q I r ⟨ps,S,Q3,rp,rS,q,k⟩=>by
 unfold g_ at q
 split at q
 ·cases rp with|cons a rr=>cases rr;cases a;exact lB pins s σ H _ us Q I r (.inl ⟨_,rfl,k _ S _ H q (.int _) rS .refl⟩)
 ·cases rp with|cons a rr=>cases rr;cases a;exact lB pins s σ H _ us Q I r (.inr ⟨_,rfl,k _ S _ H q (.int _) rS .refl⟩)
 ·exact q.elim⟩
def aR:nM:=fun ps S Q=>match ps with
 |[v]=>(match iJ S v with|some xs=>Q (.tup xs) S|none=>False)
 |_=>False
def dM:eU X (.type "tuple") aR:=⟨fun pins s σ H xs us Q I r ⟨ps,S,Q3,rp,rS,q,k⟩=>by
 unfold aR at q
 split at q
 ·cases rp with
  |cons a rr=>
   cases rr
   split at q
   ·rename_i e
    obtain⟨b,vs,rfl,hs,rs⟩:=zP rS a e
    rcases hs with hs|hs
    ·exact gY pins s σ H _ us Q I r ⟨_,_,rfl,.inl ⟨hs,fun p hp=>k _ S _ _ q (.tup (SqT.of aB) (rs.mono (.new hp))) (rS.other hp) (.new hp)⟩⟩
    ·exact gY pins s σ H _ us Q I r ⟨_,_,rfl,.inr ⟨hs,k _ S _ _ q (.tup hs rs) rS .refl⟩⟩
   ·exact q.elim
 ·exact q.elim⟩
noncomputable def gc:List PV->Option (List Bool)
 |[]=>some []
 | .bl b::r=>(gc r).map (b::·)
 |_::_=>none
theorem ii{K:Vo}{H:Hp}:∀{vs:List V} {ps:List PV} {bs:List Bool},Reps K H vs ps->gc ps=some bs->vs=bs.map V.bl
 |_,_,_,.nil,h=>by cases h;rfl
 |_,_,bs,.cons (p:=p) a r,h=>by
  cases p with
  |bl b=>
   cases a
   unfold gc at h
   cases e:gc _ with
   |none=>rw[e]at h;cases h
   |some l=>rw[e]at h;cases h;rw[ii r e];rfl
  |_=>cases h
def r_:nM:=fun ps S Q=>match ps with
 |[.ref a]=>(match S a with|some (.lst xs)=>(match gc xs with|some bs=>Q (.bl (bs.all id)) S|none=>False)|_=>False)
 |_=>False
def ye(hc:X.calm=true):eU X (.builtin "all") r_:=⟨fun pins s σ H xs us Q I r ⟨ps,S,Q3,rp,rS,q,k⟩=>by
 unfold r_ at q
 split at q
 ·cases rp with
  |cons a rr=>
   cases rr;cases a
   split at q
   ·rename_i e
    split at q
    ·rename_i eb
     obtain⟨vs,hv,rs⟩:=rS _ _ e
     have e2:=ii rs eb
     subst e2
     exact rT hc pins s σ H _ us Q I r ⟨_,_,rfl,SqL.of hv,k _ S _ H q (.bl _) rS .refl⟩
    ·exact q.elim
   ·exact q.elim
 ·exact q.elim⟩
def wN:nM:=fun ps S Q=>match ps with
 |[.ref a]=>(match S a with|some (.lst xs)=>(match gc xs with|some bs=>Q (.bl (bs.any id)) S|none=>False)|_=>False)
 |_=>False
def BQ(hc:X.calm=true):eU X (.builtin "any") wN:=⟨fun pins s σ H xs us Q I r ⟨ps,S,Q3,rp,rS,q,k⟩=>by
 unfold wN at q
 split at q
 ·cases rp with
  |cons a rr=>
   cases rr;cases a
   split at q
   ·rename_i e
    split at q
    ·rename_i eb
     obtain⟨vs,hv,rs⟩:=rS _ _ e
     have e2:=ii rs eb
     subst e2
     exact r6 hc pins s σ H _ us Q I r ⟨_,_,rfl,SqL.of hv,k _ S _ H q (.bl _) rS .refl⟩
    ·exact q.elim
   ·exact q.elim
 ·exact q.elim⟩
end
noncomputable def nN(t c:String):Bool:=t == c || (t == "bool" && c == "int")
noncomputable def wO(S:aw):PV->Option String
 | .non=>some "NoneType"
 | .bl _=>some "bool"
 | .int _=>some "int"
 | .str _=>some "str"
 | .tup _=>some "tuple"
 | .cl _=>some "list"
 | .ref a=>(match S a with|some (.lst _)=>some "list" | some (.dct _)=>some "dict" | _=>none)
 | .ty _=>none
 | .exc _ _ _=>none
 | .cls _=>none
noncomputable def cN(c:String):Bool:=["int","str","bool","tuple","list","dict"].contains c
def ug(K:Vo)(t c:String):PySem.W.kitCls K (.type t) (.type c)=(if PySem.W.kitMeta c=true then (PySem.fastBuiltinMro t).map (·.contains (Value.type c)) else none):=rfl
def qH{K:Vo}{t c:String}(ht:t∈["NoneType","bool","int","str","tuple","list","dict"])(hc:cN c=true):PySem.W.kitOne K (.type t) (.type c)=some (nN t c):=by
 have hc':c∈["int","str","bool","tuple","list","dict"]:=by
  have:=hc
  unfold cN at this
  simpa using this
 simp only[List.mem_cons,List.not_mem_nil,or_false]at ht hc'
 rcases ht with rfl|rfl|rfl|rfl|rfl|rfl|rfl<;>rcases hc' with rfl|rfl|rfl|rfl|rfl|rfl <;>
  first
   |(unfold PySem.W.kitOne;rw[if_pos (by decide)];rfl)
   |(unfold PySem.W.kitOne;rw[if_neg (by decide),ug];decide +kernel)
def uh{S:aw}{p:PV}{t:String}(h:wO S p=some t):t∈["NoneType","bool","int","str","tuple","list","dict"]:=by
 unfold wO at h
 split at h<;>first|(cases h;decide)|(split at h<;>first|(cases h;decide)|cases h)|cases h
section
variable {X:Cx}
noncomputable def BR:List PV->Option (List String)
 |[]=>some []
 | .ty c::r=>if cN c then (BR r).map (c::·) else none
 |_::_=>none
def i8:nM:=fun ps S Q=>match ps with
 |[x,.ty c]=>(match wO S x with|some t=>cN c=true/\Q (.bl (nN t c)) S|none=>False)
 |[x,.tup cs]=>(match wO S x,BR cs with|some t,some l=>Q (.bl (l.any (nN t))) S|_,_=>False)
 |_=>False
def wP{K:Vo}{H:Hp}{t:String}(ht:t∈["NoneType","bool","int","str","tuple","list","dict"]):∀(cs:List PV) {l:List String} {vs:List V} {its:Vv},BR cs=some l->Reps K H vs cs->Vals vs its->PySem.W.kitAny K (.type t) its=some (l.any (nN t)):=by
 intro cs
 induction cs with
 |nil=>intro l vs its h rs r;cases h;cases rs;cases r;rfl
 |cons p cs ih=>
  intro l vs its h rs r
  cases p with
  |ty c=>
   unfold BR at h
   split at h
   ·rename_i hc
    cases e:BR cs with
    |none=>rw[e]at h;cases h
    |some l'=>
     rw[e]at h
     cases h
     cases rs with
     |cons a rs=>
      cases a
      cases r with
      |@cons _ u _ us r1 r2=>
       cases (show u=Value.type c from r1)
       show(match PySem.W.kitOne K (.type t) (.type c)with|some true=>some true|some false=>PySem.W.kitAny K (.type t) us|none=>none)=_
       rw[qH ht hc,List.any_cons]
       cases nN t c with
       |true=>rfl
       |false=>exact ih e rs r2
   ·cases h
  |_=>cases h
def nO:eU X (.builtin "isinstance") i8:=⟨fun pins s σ H xs us Q I r ⟨ps,S,Q3,rp,rS,q,k⟩=>by
 have main:∀{v:PV} {x:V} {u:Value} {t:String},Rep X.K H x v->RelV x u->wO S v=some t->∃(h:Heap->Prop),PySem.W.KitX X.K u (.type t) h/\h s.heap/\u ≠ .builtin "__main__.__loader__#opaque":=by
  intro v x u t rv rx ht
  cases rv with
  |non=>cases ht;cases rx;exact⟨_,PySem.W.kitx_none,True.intro,fun z=>nomatch z⟩
  |bl b=>cases ht;cases rx;exact⟨_,PySem.W.kitx_bool,True.intro,fun z=>nomatch z⟩
  |int b=>cases ht;obtain⟨t,rfl⟩:=rx;exact⟨_,PySem.W.kitx_int,True.intro,fun z=>nomatch z⟩
  |str b=>cases ht;obtain⟨t,rfl⟩:=rx;exact⟨_,PySem.W.kitx_str,True.intro,fun z=>nomatch z⟩
  |ty b=>cases ht
  |exc _ _ _=>cases ht
  |cls _=>cases ht
  |tup h rs=>
   cases ht;cases rx
   obtain⟨its,_,⟨o,ho,hc,_⟩,_⟩:=I.tuple h
   exact⟨_,PySem.W.kitx_tuple,⟨o,ho,hc⟩,fun z=>nomatch z⟩
  |cl h rs=>
   cases ht;cases rx
   obtain⟨its,_,⟨o,n,ho,hc,_⟩,_⟩:=I.list h.sq
   exact⟨_,PySem.W.kitx_list,⟨o,ho,hc⟩,fun z=>nomatch z⟩
  |ref a=>
   cases rx
   unfold wO at ht
   simp only at ht
   split at ht
   ·rename_i e
    cases ht
    obtain⟨vs,hv,_⟩:=rS _ _ e
    obtain⟨its,_,⟨o,n,ho,hc,_⟩,_⟩:=I.list (SqL.of hv)
    exact⟨_,PySem.W.kitx_list,⟨o,ho,hc⟩,fun z=>nomatch z⟩
   ·rename_i e
    cases ht
    obtain⟨vs,hv,_⟩:=rS _ _ e
    obtain⟨_,_,vs',_,p⟩:=(show Fu X.prog X.w H s.heap _ (.dK vs)from I.hok _ _ hv)
    obtain⟨o,es,ep,h1,h2,_⟩:=p
    exact⟨_,PySem.W.kitx_dict,⟨o,h1,h2.1⟩,fun z=>nomatch z⟩
   ·cases ht
 unfold i8 at q
 split at q
 ·split at q
  ·rename_i ht
   cases rp with
   |cons a rr=>
    cases rr with
    |cons b r3=>
     cases r3;cases b
     cases r with
     |cons r1 r2=>
      cases r2 with
      |cons r4 r5=>
       cases r5
       cases (show _=Value.type _ from r4)
       obtain⟨h,Z,hp,hx⟩:=main a r1 ht
       exact PySem.W.kia_one Z I.Ix hp (qH (uh ht) q.1) hx fun tk=>⟨.bl _,H,I.tok _,rfl,k _ S _ H q.2 (.bl _) rS .refl⟩
  ·exact q.elim
 ·split at q
  ·rename_i ht hl
   cases rp with
   |cons a rr=>
    cases rr with
    |cons b r3=>
     cases r3
     cases b with
     |tup h1 rs=>
      cases r with
      |cons r1 r2=>
       cases r2 with
       |cons r4 r5=>
        cases r5
        cases r4
        obtain⟨h,Z,hp,hx⟩:=main a r1 ht
        exact pI I Z hp hx h1 (fun its rv=>wP (uh ht) _ hl rs rv) fun tk=>⟨.bl _,H,I.tok _,rfl,k _ S _ H q (.bl _) rS .refl⟩
  ·exact q.elim
 ·exact q.elim⟩
end
abbrev wQ:=PV->List PV->aw->bE->Prop
section
variable {X:Cx} {e o:Expr} {es:List Expr} {te to:aQ} {ts:List aQ} {name:Str} {p pos apos cpos:Pos} {T id:String}
noncomputable def LM(X:Cx)(r:wQ):V->List V->Hp->VK->Prop:=fun x xs H Q=>∃px ps S Q3,Rep X.K H x px/\Reps X.K H xs ps/\Fh X.K H S/\r px ps S Q3/\I_ X.K H Q3 Q
structure zQ (X:Cx) (id:String) (r:wQ):Prop where
 ok:Dx X id (LM X r)
def sd(T:String)(x:PV)(S:aw):Prop:=match x with
 | .str _=>T = "str"
 | .ref a=>(match S a with|some (.lst _)=>T = "list" | some (.dct _)=>T = "dict" | _=>False)
 | .cl _=>T = "list"
 |_=>False
def uk{H:Hp}{S:aw}{v:V}{p:PV}(rS:Fh X.K H S)(r:Rep X.K H v p)(h:sd T p S):C0 X.K T v H:=by
 cases r with
 |str x=>exact h
 |ref a=>
  unfold sd at h
  simp only at h
  split at h
  ·rename_i e
   obtain⟨vs,hv,_⟩:=rS _ _ e
   exact .inl ⟨h,_,SqL.of hv⟩
  ·rename_i e
   obtain⟨vs,hv,_⟩:=rS _ _ e
   exact .inr (.inr (.inl ⟨h,.inl ⟨_,hv⟩⟩))
  ·exact h.elim
 |cl h1 _=>exact .inl ⟨h,_,h1.sq⟩
 |_=>exact h.elim
def ko(T:String)(r:wQ)(to:aQ)(ts:List aQ):aQ:=fun σ S Q E=>to σ S (fun x S1=>sd T x S1/\af ts σ S1 (fun ps S2=>r x ps S2 Q) E) E
def DW{r:wQ}(pa:PlainAttrs T)(slot:Slot T name id)(hty:typeOf (.builtin id)=pure (.type "method_descriptor"))(hm:zQ X id r)(hs:starEach (e::es) X.env=(false,eval e X.env)::starEach es X.env)(ho:a_ X o to)(ha:kg X (e::es) ts)
  (hbase:attributeBase o name X.env (eval o X.env)=eval o X.env:=by rfl)
  (hfew:((backTo cpos (starEach (e::es) X.env)).all (fun x=>!x.1)&&(backToKw cpos (keywordEach [] X.env)).all (fun x=>x.1.isSome)
   && decide ((e::es).length+([]:List Keyword).length+(if ([]:List Keyword).isEmpty then 0 else 1) < 30))=true:=by rfl)
  (hline:(apos.endLine == cpos.line)=true:=by rfl) (hplain:(backTo cpos (starEach es X.env)).any (·.1)=false:=by rfl):a_ X (.Call (.Attribute o name apos) (e::es) [] cpos) (ko T r to ts):=
 ⟨aK (Bx pa slot hty hm.ok ho.ok ha.ok hbase hfew hline hs hplain) fun σ H Q ⟨σ3,S,Q3,E3,rσ,rS,h,xo,k⟩=>⟨σ3,S,_,E3,rσ,rS,h,xo,fun x S1 v H1 h1 rx Fm g1=>
  ⟨uk Fm rx h1.1,cH (rσ.mono g1) Fm h1.2 (xo.mono g1) fun ps S2 vs H2 hl q rv GL g2=>⟨x,ps,S2,Q3,rx.mono g2,rv,GL,q,k.mono (g1.trans g2)⟩⟩⟩⟩
def BS{r:wQ}(pa:PlainAttrs T)(slot:Slot T name id)(hty:typeOf (.builtin id)=pure (.type "method_descriptor"))(hm:zQ X id r)(ho:a_ X o to)
  (hbase:attributeBase o name X.env (eval o X.env)=eval o X.env:=by rfl) (hline:(apos.endLine == cpos.line)=true:=by rfl):a_ X (.Call (.Attribute o name apos) [] [] cpos) (ko T r to []):=
 ⟨aK (zr pa slot hty hm.ok ho.ok hbase hline) fun σ H Q ⟨σ3,S,Q3,E3,rσ,rS,h,xo,k⟩=>⟨σ3,S,_,E3,rσ,rS,h,xo,fun x S1 v H1 h1 rx Fm g1=>
  ⟨uk Fm rx h1.1,⟨x,[],S1,Q3,rx,.nil,Fm,h1.2,k.mono g1⟩⟩⟩⟩
def bD:wQ:=fun x ps S Q=>match x,ps with
 | .ref a,[y]=>(match S a with|some (.lst xs)=>xs.length < sizeLine/\Q .non (Fc S a (.lst (xs++[y])))|_=>False)
 |_,_=>False
def eV:zQ X "list.append" bD:=⟨fun pins s σ H x xs v us Q I rx rs ⟨px,ps,S,Q3,r1,rp,rS,q,k⟩=>by
 unfold bD at q
 split at q
 ·split at q
  ·rename_i e
   cases r1
   cases rp with
   |cons b rr=>
    cases rr
    obtain⟨vs,hv,rl⟩:=rS _ _ e
    exact rJ pins s σ H _ _ v us Q I rx rs ⟨_,_,_,rfl,rfl,hv,by rw[rl.length];exact q.1,k _ _ _ _ q.2 .non (rS.put hv trivial ⟨_,aB,(rl.append (.cons b .nil)).mono (.mut hv trivial)⟩) (.mut hv trivial)⟩
  ·exact q.elim
 ·exact q.elim⟩
def ft:wQ:=fun x ps S Q=>match x,ps with
 | .ref a,[.ref b]=>(match S a,S b with|some (.lst xs),some (.lst ys)=>xs.length+ys.length<=sizeLine/\Q .non (Fc S a (.lst (xs++ys)))|_,_=>False)
 |_,_=>False
def ul:zQ X "list.extend" ft:=⟨fun pins s σ H x xs v us Q I rx rs ⟨px,ps,S,Q3,r1,rp,rS,q,k⟩=>by
 unfold ft at q
 split at q
 ·split at q
  ·rename_i e e2
   cases r1
   cases rp with
   |cons b rr=>
    cases rr
    cases b
    obtain⟨vs,hv,rl⟩:=rS _ _ e
    obtain⟨us',hu,ru⟩:=rS _ _ e2
    exact rK pins s σ H _ _ v us Q I rx rs ⟨_,_,_,_,rfl,rfl,hv,hu,by rw[rl.length,ru.length];exact q.1,k _ _ _ _ q.2 .non (rS.put hv trivial ⟨_,aB,(rl.append ru).mono (.mut hv trivial)⟩) (.mut hv trivial)⟩
  ·exact q.elim
 ·exact q.elim⟩
def nP:wQ:=fun x ps S Q=>match x,ps with
 | .ref a,[]=>(match S a with|some (.lst xs)=>(match xs[xs.length - 1]? with|some y=>Q y (Fc S a (.lst xs.dropLast))|none=>False)|_=>False)
 | .ref a,[.int i]=>(match S a with|some (.lst xs)=>-(2 ^ 63)<=i/\i < 2 ^ 63/\(match seqIndex? i xs.length with|some j=>(match xs[j]? with|some y=>Q y (Fc S a (.lst (xs.eraseIdx j)))|none=>False)|none=>False)|_=>False)
 |_,_=>False
def yf:zQ X "list.pop" nP:=⟨fun pins s σ H x xs v us Q I rx rs ⟨px,ps,S,Q3,r1,rp,rS,q,k⟩=>by
 unfold nP at q
 split at q
 ·split at q
  ·rename_i e
   split at q
   ·rename_i ey
    cases r1
    cases rp
    obtain⟨vs,hv,rl⟩:=rS _ _ e
    rw[<-rl.length]at ey
    obtain⟨y',LZ,ry⟩:=rl.get ey
    exact zt pins s σ H _ _ v us Q I rx rs ⟨_,_,_,rfl,rfl,hv,LZ,k _ _ _ _ q (ry.mono (.mut hv trivial)) (rS.put hv trivial ⟨_,aB,rl.dropLast.mono (.mut hv trivial)⟩) (.mut hv trivial)⟩
   ·exact q.elim
  ·exact q.elim
 ·split at q
  ·rename_i e
   obtain⟨h1,h2,q⟩:=q
   split at q
   ·rename_i ej
    split at q
    ·rename_i ey
     cases r1
     cases rp with
     |cons b rr=>
      cases rr;cases b
      obtain⟨vs,hv,rl⟩:=rS _ _ e
      obtain⟨y',LZ,ry⟩:=rl.get ey
      rw[<-rl.length]at ej
      exact tM pins s σ H _ _ v us Q I rx rs ⟨_,_,_,_,_,rfl,rfl,hv,h1,h2,ej,LZ,k _ _ _ _ q (ry.mono (.mut hv trivial)) (rS.put hv trivial ⟨_,aB,(rl.eraseIdx _).mono (.mut hv trivial)⟩) (.mut hv trivial)⟩
    ·exact q.elim
   ·exact q.elim
  ·exact q.elim
 ·exact q.elim⟩
end
section
variable {X:Cx} {e c:Expr} {te:aQ} {st:Stmt} {rest a b:List Stmt} {t u:bS} {tc:jA} {pos:Pos}
def bZ:bS:=fun D σ S=>D.nx σ S
def aj(t u:bS):bS:=fun D σ S=>t { D with nx:=u D } σ S
def bz:jJ X [] bZ:=⟨qD vU fun D σ H ⟨σ3,S,D3,rσ,rS,h,xo,n,r,bk,ct⟩=>n σ3 S σ H h rσ rS .refl⟩
def ae(h1:oI X st t)(h2:jJ X rest u):jJ X (st::rest) (aj t u):=
 ⟨qD (sY h1.ok h2.ok) fun D σ H ⟨σ3,S,D3,rσ,rS,h,xo,n,r,bk,ct⟩=>⟨σ3,S,{ D3 with nx:=u D3 },rσ,rS,h,xo,fun σ4 S' σ' H' h' Jn GB g=>⟨σ4,S',D3,Jn,GB,h',xo.mono g,n.mono g,r.mono g,bk.mono g,ct.mono g⟩,r,bk,ct⟩⟩
def al(h1:oI X st t):jJ X [st] t:=⟨vV h1.ok⟩
def c_(te:aQ):bS:=fun D σ S=>te σ S (fun _ S1=>D.nx σ S1) D.ex
def fu(he:a_ X e te)(hs:swapsWith e none pos.line X.env=pure false:=by rfl):oI X (.Expr e pos) (c_ te):=
 ⟨dC (vW he.ok hs) fun D σ H ⟨σ3,S,D3,rσ,rS,h,xo,n,r,bk,ct⟩=>⟨σ3,S,_,D3.ex,rσ,rS,h,xo,fun p S1 v H1 h1 rv Fm g1=>n σ3 S1 σ H1 h1 (rσ.mono g1) Fm g1⟩⟩
def av(te:aQ):bS:=fun D σ S=>te σ S D.rt D.ex
def az(he:a_ X e te):oI X (.Return (some e) pos) (av te):=
 ⟨dC (yU he.ok) fun D σ H ⟨σ3,S,D3,rσ,rS,h,xo,n,r,bk,ct⟩=>⟨σ3,S,D3.rt,D3.ex,rσ,rS,h,xo,r⟩⟩
def cK(c:jA)(t u:bS):bS:=fun D σ S=>c σ S (fun b S1=>if b=true then t D σ S1 else u D σ S1) D.ex
def cY(hc:pD X c tc)(ha:jJ X a t)(hb:jJ X b u):oI X (.If c a b pos) (cK tc t u):=
 ⟨dC (A_ hc.ok ha.ok hb.ok) fun D σ H ⟨σ3,S,D3,rσ,rS,h,xo,n,r,bk,ct⟩=>⟨σ3,S,_,D3.ex,rσ,rS,h,xo,fun z S1 H1 h1 Fm g1=>by
  cases z with
  |true=>rw[if_pos rfl]at h1 ⊢;exact⟨σ3,S1,D3,rσ.mono g1,Fm,h1,xo.mono g1,n.mono g1,r.mono g1,bk.mono g1,ct.mono g1⟩
  |false=>rw[if_neg (by decide)]at h1 ⊢;exact⟨σ3,S1,D3,rσ.mono g1,Fm,h1,xo.mono g1,n.mono g1,r.mono g1,bk.mono g1,ct.mono g1⟩⟩⟩
def ap(i:Nat)(te:aQ):bS:=fun D σ S=>te σ S (fun v S1=>D.nx (σ.set i (some v)) S1) D.ex
def um{i:Nat}{D:l_}{σ:L2.St}{H:Hp}:LS X (ap i te) D σ H->v0 (LE X te) (nz i) D σ H:=fun⟨σ3,S,D3,rσ,rS,h,xo,n,r,bk,ct⟩=>
 ⟨σ3,S,_,D3.ex,rσ,rS,h,xo,fun p S1 v H1 h1 rv Fm g1=>n _ S1 _ H1 h1 ((rσ.mono g1).set rv i) Fm g1⟩
def BU{i:Nat}{x:Str}{pos':Pos}(hN:X.N.Nodup)(hi:X.N[i]?=some x)(hx:xT X.env.scope x)(he:a_ X e te)(hs:swapsWith e (some (.Name x pos')) pos.line X.env=pure false:=by rfl)
  (hf:X.fn x=true\/X.env.scope.names.lookup x=some .local:=by first|exact .inl rfl|exact .inr rfl|assumption):oI X (.Assign [.Name x pos'] e pos) (ap i te):=⟨dC (yY hN hi hx he.ok hs hf) fun _ _ _=>um⟩
def jN(i j:Nat)(ta tb:aQ):bS:=fun D σ S=>ta σ S (fun v S1=>tb σ S1 (fun w S2=>D.nx ((σ.set i (some v)).set j (some w)) S2) D.ex) D.ex
def nQ{i j:Nat}{x y:Str}{a b:Expr}{ta tb:aQ}{px py pt:Pos}{kt k2 JT}(hc:X.calm=true)(hN:X.N.Nodup)(hi:X.N[i]?=some x)(hj:X.N[j]?=some y)(hij:i≠j)
  (hx:X.env.scope.names.lookup x=some .local) (hy:X.env.scope.names.lookup y=some .local) (ha:kg X [a,b] [ta,tb])
  (hw:swappedStores [.Tuple [.Name x px,.Name y py] kt pt] (.Tuple [a,b] k2 JT) X.env=pure (some [x,y]):=by rfl)
  (hs:swapsWithSole [.Tuple [.Name x px,.Name y py] kt pt] (.Tuple [a,b] k2 JT) pos.line X.env=pure false:=by rfl) :
  oI X (.Assign [.Tuple [.Name x px,.Name y py] kt pt] (.Tuple [a,b] k2 JT) pos) (jN i j ta tb):=
 ⟨dC (yZ hc hN hi hj hij hx hy ha.ok hw hs) fun D σ H ⟨σ3,S,D3,rσ,rS,h,xo,n,r,bk,ct⟩=>
  ⟨σ3,S,_,D3.ex,rσ,rS,h,xo,fun v S1 v' H1 h1 rv Fm g1=>⟨σ3,S1,_,D3.ex,rσ.mono g1,Fm,h1,xo.mono g1,fun w S2 w' H2 h2 rw' GL g2=>
   ⟨v',w',rfl,n _ S2 _ H2 h2 (((rσ.mono (g1.trans g2)).set (rv.mono g2) i).set rw' j) GL (g1.trans g2)⟩⟩⟩⟩
inductive Tg where
 |n (i:Nat)|tp (l:Tg)|nil|cons (a r:Tg)
mutual
noncomputable def Tg.put:Tg->PV->cZ->Option cZ
 | .n i,p,σ=>some (σ.set i (some p))
 | .tp l,.tup xs,σ=>l.FH xs σ
 |_,_,_=>none
noncomputable def Tg.FH:Tg->List PV->cZ->Option cZ
 | .nil,[],σ=>some σ
 | .cons a r,x::xs,σ=>(match a.put x σ with|some σ'=>r.FH xs σ'|none=>none)
 |_,_,_=>none
end
noncomputable def Tg.len:Tg->Nat
 | .cons _ r=>r.len+1
 |_=>0
mutual
noncomputable def Tg.g2(K:Vo):Tg->TG
 | .n i=>nz i
 | .tp l=>Bc K l.len (l.JK K)
 |_=>fun _ _ _ _=>False
noncomputable def Tg.JK(K:Vo):Tg->vJ
 | .nil=>Bb
 | .cons a r=>xU (a.g2 K) (r.JK K)
 |_=>fun _ _ _ _=>False
end
noncomputable def Tg.under(own:Nat):Tg->Bool
 | .n i=>decide (i < own)
 | .tp l=>l.under own
 | .nil=>true
 | .cons a r=>a.under own&&r.under own
theorem Tg.Im:∀(g:Tg) {ps:List PV} {σ3 σ4:cZ},g.FH ps σ3=some σ4->ps.length=g.len
 | .nil,ps,σ3,σ4,h=>by
  cases ps with
  |nil=>rfl
  |cons _ _=>unfold Tg.FH at h;cases h
 | .cons a r,ps,σ3,σ4,h=>by
  cases ps with
  |nil=>unfold Tg.FH at h;cases h
  |cons x xs=>
   unfold Tg.FH at h
   split at h
   ·rw[List.length_cons,Tg.Im r h];rfl
   ·cases h
 | .n _,ps,σ3,σ4,h=>by unfold Tg.FH at h;cases h
 | .tp _,ps,σ3,σ4,h=>by unfold Tg.FH at h;cases h
mutual
theorem Tg.HR{K:Vo}{H:Hp}{own:Nat}:∀(g:Tg) {v:V} {p:PV} {σ:L2.St} {σ3 σ4:cZ} {Q:L2.St->Hp->Prop},Rep K H v p->Fp K H σ σ3->g.put p σ3=some σ4->(∀σ',Fp K H σ' σ4->(g.under own=true->σ'.drop own=σ.drop own)->Q σ' H)->g.g2 K v σ H Q
 | .n i,v,p,σ,σ3,σ4,Q,r,rσ,h,k=>by
  unfold Tg.put at h
  cases h
  unfold Tg.g2
  refine k _ (rσ.set r i) fun hb=>?_
  have hi:i < own:=of_decide_eq_true hb
  rw[List.drop_set]
  rw[if_pos hi]
 | .tp l,v,p,σ,σ3,σ4,Q,r,rσ,h,k=>by
  cases p with
  |tup xs=>
   unfold Tg.put at h
   cases r with
   |tup hq rs=>
    have hg:=Tg.HS (own:=own) l rs rσ h k
    unfold Tg.g2
    exact⟨_,_,rfl,hq,rs.length.trans (Tg.Im l h),hg⟩
  |_=>unfold Tg.put at h;cases h
 | .nil,v,p,σ,σ3,σ4,Q,r,rσ,h,k=>by unfold Tg.put at h;cases h
 | .cons _ _,v,p,σ,σ3,σ4,Q,r,rσ,h,k=>by unfold Tg.put at h;cases h
theorem Tg.HS{K:Vo}{H:Hp}{own:Nat}:∀(g:Tg) {vs:List V} {ps:List PV} {σ:L2.St} {σ3 σ4:cZ} {Q:L2.St->Hp->Prop},Reps K H vs ps->Fp K H σ σ3->g.FH ps σ3=some σ4->(∀σ',Fp K H σ' σ4->(g.under own=true->σ'.drop own=σ.drop own)->Q σ' H)->g.JK K vs σ H Q
 | .nil,vs,ps,σ,σ3,σ4,Q,r,rσ,h,k=>by
  cases ps with
  |nil=>
   unfold Tg.FH at h
   cases h
   cases r
   unfold Tg.JK
   exact⟨rfl,k _ rσ fun _=>rfl⟩
  |cons _ _=>unfold Tg.FH at h;cases h
 | .cons a r',vs,ps,σ,σ3,σ4,Q,r,rσ,h,k=>by
  cases ps with
  |nil=>unfold Tg.FH at h;cases h
  |cons x xs=>
   unfold Tg.FH at h
   split at h
   ·rename_i σ5 e5
    cases r with
    |cons r1 r2=>
     unfold Tg.JK
     refine⟨_,_,rfl,Tg.HR (own:=own) a r1 rσ e5 fun σ' Jn d1=>Tg.HS (own:=own) r' r2 Jn h fun No L4 d2=>k No L4 fun hb=>?_⟩
     have hb':a.under own=true/\r'.under own=true:=by simpa [Tg.under]using hb
     rw[d2 hb'.2,d1 hb'.1]
   ·cases h
 | .n _,vs,ps,σ,σ3,σ4,Q,r,rσ,h,k=>by unfold Tg.FH at h;cases h
 | .tp _,vs,ps,σ,σ3,σ4,Q,r,rσ,h,k=>by unfold Tg.FH at h;cases h
end
structure vL (X:Cx) (e:Expr) (g:Tg):Prop where
 ok:PG X e (g.g2 X.K)
structure uo (X:Cx) (es:List Expr) (g:Tg):Prop where
 ok:AL X es (g.JK X.K)
 len:(assignEach es X.env).length=g.len
def EX(i:Nat){x:Str}(hN:X.N.Nodup)(hi:X.N[i]?=some x)(hx:xT X.env.scope x)(hf:X.fn x=true\/X.env.scope.names.lookup x=some .local:=by first|exact .inl rfl|exact .inr rfl|assumption):vL X (.Name x pos) (.n i):=⟨by
 have h:=vY (pos:=pos) hN hi hx hf
 unfold Tg.g2
 exact h⟩
def dI:uo X [] .nil:=⟨by unfold Tg.JK;exact vZ,rfl⟩
def aD{es:List Expr}{a r:Tg}(h1:vL X e a)(h2:uo X es r)(hs:(assignEach (e::es) X.env).map (·.2)=assign e X.env::(assignEach es X.env).map (·.2):=by rfl)(hl:(assignEach (e::es) X.env).length=(assignEach es X.env).length+1:=by rfl):uo X (e::es) (.cons a r):=
 ⟨by unfold Tg.JK;exact sZ h1.ok h2.ok hs,by rw[hl,h2.len];rfl⟩
def qI{es:List Expr}{k:Nat}{l:Tg}(hc:X.calm=true)(h:uo X es l)(hst:(assignEach es X.env).findIdx? (·.1)=none:=by rfl):vL X (.Tuple es k pos) (.tp l):=⟨by
 have h:=yW (pos:=pos) (k:=k) hc h.ok h.len hst
 unfold Tg.g2
 exact h⟩
def jO(te:aQ)(g:Tg):bS:=fun D σ S=>te σ S (fun v S1=>match g.put v σ with|some σ'=>D.nx σ' S1|none=>False) D.ex
def qJ{tg:Expr}{g:Tg}(he:a_ X e te)(hg:vL X tg g)(hs:swapsWithSole [tg] e pos.line X.env=pure false:=by rfl)(hw:swappedStores [tg] e X.env=pure none:=by rfl)
  (h1:(assignEach [tg] X.env).map (·.2)=[assign tg X.env]:=by rfl):oI X (.Assign [tg] e pos) (jO te g):=
 ⟨dC (oO he.ok hg.ok hs hw h1) fun D σ H ⟨σ3,S,D3,rσ,rS,h,xo,n,r,bk,ct⟩=>⟨σ3,S,_,D3.ex,rσ,rS,h,xo,fun p S1 v H1 h1 rv Fm g1=>by
  dsimp only at h1
  split at h1
  ·rename_i σ' e'
   exact Tg.HR (own:=0) g rv (rσ.mono g1) e' fun σ2 L5 _=>n _ S1 _ H1 h1 L5 Fm g1
  ·exact h1.elim⟩⟩
end
noncomputable def kq{κ:Type} [DecidableEq κ](kvs:List (κ×PV))(k:κ)(v:PV):List (κ×PV):=
 if (kvs.any fun kv=>decide (kv.1=k))=true then kvs.map (fun kv=>if kv.1=k then (kv.1,v) else kv) else kvs++[(k,v)]
theorem Fl.append{K:Vo}{H:Hp}{κ:Type}:∀{vs us:List (κ×V)} {ps qs:List (κ×PV)},Fl K H vs ps->Fl K H us qs->Fl K H (vs++us) (ps++qs)
 |_,_,_,_,.nil,s=>s
 |_,_,_,_,.cons a r,s=>.cons a (Fl.append r s)
def Fl.put{K:Vo}{H:Hp}{κ:Type} [DecidableEq κ]{k:κ}{v:V}{p:PV}(q:Rep K H v p){vs:List (κ×V)}{ps:List (κ×PV)}(r:Fl K H vs ps):Fl K H (fZ vs k v) (kq ps k p):=by
 have e:(vs.any fun kv=>decide (kv.1=k))=(ps.any fun kv=>decide (kv.1=k)):=by rw[j8,r.any]
 unfold fZ kq
 rw[e]
 split
 ·clear e
  rename_i h
  clear h
  induction r with
  |nil=>exact .nil
  |@cons k' v' p' vs' ps' a r ih=>
   rw[List.map_cons,List.map_cons]
   by_cases z:k'=k
   ·rw[if_pos z,if_pos z];exact .cons q ih
   ·rw[if_neg z,if_neg z];exact .cons a ih
 ·exact r.append (.cons q .nil)
def fw(o i v:PV)(S:aw)(Q:aw->Prop):Prop:=match o with
 | .ref a=>(match S a with
  |some (.lst xs)=>(match i with | .int k=>(match qx xs.length k with|some j=>Q (Fc S a (.lst (xs.set j v)))|none=>False)|_=>False)
  |some (.dct kvs)=>(match kl i with|some k=>kvs.length < sizeLine/\Q (Fc S a (.dct (kq kvs k v)))|none=>False)
  |_=>False)
 |_=>False
section
variable {X:Cx} {e o i:Expr} {te to ti:aQ} {pos pos':Pos}
noncomputable def DX(X:Cx):V->V->V->Hp->(Hp->Prop)->Prop:=fun o i v H Q=>∃po pi pv S Q3,Rep X.K H o po/\Rep X.K H i pi/\Rep X.K H v pv/\Fh X.K H S/\fw po pi pv S Q3/\∀S' H',Q3 S'->Fh X.K H' S'->Grow X.K H H'->Q H'
def zR(hu:X.A.units+1 < cLine):vX X (DX X):=by
 intro pins s σ H o i v ov iv u Q I ro ri rv ⟨po,pi,pv,S,Q3,r1,r2,r3,rS,q,k⟩
 unfold fw at q
 split at q
 ·split at q
  ·rename_i e
   split at q
   ·split at q
    ·rename_i ej
     cases r1;cases r2
     obtain⟨vs,hv,rl⟩:=rS _ _ e
     rw[<-rl.length]at ej
     exact tK pins s σ H _ _ _ ov iv u Q I ro ri rv ⟨_,_,_,_,rfl,rfl,hv,ej,k _ _ q (rS.put hv trivial ⟨_,aB,((rl.set r3 _).mono (.mut hv trivial))⟩) (.mut hv trivial)⟩
    ·exact q.elim
   ·exact q.elim
  ·rename_i e
   split at q
   ·rename_i ek
    cases r1
    have e1:=fi r2 ek
    subst e1
    obtain⟨kv,hv,rk⟩:=rS _ _ e
    exact ub hu pins s σ H _ _ _ ov iv u Q I ro ri rv ⟨_,_,rfl,Jc.k hv (by rw[rk.length];exact q.1),k _ _ q.2 (rS.put hv trivial ⟨_,aB,(rk.put r3).mono (.mut hv trivial)⟩) (.mut hv trivial)⟩
   ·exact q.elim
  ·exact q.elim
 ·exact q.elim
def i9(te to ti:aQ):bS:=fun D σ S=>te σ S (fun v S1=>to σ S1 (fun o S2=>ti σ S2 (fun i S3=>fw o i v S3 (fun S4=>D.nx σ S4)) D.ex) D.ex) D.ex
def lO(hu:X.A.units+1 < cLine)(he:a_ X e te)(ho:a_ X o to)(hi:a_ X i ti)
  (ha:∀v,assign (.Subscript o i pos') X.env v=(do
   let ov <-holding [v] (eval o X.env)
   let iv <-holding [v,ov] (eval i X.env)
   standAt pos'
   holding [v,ov,iv] (setItem ov iv v)
   release [v,ov,iv] []):=by intro _;rfl)
  (hs:swapsWithSole [.Subscript o i pos'] e pos.line X.env=pure false:=by rfl) (hw:swappedStores [.Subscript o i pos'] e X.env=pure none:=by rfl)
  (h1:(assignEach [.Subscript o i pos'] X.env).map (·.2)=[assign (.Subscript o i pos') X.env]:=by rfl):oI X (.Assign [.Subscript o i pos'] e pos) (i9 te to ti):=
 ⟨dC (oO he.ok (yX ho.ok hi.ok (zR hu) ha) hs hw h1) fun D σ H ⟨σ3,S,D3,rσ,rS,h,xo,n,r,bk,ct⟩=>⟨σ3,S,_,D3.ex,rσ,rS,h,xo,fun v S1 v' H1 h1 rv Fm g1=>
  ⟨σ3,S1,_,D3.ex,rσ.mono g1,Fm,h1,xo.mono g1,fun o S2 o' H2 h2 ro GL g2=>⟨σ3,S2,_,D3.ex,rσ.mono (g1.trans g2),GL,h2,xo.mono (g1.trans g2),fun i S3 i' H3 h3 ri JJ g3=>
   ⟨o,i,v,S3,_,ro.mono g3,ri,rv.mono (g2.trans g3),JJ,h3,fun S4 H4 h4 Np g4=>n _ S4 _ H4 h4 (rσ.mono (g1.trans (g2.trans (g3.trans g4)))) Np (g1.trans (g2.trans (g3.trans g4)))⟩⟩⟩⟩⟩
end
end L3
namespace L2
open PySem PySem.Spec PyProof.Rows
section
variable {X:Cx} {tg:Expr}
def DY(K:Vo)(tl:TE):TI:=fun σ H R=>tl σ H fun x H1=>(∃a,x = .ref a/\(∃xs,SqL K H1 a xs)/\R (CT K a) H1)\/(∃a,x = .ref a/\(∃xs,SqT K H1 a xs)/\R (Do K a) H1)\/∃z,x = .str z/\R (DN z) H1
def zS{l:Expr}{tl:TE}(hl:PE X l tl):PI X tg l (DY X.K tl):=by
 intro pins s σ H R I h
 refine bC (hl pins s σ H _ I h) fun v s1 ⟨x,H1,I1,r1,q1⟩=>?_
 rcases q1 with⟨a,e,⟨xs,hq⟩,q⟩|⟨a,e,⟨xs,hq⟩,q⟩|⟨z,e,q⟩
 ·subst e
  cases r1
  obtain⟨its,rv,p,hz⟩:=I1.list hq
  refine wpAny_pyIter_list p.isList ?_
  refine⟨s1.heap.objs.size,[s1.heap.objs.size],_,_,H1,rfl,I1.kept (t':=s1.toks) fun b o e=>Heap.get?_push_of_some _ e,rA a _,⟨_,Heap.get?_push_size _ rfl,rfl,rfl⟩,fun b hb=>?_,q⟩
  have e:b=s1.heap.objs.size:=by simpa using hb
  subst e
  exact I1.Hf (Nat.le_refl _) (I1.hok.fresh (Nat.le_refl _))
 ·subst e
  cases r1
  obtain⟨its,rv,p,hz⟩:=I1.tuple hq
  refine wpAny_pyIter_tuple (show s1.heap.IsTuple a its.toArray from p) ?_
  refine⟨s1.heap.objs.size,[s1.heap.objs.size],_,_,H1,rfl,I1.kept (t':=s1.toks) fun b o e=>Heap.get?_push_of_some _ e,oP a _,⟨_,Heap.get?_push_size _ rfl,rfl,rfl⟩,fun b hb=>?_,q⟩
  have e:b=s1.heap.objs.size:=by simpa using hb
  subst e
  exact I1.Hf (Nat.le_refl _) (I1.hok.fresh (Nat.le_refl _))
 ·subst e
  obtain⟨t,rfl⟩:=r1
  have fin:∀ty,(ty = "str_ascii_iterator" \/ ty = "str_iterator")->Dn X pins σ tg R (.ref s1.heap.objs.size) { s1 with heap:=s1.heap.push { cls:=.type ty,data:=.fields #[.str z t,.int 0 0] } }:=fun ty hty=>by
   refine⟨s1.heap.objs.size,[s1.heap.objs.size],_,_,H1,rfl,I1.kept (t':=s1.toks) fun b o e=>Heap.get?_push_of_some _ e,tW hty _ z t,⟨Nat.zero_le _,_,Heap.get?_push_size _ rfl,rfl,rfl⟩,fun b hb=>?_,q⟩
   have e:b=s1.heap.objs.size:=by simpa using hb
   subst e
   exact I1.Hf (Nat.le_refl _) (I1.hok.fresh (Nat.le_refl _))
  cases ha:z.cps.all (· < 128)
  ·exact wpAny_pyIter_wide ha (fin _ (.inr rfl))
  ·exact wpAny_pyIter_ascii ha (fin _ (.inl rfl))
def zT(K:Vo)(ta:TA):TI:=fun σ H R=>ta σ H fun vs H1=>∃a,vs=[.ref a]/\(((∃xs,SqL K H1 a xs)/\R (DS K a) H1)\/((∃xs,SqT K H1 a xs)/\R (DT K a) H1))
def uq{elts:List Expr}{k0:Nat}{GO:Pos}{a:Expr}{ta:TA}{p pos:Pos}(hg:Gl X "enumerate")(hm:X.mg "enumerate" = none)(hv:bootBuiltins "enumerate" = some (.type "enumerate"))(ha:PA X [a] ta)
  (hs:starEach [a] X.env=[(false,eval a X.env)]:=by rfl):PI X (.Tuple elts k0 GO) (.Call (.Name "enumerate" p) [a] [] pos) (zT X.K ta):=by
 intro pins s σ H R I h
 refine Call_ (dS I hg hm hv (PyProof.Rows.callWith_type1 (bC (ha pos pins s σ H _ I h) fun us s1 ⟨vs,H1,I1,r1,q1⟩=>?_) hs rfl))
 obtain⟨a,e,q⟩:=q1
 subst e
 obtain⟨u,rfl,ru⟩:=fX r1
 cases ru
 rcases q with⟨⟨xs,qa⟩,q⟩|⟨⟨xs,qa⟩,q⟩
 ·obtain⟨ia,ra,pa,za⟩:=I1.list qa
  refine call_enumerate_list pa.isList fun g ge g1 gz kk=>?_
  refine wpAny_pyIter_enum (s:={ s1 with heap:=g }) ge ?_
  refine⟨_,[s1.heap.objs.size+1,s1.heap.objs.size],_,_,H1,rfl,I1.kept (t':=s1.toks) kk,rY (Nat.succ_ne_self _),⟨⟨_,ge⟩,g1⟩,fun c hc=>?_,q⟩
  have hle:s1.heap.objs.size<=c:=by
   simp only[List.mem_cons,List.not_mem_nil,or_false]at hc
   rcases hc with rfl|rfl
   ·exact Nat.le_add_right _ _
   ·exact Nat.le_refl _
  exact I1.Hf hle (I1.hok.fresh hle)
 ·obtain⟨ia,ra,pa,za⟩:=I1.tuple qa
  have la:a < s1.heap.objs.size:=by obtain⟨o,e,_⟩:=pa;exact Heap.lt_size e
  refine Et.kc (show s1.heap.IsTuple a ia.toArray from pa) fun g ge g1 kk=>?_
  refine wpAny_pyIter_enum (s:={ s1 with heap:=g }) ge ?_
  refine⟨_,[s1.heap.objs.size+1,s1.heap.objs.size],_,_,H1,rfl,I1.kept (t':=s1.toks) kk,pA (Nat.succ_ne_self _) (Nat.ne_of_lt (Nat.lt_succ_of_lt la)) (Nat.ne_of_lt la),⟨⟨_,ge⟩,g1⟩,fun c hc=>?_,q⟩
  have hle:s1.heap.objs.size<=c:=by
   simp only[List.mem_cons,List.not_mem_nil,or_false]at hc
   rcases hc with rfl|rfl
   ·exact Nat.le_add_right _ _
   ·exact Nat.le_refl _
  exact I1.Hf hle (I1.hok.fresh hle)
end
end L2
namespace L3
open PySem L2
structure DZ where
 items:List PV
 keep:aw->Prop
def iL(K:Vo)(H0:Hp)(J:It)(src:DZ):Prop:=∀(i:Nat) (S:aw) (H:Hp),Grow K H0 H->Fh K H S->src.keep S->
 (∀p,src.items[i]?=some p->J.go i H/\∀x H',J.K8 i H x H'->Rep K H' x p/\Fh K H' S/\Grow K H H')/\(i=src.items.length->J.stop i H)
abbrev sT:=cZ->aw->(DZ->aw->Prop)->ci->Prop
def LI(X:Cx)(t:sT):TI:=fun σ H R=>∃σ3 S R3 E3,Fp X.K H σ σ3/\Fh X.K H S/\t σ3 S R3 E3/\I9 X H E3/\∀src S' J H',R3 src S'->iL X.K H' J src->Fh X.K H' S'->Grow X.K H H'->R J H'
structure vM (X:Cx) (tg iter:Expr) (t:sT):Prop where
 ok:PI X tg iter (LI X t)
def kr{X:Cx}{tg iter:Expr}{t t':TI}(h:PI X tg iter t)(k:∀σ H R,t' σ H R->t σ H R):PI X tg iter t':=fun pins s σ H R I q=>h pins s σ H R I (k σ H R q)
section
variable {X:Cx} {e tg:Expr} {es:List Expr} {te:aQ} {ts:List aQ} {p pos:Pos}
noncomputable def b6(S:aw):PV->Option DZ
 | .tup xs=>some ⟨xs,fun _=>True⟩
 | .cl xs=>some ⟨xs,fun _=>True⟩
 | .str z=>some ⟨z.cps.toList.map fun c=>.str (sgn c),fun _=>True⟩
 | .ref a=>(match S a with|some (.lst xs)=>some ⟨xs,fun S'=>S' a=some (.lst xs)⟩|_=>none)
 |_=>none
def aL(te:aQ):sT:=fun σ S R E=>te σ S (fun v S1=>match b6 S1 v with|some src=>R src S1|none=>False) E
end
section
variable {X:Cx} {e tg a b:Expr} {es:List Expr} {te ta tb:aQ} {ts:List aQ} {p pos:Pos}
def ur{K:Vo}{H0:Hp}{a:Addr}{xs:List PV}:iL K H0 (CT K a) ⟨xs,fun S'=>S' a=some (.lst xs)⟩:=by
 intro i S H g rS hk
 obtain⟨vs,hv,rs⟩:=rS a _ hk
 refine⟨fun p hp=>?_,fun hi=>⟨vs,SqL.of hv,by rw[rs.length,hi];exact Nat.le_refl _⟩⟩
 obtain⟨v,hx,rv⟩:=rs.get hp
 refine⟨⟨vs,v,SqL.of hv,hx⟩,fun x H' ⟨e,h⟩=>?_⟩
 subst e
 have:=h vs (SqL.of hv)
 rw[hx]at this
 cases this
 exact⟨rv,rS,.refl⟩
def wR{K:Vo}{H0:Hp}{a:Addr}{vs:List V}{xs:List PV}(h:SqT K H0 a vs)(rs:Reps K H0 vs xs):iL K H0 (Do K a) ⟨xs,fun _=>True⟩:=by
 intro i S H g rS _
 have hv:=g.t _ _ h
 refine⟨fun p hp=>?_,fun hi=>⟨vs,hv,by rw[rs.length,hi];exact Nat.le_refl _⟩⟩
 obtain⟨v,hx,rv⟩:=rs.get hp
 refine⟨⟨vs,v,hv,hx⟩,fun x H' ⟨e,h⟩=>?_⟩
 subst e
 have:=h vs hv
 rw[hx]at this
 cases this
 exact⟨rv.mono g,rS,.refl⟩
def zU{K:Vo}{H0:Hp}{a:Addr}{vs:List V}{xs:List PV}(h:Ko K H0 a vs)(rs:Reps K H0 vs xs):iL K H0 (CT K a) ⟨xs,fun _=>True⟩:=by
 intro i S H g rS _
 have hv:=(g.c _ _ h).sq
 refine⟨fun p hp=>?_,fun hi=>⟨vs,hv,by rw[rs.length,hi];exact Nat.le_refl _⟩⟩
 obtain⟨v,hx,rv⟩:=rs.get hp
 refine⟨⟨vs,v,hv,hx⟩,fun x H' ⟨e,h⟩=>?_⟩
 subst e
 have:=h vs hv
 rw[hx]at this
 cases this
 exact⟨rv.mono g,rS,.refl⟩
def wS{K:Vo}{H0:Hp}{z:Str}:iL K H0 (DN z) ⟨z.cps.toList.map fun c=>.str (sgn c),fun _=>True⟩:=by
 intro i S H g rS _
 refine⟨fun p hp=>?_,fun hi=>by show z.cps.size<=i;rw[hi,List.length_map,Array.length_toList];exact Nat.le_refl _⟩
 rw[List.getElem?_map]at hp
 cases hc:z.cps.toList[i]? with
 |none=>rw[hc]at hp;cases hp
 |some c=>
  rw[hc]at hp
  cases hp
  have hc':z.cps[i]?=some c:=by simpa using hc
  refine⟨?_,fun x H' ⟨e,c',h1,h2⟩=>?_⟩
  ·show i < z.cps.size
   by_cases hi:i < z.cps.size
   ·exact hi
   ·rw[Array.getElem?_eq_none (by omega)]at hc';cases hc'
  ·subst e
   rw[hc']at h1
   cases h1
   subst h2
   exact⟨.str _,rS,.refl⟩
def cm(he:a_ X e te):vM X tg e (aL te):=⟨kr (zS he.ok) fun σ H R ⟨σ3,S,R3,E3,rσ,rS,h,xo,k⟩=>⟨σ3,S,_,E3,rσ,rS,h,xo,fun v S1 v' H1 h1 rv Fm g1=>by
 dsimp only at h1
 split at h1
 ·rename_i src hs
  unfold b6 at hs
  split at hs
  ·cases hs
   cases rv with
   |tup hq rs=>exact .inr (.inl ⟨_,rfl,⟨_,hq⟩,k _ S1 _ H1 h1 (wR hq rs) Fm g1⟩)
  ·cases hs
   cases rv with
   |cl hq rs=>exact .inl ⟨_,rfl,⟨_,hq.sq⟩,k _ S1 _ H1 h1 (zU hq rs) Fm g1⟩
  ·cases hs
   cases rv
   exact .inr (.inr ⟨_,rfl,k _ S1 _ H1 h1 wS Fm g1⟩)
  ·cases rv
   split at hs
   ·rename_i ea
    cases hs
    obtain⟨vs,hv,rs⟩:=Fm _ _ ea
    exact .inl ⟨_,rfl,⟨_,SqL.of hv⟩,k _ S1 _ H1 h1 ur Fm g1⟩
   ·cases hs
  ·cases hs
 ·exact h1.elim⟩⟩
noncomputable def bP(lo:Int)(n:Nat):List PV:=(List.range n).map fun(i:Nat)=>PV.int (lo+i)
def se{K:Vo}{H0:Hp}{lo:Int}{n:Nat}:iL K H0 (CU lo n) ⟨bP lo n,fun _=>True⟩:=by
 intro i S H g rS _
 refine⟨fun p hp=>?_,fun hi=>by show n<=i;rw[hi];simp[bP]⟩
 unfold bP at hp
 rw[List.getElem?_map]at hp
 by_cases hi:i < n
 ·rw[List.getElem?_range hi]at hp
  cases hp
  refine⟨hi,fun x H' ⟨e,h⟩=>?_⟩
  subst e h
  exact⟨.int _,rS,.refl⟩
 ·rw[List.getElem?_eq_none (by simpa using hi)]at hp
  cases hp
def bH(ta:aQ):sT:=fun σ S R E=>ta σ S (fun v S1=>match v with | .int j=>-(2 ^ 62)<=j/\j < 2 ^ 62/\R ⟨bP 0 j.toNat,fun _=>True⟩ S1|_=>False) E
def aV(hs:starEach [a] X.env=[(false,eval a X.env)])(hg:Gl X "range")(hm:X.mg "range" = none)(ha:kg X [a] [ta]):vM X tg (.Call (.Name "range" p) [a] [] pos) (bH ta):=
 ⟨kr (rB hg hm ha.ok hs) fun σ H R ⟨σ3,S,R3,E3,rσ,rS,h,xo,k⟩=>⟨σ3,S,_,E3,rσ,rS,h,xo,fun v S1 v' H1 h1 rv Fm g1=>by
  dsimp only at h1
  split at h1
  ·cases rv
   exact⟨_,rfl,h1.1,h1.2.1,k _ S1 _ H1 h1.2.2 se Fm g1⟩
  ·exact h1.elim⟩⟩
noncomputable def bh(xs:List PV):List PV:=xs.mapIdx fun i x=>.tup [.int i,x]
def sf{K:Vo}{H0:Hp}{a:Addr}{xs:List PV}:iL K H0 (DS K a) ⟨bh xs,fun S'=>S' a=some (.lst xs)⟩:=by
 intro i S H g rS hk
 obtain⟨vs,hv,rs⟩:=rS a _ hk
 refine⟨fun p hp=>?_,fun hi=>⟨vs,SqL.of hv,by rw[rs.length,hi];simp[bh]⟩⟩
 unfold bh at hp
 rw[List.getElem?_mapIdx]at hp
 cases hx:xs[i]? with
 |none=>rw[hx]at hp;cases hp
 |some y=>
  rw[hx]at hp
  cases hp
  obtain⟨v,hx',rv⟩:=rs.get hx
  refine⟨⟨vs,v,SqL.of hv,hx'⟩,fun x H' ⟨q,x2,e1,hq,e2,h⟩=>?_⟩
  subst e1 e2
  have:=h vs (SqL.of hv)
  rw[hx']at this
  cases this
  exact⟨.tup (SqT.of aB) (.cons (.int _) (.cons (rv.mono (.new hq)) .nil)),rS.other hq,.new hq⟩
def si{K:Vo}{H0:Hp}{a:Addr}{vs:List V}{xs:List PV}(h0:SqT K H0 a vs)(rs:Reps K H0 vs xs):iL K H0 (DT K a) ⟨bh xs,fun _=>True⟩:=by
 intro i S H g rS _
 have hv:=g.t _ _ h0
 refine⟨fun p hp=>?_,fun hi=>⟨vs,hv,by rw[rs.length,hi];simp[bh]⟩⟩
 unfold bh at hp
 rw[List.getElem?_mapIdx]at hp
 cases hx:xs[i]? with
 |none=>rw[hx]at hp;cases hp
 |some y=>
  rw[hx]at hp
  cases hp
  obtain⟨v,hx',rv⟩:=rs.get hx
  refine⟨⟨vs,v,hv,hx'⟩,fun x H' ⟨q,x2,e1,hq,e2,h⟩=>?_⟩
  subst e1 e2
  have:=h vs hv
  rw[hx']at this
  cases this
  exact⟨.tup (SqT.of aB) (.cons (.int _) (.cons ((rv.mono g).mono (.new hq)) .nil)),rS.other hq,.new hq⟩
def hG(ta:aQ):sT:=fun σ S R E=>ta σ S (fun v S1=>match v with
 | .tup xs=>R ⟨bh xs,fun _=>True⟩ S1
 | .ref a=>(match S1 a with|some (.lst xs)=>R ⟨bh xs,fun S'=>S' a=some (.lst xs)⟩ S1|_=>False)
 |_=>False) E
def pJ{elts:List Expr}{k0:Nat}{GO:Pos}(hs:starEach [a] X.env=[(false,eval a X.env)])(hg:Gl X "enumerate")(hm:X.mg "enumerate" = none)(hv:bootBuiltins "enumerate" = some (.type "enumerate"))(ha:kg X [a] [ta]):vM X (.Tuple elts k0 GO) (.Call (.Name "enumerate" p) [a] [] pos) (hG ta):=
 ⟨kr (uq hg hm hv ha.ok hs) fun σ H R ⟨σ3,S,R3,E3,rσ,rS,h,xo,k⟩=>⟨σ3,S,_,E3,rσ,rS,h,xo,fun v S1 v' H1 h1 rv Fm g1=>by
  dsimp only at h1
  split at h1
  ·cases rv with
   |tup hq rs=>exact⟨_,rfl,.inr ⟨⟨_,hq⟩,k _ S1 _ H1 h1 (si hq rs) Fm g1⟩⟩
  ·cases rv
   split at h1
   ·rename_i ea
    obtain⟨vs,hv,rs⟩:=Fm _ _ ea
    exact⟨_,rfl,.inl ⟨⟨_,SqL.of hv⟩,k _ S1 _ H1 h1 sf Fm g1⟩⟩
   ·exact h1.elim
  ·exact h1.elim⟩⟩
noncomputable def aP(xs ys:List PV):List PV:=(xs.zip ys).map fun z=>.tup [z.1,z.2]
def IU(K:Vo)(H0:Hp)(ka:Bool)(a:Addr)(xs:List PV)(keep:aw->Prop):Prop:=∀S H,Grow K H0 H->Fh K H S->keep S->∃vs,rW ka K H a vs/\Reps K H vs xs
def IU.tup{K:Vo}{H0:Hp}{a:Addr}{vs:List V}{xs:List PV}{keep:aw->Prop}(h:SqT K H0 a vs)(r:Reps K H0 vs xs):IU K H0 false a xs keep:=fun _ _ g _ _=>⟨vs,g.t _ _ h,r.mono g⟩
theorem IU.lst{K:Vo}{H0:Hp}{a:Addr}{xs:List PV}{keep:aw->Prop}(h:∀S,keep S->S a=some (.lst xs)):IU K H0 true a xs keep:=fun S _ _ rS k=>let ⟨vs,hv,r⟩:=rS _ _ (h S k);⟨vs,SqL.of hv,r⟩
def iM{K:Vo}{H0:Hp}{ka kb:Bool}{a b:Addr}{xs ys:List PV}{keep:aw->Prop}(h1:IU K H0 ka a xs keep)(h2:IU K H0 kb b ys keep):iL K H0 (DQ ka kb K a b) ⟨aP xs ys,keep⟩:=by
 intro i S H g rS kp
 obtain⟨vs,hv,r1⟩:=h1 S H g rS kp
 obtain⟨us,hu,r2⟩:=h2 S H g rS kp
 have l1:=r1.length
 have l2:=r2.length
 refine⟨fun p hp=>?_,fun hi=>⟨vs,us,hv,hu,?_⟩⟩
 ·unfold aP at hp
  rw[List.getElem?_map]at hp
  cases hz:(xs.zip ys)[i]? with
  |none=>rw[hz]at hp;cases hp
  |some z=>
   rw[hz]at hp
   cases hp
   obtain⟨e1,e2⟩:=List.getElem?_zip_eq_some.mp hz
   obtain⟨v,hx',rv⟩:=r1.get e1
   obtain⟨u,hy',ru⟩:=r2.get e2
   refine⟨⟨vs,us,v,u,hv,hu,hx',hy'⟩,fun x H' ⟨q,x2,y2,e3,hq,e4,h⟩=>?_⟩
   subst e3 e4
   obtain⟨k1,k2⟩:=h vs us hv hu
   rw[hx']at k1
   rw[hy']at k2
   cases k1;cases k2
   exact⟨.tup (SqT.of aB) (.cons (rv.mono (.new hq)) (.cons (ru.mono (.new hq)) .nil)),rS.other hq,.new hq⟩
 ·have e:(aP xs ys).length=min xs.length ys.length:=by simp[aP]
  rw[e]at hi
  by_cases hle:xs.length<=ys.length
  ·exact .inl (by omega)
  ·exact .inr (by omega)
def k5(ta tb:aQ):sT:=fun σ S R E=>ta σ S (fun v S1=>tb σ S1 (fun w S2=>match v,w with
 | .tup xs,.tup ys=>R ⟨aP xs ys,fun _=>True⟩ S2
 |_,_=>False) E) E
def ut{elts:List Expr}{k0:Nat}{GO:Pos}(hs:starEach [a,b] X.env=[(false,eval a X.env),(false,eval b X.env)])(hs2:starEach [b] X.env=[(false,eval b X.env)])(hg:Gl X "zip")(hm:X.mg "zip" = none)(hv:bootBuiltins "zip" = some (.type "zip"))(ha:kg X [a,b] [ta,tb]) :
  vM X (.Tuple elts k0 GO) (.Call (.Name "zip" p) [a,b] [] pos) (k5 ta tb):=
 ⟨kr (tZ hg hm hv ha.ok hs hs2) fun σ H R ⟨σ3,S,R3,E3,rσ,rS,h,xo,k⟩=>⟨σ3,S,_,E3,rσ,rS,h,xo,fun v S1 v' H1 h1 rv Fm g1=>⟨σ3,S1,_,E3,rσ.mono g1,Fm,h1,xo.mono g1,fun w S2 w' H2 h2 rw' GL g2=>by
  dsimp only at h2
  split at h2
  ·cases rv with
   |tup hq rs=>
    cases rw' with
    |tup hq2 J6=>exact⟨false,false,_,_,rfl,⟨_,g2.t _ _ hq⟩,⟨_,hq2⟩,k _ S2 _ H2 h2 (iM (.tup (g2.t _ _ hq) (rs.mono g2)) (.tup hq2 J6)) GL (g1.trans g2)⟩
  ·exact h2.elim⟩⟩⟩
end
section
variable {X:Cx} {iter tg c:Expr} {body:List Stmt} {ti:sT} {g:Tg} {tb:bS} {tc:jA} {pos:Pos}
noncomputable def mD(g:Tg)(tb:bS)(D:kf)(keep:aw->Prop):List PV->cZ->aw->Prop
 |[],σ,S=>keep S/\D.nx σ S
 |x::r,σ,S=>keep S/\match g.put x σ with|some σ'=>tb { D with nx:=mD g tb D keep r,ct:=mD g tb D keep r,bk:=D.nx } σ' S|none=>False
def bQ(ti:sT)(g:Tg)(tb:bS):bS:=fun D σ S=>ti σ S (fun src S1=>mD g tb D src.keep src.items σ S1) D.ex
def dy(hp:PassesOwn (model X.prog X.w) X.A X.env X.xe)(hc:X.calm=true)(hi:vM X tg iter ti)(hg:vL X tg g)(hb:jJ X body tb)(hs:∀x,foldedSetIterable iter X.env x=pure x:=by intro _;rfl):oI X (.For tg iter body [] pos) (bQ ti g tb):=
 ⟨dC (y8 hp hc hi.ok hg.ok hb.ok hs) fun D σ H ⟨σ3,S,D3,rσ,rS,h,xo,n,r,bk,ct⟩=>⟨σ3,S,_,D3.ex,rσ,rS,h,xo,fun src S1 J H1 h1 sim Fm g1=>by
  refine⟨fun i m σ' H'=>i+m=src.items.length/\∃σ4 S',Fp X.K H' σ' σ4/\Fh X.K H' S'/\Grow X.K H1 H'/\mD g tb D3 src.keep (src.items.drop i) σ4 S',⟨src.items.length,Nat.zero_add _,σ3,S1,rσ.mono g1,Fm,.refl,by simpa using h1⟩,?_⟩
  rintro i m σ' H' ⟨hm,σ4,S',Jn,GB,g',hw⟩
  cases hd:src.items.drop i with
  |nil=>
   rw[hd]at hw
   have hi:i=src.items.length:=by
    have:=congrArg List.length hd
    rw[List.length_drop,List.length_nil]at this
    omega
   exact .inl ⟨(sim i S' H' g' GB hw.1).2 hi,n _ S' _ H' hw.2 Jn GB (g1.trans g')⟩
  |cons x rest=>
   rw[hd]at hw
   have hx:src.items[i]?=some x:=by
    have:=congrArg (fun l=>l[0]?) hd
    simpa using this
   have hrest:src.items.drop (i+1)=rest:=by
    have:=congrArg List.tail hd
    simpa [List.tail_drop]using this
   have hlt:i < src.items.length:=by
    by_cases z:i < src.items.length
    ·exact z
    ·rw[List.getElem?_eq_none (by omega)]at hx;cases hx
   obtain⟨go,yl⟩:=(sim i S' H' g' GB hw.1).1 x hx
   refine .inr ⟨go,fun σ5 H5=>∃σ6 S6,Fp X.K H5 σ5 σ6/\Fh X.K H5 S6/\Grow X.K H1 H5/\mD g tb D3 src.keep rest σ6 S6,?_,fun v H5 hv=>?_⟩
   ·rintro σ5 H5 ⟨σ6,S6,q1,q2,q3,q4⟩
    exact⟨m - 1,by omega,by omega,σ6,S6,q1,q2,q3,by rw[hrest];exact q4⟩
   ·obtain⟨rv,L6,g5⟩:=yl v H5 hv
    obtain⟨_,hw⟩:=hw
    split at hw
    ·rename_i σ6 e6
     refine Tg.HR (own:=0) g rv (Jn.mono g5) e6 fun σ7 Ld _=>?_
     exact⟨σ6,S',_,Ld,L6,hw,xo.mono (g1.trans (g'.trans g5)),fun σ8 S8 σ9 H9 q1 q2 q3 q4=>⟨σ8,S8,q2,q3,g'.trans (g5.trans q4),q1⟩,r.mono (g1.trans (g'.trans g5)),n.mono (g1.trans (g'.trans g5)),
      fun σ8 S8 σ9 H9 q1 q2 q3 q4=>⟨σ8,S8,q2,q3,g'.trans (g5.trans q4),q1⟩⟩
    ·exact hw.elim⟩⟩
def i_(tc:jA)(tb:bS):bS:=fun D σ S=>∃W:Nat->cZ->aw->Prop,(∃m,W m σ S)/\∀m σ S,W m σ S->
 tc σ S (fun b S1=>if b=true then ∃N:cZ->aw->Prop,(∀σ' S',N σ' S'->∃m',m' < m/\W m' σ' S')/\tb { D with nx:=N,ct:=N,bk:=D.nx } σ S1 else D.nx σ S1) D.ex
def iN(hp:PassesOwn (model X.prog X.w) X.A X.env X.xe)(hc:pD X c tc)(hb:jJ X body tb):oI X (.While c body [] pos) (i_ tc tb):=
 ⟨dC (s9 hp hc.ok hb.ok) fun D σ H ⟨σ3,S,D3,rσ,rS,⟨W,⟨m0,w0⟩,turn⟩,xo,n,r,bk,ct⟩=>by
  refine⟨fun m σ' H'=>∃σ4 S',Fp X.K H' σ' σ4/\Fh X.K H' S'/\Grow X.K H H'/\W m σ4 S',⟨m0,σ3,S,rσ,rS,.refl,w0⟩,?_⟩
  rintro m σ' H' ⟨σ4,S',Jn,GB,g',w'⟩
  refine⟨σ4,S',_,D3.ex,Jn,GB,turn m σ4 S' w',xo.mono g',fun b S1 H1 h1 Fm g1=>?_⟩
  cases b with
  |true=>
   rw[if_pos rfl]at h1 ⊢
   obtain⟨N,hN,h1⟩:=h1
   refine⟨fun σ5 H5=>∃σ6 S6,Fp X.K H5 σ5 σ6/\Fh X.K H5 S6/\Grow X.K H H5/\N σ6 S6,?_,?_⟩
   ·rintro σ5 H5 ⟨σ6,S6,q1,q2,q3,q4⟩
    obtain⟨m',hm,w6⟩:=hN σ6 S6 q4
    exact⟨m',hm,σ6,S6,q1,q2,q3,w6⟩
   ·exact⟨σ4,S1,_,Jn.mono g1,Fm,h1,xo.mono (g'.trans g1),fun σ8 S8 σ9 H9 q1 q2 q3 q4=>⟨σ8,S8,q2,q3,g'.trans (g1.trans q4),q1⟩,r.mono (g'.trans g1),n.mono (g'.trans g1),
     fun σ8 S8 σ9 H9 q1 q2 q3 q4=>⟨σ8,S8,q2,q3,g'.trans (g1.trans q4),q1⟩⟩
  |false=>
   rw[if_neg (by decide)]at h1 ⊢
   exact n _ S1 _ H1 h1 (Jn.mono g1) Fm (g'.trans g1)⟩
end
noncomputable def gf:ci:=fun _ _ _=>False
def I9.no{X:Cx}{H:Hp}:I9 X H gf:=fun _ _ _ _ _ _ _ _ _ _ _ _ _ _ h=>h.elim
section
variable {X:Cx} {elt iter tg c:Expr} {ifs:List Expr} {scope:Scope} {pos:Pos} {ti:sT} {g:Tg} {tc:jA} {te:aQ} {fs N:Vs} {own:Nat} {fr:List Nat}
noncomputable def eW(g:Tg)(tc:jA)(te:aQ)(σ':cZ)(keep:aw->Prop)(fin:List PV->aw->Prop):List PV->List PV->aw->Prop
 |[],ys,S=>keep S/\ys.length<=sizeLine/\fin ys S
 |x::r,ys,S=>keep S/\ys.length<=sizeLine/\match g.put x σ' with
  |some σ2=>tc σ2 S (fun b S3=>if b=true then te σ2 S3 (fun y S4=>eW g tc te σ' keep fin r (ys++[y]) S4) gf else eW g tc te σ' keep fin r ys S3) gf
  |none=>False
def bo:jA:=fun _ S Q _=>Q true S
structure AR (X:Cx) (ifs:List Expr) (t:jA):Prop where
 ok:PF X ifs (LT X t)
def pK{t t':TT}(h:PF X ifs t)(k:∀σ H Q,t' σ H Q->t σ H Q):PF X ifs t':=fun pins s σ H Q I q=>h pins s σ H Q I (k σ H Q q)
def bA:AR X [] bo:=⟨pK zD fun σ H Q ⟨σ3,S,Q3,E3,rσ,rS,h,xo,k⟩=>k true S H h rS .refl⟩
def uu(h:pD X c tc):AR X [c] tc:=⟨zE h.ok⟩
noncomputable def bJ(own:Nat)(fr:List Nat)(σ:cZ):cZ:=List.replicate own none++fr.map fun j=>lk σ j
def wT{K:Vo}{H:Hp}{σ:L2.St}{σ3:cZ}(r:Fp K H σ σ3)(own:Nat)(fr:List Nat):Fp K H (eP own fr σ) (bJ own fr σ3):=by
 refine⟨by unfold eP bJ;simp,fun i p e=>?_⟩
 unfold bJ at e
 unfold eP
 by_cases hi:i < own
 ·rw[List.getElem?_append_left (by simpa using hi),List.getElem?_replicate,if_pos hi]at e
  cases e
 ·rw[List.getElem?_append_right (by simpa using hi),List.length_replicate,List.getElem?_map]at e ⊢
  cases hj:fr[i - own]? with
  |none=>rw[hj]at e;cases e
  |some j=>
   rw[hj]at e
   simp only[Option.map_some,Option.some.injEq]at e ⊢
   obtain⟨v,hv,rv⟩:=r.at' j p (t7 e)
   exact⟨v,by rw[hv];rfl,rv⟩
def ar(ti:sT)(g:Tg)(tc:jA)(te:aQ)(own:Nat)(fr:List Nat):aQ:=fun σ S Q E=>ti σ S (fun src S1=>eW g tc te (bJ own fr σ) src.keep (fun ys S2=>∀p,S2 p=none->Q (.ref p) (Fc S2 p (.lst ys))) src.items [] S1) E
def lP{σ:L2.St}{H:Hp}{Q:VK}(Jv:g.under own=true)(B0:Bk):LE X (ar ti g tc te own fr) σ H Q->tT (LI X ti) (g.g2 X.K) (fun σ H Q=>∃σ3 S Q3,Fp X.K H σ σ3/\Fh X.K H S/\tc σ3 S Q3 gf/\∀b S' H',Q3 b S'->Fh X.K H' S'->Grow X.K H H'->Q b H')
  (fun σ H Q=>∃σ3 S Q3,Fp X.K H σ σ3/\Fh X.K H S/\te σ3 S Q3 gf/\I_ X.K H Q3 Q) own fr σ H Q:=fun⟨σ3,S,Q3,E3,rσ,rS,h,xo,k⟩=>by
 refine⟨σ3,S,_,E3,rσ,rS,h,xo,fun src S1 J H1 h1 sim Fm g1=>?_⟩
 refine⟨fun i m ys H'=>i+m=src.items.length/\∃zs S',Reps X.K H' ys zs/\Fh X.K H' S'/\Grow X.K H1 H'/\eW g tc te (bJ own fr σ3) src.keep (fun ys S2=>∀p,S2 p=none->Q3 (.ref p) (Fc S2 p (.lst ys))) (src.items.drop i) zs S',⟨src.items.length,Nat.zero_add _,[],S1,.nil,Fm,.refl,by simpa using h1⟩,?_⟩
 rintro i m ys H' ⟨hm,zs,S',rz,GB,g',hw⟩
 cases hd:src.items.drop i with
 |nil=>
  rw[hd]at hw
  have hi:i=src.items.length:=by
   have:=congrArg List.length hd
   rw[List.length_drop,List.length_nil]at this
   omega
  refine .inl ⟨(sim i S' H' g' GB hw.1).2 hi,by rw[rz.length];exact hw.2.1,fun D hD=>?_⟩
  exact k _ _ _ _ (hw.2.2 D (GB.free hD)) (.ref D) (GB.new hD ⟨_,aB,rz.mono (.new hD)⟩) (g1.trans (g'.trans (.new hD)))
 |cons x rest=>
  rw[hd]at hw
  have hx:src.items[i]?=some x:=by
   have:=congrArg (fun l=>l[0]?) hd
   simpa using this
  have hrest:src.items.drop (i+1)=rest:=by
   have:=congrArg List.tail hd
   simpa [List.tail_drop]using this
  have hlt:i < src.items.length:=by
   by_cases z:i < src.items.length
   ·exact z
   ·rw[List.getElem?_eq_none (by omega)]at hx;cases hx
  obtain⟨go,yl⟩:=(sim i S' H' g' GB hw.1).1 x hx
  refine .inr ⟨go,by rw[rz.length];exact hw.2.1,fun ys' H5=>∃zs' S6,Reps X.K H5 ys' zs'/\Fh X.K H5 S6/\Grow X.K H1 H5/\eW g tc te (bJ own fr σ3) src.keep (fun ys S2=>∀p,S2 p=none->Q3 (.ref p) (Fc S2 p (.lst ys))) rest zs' S6,?_,fun v H5 hv=>?_⟩
  ·rintro ys' H5 ⟨zs',S6,q1,q2,q3,q4⟩
   exact⟨m - 1,by omega,by omega,zs',S6,q1,q2,q3,by rw[hrest];exact q4⟩
  ·obtain⟨rv,L6,g5⟩:=yl v H5 hv
   obtain⟨_,_,hw⟩:=hw
   split at hw
   ·rename_i σ6 e6
    refine Tg.HR (own:=own) g rv ((wT rσ own fr).mono (g1.trans (g'.trans g5))) e6 fun σ7 Ld d7=>⟨d7 Jv,?_⟩
    refine⟨σ6,S',_,Ld,L6,hw,fun b S8 H8 h8 ME g8=>?_⟩
    cases b with
    |true=>
     rw[if_pos rfl]at h8 ⊢
     exact⟨σ6,S8,_,Ld.mono g8,ME,h8,fun y S9 y' H9 h9 ry Nq g9=>⟨zs++[y],S9,(rz.mono (g5.trans (g8.trans g9))).append (.cons ry .nil),Nq,g'.trans (g5.trans (g8.trans g9)),h9⟩⟩
    |false=>
     rw[if_neg (by decide)]at h8 ⊢
     exact⟨zs,S8,rz.mono (g5.trans g8),ME,g'.trans (g5.trans g8),h8⟩
   ·exact hw.elim
def zV(fs:Vs)(own:Nat)(fr:List Nat)(N:Vs)(Jv:g.under own=true)(hc:X.calm=true)(hclos:closureFor scope X.env=pure (de X.env fs))(hcell:∀y∈scope.names,y.2 ≠ .cell)(hkind:scope.kind = .function)
  (hnames:∀x∈scope.names,x.2 = .local->scope.names.lookup x.1=some .local) (hcl:cL X.env fs) (hhas:my (relabel scope X.env).names (de X.env fs)=true)
  (hlen:N.length=own+fr.length) (hN:(N.drop own).map some=fr.map fun j=>X.N[j]?) (hF:F0 X.env scope (de X.env fs) (N.drop own))
  (hi:vM X tg iter ti) (hg:∀B,vL (X.GJ N scope fs B) tg g) (hf:∀B,AR (X.GJ N scope fs B) ifs tc) (he:∀B,a_ (X.GJ N scope fs B) elt te)
  (hs:∀x,foldedSetIterable iter X.env x=pure x:=by intro _;rfl):a_ X (.ListComp elt [⟨tg,iter,ifs,0⟩] scope pos) (ar ti g tc te own fr):=
 ⟨aK (wB fs own fr N hc hclos hcell hkind hnames hcl hhas hlen hN hF hi.ok (fun B=>(hg B).ok)
  (fun B=>pK (hf B).ok fun σ H Q ⟨σ3,S,Q3,rσ,rS,h,k⟩=>⟨σ3,S,Q3,gf,rσ,rS,h,.no,k⟩) (fun B=>aK (he B).ok fun σ H Q ⟨σ3,S,Q3,rσ,rS,h,k⟩=>⟨σ3,S,Q3,gf,rσ,rS,h,.no,k⟩) hs) fun _ _ _=>lP Jv ⟨0,X.s₀,X.H₀,[],[]⟩⟩
def zW(fs:Vs)(own:Nat)(fr:List Nat)(N:Vs){i:Nat}{y:Str}{py spos:Pos}(hX:X.N.Nodup)(hix:X.N[i]?=some y)(hy:X.env.scope.names.lookup y=some .local)
  (hsw:swapsWith (.ListComp elt [⟨tg,iter,ifs,0⟩] scope pos) (some (.Name y py)) spos.line X.env=pure true)
  (Jv:g.under own=true) (hc:X.calm=true) (hclos:closureFor scope X.env=pure (de X.env fs)) (hcell:∀y∈scope.names,y.2 ≠ .cell) (hkind:scope.kind = .function)
  (hnames:∀x∈scope.names,x.2 = .local->scope.names.lookup x.1=some .local) (hcl:cL X.env fs) (hhas:my (relabel scope X.env).names (de X.env fs)=true)
  (hlen:N.length=own+fr.length) (hN:(N.drop own).map some=fr.map fun j=>X.N[j]?) (hF:F0 X.env scope (de X.env fs) (N.drop own))
  (hi:vM X tg iter ti) (hg:∀B,vL (X.GJ N scope fs B) tg g) (hf:∀B,AR (X.GJ N scope fs B) ifs tc) (he:∀B,a_ (X.GJ N scope fs B) elt te)
  (hs:∀x,foldedSetIterable iter X.env x=pure x:=by intro _;rfl):oI X (.Assign [.Name y py] (.ListComp elt [⟨tg,iter,ifs,0⟩] scope pos) spos) (ap i (ar ti g tc te own fr)):=
 ⟨dC (wC fs own fr N hX hix hy hsw hc hclos hcell hkind hnames hcl hhas hlen hN hF hi.ok (fun B=>(hg B).ok)
  (fun B=>pK (hf B).ok fun σ H Q ⟨σ3,S,Q3,rσ,rS,h,k⟩=>⟨σ3,S,Q3,gf,rσ,rS,h,.no,k⟩) (fun B=>aK (he B).ok fun σ H Q ⟨σ3,S,Q3,rσ,rS,h,k⟩=>⟨σ3,S,Q3,gf,rσ,rS,h,.no,k⟩) hs)
  fun D σ H ⟨σ3,S,D3,rσ,rS,h,xo,n,r,bk,ct⟩=>lP Jv ⟨0,X.s₀,X.H₀,[],[]⟩ ⟨σ3,S,_,D3.ex,rσ,rS,h,xo,fun p S1 v H1 h1 rv Fm g1=>n _ S1 _ H1 h1 ((rσ.mono g1).set rv i) Fm g1⟩⟩
end
abbrev aE:=List PV->aw->bE->ci->Prop
noncomputable def BV(K:Vo)(n:Nat)(sp:aE):Sp:=fun vs H Q _=>vs.length=n/\∃ps S Q3 E3,Reps K H vs ps/\Fh K H S/\sp ps S Q3 E3/\I_ K H Q3 Q
structure AS (P:Program) (w:World) (K:Vo) (mg:Vr) (base:Heap) (k:Nat) (f:Addr) (fd:FuncData) (ps:Vs) (sp:aE):Prop where
 ok:i4 P w K mg base xZ k f fd ps (BV K ps.length sp)
section
variable {X:Cx} {e o:Expr} {es:List Expr} {te to:aQ} {ts:List aQ} {x:Str} {p pos apos cpos:Pos} {k:Nat} {f:Addr} {fd:FuncData} {ps:Vs} {sp:aE}
def ac(sp:aE)(ts:List aQ):aQ:=fun σ S Q E=>af ts σ S (fun ps S1=>sp ps S1 Q E) E
def zX(F:AS X.prog X.w X.K X.mg X.base k f fd ps sp)(hr:Room k X.A)(hg:Gl X x)(hm:X.mg x=some (.ref f))(hk:PySem.W.keepIn X.K (.ref f)=true)(hb:Binds X.K fd ps [])(he:starEach (e::es) X.env=(false,eval e X.env)::starEach es X.env)(ha:kg X (e::es) ts)
  (hl:ts.length=ps.length:=by rfl) (hdb:(x == ("__debug__":Str))=false:=by decide) (hpl:(backTo pos (starEach es X.env)).any (·.1)=false:=by rfl):a_ X (.Call (.Name x p) (e::es) [] pos) (ac sp ts):=
 ⟨aK (we F.ok hr hg hm hk hb .nil qC ha.ok hdb he hpl) fun σ H Q ⟨σ3,S,Q3,E3,rσ,rS,h,xo,k⟩=>cH rσ rS h xo fun ps' S' vs H' hl' q rv GB g=>by
  rw[List.append_nil]
  exact⟨by rw[rv.length,hl',hl],ps',S',Q3,E3,rv,GB,q,k.mono g⟩⟩
end
noncomputable def au(n:Nat)(args:List PV):cZ:=args.map some++List.replicate (n - args.length) none
def bc(n:Nat)(t:bS):aE:=fun args S Q _=>t { nx:=fun _ S'=>Q .non S',rt:=Q,ex:=gf } (au n args) S
def sj{K:Vo}{H:Hp}{N:Vs}{vs:List V}{ps:List PV}(r:Reps K H vs ps):Fp K H (L2.fY N vs) (au N.length ps):=by
 refine⟨by unfold L2.fY au;simp[r.length],fun i p e=>?_⟩
 unfold au at e
 unfold L2.fY
 by_cases hi:i < ps.length
 ·rw[List.getElem?_append_left (by simpa using hi),List.getElem?_map]at e
  cases hp:ps[i]? with
  |none=>rw[hp]at e;cases e
  |some q=>
   rw[hp]at e
   cases e
   obtain⟨v,hv,rv⟩:=r.get hp
   rw[List.getElem?_append_left (by rw[List.length_map,r.length];exact hi),List.getElem?_map,hv]
   exact⟨v,rfl,rv⟩
 ·rw[List.getElem?_append_right (by simpa using hi),List.getElem?_replicate]at e
  split at e
  ·cases e
  ·cases e
section
variable {P:Program} {w:World} {K:Vo} {mg:Vr} {base:Heap}
noncomputable abbrev C5(P:Program)(w:World)(K:Vo)(mg:Vr)(base:Heap)(N:Vs)(qual:Str)(st:Stmt)(f:Addr)(cdv:Value)(A:Around)(outer:List Env)(s:Shared)(H:Hp)(E:XK):Cx:=(oY xZ P w K mg base N qual (aN st) f cdv A outer s H E).KA
def D0{x qual:Str}{st:Stmt}{f:Addr}{fd:FuncData}{N ps:Vs}{k:Nat}{t:bS}(F:Jt K x qual st f fd)(S:ff N ps (aN st))
  (hbody:∀(cdv:Value) (A:Around) (outer:List Env) (s:Shared) (H:Hp) (E:XK),Room k (A.deeper (PyProof.Rows.envOfC qual (aN st) s.heap.objs.size f cdv))->jJ (C5 P w K mg base N qual st f cdv A outer s H E) (bV st) t) :
  AS P w K mg base (k+1) f fd ps (bc N.length t):=
 ⟨F.ok S (fun vs H Q E h=>h.1) fun cdv A outer s H vs Q E hr ⟨hl,ps',S',Q3,E3,rv,rS,q,kk⟩=>⟨_,(hbody cdv A outer s H E hr).ok,au N.length ps',S',_,sj rv,rS,q,.no,fun σ3 S2 σ2 H2 h2 _ GL g2=>kk _ S2 _ H2 h2 .non GL g2,kk,fun _ _ _ _ h2=>h2.elim,fun _ _ _ _ h2=>h2.elim⟩⟩
end
section
variable {X:Cx} {o e f:Expr} {to te tf:aQ} {pos apos cpos:Pos}
noncomputable def gh:List (aQ×aQ)->cZ->aw->(List (PV×PV)->aw->Prop)->ci->Prop
 |[],_,S,Q,_=>Q [] S
 |(tk,tv)::r,σ,S,Q,E=>tk σ S (fun x S1=>tv σ S1 (fun y S2=>gh r σ S2 (fun ps S3=>Q ((x,y)::ps) S3) E) E) E
noncomputable def ku:List (PV×PV)->Option (List (b9×PV))
 |[]=>some []
 |(x,y)::r=>match kl x,ku r with|some k,some l=>some ((k,y)::l)|_,_=>none
noncomputable def gi(kvs more:List (b9×PV)):List (b9×PV):=more.foldl (fun acc kv=>kq acc kv.1 kv.2) kvs
structure C6 (X:Cx) (pos:Pos) (keys:List (Option Expr)) (values:List Expr) (Hk:List (aQ×aQ)):Prop where
 ok:BB X pos keys values (Hk.map fun t=>(LE X t.1,LE X t.2))
def mE:C6 X pos [] [] []:=⟨ww⟩
def dq{k v:Expr}{ks:List (Option Expr)}{vs:List Expr}{tk tv:aQ}{Hk:List (aQ×aQ)}(hk:a_ X k tk)(hv:a_ X v tv)(hr:C6 X pos ks vs Hk):C6 X pos (some k::ks) (v::vs) ((tk,tv)::Hk):=⟨tP hk.ok hv.ok hr.ok⟩
inductive lQ (K:Vo) (H:Hp):List (V×V)->List (PV×PV)->Prop
 |nil:lQ K H [] []
 |cons {a b:V} {p q:PV} {vs:List (V×V)} {ps:List (PV×PV)}:Rep K H a p->Rep K H b q->lQ K H vs ps->lQ K H ((a,b)::vs) ((p,q)::ps)
theorem kx:∀{Hk:List (aQ×aQ)} {σ:L2.St} {H:Hp} {Q:List (V×V)->Hp->Prop} {σ3:cZ} {S:aw} {Q3:List (PV×PV)->aw->Prop} {E3:ci},Fp X.K H σ σ3->Fh X.K H S->gh Hk σ3 S Q3 E3->I9 X H E3->
  (∀ps S' vs H',ps.length=Hk.length->Q3 ps S'->lQ X.K H' vs ps->Fh X.K H' S'->Grow X.K H H'->Q vs H')->mq (Hk.map fun t=>(LE X t.1,LE X t.2)) σ H Q
 |[],σ,H,Q,σ3,S,Q3,E3,rσ,rS,h,xo,k=>k [] S [] H rfl h .nil rS .refl
 |(tk,tv)::ts,σ,H,Q,σ3,S,Q3,E3,rσ,rS,h,xo,k=>
  ⟨σ3,S,_,E3,rσ,rS,h,xo,fun p S1 v H1 h1 rv Fm g1=>⟨σ3,S1,_,E3,rσ.mono g1,Fm,h1,xo.mono g1,fun p2 S2 v2 H2 h2 L7 GL g2=>kx (rσ.mono (g1.trans g2)) GL h2 (xo.mono (g1.trans g2)) fun ps S3 vs H3 hl h3 LY JJ g3=>
   k ((p,p2)::ps) S3 ((v,v2)::vs) H3 (by rw[List.length_cons,List.length_cons,hl]) h3 (.cons (rv.mono (g2.trans g3)) (L7.mono g3) LY) JJ (g1.trans (g2.trans g3))⟩⟩
theorem lR{K:Vo}{H:Hp}:∀{vs:List (V×V)} {ps:List (PV×PV)} {l:List (b9×PV)},lQ K H vs ps->ku ps=some l->∃kvs:List (b9×V),vs=kvs.map (fun kv=>(kV kv.1,kv.2))/\Fl K H kvs l
 |_,_,_,.nil,h=>by cases h;exact⟨[],rfl,.nil⟩
 |_,_,l,.cons a b r,h=>by
  unfold ku at h
  split at h
  ·rename_i k l' ek el
   cases h
   obtain⟨kvs,e,q⟩:=lR r el
   refine⟨(k,_)::kvs,?_,.cons b q⟩
   rw[List.map_cons,<-e,fi a ek]
  ·cases h
def Fl.merge{K:Vo}{H:Hp}{more:List (b9×V)}{m3:List (b9×PV)}(r:Fl K H more m3):∀{kvs:List (b9×V)} {k3:List (b9×PV)},Fl K H kvs k3->Fl K H (i5 kvs more) (gi k3 m3):=by
 induction r with
 |nil=>intro kvs k3 q;exact q
 |cons a r ih=>intro kvs k3 q;exact ih (q.put a)
def fO(Hk:List (aQ×aQ)):aQ:=fun σ S Q E=>∀p,S p=none->gh Hk σ (Fc S p (.dct [])) (fun ps S2=>S2 p=some (.dct [])/\match ku ps with|some kvs=>Q (.ref p) (Fc S2 p (.dct (gi [] kvs)))|none=>False) E
def mF{keys:List (Option Expr)}{values:List Expr}{Hk:List (aQ×aQ)}(h:C6 X pos keys values Hk)(hall:keys.all (·.isSome)=true:=by rfl)(hl:keys.length=values.length:=by rfl)(h0:keys≠[]:=by exact List.cons_ne_nil _ _)(LJ:keys.length<=15:=by decide)
  (ht:Hk.length<=15:=by exact Nat.le_of_ble_eq_true rfl):a_ X (.Dict keys values pos) (fO Hk):=
 ⟨aK (wx h.ok hall hl h0 LJ) fun σ H Q ⟨σ3,S,Q3,E3,rσ,rS,hq,xo,k⟩=>fun p hp=>by
  have g0:Grow X.K H (upd H p (.dK [])):=.new hp
  refine kx (rσ.mono g0) (rS.new hp (o:=.dct []) ⟨[],aB,.nil⟩) (hq p (rS.free hp)) (xo.mono g0) fun ps S' vs H' hl' q rv GB g=>?_
  obtain⟨e,q⟩:=q
  obtain⟨kv,hv,rk⟩:=GB _ _ e
  cases rk
  refine⟨hv,?_⟩
  split at q
  ·rename_i kvs ek
   obtain⟨l,el,rl⟩:=lR rv ek
   refine⟨l,el,?_,k _ _ _ _ q (.ref p) (GB.put hv trivial ⟨_,aB,(Fl.merge rl .nil).mono (.mut hv trivial)⟩) (g0.trans (g.trans (.mut hv trivial)))⟩
   have z1:∀{vs:List (V×V)} {ps:List (PV×PV)},lQ X.K H' vs ps->vs.length=ps.length:=by
    intro vs ps r
    induction r with
    |nil=>rfl
    |cons _ _ _ ih=>rw[List.length_cons,List.length_cons,ih]
   have z2:=congrArg List.length el
   rw[List.length_map,z1 rv,hl']at z2
   omega
  ·exact q.elim⟩
def uv(to te tf:aQ):aQ:=fun σ S Q E=>to σ S (fun x S1=>match x with
 | .ref a=>(match S1 a with
  |some (.dct _)=>te σ S1 (fun y S2=>tf σ S2 (fun z S3=>match S3 a,kl y with|some (.dct kvs),some k=>Q ((d9 kvs k).getD z) S3|_,_=>False) E) E
  |_=>False)
 |_=>False) E
def zY(hu:X.A.units+1 < cLine)(ho:a_ X o to)(he:a_ X e te)(hf:a_ X f tf)(m:M2 X o "get" apos e f cpos):a_ X (.Call (.Attribute o "get" apos) [e,f] [] cpos) (uv to te tf):=
 ⟨aK (tQ hu ho.ok he.ok hf.ok m) fun σ H Q ⟨σ3,S,Q3,E3,rσ,rS,h,xo,k⟩=>⟨σ3,S,_,E3,rσ,rS,h,xo,fun x S1 v H1 h1 rx Fm g1=>by
  dsimp only at h1
  split at h1
  ·cases rx
   split at h1
   ·rename_i ea
    obtain⟨kv,hv,rk⟩:=Fm _ _ ea
    refine⟨_,rfl,.inl ⟨_,.inl hv⟩,σ3,S1,_,E3,rσ.mono g1,Fm,h1,xo.mono g1,fun y S2 y' H2 h2 ry GL g2=>⟨σ3,S2,_,E3,rσ.mono (g1.trans g2),GL,h2,xo.mono (g1.trans g2),fun z S3 z' H3 h3 rz JJ g3=>?_⟩⟩
    dsimp only at h3
    split at h3
    ·rename_i kvs k' eb ek
     obtain⟨kv3,Nr,MF⟩:=JJ _ _ eb
     have e1:=fi (ry.mono g3) ek
     subst e1
     refine⟨_,DGet.k Nr,k _ S3 _ H3 h3 ?_ JJ (g1.trans (g2.trans g3))⟩
     cases ev:d9 kvs k' with
     |none=>rw[MF.valN ev];exact rz
     |some w=>
      obtain⟨w',hw,rw'⟩:=MF.val ev
      rw[hw];exact rw'
    ·exact h3.elim
   ·exact h1.elim
  ·exact h1.elim⟩⟩
def nT(te:aQ):aQ:=fun σ S Q E=>te σ S (fun x S1=>match x with
 | .ref a=>(match S1 a with|some (.lst xs)=>∀p,S1 p=none->Q (.ref p) (Fc S1 p (.lst xs.reverse))|_=>False)
 |_=>False) E
def zZ{p1 p2 q1 q2:Pos}(hs:starEach [e] X.env=[(false,eval e X.env)])(hc:X.calm=true)(he:a_ X e te)(J4:Gl X "list")(hm1:X.mg "list" = none)(J5:Gl X "reversed")(hm2:X.mg "reversed" = none):a_ X (.Call (.Name "list" p1) [.Call (.Name "reversed" p2) [e] [] q2] [] q1) (nT te):=
 ⟨aK (pj hc he.ok J4 hm1 J5 hm2 hs rfl) fun σ H Q ⟨σ3,S,Q3,E3,rσ,rS,h,xo,k⟩=>⟨σ3,S,_,E3,rσ,rS,h,xo,fun x S1 v H1 h1 rx Fm g1=>by
  dsimp only at h1
  split at h1
  ·cases rx
   split at h1
   ·rename_i ea
    obtain⟨vs,hv,rs⟩:=Fm _ _ ea
    exact⟨_,_,rfl,SqL.of hv,fun q hq=>k _ _ _ _ (h1 q (Fm.free hq)) (.ref q) (Fm.new hq ⟨_,aB,rs.reverse.mono (.new hq)⟩) (g1.trans (.new hq))⟩
   ·exact h1.elim
  ·exact h1.elim⟩⟩
end
def bW:R3:=bN fun i j=>.int (i - j)
def fy:R3:=d_ (fun _ j=>j≠0) fun i j=>.int (i.fmod j)
def eA:R3:=d_ ki fun i j=>.int (i.fdiv j)
def uw:R3:=d_ y_ fun i j=>.int (i ^ j.toNat)
def oK:R3:=bN fun i j=>.bl (decide (i < j))
def AT:R3:=bN fun i j=>.bl (decide (i<=j))
def kW:R3:=bN fun i j=>.bl (decide (j < i))
def wU:R3:=bN fun i j=>.bl (decide (j<=i))
section
variable {X:Cx}
def gj:ig X (binaryOp .Sub) bW:=zM
def eX:ig X (binaryOp .Mod) fy:=zN
def gk:ig X (binaryOp .FloorDiv) eA:=wG
def BW:ig X (binaryOp .Pow) uw:=zO
def pL:ig X (compareOp .Lt) oK:=BH
def D_:ig X (compareOp .LtE) AT:=BI
def k6:ig X (compareOp .Gt) kW:=BJ
def z9:ig X (compareOp .GtE) wU:=BK
end
def wV{A:Around}{k:Nat}(hr:Room k A):A.units+1 < cLine:=by have:=hr.un;omega
def ky{A:Around}{k:Nat}(hr:Room k A):A.units+150 < cLine:=by have:=hr.un;omega
structure C7 (K:Vo) (mg:Vr) (x:Str) (st:Stmt) (ps:Vs) (f:Addr) (fd:FuncData):Prop where
 F:Jt K x x st f fd
 b:Binds K fd ps []
 k:PySem.W.keepIn K (.ref f)=true
 m:mg x=some (.ref f)
def Ea{K:Vo}{H:Hp}{a:Addr}{ns:Vu}{sp:aE}(hO:wy H)(hS:SqL K H a (ns.map V.int))(h:sp [.cl (ns.map PV.int)] (fun _=>none) (fun v _=>v = .bl true) gf):BV K 1 sp [.ref a] H (fun v _=>v = .bl true) fun _ _ _=>False:=by
 have hr:∀l:List Int,Reps K H (l.map V.int) (l.map PV.int):=by
  intro l
  induction l with
  |nil=>exact .nil
  |cons x r ih=>exact .cons (.int x) ih
 refine⟨rfl,[.cl (ns.map PV.int)],fun _=>none,_,gf,.cons (.cl (vs:=ns.map V.int) ?_ (hr ns)) .nil,(fun b o e=>by simp at e),h,fun p S' v H' q rv rS g=>?_⟩
 ·rcases hS with(q|q)|q
  ·rcases hO a with z|⟨o,xs,z⟩
   ·rw[z]at q;cases q
   ·rw[z]at q;cases q
  ·exact .inl q
  ·exact .inr q
 ·subst q
  cases rv
  rfl
end L3
namespace L2
open PySem PySem.Spec PyProof.Rows
end L2
namespace HT
open PySem PySem.Spec PyProof.Rows
end HT
namespace L2
open PySem PySem.Spec PyProof.Rows
end L2
namespace L3
open PySem L2
section
variable {X:Cx} {e st:Expr} {te ts:aQ} {p2 pos:Pos}
noncomputable def fz:List PV->Option (List Int)
 |[]=>some []
 | .int i::r=>(fz r).map (i::·)
 |_::_=>none
theorem kz:∀ns:List Int,fz (ns.map PV.int)=some ns
 |[]=>rfl
 |n::ns=>by rw[List.map_cons];unfold fz;rw[kz ns];rfl
theorem ja{K:Vo}{H:Hp}:∀{vs:List V} {ps:List PV} {ns:Vu},Reps K H vs ps->fz ps=some ns->vs=ns.map V.int
 |_,_,_,.nil,h=>by cases h;rfl
 |_,_,ns,.cons (p:=p) a r,h=>by
  cases p with
  |int b=>
   cases a
   unfold fz at h
   cases e:fz _ with
   |none=>rw[e]at h;cases h
   |some l=>rw[e]at h;cases h;rw[ja r e];rfl
  |_=>cases h
end
end L3
namespace L2
open PySem PySem.Spec PyProof.Rows
end L2
namespace L3
open PySem L2
end L3
namespace L2
open PySem PySem.Spec PyProof.Rows PySem.AutoSeq1
end L2
namespace L3
open PySem L2
end L3
namespace C
open PySem L2 L3
def gq:bS:=(aj (ap 3 (ar (aL (cP (v3 0) (oJ (v3 1)) (oJ (c3 (.int 63))))) (.n 0) bo (ah kn [(v3 0),(ai bW (c3 (.int 0)) (v3 0))]) 1 []))
  (aj (ap 4 (ai bv (c3 (.int 7919)) (v3 1)))
  (aj (bQ (aL (v3 3)) (.n 2) (ap 4 (ai fy (ai bv (ai aU (v3 4) (c3 (.int 48271))) (ai fy (v3 2) (c3 (.int 2147483629)))) (c3 (.int 2147483647)))))
  (av (fO [((c3 (.str "seed")),(v3 4)),((c3 (.str "number")),(c3 (.int 0))),((c3 (.str "left")),(nT (ar (aL (v3 3)) (.n 0) (bg (ai wU (v3 0) (ai uw (c3 (.int 10)) (c3 (.int 18))))) (v3 0) 1 [])))])))))
def gr:bS:=(aj (i_ (jK (bg (ai (dU false) (ai ak (v3 0) (c3 (.str "number"))) (c3 (.int 0)))) (bg (ai kW (ah aX [(ai ak (v3 0) (c3 (.str "left")))]) (c3 (.int 0))))) (i9 (ko "list" nP (ai ak (v3 0) (c3 (.str "left"))) []) (v3 0) (c3 (.str "number"))))
  (aj (ap 2 (ai ak (v3 0) (c3 (.str "number"))))
  (aj (cK (bg (ai kW (v3 2) (c3 (.int 0)))) (aj (i9 (ai eA (v3 2) (v3 1)) (v3 0) (c3 (.str "number")))
  (av (ai fy (v3 2) (v3 1)))) bZ)
  (aj (ap 3 (ai fy (ai bv (ai aU (ai ak (v3 0) (c3 (.str "seed"))) (c3 (.int 48271))) (c3 (.int 7919))) (c3 (.int 2147483647))))
  (aj (i9 (ai fy (ai bv (ai aU (v3 3) (c3 (.int 40692))) (c3 (.int 104729))) (c3 (.int 2147483399))) (v3 0) (c3 (.str "seed")))
  (aj (ap 4 (ai fy (ai aU (ai ak (v3 0) (c3 (.str "seed"))) (ai ak (v3 0) (c3 (.str "seed")))) (c3 (.int 2147483563))))
  (av (ai fy (ai bv (ai aU (ai fy (ai aU (v3 3) (v3 3)) (c3 (.int 2147483629))) (c3 (.int 2147483563))) (v3 4)) (v3 1)))))))))
def ij:bS:=(aj (jN 2 3 (ah kn [(v3 0),(ai bW (c3 (.int 0)) (v3 0))]) (v3 1))
  (aj (i_ (bg (ai kW (v3 3) (c3 (.int 0)))) (jN 2 3 (v3 3) (ai fy (v3 2) (v3 3))))
  (av (aS [(ai eA (v3 0) (v3 2)),(ai eA (v3 1) (v3 2))]))))
def gv(Fd F5:aE):bS:=(aj (ap 1 (ac Fd [(v3 0),(c3 (.int 4))]))
  (aj (cK (bg (ai (dU false) (v3 1) (c3 (.int 0)))) (av (aS [(c3 (.int 0)),(c3 (.int 1))])) bZ)
  (aj (cK (bg (ai oK (v3 1) (c3 (.int 3)))) (av (aS [(ai bv (c3 (.int 1)) (ac Fd [(v3 0),(c3 (.int 5))])),(c3 (.int 1))])) bZ)
  (av (ac F5 [(ac Fd [(v3 0),(c3 (.int 1000))]),(ai bv (c3 (.int 1)) (ac Fd [(v3 0),(c3 (.int 9))]))])))))
def kA:bS:=(aj (i_ (bg (ai (dU true) (v3 1) (c3 (.int 0)))) (aj (ap 2 (ai fy (v3 0) (v3 1)))
  (aj (ap 0 (v3 1))
  (ap 1 (v3 2)))))
  (av (ah r9 [(v3 0)])))
def ik(Hm:aE):bS:=(aj (ap 2 (ac Hm [(v3 0),(v3 1)]))
  (aj (cK (bg (ai oK (v3 1) (c3 (.int 0)))) (ap 2 (jB dw (v3 2))) bZ)
  (av (aS [(ai eA (v3 0) (v3 2)),(ai eA (v3 1) (v3 2))]))))
def gA(Fv:aE):bS:=(av (ac Fv [(ai bv (ai aU (ai ak (v3 0) (c3 (.int 0))) (ai ak (v3 1) (c3 (.int 1)))) (ai aU (ai ak (v3 1) (c3 (.int 0))) (ai ak (v3 0) (c3 (.int 1))))),(ai aU (ai ak (v3 0) (c3 (.int 1))) (ai ak (v3 1) (c3 (.int 1))))]))
def mG(Fv:aE):bS:=(av (ac Fv [(ai aU (ai ak (v3 0) (c3 (.int 0))) (ai ak (v3 1) (c3 (.int 0)))),(ai aU (ai ak (v3 0) (c3 (.int 1))) (ai ak (v3 1) (c3 (.int 1))))]))
def gB(F5:aE):bS:=(av (ac F5 [(ai bv (ai aU (ai ak (v3 0) (c3 (.int 0))) (ai ak (v3 1) (c3 (.int 1)))) (ai aU (ai ak (v3 1) (c3 (.int 0))) (ai ak (v3 0) (c3 (.int 1))))),(ai aU (ai ak (v3 0) (c3 (.int 1))) (ai ak (v3 1) (c3 (.int 1))))]))
end C
namespace L3
open PySem L2
theorem nU:∀{a b:List Char},a.map Char.toNat=b.map Char.toNat->a=b
 |[],[],_=>rfl
 |[],_::_,h=>by simp at h
 |_::_,[],h=>by simp at h
 |x::a,y::b,h=>by
  simp only[List.map_cons,List.cons.injEq]at h
  rw[nU h.2,Char.toNat_inj.mp h.1]
def dr{a b:String}:(Str.ofString a=Str.ofString b)↔a=b:=by
 refine⟨fun h=>?_,fun h=>by rw[h]⟩
 rw[Str.ofString_eq_toList,Str.ofString_eq_toList]at h
 have h':a.toList.map Char.toNat=b.toList.map Char.toNat:=by
  have:=congrArg (fun s:Str=>s.cps.toList) h
  simpa using this
 exact String.toList_inj.mp (nU h')
def nW{i j:Int}(h1:-(2 ^ 64) < i)(h2:i < 2 ^ 64):IntMulOk i j:=(show IP i j from .inl ⟨h1,h2⟩).ok
def pM{i j:Int}(h1:-(2 ^ 64) < j)(h2:j < 2 ^ 64):IntMulOk i j:=(show IP i j from .inr ⟨h1,h2⟩).ok
def jC{i j:Int}(h:0<=j):i.fmod j=i % j:=Int.fmod_eq_emod_of_nonneg i h
def BX{i j:Int}(h:0<=j):i.fdiv j=i / j:=Int.fdiv_eq_ediv_of_nonneg i h
def z_{i j:Int}(h:0 < j)(h2:j < 2 ^ 64):ki i j:=⟨by omega,Nat.lt_trans (show j.natAbs < 2 ^ 64 by omega) (Nat.pow_lt_pow_right (by decide) (by decide))⟩
def Oth(d l:Addr)(S S':aw):Prop:=∀a o,S a=some o->a≠d->a≠l->S' a=some o
def Oth.refl{d l:Addr}{S:aw}:Oth d l S S:=fun _ _ h _ _=>h
def Oth.trans{d l:Addr}{S S1 S2:aw}(a:Oth d l S S1)(b:Oth d l S1 S2):Oth d l S S2:=fun x o h h1 h2=>b x o (a x o h h1 h2) h1 h2
def Oth.upd{d l:Addr}{S:aw}{o:SO}:Oth d l S (Fc S d o):=fun x u h h1 h2=>by rw[aq h1];exact h
def Oth.Nt{d l:Addr}{S:aw}{o:SO}:Oth d l S (Fc S l o):=fun x u h h1 h2=>by rw[aq h2];exact h
def Oth.new{d l p:Addr}{S:aw}{o:SO}(h:S p=none):Oth d l S (Fc S p o):=fun x u hx h1 h2=>by rw[aq (fun e=>by rw[e,h]at hx;cases hx)];exact hx
end L3
local macro_rules | `(tactic| walk_at "x")=>`(tactic| ((try dsimp only [L3.aj,L3.ap,L3.av,L3.c_,L3.cK,L3.bZ,L3.ai,L3.v3,L3.c3,L3.lk,L3.af,L3.ah,L3.ac,L3.ko,L3.bg,L3.jK,L3.jL,L3.df,L3.dv,L3.lM,L3.nK,L3.i9,L3.jN,L3.aS,L3.cO,L3.jB,L3.dw,L3.ak,L3.kl,L3.cP,L3.uc,L3.oJ,L3.km,L3.bN,L3.d_,L3.bW,L3.fy,L3.eA,L3.uw,L3.oK,L3.AT,L3.kW,L3.wU,L3.dU,L3.kU,L3.bv,L3.aU,L3.aX,L3.r9,L3.kn,L3.g_,L3.aR,L3.iJ,List.set_cons_zero,List.set_cons_succ,List.set_nil,L3.sd,L3.fw,L3.nP,L3.ar,L3.aL,L3.b6,L3.bQ,L3.bJ,L3.Tg.put,L3.Tg.FH,L3.jO,L3.fO,L3.gh,L3.nT,L3.bH,L3.hG,L3.k5,L3.bD,L3.ft,List.reduceReplicate,List.map_cons,List.map_nil,List.cons_append,List.nil_append]); (try simp only [L3.aj,L3.ap,L3.av,L3.c_,L3.cK,L3.bZ,L3.ai,L3.v3,L3.c3,L3.lk,L3.af,L3.ah,L3.ac,L3.ko,L3.bg,L3.jK,L3.jL,L3.df,L3.dv,L3.lM,L3.nK,L3.i9,L3.jN,L3.aS,L3.cO,L3.jB,L3.dw,L3.ak,L3.kl,L3.cP,L3.uc,L3.oJ,L3.km,L3.bN,L3.d_,L3.bW,L3.fy,L3.eA,L3.uw,L3.oK,L3.AT,L3.kW,L3.wU,L3.dU,L3.kU,L3.bv,L3.aU,L3.aX,L3.r9,L3.kn,L3.g_,L3.aR,L3.iJ,List.set_cons_zero,List.set_cons_succ,List.set_nil,L3.sd,L3.fw,L3.nP,L3.ar,L3.aL,L3.b6,L3.bQ,L3.bJ,L3.Tg.put,L3.Tg.FH,L3.jO,L3.fO,L3.gh,L3.nT,L3.bH,L3.hG,L3.k5,L3.bD,L3.ft,List.reduceReplicate,List.map_cons,List.map_nil,List.cons_append,List.nil_append])))
namespace C
open PySem L2 L3
noncomputable def cg(seed number:Int)(l:Addr):List (b9×PV):=[(Sum.inr "seed",.int seed),(Sum.inr "number",.int number),(Sum.inr "left",.ref l)]
structure G8 (S:aw) (d l:Addr) (seed number:Int) (left:Vu):Prop where
 d:S d=some (.dct (cg seed number l))
 l:S l=some (.lst (left.map PV.int))
 s0:0<=seed
 s1:seed < 2147483647
 nm:0<=number
 lf:∀x∈left,0<=x
 ln:left.length<=100
def Deal(S:aw)(d l:Addr):Prop:=∃seed number left,G8 S d l seed number left
def G8.ne{S:aw}{d l:Addr}{seed number:Int}{left:Vu}(D:G8 S d l seed number left):d≠l:=fun e=>by
 have h:=D.d
 rw[e,D.l]at h
 cases h
def Deal.new{S:aw}{d l p:Addr}{o:SO}(D:Deal S d l)(h:S p=none):Deal (Fc S p o) d l:=by
 obtain⟨s,n,f,D⟩:=D
 refine⟨s,n,f,?_,?_,D.s0,D.s1,D.nm,D.lf,D.ln⟩
 ·rw[aq (fun e=>by have:=D.d;rw[e,h]at this;cases this)];exact D.d
 ·rw[aq (fun e=>by have:=D.l;rw[e,h]at this;cases this)];exact D.l
def Deal.upd{S:aw}{d l p:Addr}{o:SO}(D:Deal S d l)(h1:p≠d)(h2:p≠l):Deal (Fc S p o) d l:=by
 obtain⟨s,n,f,D⟩:=D
 exact⟨s,n,f,by rw[aq h1.symm];exact D.d,by rw[aq h2.symm];exact D.l,D.s0,D.s1,D.nm,D.lf,D.ln⟩
def Deal.free{S:aw}{d l p:Addr}(D:Deal S d l)(h:S p=none):p≠d/\p≠l:=by
 obtain⟨s,n,f,D⟩:=D
 exact⟨(fun e=>by have:=D.d;rw[<-e,h]at this;cases this),(fun e=>by have:=D.l;rw[<-e,h]at this;cases this)⟩
def kB(s n m:Int)(l:Addr):kq (cg s n l) (Sum.inr "number") (.int m)=cg s m l:=by
 simp[kq,cg,dr]
def ux(s n m:Int)(l:Addr):kq (cg s n l) (Sum.inr "seed") (.int m)=cg m n l:=by
 simp[kq,cg,dr]
def Aa(s n:Int)(l:Addr):d9 (cg s n l) (Sum.inr "seed")=some (.int s):=by simp[d9,cg,dr]
def uy(s n:Int)(l:Addr):d9 (cg s n l) (Sum.inr "number")=some (.int n):=by simp[d9,cg,dr]
def Ab(s n:Int)(l:Addr):d9 (cg s n l) (Sum.inr "left")=some (.ref l):=by simp[d9,cg,dr]
abbrev cr(w:aE):Prop:=∀{S:aw} {d l:Addr} {m:Int} {Q:bE} {E:ci},Deal S d l->0 < m->m < 2 ^ 62->(∀r S',0<=r->r < m->Deal S' d l->Oth d l S S'->Q (.int r) S')->w [.ref d,.int m] S Q E
def Fe:cr (bc 5 gr):=by
  intro S d l m Q E D h0 h1 k
  obtain⟨seed,number,left,D⟩:=D
  have hne:=D.ne
  have hsz:∀a b,(cg a b l).length < sizeLine:=fun _ _=>gS (by show 3<=1000;decide)
  have fin:∀num IM S1,G8 S1 d l seed num IM->Oth d l S S1->¬(num=0/\0 < IM.length)->
      (if 0 < num then ki num m/\(cg seed num l).length < sizeLine/\m≠0/\Q (PV.int (num.fmod m)) (Fc S1 d (SO.dct (cg seed (num.fdiv m) l)))
       else IntMulOk seed 48271/\(2147483647:Int)≠0/\IntMulOk ((seed * 48271+7919).fmod 2147483647) 40692/\(2147483399:Int)≠0/\(cg seed num l).length < sizeLine/\
        IntMulOk (((seed * 48271+7919).fmod 2147483647 * 40692+104729).fmod 2147483399) (((seed * 48271+7919).fmod 2147483647 * 40692+104729).fmod 2147483399)/\(2147483563:Int)≠0/\
        IntMulOk ((seed * 48271+7919).fmod 2147483647) ((seed * 48271+7919).fmod 2147483647)/\(2147483629:Int)≠0/\
        IntMulOk (((seed * 48271+7919).fmod 2147483647 * (seed * 48271+7919).fmod 2147483647).fmod 2147483629) 2147483563/\m≠0/\
        Q (PV.int ((((seed * 48271+7919).fmod 2147483647 * (seed * 48271+7919).fmod 2147483647).fmod 2147483629 * 2147483563+((((seed * 48271+7919).fmod 2147483647 * 40692+104729).fmod 2147483399) * (((seed * 48271+7919).fmod 2147483647 * 40692+104729).fmod 2147483399)).fmod 2147483563).fmod m))
          (Fc S1 d (SO.dct (cg (((seed * 48271+7919).fmod 2147483647 * 40692+104729).fmod 2147483399) num l)))):=by
    intro num IM S1 D1 O1 hz
    split
    . rename_i hp
      rw[jC (Int.le_of_lt h0),BX (Int.le_of_lt h0)]
      refine⟨z_ h0 (by omega),hsz _ _,by omega,k _ _ (Int.emod_nonneg _ (by omega)) (Int.emod_lt_of_pos _ h0) ⟨seed,num / m,IM,aa,by rw[aq hne.symm];exact D1.l,D1.s0,D1.s1,Int.ediv_nonneg D1.nm (Int.le_of_lt h0),D1.lf,D1.ln⟩ (O1.trans .upd)⟩
    . have e1:∀x:Int,x.fmod 2147483647=x % 2147483647:=fun x=>jC (by decide)
      have e2:∀x:Int,x.fmod 2147483399=x % 2147483399:=fun x=>jC (by decide)
      simp only[e1,e2,jC (Int.le_of_lt h0)]
      have p1:=D1.s0
      have p2:=D1.s1
      refine⟨pM (by decide) (by decide),by decide,pM (by decide) (by decide),by decide,hsz _ _,nW (by omega) (by omega),by decide,nW (by omega) (by omega),by decide,pM (by decide) (by decide),by omega,
        k _ _ (Int.emod_nonneg _ (by omega)) (Int.emod_lt_of_pos _ h0) ⟨_,num,IM,aa,by rw[aq hne.symm];exact D1.l,by omega,by omega,D1.nm,D1.lf,D1.ln⟩ (O1.trans .upd)⟩
  unfold bc gr
  rw[show au 5 [PV.ref d,PV.int m]=[some (.ref d),some (.int m),none,none,none] from rfl]
  simp only[aj]
  refine⟨fun n σ S'=>σ=[some (.ref d),some (.int m),none,none,none]/\∃number left,G8 S' d l seed number left/\left.length=n/\Oth d l S S',⟨_,rfl,number,left,D,rfl,.refl⟩,?_⟩
  rintro n σ S1 ⟨rfl,num,IM,D1,hn,O1⟩
  walk_at "x"
  simp only[D1.d,D1.l,uy,Ab,Aa,ux,kB,aa,Bool.false_bne,decide_eq_true_eq]
  have hlen:(List.map PV.int IM).length=IM.length:=List.length_map ..
  rw[hlen]
  split
  . rename_i hz
    subst hz
    split
    . rename_i hl
      refine⟨fun σ S'=>σ=[some (.ref d),some (.int m),none,none,none]/\∃number left,G8 S' d l seed number left/\left.length < n/\Oth d l S S',?_,?_⟩
      . rintro σ' S' ⟨rfl,a,b,h2,h3,h4⟩
        exact⟨_,h3,rfl,a,b,h2,rfl,h4⟩
      . have hl':0 < IM.length:=by omega
        obtain⟨pre,x,rfl⟩:∃pre x,IM=pre++[x]:=by
          refine⟨IM.dropLast,IM.getLast (by intro e;rw[e]at hl';simp at hl'),(List.dropLast_concat_getLast _).symm⟩
        refine⟨trivial,?_⟩
        rw[show(List.map PV.int (pre++[x]))[(pre++[x]).length - 1]?=some (.int x) by simp,show(List.map PV.int (pre++[x])).dropLast=pre.map PV.int by simp]
        simp only[aq hne,D1.d,kB]
        refine⟨hsz _ _,trivial,x,pre,⟨aa,by rw[aq hne.symm,aa],D1.s0,D1.s1,D1.lf x (by simp),fun y hy=>D1.lf y (by simp[hy]),by have:=D1.ln;simp at this;omega⟩,?_,O1.trans (Oth.Nt.trans .upd)⟩
        rw[<-hn];simp
    . rename_i hl
      exact fin 0 IM S1 D1 O1 (fun z=>hl (by omega))
  . rename_i hz
    rw[if_neg (by decide)]
    exact fin num IM S1 D1 O1 (fun z=>hz z.1)
end C
namespace L3
open PySem L2
def Ext(S S':aw):Prop:=∀a o,S a=some o->S' a=some o
def Ext.refl{S:aw}:Ext S S:=fun _ _ h=>h
def Ext.trans{S S1 S2:aw}(a:Ext S S1)(b:Ext S1 S2):Ext S S2:=fun x o h=>b x o (a x o h)
def Ext.new{S:aw}{p:Addr}{o:SO}(h:S p=none):Ext S (Fc S p o):=fun x u hx=>by rw[aq (fun e=>by rw[e,h]at hx;cases hx)];exact hx
def Ext.free{S S':aw}(e:Ext S S'){p:Addr}(h:S' p=none):S p=none:=by
 cases q:S p with
 |none=>rfl
 |some o=>rw[e p o q]at h;cases h
def Ext.HP{d l:Addr}{S S':aw}(e:Ext S S'):Oth d l S S':=fun a o h _ _=>e a o h
theorem fA{g:Tg}{tc:jA}{te:aQ}{σ':cZ}{keep:aw->Prop}{fin:List PV->aw->Prop}{S:aw}(f:PV->PV)(c:PV->Bool)(hk:keep S):∀(items ys:List PV),
  (∀x∈items,∃σ2,g.put x σ'=some σ2/\(∀Q:Bool->aw->Prop,Q (c x) S->tc σ2 S Q gf)/\(c x=true->∀Q:bE,Q (f x) S->te σ2 S Q gf))->ys.length+items.length<=sizeLine->fin (ys++(items.filter c).map f) S->eW g tc te σ' keep fin items ys S
 |[],ys,_,hl,hf=>⟨hk,by simpa using hl,by simpa using hf⟩
 |x::r,ys,h,hl,hf=>by
  obtain⟨σ2,e,h1,h2⟩:=h x (by simp)
  refine⟨hk,by simp at hl;omega,?_⟩
  rw[e]
  refine h1 _ ?_
  cases hc:c x with
  |true=>
   rw[if_pos rfl]
   refine h2 hc _ (fA f c hk r (ys++[f x]) (fun y hy=>h y (by simp[hy])) (by simp at hl ⊢;omega) ?_)
   rw[List.filter_cons,hc,if_pos rfl]at hf
   simpa using hf
  |false=>
   rw[if_neg (by decide)]
   refine fA f c hk r ys (fun y hy=>h y (by simp[hy])) (by simp at hl ⊢;omega) ?_
   rw[List.filter_cons,hc,if_neg (by decide)]at hf
   exact hf
def sr{g:Tg}{te:aQ}{σ':cZ}{keep:aw->Prop}{fin:List PV->aw->Prop}{S:aw}(f:PV->PV){items:List PV}(hk:keep S)
  (h:∀x∈items,∃σ2,g.put x σ'=some σ2/\∀Q:bE,Q (f x) S->te σ2 S Q gf) (hl:items.length<=sizeLine) (hf:fin (items.map f) S):eW g bo te σ' keep fin items [] S:=by
 refine fA f (fun _=>true) hk items [] (fun x hx=>?_) (by simpa using hl) (by rw[List.filter_eq_self.mpr (fun _ _=>rfl)];exact hf)
 obtain⟨σ2,e,k⟩:=h x hx
 exact⟨σ2,e,fun Q q=>q,fun _=>k⟩
theorem lS{g:Tg}{tc:jA}{te:aQ}{σ':cZ}{keep:aw->Prop}{fin:List PV->aw->Prop}{items:List PV}(Iv:List PV->List PV->aw->Prop)(hk:∀done ys S,Iv done ys S->keep S/\ys.length<=sizeLine)
  (step:∀done x rest ys S (K:List PV->aw->Prop),items=done++x::rest->Iv done ys S->(∀ys' S',Iv (done++[x]) ys' S'->K ys' S')->match g.put x σ' with
   |some σ2=>tc σ2 S (fun b S3=>if b=true then te σ2 S3 (fun y S4=>K (ys++[y]) S4) gf else K ys S3) gf
   |none=>False)
  (hf:∀ys S,Iv items ys S->fin ys S):∀(rest done ys:List PV) (S:aw),items=done++rest->Iv done ys S->eW g tc te σ' keep fin rest ys S
 |[],done,ys,S,e,h=>by
  rw[List.append_nil]at e
  exact⟨(hk _ _ _ h).1,(hk _ _ _ h).2,hf ys S (e▸h)⟩
 |x::rest,done,ys,S,e,h=>by
  refine⟨(hk _ _ _ h).1,(hk _ _ _ h).2,?_⟩
  exact step done x rest ys S (fun ys' S'=>eW g tc te σ' keep fin rest ys' S') e h fun ys' S' h'=>lS Iv hk step hf rest (done++[x]) ys' S' (by rw[e];simp) h'
theorem nX{g:Tg}{tb:bS}{D:kf}{keep:aw->Prop}{items:List PV}(Iv:List PV->cZ->aw->Prop)(hk:∀done σ S,Iv done σ S->keep S)
  (step:∀done x rest σ S (K:cZ->aw->Prop),items=done++x::rest->Iv done σ S->(∀σ' S',Iv (done++[x]) σ' S'->K σ' S')->match g.put x σ with
   |some σ'=>tb { D with nx:=K,ct:=K,bk:=D.nx } σ' S
   |none=>False)
  (hd:∀σ S,Iv items σ S->D.nx σ S):∀(rest done:List PV) (σ:cZ) (S:aw),items=done++rest->Iv done σ S->mD g tb D keep rest σ S
 |[],done,σ,S,e,h=>by
  rw[List.append_nil]at e
  exact⟨hk _ _ _ h,hd σ S (e▸h)⟩
 |x::rest,done,σ,S,e,h=>
  ⟨hk _ _ _ h,step done x rest σ S (mD g tb D keep rest) e h fun σ' S' h'=>nX Iv hk step hd rest (done++[x]) σ' S' (by rw[e];simp) h'⟩
def bp{g:Tg}{tb:bS}{D:kf}{keep:aw->Prop}{items:List PV}{σ:cZ}{S:aw}(Iv:List PV->cZ->aw->Prop)(h0:Iv [] σ S)(hk:∀done σ S,Iv done σ S->keep S)
  (step:∀done x rest σ S (K:cZ->aw->Prop),items=done++x::rest->Iv done σ S->(∀σ' S',Iv (done++[x]) σ' S'->K σ' S')->match g.put x σ with
   |some σ'=>tb { D with nx:=K,ct:=K,bk:=D.nx } σ' S
   |none=>False)
  (hd:∀σ S,Iv items σ S->D.nx σ S):mD g tb D keep items σ S:=nX Iv hk step hd items [] σ S rfl h0
def cu{g:Tg}{tc:jA}{te:aQ}{σ':cZ}{keep:aw->Prop}{fin:List PV->aw->Prop}{items:List PV}{S:aw}(Iv:List PV->List PV->aw->Prop)(h0:Iv [] [] S)(hk:∀done ys S,Iv done ys S->keep S/\ys.length<=sizeLine)
  (step:∀done x rest ys S (K:List PV->aw->Prop),items=done++x::rest->Iv done ys S->(∀ys' S',Iv (done++[x]) ys' S'->K ys' S')->match g.put x σ' with
   |some σ2=>tc σ2 S (fun b S3=>if b=true then te σ2 S3 (fun y S4=>K (ys++[y]) S4) gf else K ys S3) gf
   |none=>False)
  (hf:∀ys S,Iv items ys S->fin ys S):eW g tc te σ' keep fin items [] S:=lS Iv hk step hf items [] [] S rfl h0
def ay{t u:bS}{D:kf}{σ:cZ}{S:aw}(h:∀N:cZ->aw->Prop,(∀σ S,u D σ S->N σ S)->t { D with nx:=N } σ S):aj t u D σ S:=h (u D) fun _ _ q=>q
def fe{n:Nat}{b:bS}{args:List PV}{S:aw}{Q:bE}{E:ci}(h:b { nx:=fun _ S'=>Q .non S',rt:=Q,ex:=gf } (au n args) S):bc n b args S Q E:=h
def uz{α β:Type}(f:α->β)(xs:List α)(lo hi:Option Int):eK (xs.map f) lo hi=(eK xs lo hi).map f:=by
 unfold eK
 rw[List.length_map,List.map_take,List.map_drop]
def uA{α:Type}(xs:List α)(lo hi:Option Int):(eK xs lo hi).length<=xs.length:=by
 unfold eK
 rw[List.length_take,List.length_drop]
 omega
def qK{n:Nat}(h:n<=1000):n<=sizeLine:=Nat.le_of_lt (gS h)
section
variable {α:Type} {a b c d e:α} {l:List α}
def gC:FZ (a::l) 0=some a:=by simp[FZ,qx]
def mH:FZ (a::b::l) 1=some b:=bI (j:=1) rfl
def yg:FZ (a::b::c::l) 2=some c:=bI (j:=2) rfl
def Ac:FZ [a] (-1)=some a:=rfl
def Ad:FZ [a,b] (-1)=some b:=rfl
def Ae:FZ [a,b,c] (-1)=some c:=rfl
def Af:FZ [a,b,c,d] (-1)=some d:=rfl
def Ag:FZ [a,b,c,d,e] (-1)=some e:=rfl
def Ah:FZ [a,b] (-2)=some a:=rfl
def Ai:FZ [a,b,c] (-2)=some b:=rfl
def Aj:FZ [a,b,c,d] (-2)=some c:=rfl
def Ak:FZ [a,b,c,d,e] (-2)=some d:=rfl
end
def cv(lo:Int)(n:Nat):(bP lo n).length=n:=by simp[bP]
end L3
namespace C
open PySem L2 L3
abbrev nY(w:aE):Prop:=∀{S:aw} {ns:Vu} {b:Int} {Q:bE} {E:ci},ns.length<=63->0<=b->b < 1000->(∀d l S',S d=none->S l=none->Deal S' d l->Ext S S'->Q (.ref d) S')->w [.cl (ns.map PV.int),.int b] S Q E
def HU:nY (bc 5 gq):=by
 intro S ns b Q E hn h0 h1 k
 unfold bc gq
 rw[show au 5 [PV.cl (ns.map PV.int),PV.int b]=[some (.cl (ns.map PV.int)),some (.int b),none,none,none] from rfl]
 walk_at "x"
 intro p hp
 rw[aa]
 dsimp only
 rw[uz]
 have hx:(eK ns (some b) (some 63)).length<=63:=Nat.le_trans (uA _ _ _) hn
 generalize eK ns (some b) (some 63)=xs at hx
 refine sr (fun v=>match v with | .int i=>.int (if 0 - i > i then 0 - i else i)|v=>v) aa (fun x hx=>?_) (qK (by rw[List.length_map];omega)) ?_
 ·obtain⟨i,hi,rfl⟩:=List.mem_map.mp hx
  refine⟨[some (.int i)],rfl,fun Q q=>?_⟩
  walk_at "x"
  exact q
 intro p2 hp2
 rw[aa]
 dsimp only
 rw[List.map_map]
 have e0:(xs.map ((fun v=>match v with | .int i=>.int (if 0 - i > i then 0 - i else i)|v=>v) ∘ PV.int))=(xs.map fun i=>if 0 - i > i then 0 - i else i).map PV.int:=by
  rw[List.map_map];rfl
 rw[e0]
 have hy:((xs.map fun i=>if 0 - i > i then 0 - i else i)).length<=63:=by rw[List.length_map];exact hx
 have Kr:∀y∈xs.map (fun i:Int=>if 0 - i > i then 0 - i else i),0<=y:=by
  intro y hy
  obtain⟨i,_,rfl⟩:=List.mem_map.mp hy
  split<;>omega
 generalize (xs.map fun i=>if 0 - i > i then 0 - i else i)=ys at hy Kr
 have h2:p2≠p:=fun e=>by rw[e,aa]at hp2;cases hp2
 have hp2':S p2=none:=by rw[<-hp2,aq h2]
 refine bp (fun done σ S'=>S'=Fc (Fc S p (.lst (xs.map PV.int))) p2 (.lst (ys.map PV.int))/\∃v2 n,0<=n/\n < 2147483647/\σ=[some (.cl (ns.map PV.int)),some (.int b),v2,some (.ref p2),some (.int n)]) ⟨rfl,none,7919+b,by omega,by omega,rfl⟩ (fun done σ S' h=>by rw[h.1];exact aa) ?_ ?_
 ·rintro done x rest σ S' K e ⟨rfl,v2,n,n0,n1,rfl⟩ hK
  obtain⟨i,hi,rfl⟩:∃i,i∈ys/\x = .int i:=by
   have:x∈ys.map PV.int:=by rw[e];simp
   obtain⟨i,hi,rfl⟩:=List.mem_map.mp this
   exact⟨i,hi,rfl⟩
  walk_at "x"
  refine⟨pM (by decide) (by decide),by decide,by decide,hK _ _ ⟨rfl,_,_,?_,?_,rfl⟩⟩
  ·rw[jC (by decide)];omega
  ·rw[jC (i:=(n * 48271+_)) (by decide)];omega
 ·rintro σ S' ⟨rfl,v2,n,n0,n1,rfl⟩
  walk_at "x"
  intro d hd
  have hd2:d≠p2:=fun e=>by rw[e,aa]at hd;cases hd
  rw[aq hd2]at hd
  have hd1:d≠p:=fun e=>by rw[e,aa]at hd;cases hd
  rw[aq hd1]at hd
  rw[aq hd2.symm,aa]
  dsimp only
  refine fA (fun v=>v) (fun v=>match v with | .int i=>decide (10 ^ 18<=i)|_=>false) (by rw[aq hd2.symm,aa]) _ [] (fun x hx=>?_) (by rw[List.length_map];exact qK (by simp;omega)) ?_
  ·obtain⟨i,hi,rfl⟩:=List.mem_map.mp hx
   refine⟨[some (.int i)],rfl,fun Q q=>?_,fun _ Q q=>?_⟩
   ·walk_at "x"
    exact⟨⟨by decide,by decide,by decide⟩,q⟩
   ·walk_at "x"
    exact q
  intro p3 hp3
  rw[aa]
  intro l hl
  have e3:([]++List.map (fun v:PV=>v) (List.filter (fun v=>match v with | .int i=>decide (10 ^ 18<=i)|_=>false) (List.map PV.int ys)))=(ys.filter fun i=>decide (10 ^ 18<=i)).map PV.int:=by
   rw[List.nil_append,List.map_id',List.filter_map]
   rfl
  rw[e3]at hl ⊢
  rw[<-List.map_reverse]
  generalize MG:Fc (Fc (Fc (Fc S p (SO.lst (List.map PV.int xs))) p2 (SO.lst (List.map PV.int ys))) d (SO.dct [])) p3 (SO.lst (List.map PV.int (List.filter (fun i=>decide (10 ^ 18<=i)) ys)))=S3 at hl ⊢
  have MH:S3 d=some (.dct []):=by rw[<-MG,aq (fun e=>by rw[<-e,aa]at hp3;cases hp3),aa]
  have MI:l≠d:=fun e=>by rw[e,MH]at hl;cases hl
  have L8:Ext S S3:=by
   rw[<-MG]
   refine(Ext.new hp).trans ((Ext.new hp2).trans ((Ext.new ?_).trans (.new hp3)))
   rw[aq hd2,aq hd1];exact hd
  refine⟨by rw[aq MI.symm];exact MH,?_⟩
  have e4:ku [(PV.str "seed",PV.int n),(PV.str "number",PV.int 0),(PV.str "left",PV.ref l)]=some (cg n 0 l):=rfl
  rw[e4]
  have e5:gi [] (cg n 0 l)=cg n 0 l:=by simp[gi,cg,kq,dr]
  dsimp only
  rw[e5]
  refine k d l _ hd (L8.free hl) ⟨n,0,_,aa,by rw[aq MI,aa],n0,n1,Int.le_refl _,fun y hy=>?_,?_⟩ ?_
  ·exact Kr y (List.mem_filter.mp (List.mem_reverse.mp hy)).1
  ·rw[List.length_reverse]
   exact Nat.le_trans (List.length_filter_le _ _) (by omega)
  ·intro a o ha
   have had:a≠d:=fun e=>by rw[e,hd]at ha;cases ha
   rw[aq had,aq (fun e=>by rw[e,L8.free hl]at ha;cases ha)]
   exact L8 a o ha
end C
namespace L3
open PySem L2
end L3
namespace C
open PySem L2 L3 Wd
abbrev jV(w:aE):Prop:=∀{S:aw} {t b:Int} {Q:bE} {E:ci},0 < b->b.natAbs < 2 ^ 8000->Q (.tup [.int (M3.aF t b),.int (M3.aG t b)]) S->w [.int t,.int b] S Q E
def Ho:jV (bc 4 ij):=by
 intro S t b Q E hb hs k
 unfold bc ij
 rw[show au 4 [PV.int t,PV.int b]=[some (.int t),some (.int b),none,none] from rfl]
 simp only[aj]
 walk_at "x"
 refine⟨fun n σ S'=>S'=S/\∃x y:Int,σ=[some (.int t),some (.int b),some (.int x),some (.int y)]/\0<=x/\0<=y/\Int.gcd x y=Int.gcd t b/\y.toNat=n,⟨_,rfl,_,b,rfl,by split<;>omega,by omega,?_,rfl⟩,?_⟩
 ·split
  ·rw[show(0 - t) = -t by omega,Int.neg_gcd]
  ·rfl
 rintro n σ S' ⟨rfl,x,y,rfl,hx,hy,hg,rfl⟩
 walk_at "x"
 simp only[decide_eq_true_eq]
 split
 ·rename_i hp
  refine⟨fun σ' Jw=>Jw=S'/\∃x' y':Int,σ'=[some (.int t),some (.int b),some (.int x'),some (.int y')]/\0<=x'/\0<=y'/\Int.gcd x' y'=Int.gcd t b/\y'.toNat < y.toNat,?_,?_⟩
  ·rintro σ' Jw ⟨rfl,x',y',rfl,h1,h2,h3,h4⟩
   exact⟨_,h4,rfl,x',y',rfl,h1,h2,h3,rfl⟩
  ·walk_at "x"
   have e:x.fmod y=x % y:=jC hy
   have l1:=Int.emod_nonneg x (b:=y) (by omega)
   have l2:=Int.emod_lt_of_pos x hp
   refine⟨by omega,trivial,y,x.fmod y,rfl,hy,by omega,?_,by omega⟩
   rw[M3.nJ];exact hg
 ·rename_i hp
  have Kr:y=0:=by omega
  subst Kr
  have L9:x=(Int.gcd t b:Int):=by
   rw[<-hg]
   rw[Int.gcd_zero_right]
   omega
  subst L9
  have gp:(0:Int) < (Int.gcd t b:Int):=Int.natCast_pos.mpr (M3.fj (by omega))
  have gl:=M3.pB (t:=t) (b:=b) (by omega)
  have cd:∀z,ki z (Int.gcd t b:Int):=fun z=>⟨by omega,Nat.lt_of_le_of_lt (by omega) hs⟩
  refine⟨cd _,cd _,?_⟩
  have d1:=(M3.nI (t:=t) (b:=b) (by omega))
  rw[if_neg (by omega)]at d1
  rw[d1.1,d1.2]
  exact k
structure BY (x y:Int):Prop where
 low:M3.zI x y
 x0:0<=x
 x1:x<=999
 y1:y<=9
def ss{n:Nat}(h:n < 2 ^ 64):n < 2 ^ 8000:=Nat.lt_trans h (Nat.pow_lt_pow_right (by decide) (by decide))
abbrev nZ(w:aE):Prop:=∀{S:aw} {d l:Addr} {Q:bE} {E:ci},Deal S d l->(∀x y S',BY x y->Deal S' d l->Oth d l S S'->Q (.tup [.int x,.int y]) S')->w [.ref d] S Q E
def FA{wd wl:aE}(Fe:cr wd)(Ho:jV wl):nZ (bc 2 (gv wd wl)):=by
 intro S d l Q E D k
 unfold bc gv
 rw[show au 2 [PV.ref d]=[some (.ref d),none] from rfl]
 walk_at "x"
 refine Fe D (by decide) (by decide) fun r S1 r0 r1 D1 O1=>?_
 simp only[Bool.false_bne,decide_eq_true_eq]
 split
 ·exact k 0 1 S1 ⟨⟨by decide,by decide⟩,by decide,by decide,by decide⟩ D1 O1
 ·split
  ·refine Fe D1 (by decide) (by decide) fun r2 S2 a0 a1 D2 O2=>?_
   exact k _ 1 S2 ⟨⟨by decide,Int.gcd_one_right _⟩,by omega,by omega,by decide⟩ D2 (O1.trans O2)
  ·refine Fe D1 (by decide) (by decide) fun r2 S2 a0 a1 D2 O2=>Fe D2 (by decide) (by decide) fun r3 S3 b0 b1 D3 O3=>?_
   refine Ho (by omega) (ss (by omega)) ?_
   have z:=M3.ga (t:=r2) (b:=1+r3) (T:=999) (B:=9) (by omega) (by omega) (by omega) (by omega) (by omega) (by decide) (by decide)
   refine k _ _ S3 ⟨M3.cz (by omega),?_,z.2.1,z.2.2.2⟩ D3 (O1.trans (O2.trans O3))
   unfold M3.aF
   rw[if_neg (by omega)]
   exact Int.ediv_nonneg a0 (by omega)
def wW{α:Type}{xs:List α}{r:Int}(h0:0<=r)(h1:r < xs.length):∃v,FZ xs r=some v/\v∈xs:=by
 obtain⟨n,rfl⟩:=Int.eq_ofNat_of_zero_le h0
 have hn:n < xs.length:=by omega
 exact⟨xs[n],bI (by simp[hn]),List.getElem_mem hn⟩
end C
local macro_rules | `(tactic| walk_at "w")=>`(tactic| simp only [L3.aj,L3.ap,L3.av,L3.c_,L3.cK,L3.bZ,L3.ai,L3.v3,L3.c3,L3.lk,L3.af,L3.ah,L3.ac,L3.ko,L3.bg,L3.jK,L3.jL,L3.df,L3.dv,L3.lM,L3.nK,L3.i9,L3.jN,L3.aS,L3.cO,L3.jB,L3.dw,L3.ak,L3.kl,L3.cP,L3.uc,L3.oJ,L3.km,L3.bN,L3.d_,L3.bW,L3.fy,L3.eA,L3.uw,L3.oK,L3.AT,L3.kW,L3.wU,L3.dU,L3.kU,L3.bv,L3.aU,L3.aX,L3.r9,L3.kn,L3.g_,L3.aR,L3.iJ,List.set_cons_zero,List.set_cons_succ,List.set_nil,L3.sd,L3.fw,L3.nP,L3.ar,L3.aL,L3.b6,L3.bQ,L3.bJ,L3.Tg.put,L3.Tg.FH,L3.jO,L3.fO,L3.gh,L3.nT,L3.bH,L3.hG,L3.k5,L3.bD,L3.ft,List.reduceReplicate,List.map_cons,List.map_nil,List.cons_append,List.nil_append,L3.gC,L3.mH,L3.yg,L3.Ac,L3.Ad,L3.Ae,L3.Af,L3.Ag,L3.Ah,L3.Ai,L3.Aj,L3.Ak,L3.dr,String.reduceEq,decide_true,decide_false,Bool.false_bne,Bool.true_bne,Bool.not_true,Bool.not_false,if_true,if_false,Bool.false_eq_true,reduceIte,ite_true,ite_false])
local macro_rules | `(tactic| walk_at "y")=>`(tactic| ((try walk_at "x"); (try walk_at "w")))
namespace C
open PySem L2 L3 Wd
end C
namespace C
open PySem L2 L3
end C
namespace C
open PySem L2 L3 Wd
def Deal.ext{S S':aw}{d l:Addr}(D:Deal S d l)(e:Ext S S'):Deal S' d l:=by
 obtain⟨s,n,f,D⟩:=D
 exact⟨s,n,f,e _ _ D.d,e _ _ D.l,D.s0,D.s1,D.nm,D.lf,D.ln⟩
def _root_.L3.Ext.put{p:Addr}{S S':aw}{o:SO}(O:Ext S S')(h:S p=none):Ext S (Fc S' p o):=fun x u hx=>by rw[aq (fun e=>by rw[e,h]at hx;cases hx)];exact O x u hx
def Al{α:Type}{xs:List α}{n:Nat}(h:n<=xs.length):eK xs none (some (n:Int))=xs.take n:=by
 unfold eK
 rw[HT.j4,HT.me,List.drop_zero,Nat.min_eq_left h]
 rfl
def Am{α:Type}{xs:List α}{n:Nat}(h:n<=xs.length):eK xs (some (n:Int)) none=xs.drop n:=by
 unfold eK
 rw[HT.j4,HT.me,Nat.min_eq_left h,List.take_of_length_le]
 rw[List.length_drop]
 exact Nat.le_refl _
def cA{x:PV}{n:Nat}{a b:List PV}(e:bP 0 n=a++x::b):x = .int a.length/\a.length < n:=by
 have h1:(bP 0 n)[a.length]?=some x:=by rw[e];simp
 unfold bP at h1
 rw[List.getElem?_map]at h1
 have hl:a.length < n:=by
  have:=congrArg List.length e
  rw[cv,List.length_append,List.length_cons]at this
  omega
 rw[List.getElem?_range hl]at h1
 simp at h1
 exact⟨h1.symm,hl⟩
def n4{xs:List PV}{x:PV}{a b:List PV}(e:L3.bh xs=a++x::b):∃y,x = .tup [.int a.length,y]/\xs[a.length]?=some y:=by
 have h1:(L3.bh xs)[a.length]?=some x:=by rw[e];simp
 unfold L3.bh at h1
 rw[List.getElem?_mapIdx]at h1
 cases h:xs[a.length]? with
 |none=>rw[h]at h1;cases h1
 |some y=>
  rw[h]at h1
  simp only[Option.map_some,Option.some.injEq]at h1
  exact⟨y,h1.symm,rfl⟩
end C
namespace C
open PySem L2 L3
end C
namespace C
open PySem L2 L3 Wd
section
variable {S:aw} {Q:bE} {i:Int} {xs:List PV} {b:Bool}
def An:i8 [.int i,.ty "int"] S Q=Q (.bl true) S:=by simp[i8,wO,nN,cN]
def Ap:i8 [.int i,.ty "bool"] S Q=Q (.bl false) S:=by simp[i8,wO,nN,cN]
def mI:i8 [.tup xs,.ty "tuple"] S Q=Q (.bl true) S:=by simp[i8,wO,nN,cN]
end
end C
namespace C
open PySem L2 L3
end C
namespace C
open PySem L2 L3 Wd
end C
namespace Zu
open PySem Zt
open Sem (wp)
end Zu
namespace L2
open PySem PySem.Spec PyProof.Rows
end L2
namespace L3
open PySem L2
end L3
namespace L2
open PySem PySem.Spec PyProof.Rows
end L2
namespace L3
open PySem L2
end L3
namespace C
open PySem L2 L3
end C
namespace C
open PySem L2 L3 Wd
theorem aO{α:Type}{g:Tg}{te:aQ}{σ':cZ}{keep:aw->Prop}{fin:List PV->aw->Prop}{S:aw}(enc f:α->PV)(hk:keep S):∀(xs:List α) (ys:List PV),
  (∀x∈xs,∃σ2,g.put (enc x) σ'=some σ2/\∀Q:bE,Q (f x) S->te σ2 S Q gf)->ys.length+xs.length<=sizeLine->fin (ys++xs.map f) S->eW g bo te σ' keep fin (xs.map enc) ys S
 |[],ys,_,hl,hf=>⟨hk,by simpa using hl,by simpa using hf⟩
 |x::r,ys,h,hl,hf=>by
  obtain⟨σ2,e,h1⟩:=h x (by simp)
  refine⟨hk,by simp at hl;omega,?_⟩
  rw[e]
  show te σ2 S (fun y S4=>eW g bo te σ' keep fin (r.map enc) (ys++[y]) S4) gf
  exact h1 _ (aO enc f hk r (ys++[f x]) (fun y hy=>h y (by simp[hy])) (by simp at hl ⊢;omega) (by simpa using hf))
def aY{n:Nat}(h:n<=1000):n<=sizeLine:=Nat.le_trans h (by decide)
end C
namespace C
open PySem L2 L3
end C
namespace Zv
open PySem
open Sem (wp)
end Zv
namespace L2
open PySem PySem.Spec PyProof.Rows
end L2
namespace L3
open PySem L2
end L3
namespace L2
open PySem PySem.Spec PyProof.Rows
end L2
namespace L3
open PySem L2
section
variable {X:Cx} {a b:Expr} {ta tb:aQ} {p pos:Pos}
def jD(ta tb:aQ):sT:=fun σ S R E=>ta σ S (fun v S1=>tb σ S1 (fun w S2=>match v,w with
 | .tup xs,.tup ys=>R ⟨aP xs ys,fun _=>True⟩ S2
 | .ref a,.ref b=>(match S2 a,S2 b with|some (.lst xs),some (.lst ys)=>R ⟨aP xs ys,fun S'=>S' a=some (.lst xs)/\S' b=some (.lst ys)⟩ S2|_,_=>False)
 | .ref a,.tup ys=>(match S2 a with|some (.lst xs)=>R ⟨aP xs ys,fun S'=>S' a=some (.lst xs)⟩ S2|_=>False)
 | .tup xs,.ref b=>(match S2 b with|some (.lst ys)=>R ⟨aP xs ys,fun S'=>S' b=some (.lst ys)⟩ S2|_=>False)
 |_,_=>False) E) E
def pN{elts:List Expr}{k0:Nat}{GO:Pos}(hs:starEach [a,b] X.env=[(false,eval a X.env),(false,eval b X.env)])(hs2:starEach [b] X.env=[(false,eval b X.env)])(hg:Gl X "zip")(hm:X.mg "zip" = none)(hv:bootBuiltins "zip" = some (.type "zip"))(ha:kg X [a,b] [ta,tb]) :
  vM X (.Tuple elts k0 GO) (.Call (.Name "zip" p) [a,b] [] pos) (jD ta tb):=
 ⟨kr (tZ hg hm hv ha.ok hs hs2) fun σ H R ⟨σ3,S,R3,E3,rσ,rS,h,xo,k⟩=>⟨σ3,S,_,E3,rσ,rS,h,xo,fun v S1 v' H1 h1 rv Fm g1=>⟨σ3,S1,_,E3,rσ.mono g1,Fm,h1,xo.mono g1,fun w S2 w' H2 h2 rw' GL g2=>by
  have L:∀{a:Addr} {xs:List PV},S2 a=some (.lst xs)->∃vs,rW true X.K H2 a vs:=fun e=>let ⟨_,h,_⟩:=GL _ _ e;⟨_,SqL.of h⟩
  dsimp only at h2
  split at h2
  ·cases rv with
   |tup hq rs=>
    cases rw' with
    |tup hq2 J6=>exact⟨false,false,_,_,rfl,⟨_,g2.t _ _ hq⟩,⟨_,hq2⟩,k _ S2 _ H2 h2 (iM (.tup (g2.t _ _ hq) (rs.mono g2)) (.tup hq2 J6)) GL (g1.trans g2)⟩
  ·cases rv
   cases rw'
   split at h2
   ·rename_i ea eb
    exact⟨true,true,_,_,rfl,L ea,L eb,k _ S2 _ H2 h2 (iM (.lst fun _ q=>q.1) (.lst fun _ q=>q.2)) GL (g1.trans g2)⟩
   ·exact h2.elim
  ·cases rv
   cases rw' with
   |tup hq2 J6=>
    split at h2
    ·rename_i ea
     exact⟨true,false,_,_,rfl,L ea,⟨_,hq2⟩,k _ S2 _ H2 h2 (iM (.lst fun _ q=>q) (.tup hq2 J6)) GL (g1.trans g2)⟩
    ·exact h2.elim
  ·cases rv with
   |tup hq rs=>
    cases rw'
    split at h2
    ·rename_i eb
     exact⟨false,true,_,_,rfl,⟨_,g2.t _ _ hq⟩,L eb,k _ S2 _ H2 h2 (iM (.tup (g2.t _ _ hq) (rs.mono g2)) (.lst fun _ q=>q)) GL (g1.trans g2)⟩
    ·exact h2.elim
  ·exact h2.elim⟩⟩⟩
end
end L3
namespace C
open PySem L2 L3
end C
namespace L3
open PySem L2 Xc
def Hg.inj{K:Vo}{c:Str}{C D:Addr}(h1:Hg K c C)(h2:Hg K c D):C=D:=by
 have e:=(show PySem.W.nsIn K mainGlobals c=some (some (.ref C))from h1).symm.trans h2
 injection e with e;injection e with e;injection e
noncomputable def wX(s:Stmt):List Stmt:=match s with
 | .ClassDef _ _ _ body _ _ _ _ _ _ _=>body
 |_=>[]
end L3
namespace L3
open PySem L2
end L3
namespace L2
open PySem PySem.Spec PyProof.Rows Xc
end L2
namespace L3
open PySem L2 Xc
section
variable {P:Program} {w:World} {K:Vo} {mg:Vr} {base:Heap}
structure bK (K:Vo) (mg:Vr) (x:Str) (st:Stmt) (ps:Vs):Prop where
 ex:∃f fd,C7 K mg x st ps f fd
structure n5 (K:Vo) (c m q:Str) (st:Stmt) (ps:Vs):Prop where
 ex:∃C f fd,Hg K c C/\Cls K C/\tz K C m f/\Jt K m q st f fd/\Binds K fd ps []
structure AU (K:Vo) (mg:Vr) (c:Str) (fl:Vs):Prop where
 ex:∃C,Hg K c C/\mg c=some (.ref C)/\Cls K C/\PySem.W.makesIn K C=true/\PySem.W.keepIn K (.ref C)=true/\∀f∈fl,NoAttr K C f
structure fB (P:Program) (w:World) (K:Vo) (mg:Vr) (base:Heap) (k:Nat) (x:Str) (n:Nat) (sp:aE):Prop where
 ex:∃f fd ps,ps.length=n/\AS P w K mg base k f fd ps sp/\mg x=some (.ref f)/\PySem.W.keepIn K (.ref f)=true/\Binds K fd ps []
structure vN (P:Program) (w:World) (K:Vo) (mg:Vr) (base:Heap) (k:Nat) (c m:Str) (n:Nat) (sp:aE):Prop where
 ex:∃C f fd ps,ps.length=n/\AS P w K mg base k f fd ps sp/\Hg K c C/\Cls K C/\tz K C m f/\Binds K fd ps []
def fU{x:Str}{st:Stmt}{ps:Vs}{k n:Nat}{t:bS}{sp:aE}(N:Vs)(O:bK K mg x st ps)
  (hbody:∀(f:Addr) (cdv:Value) (A:Around) (outer:List Env) (s:Shared) (H:Hp) (E:XK),Room k (A.deeper (PyProof.Rows.envOfC x (aN st) s.heap.objs.size f cdv))->N.Nodup->jJ (C5 P w K mg base N x st f cdv A outer s H E) (bV st) t) (e:sp=bc N.length t)
  (hn:ps.length=n:=by rfl) (S:ff N ps (aN st):=by exact⟨rfl,rfl,rfl,by decide +kernel,rfl,by decide +kernel,by decide +kernel⟩):fB P w K mg base (k+1) x n sp:=by
 subst e
 obtain⟨f,fd,o⟩:=O.ex
 exact⟨f,fd,ps,hn,D0 o.F S fun cdv A outer s H E hr=>hbody f cdv A outer s H E hr S.nd,o.m,o.k,o.b⟩
def AV{c m q:Str}{st:Stmt}{ps:Vs}{k n:Nat}{t:bS}{sp:aE}(N:Vs)(O:n5 K c m q st ps)
  (hbody:∀(f:Addr) (cdv:Value) (A:Around) (outer:List Env) (s:Shared) (H:Hp) (E:XK),Room k (A.deeper (PyProof.Rows.envOfC q (aN st) s.heap.objs.size f cdv))->N.Nodup->jJ (C5 P w K mg base N q st f cdv A outer s H E) (bV st) t) (e:sp=bc N.length t)
  (hn:ps.length=n:=by rfl) (S:ff N ps (aN st):=by exact⟨rfl,rfl,rfl,by decide +kernel,rfl,by decide +kernel,by decide +kernel⟩):vN P w K mg base (k+1) c m n sp:=by
 subst e
 obtain⟨C,f,fd,o1,o2,o3,o4,o5⟩:=O.ex
 exact⟨C,f,fd,ps,hn,D0 o4 S fun cdv A outer s H E hr=>hbody f cdv A outer s H E hr S.nd,o1,o2,o3,o5⟩
def EY{x:Str}{st:Stmt}{ps:Vs}{k:Nat}{t:bS}{sp:aE}{f:Addr}{fd:FuncData}(N:Vs)(o:C7 K mg x st ps f fd)
  (hbody:∀(f:Addr) (cdv:Value) (A:Around) (outer:List Env) (s:Shared) (H:Hp) (E:XK),Room k (A.deeper (PyProof.Rows.envOfC x (aN st) s.heap.objs.size f cdv))->N.Nodup->jJ (C5 P w K mg base N x st f cdv A outer s H E) (bV st) t) (e:sp=bc N.length t)
  (S:ff N ps (aN st):=by exact⟨rfl,rfl,rfl,by decide +kernel,rfl,by decide +kernel,by decide +kernel⟩):AS P w K mg base (k+1) f fd ps sp:=by
 subst e
 exact D0 o.F S fun cdv A outer s H E hr=>hbody f cdv A outer s H E hr S.nd
end
section
variable {X:Cx} {a b e o:Expr} {es:List Expr} {ta tb te to:aQ} {ts:List aQ} {x c m f:Str} {p pos apos cpos:Pos} {j k n:Nat} {sp:aE}
def c4(O:fB X.prog X.w X.K X.mg X.base k x n sp)(hr:Room j X.A)(ha:kg X (e::es) ts)(hj:k<=j:=by omega)(hl:ts.length=n:=by rfl)(hg:Gl X x:=by rfl)(he:starEach (e::es) X.env=(false,eval e X.env)::starEach es X.env:=by rfl)(hdb:(x == ("__debug__":Str))=false:=by decide)(hpl:(backTo pos (starEach es X.env)).any (·.1)=false:=by rfl) :
  a_ X (.Call (.Name x p) (e::es) [] pos) (ac sp ts):=by
 obtain⟨f,fd,ps,hn,F,h1,h2,h3⟩:=O.ex
 exact zX F (hr.mono hj) hg h1 h2 h3 he ha (hl.trans hn.symm) hdb hpl
def cB{id:String}{r:nM}(hc:eU X (.builtin id) r)(hm:X.mg x=none)(ha:kg X (e::es) ts)(hg:Gl X x:=by rfl)(hv:bootBuiltins x=some (.builtin id):=by decide +kernel)(he:starEach (e::es) X.env=(false,eval e X.env)::starEach es X.env:=by rfl)
  (hnn:x ≠ "__name__":=by decide) (hdb:(x == ("__debug__":Str))=false:=by decide) (hpl:(backTo pos (starEach es X.env)).any (·.1)=false:=by rfl):a_ X (.Call (.Name x p) (e::es) [] pos) (ah r ts):=wL hc hg hm hv he ha hnn hdb hpl
def cT{id:String}{r:nM}(hc:eU X (.type id) r)(hm:X.mg x=none)(ha:kg X (e::es) ts)(hg:Gl X x:=by rfl)(hv:bootBuiltins x=some (.type id):=by decide +kernel)(he:starEach (e::es) X.env=(false,eval e X.env)::starEach es X.env:=by rfl)
  (hnn:x ≠ "__name__":=by decide) (hdb:(x == ("__debug__":Str))=false:=by decide) (hpl:(backTo pos (starEach es X.env)).any (·.1)=false:=by rfl):a_ X (.Call (.Name x p) (e::es) [] pos) (ah r ts):=wM hc hg hm hv he ha hnn hdb hpl
def lc{r:List Expr}(ha:a_ X a ta)(hr:kg X r ts)(hs:starEach (a::r) X.env=(false,eval a X.env)::starEach r X.env:=by rfl):kg X (a::r) (ta::ts):=t_ hs ha hr
def l1(ha:a_ X a ta)(hs:starEach [a] X.env=(false,eval a X.env)::starEach [] X.env:=by rfl):kg X [a] [ta]:=t_ hs ha t9
def bY{i:Int}{q:Nat}{p2:Pos}(hr:Room j X.A)(ha:a_ X a ta)(hs:jT (.Constant (.int i) q p2):=by exact fun _ _=>rfl):a_ X (.Subscript a (.Constant (.int i) q p2) pos) (ai ak ta (c3 (.int i))):=BO (EE (wV hr)) ha ag hs
def gD(hr:Room j X.A)(ha:a_ X a ta)(hb:a_ X b tb)(hs:jT b:=by exact fun _ _=>rfl):a_ X (.Subscript a b pos) (ai ak ta tb):=BO (EE (wV hr)) ha hb hs
def vO(hr:Room j X.A)(ha:a_ X a ta)(hb:a_ X b tb):pD X (.Compare a [.Eq] [b] pos) (bg (ai (dU false) ta tb)):=cI (nL (ky hr)) ha hb (aJ _)
def yh(hr:Room j X.A)(ha:a_ X a ta)(hb:a_ X b tb):pD X (.Compare a [.NotEq] [b] pos) (bg (ai (dU true) ta tb)):=cI (BM (ky hr)) ha hb (aJ _)
def s4(i:Nat){pos':Pos}(nd:X.N.Nodup)(he:a_ X e te)(hi:X.N[i]?=some x:=by rfl)(hx:xT X.env.scope x:=by first|exact Or.inl rfl|exact Or.inr rfl)(hs:swapsWith e (some (.Name x pos')) pos.line X.env=pure false:=by rfl)
  (hf:X.fn x=true\/X.env.scope.names.lookup x=some .local:=by first|exact .inl rfl|exact .inr rfl|assumption):oI X (.Assign [.Name x pos'] e pos) (ap i te):=BU nd hi hx he hs hf
def gn(i:Nat)(nd:X.N.Nodup)(hi:X.N[i]?=some x:=by rfl)(hx:xT X.env.scope x:=by first|exact Or.inl rfl|exact Or.inr rfl)(hf:X.fn x=true\/X.env.scope.names.lookup x=some .local:=by first|exact .inl rfl|exact .inr rfl|assumption):vL X (.Name x pos) (.n i):=EX i nd hi hx hf
end
structure BZ (T:String) (name:Str) (id:String):Prop where
 pa:PlainAttrs T
 slot:Slot T name id
 ty:typeOf (.builtin id)=pure (.type "method_descriptor")
section
variable {X:Cx} {e o:Expr} {es:List Expr} {to:aQ} {ts:List aQ} {name:Str} {T id:String} {p pos apos cpos:Pos} {r:wQ}
def dQ:BZ "list" "append" "list.append":=⟨PySem.F.plainAttrs_list,PySem.F.slot_list_append,PySem.F.type_list_append⟩
def su:BZ "list" "extend" "list.extend":=⟨PySem.F.plainAttrs_list,PySem.F.slot_list_extend,PySem.F.type_list_extend⟩
def uB:BZ "list" "pop" "list.pop":=⟨PySem.F.plainAttrs_list,PySem.F.slot_list_pop,PySem.F.type_list_pop⟩
def yi(k:BZ T name id)(hm:zQ X id r)(ho:a_ X o to)(ha:kg X (e::es) ts)(hs:starEach (e::es) X.env=(false,eval e X.env)::starEach es X.env:=by rfl)
  (hbase:attributeBase o name X.env (eval o X.env)=eval o X.env:=by rfl)
  (hfew:((backTo cpos (starEach (e::es) X.env)).all (fun x=>!x.1)&&(backToKw cpos (keywordEach [] X.env)).all (fun x=>x.1.isSome)
   && decide ((e::es).length+([]:List Keyword).length+(if ([]:List Keyword).isEmpty then 0 else 1) < 30))=true:=by rfl)
  (hline:(apos.endLine == cpos.line)=true:=by rfl) (hplain:(backTo cpos (starEach es X.env)).any (·.1)=false:=by rfl):a_ X (.Call (.Attribute o name apos) (e::es) [] cpos) (ko T r to ts):=DW k.pa k.slot k.ty hm hs ho ha hbase hfew hline hplain
def Eb(k:BZ T name id)(hm:zQ X id r)(ho:a_ X o to)
  (hbase:attributeBase o name X.env (eval o X.env)=eval o X.env:=by rfl) (hline:(apos.endLine == cpos.line)=true:=by rfl):a_ X (.Call (.Attribute o name apos) [] [] cpos) (ko T r to []):=BS k.pa k.slot k.ty hm ho hbase hline
end
section
variable {X:Cx} {tg iter elt:Expr} {ifs:List Expr} {scope:Scope} {pos:Pos} {ti:sT} {g:Tg} {tc:jA} {te:aQ}
def jP(fs:Vs)(own:Nat)(fr:List Nat)(N:Vs)(hi:vM X tg iter ti)(hg:∀B,vL (X.GJ N scope fs B) tg g)(hf:∀B,AR (X.GJ N scope fs B) ifs tc)(he:∀B,a_ (X.GJ N scope fs B) elt te)
  (Jv:g.under own=true:=by rfl) (hc:X.calm=true:=by rfl) (hclos:closureFor scope X.env=pure (de X.env fs):=by rfl) (hcell:∀y∈scope.names,y.2 ≠ .cell:=by decide +kernel) (hkind:scope.kind = .function:=by rfl)
  (hnames:∀x∈scope.names,x.2 = .local->scope.names.lookup x.1=some .local:=by decide +kernel) (hcl:cL X.env fs:=by repeat' first|exact trivial|exact⟨_,rfl⟩|constructor) (hhas:my (relabel scope X.env).names (de X.env fs)=true:=by rfl)
  (hlen:N.length=own+fr.length:=by rfl) (hN:(N.drop own).map some=fr.map (fun j=>X.N[j]?):=by rfl) (hF:F0 X.env scope (de X.env fs) (N.drop own):=by repeat' first|exact trivial|exact .inl rfl|exact .inr rfl|exact rfl|apply And.intro)
  (hs:∀x,foldedSetIterable iter X.env x=pure x:=by intro _;rfl):a_ X (.ListComp elt [⟨tg,iter,ifs,0⟩] scope pos) (ar ti g tc te own fr):=zV fs own fr N Jv hc hclos hcell hkind hnames hcl hhas hlen hN hF hi hg hf he hs
def AW(fs:Vs)(own:Nat)(fr:List Nat)(N:Vs)(i:Nat){y:Str}{py spos:Pos}(hX:X.N.Nodup)(hi:vM X tg iter ti)(hg:∀B,vL (X.GJ N scope fs B) tg g)(hf:∀B,AR (X.GJ N scope fs B) ifs tc)(he:∀B,a_ (X.GJ N scope fs B) elt te)
  (hix:X.N[i]?=some y:=by rfl) (hy:X.env.scope.names.lookup y=some .local:=by rfl) (hsw:swapsWith (.ListComp elt [⟨tg,iter,ifs,0⟩] scope pos) (some (.Name y py)) spos.line X.env=pure true:=by rfl)
  (Jv:g.under own=true:=by rfl) (hc:X.calm=true:=by rfl) (hclos:closureFor scope X.env=pure (de X.env fs):=by rfl) (hcell:∀y∈scope.names,y.2 ≠ .cell:=by decide +kernel) (hkind:scope.kind = .function:=by rfl)
  (hnames:∀x∈scope.names,x.2 = .local->scope.names.lookup x.1=some .local:=by decide +kernel) (hcl:cL X.env fs:=by repeat' first|exact trivial|exact⟨_,rfl⟩|constructor) (hhas:my (relabel scope X.env).names (de X.env fs)=true:=by rfl)
  (hlen:N.length=own+fr.length:=by rfl) (hN:(N.drop own).map some=fr.map (fun j=>X.N[j]?):=by rfl) (hF:F0 X.env scope (de X.env fs) (N.drop own):=by repeat' first|exact trivial|exact .inl rfl|exact .inr rfl|exact rfl|apply And.intro)
  (hs:∀x,foldedSetIterable iter X.env x=pure x:=by intro _;rfl):oI X (.Assign [.Name y py] (.ListComp elt [⟨tg,iter,ifs,0⟩] scope pos) spos) (ap i (ar ti g tc te own fr)):=zW fs own fr N hX hix hy hsw Jv hc hclos hcell hkind hnames hcl hhas hlen hN hF hi hg hf he hs
end
noncomputable def putF3(f:Str)(v:PV):List (Str×PV)->List (Str×PV)
 |[]=>[(f,v)]
 |(g,x)::r=>if g=f then (g,v)::r else (g,x)::putF3 f v r
theorem Fl.look{K:Vo}{H:Hp}{f:Str}{p:PV}:∀{vs:List (Str×V)} {ps:List (Str×PV)},Fl K H vs ps->ps.lookup f=some p->∃v,vs.lookup f=some v/\Rep K H v p
 |_,_,.nil,e=>by simp at e
 |_,_,.cons a r,e=>by
  rw[List.lookup_cons]at e ⊢
  split at e
  ·cases e;exact⟨_,rfl,a⟩
  ·exact Fl.look r e
theorem Fl.Jd{K:Vo}{H:Hp}{f:Str}:∀{vs:List (Str×V)} {ps:List (Str×PV)},Fl K H vs ps->ps.lookup f=none->vs.lookup f=none
 |_,_,.nil,_=>rfl
 |_,_,.cons a r,e=>by
  rw[List.lookup_cons]at e ⊢
  split at e
  ·cases e
  ·exact Fl.Jd r e
theorem Fl.putF{K:Vo}{H:Hp}{f:Str}{v:V}{p:PV}(q:Rep K H v p):∀{vs:List (Str×V)} {ps:List (Str×PV)},Fl K H vs ps->Fl K H (L2.putF f v vs) (putF3 f p ps)
 |_,_,.nil=>.cons q .nil
 |_,_,.cons (k:=k) a r=>by
  unfold L2.putF putF3
  split
  ·exact .cons q r
  ·exact .cons a (Fl.putF q r)
def cw(c:Str)(S:aw)(x:PV)(k:Addr->List (Str×PV)->Prop):Prop:=match x with
 | .ref a=>(match S a with|some (.ins c' fs)=>c'=c/\k a fs|_=>False)
 |_=>False
def jW{K:Vo}{H:Hp}{S:aw}{c:Str}{C:Addr}{x:PV}{v:V}{k:Addr->List (Str×PV)->Prop}(hC:Hg K c C)(rS:Fh K H S)(r:Rep K H v x)(h:cw c S x k):∃a dx fs f',x = .ref a/\v = .ref a/\S a=some (.ins c fs)/\H a=some (.ins C dx f')/\Fl K H f' fs/\k a fs:=by
 unfold cw at h
 split at h
 ·rename_i a
  split at h
  ·rename_i c' fs e
   obtain⟨rfl,h⟩:=h
   obtain⟨C',dx,f',n,q,rf⟩:=(show HQ K H a (.ins c' fs)from rS a _ e)
   cases hC.inj n
   cases r
   exact⟨a,dx,fs,f',rfl,rfl,e,q,rf,h⟩
  ·exact h.elim
 ·exact h.elim
def cj(c f:Str)(te:aQ):aQ:=fun σ S Q E=>te σ S (fun x S1=>cw c S1 x fun _ fs=>match fs.lookup f with|some v=>Q v S1|none=>False) E
def gJ(c f:Str)(te to:aQ):bS:=fun D σ S=>te σ S (fun v S1=>to σ S1 (fun x S2=>cw c S2 x fun a fs=>fs.length < 1000/\D.nx σ (Fc S2 a (.ins c (putF3 f v fs)))) D.ex) D.ex
def da(c m:Str)(sp:aE)(to:aQ)(ts:List aQ):aQ:=fun σ S Q E=>to σ S (fun x S1=>cw c S1 x fun _ fs=>fs.lookup m=none/\af ts σ S1 (fun ps S2=>sp (x::ps) S2 Q E) E) E
def uC(c:Str)(sp:aE)(ts:List aQ):aQ:=fun σ S Q E=>af ts σ S (fun ps S1=>∀x,S1 x=none->sp (.ref x::ps) (Fc S1 x (.ins c [])) (fun v S2=>v = .non/\Q (.ref x) S2) gf) E
section
variable {X:Cx} {e o value:Expr} {es:List Expr} {te to:aQ} {ts:List aQ} {x c m f:Str} {fl:Vs} {p pos pos' apos:Pos} {j k n:Nat} {sp:aE}
def nk(hC:AU X.K X.mg c fl)(he:a_ X e te)(hf:f∈fl:=by decide)(hb:attributeBase e f X.env (eval e X.env)=eval e X.env:=by rfl):a_ X (.Attribute e f pos) (cj c f te):=by
 obtain⟨C,hn,hm,hc,L_,hkp,na⟩:=hC.ex
 refine⟨aK (zg he.ok hb) fun σ H Q ⟨σ3,S,Q3,E3,rσ,rS,h,xo,k⟩=>⟨σ3,S,_,E3,rσ,rS,h,xo,fun p S1 v H1 h1 rv Fm g1=>?_⟩⟩
 obtain⟨a,dx,fs,f',rfl,rfl,e1,e2,rf,h2⟩:=jW hn Fm rv h1
 split at h2
 ·rename_i p' hp'
  obtain⟨v',hv',Le⟩:=rf.look hp'
  exact⟨a,C,dx,f',v',rfl,e2,hc,na _ hf,hv',k _ S1 _ H1 h2 Le Fm g1⟩
 ·exact h2.elim
def B5(hC:AU X.K X.mg c fl)(he:a_ X value te)(ho:a_ X o to)(hf:f∈fl:=by decide)(hs:swapsWith value (some (.Attribute o f pos')) pos.line X.env=pure false:=by rfl):oI X (.Assign [.Attribute o f pos'] value pos) (gJ c f te to):=by
 obtain⟨C,hn,hm,hc,L_,hkp,na⟩:=hC.ex
 refine⟨dC (zh ho.ok he.ok hs) fun D σ H ⟨σ3,S,D3,rσ,rS,h,xo,nx,r,bk,ct⟩=>⟨σ3,S,_,D3.ex,rσ,rS,h,xo,fun v S1 v' H1 h1 rv Fm g1=>⟨σ3,S1,_,D3.ex,rσ.mono g1,Fm,h1,xo.mono g1,fun x S2 x' H2 h2 rx GL g2=>?_⟩⟩⟩
 obtain⟨a,dx,fs,f',rfl,rfl,e1,e2,rf,h3,h4⟩:=jW hn GL rx h2
 have gm:Grow X.K H2 (upd H2 a (.ins C dx (putF f v' f'))):=.mut e2 trivial
 refine⟨a,C,dx,f',rfl,e2,hc,na _ hf,by rw[rf.length];exact h3,nx _ _ _ _ h4 (rσ.mono (g1.trans (g2.trans gm))) (GL.put e2 trivial ⟨C,dx,_,hn,aB,((rf.mono gm).putF ((rv.mono g2).mono gm))⟩) (g1.trans (g2.trans gm))⟩
def AX{pl:Sem Bool}(O:vN X.prog X.w X.K X.mg X.base k c m n sp)(hr:Room j X.A)(ho:a_ X o to)(ha:kg X (e::es) ts)(hj:k<=j:=by omega)(hl:ts.length+1=n:=by rfl)
  (hst:starEach (e::es) X.env=(false,eval e X.env)::starEach es X.env:=by rfl) (hpl:(backTo pos (starEach es X.env)).any (·.1)=false:=by rfl)
  (ht:eval (.Call (.Attribute o m apos) (e::es) [] pos) X.env=(do
   let ov <-eval o X.env
   standAt apos.atName
   let (f,first) <-holding [ov] (getMethod ov m pl)
   callWith pos f first (backTo pos (starEach (e::es) X.env)) (backToKw pos (keywordEach [] X.env))):=by rfl):a_ X (.Call (.Attribute o m apos) (e::es) [] pos) (da c m sp to ts):=by
 obtain⟨C,f,fd,ps,hn,F,h1,h2,h3,h4⟩:=O.ex
 refine⟨aK (wf ho.ok h2 h3 F.ok (hr.mono hj) h4 .nil qC ha.ok hst hpl ht) fun σ H Q ⟨σ3,S,Q3,E3,rσ,rS,h,xo,k⟩=>⟨σ3,S,_,E3,rσ,rS,h,xo,fun p S1 v H1 q1 rv Fm g1=>?_⟩⟩
 obtain⟨a,dx,fs,f',rfl,rfl,e1,e2,rf,q2,q3⟩:=jW h1 Fm rv q1
 refine⟨a,dx,f',rfl,e2,rf.Jd q2,cH (rσ.mono g1) Fm q3 (xo.mono g1) fun ps' S' vs H' hl' q Le GB g=>?_⟩
 rw[List.append_nil]
 exact⟨by rw[List.length_cons,Le.length,hl',hl,hn],.ref a::ps',S',Q3,E3,.cons (.ref a) Le,GB,q,k.mono (g1.trans g)⟩
def EZ(hC:AU X.K X.mg c fl)(O:vN X.prog X.w X.K X.mg X.base k c "__init__" n sp)(hr:Room j X.A)(ha:kg X (e::es) ts)(hj:k+1<=j:=by omega)(hl:ts.length+1=n:=by rfl)(hg:Gl X c:=by rfl)(he:starEach (e::es) X.env=(false,eval e X.env)::starEach es X.env:=by rfl)(hdb:(c == ("__debug__":Str))=false:=by decide)(hpl:(backTo pos (starEach es X.env)).any (·.1)=false:=by rfl) :
  a_ X (.Call (.Name c p) (e::es) [] pos) (uC c sp ts):=by
 obtain⟨C,hn,hm,hc,L_,hkp,na⟩:=hC.ex
 obtain⟨C',f,fd,ps,hps,F,h1,h2,h3,h4⟩:=O.ex
 cases hn.inj h1
 refine⟨aK (wg ⟨L_,h3.at_,h3.fn,hkp⟩ F.ok (hr.mono hj) hg hm h4 .nil qC ha.ok hdb he hpl) fun σ H Q ⟨σ3,S,Q3,E3,rσ,rS,h,xo,k⟩=>cH rσ rS h xo fun ps' S' vs H' hl' q rv GB g x dx hx hdx hne=>?_⟩
 rw[List.append_nil]
 have g1:Grow X.K H' (upd H' dx (.own x)):=.new hdx
 have MJ:upd H' dx (.own x) x=none:=by rw[aC (Ne.symm hne)];exact hx
 have g2:Grow X.K (upd H' dx (.own x)) (upd (upd H' dx (.own x)) x (.ins C dx [])):=.new MJ
 refine⟨by rw[List.length_cons,rv.length,hl',hl,hps],.ref x::ps',Fc S' x (.ins c []),_,_,.cons (.ref x) (rv.mono (g1.trans g2)),(GB.other hdx).new MJ ⟨C,dx,[],hn,aB,.nil⟩,q x (GB.free hx),fun p S2 v H2 hq L7 GL gg=>?_⟩
 obtain⟨rfl,q2⟩:=hq
 cases L7
 exact⟨rfl,k _ S2 _ H2 q2 (.ref x) GL (g.trans ((g1.trans g2).trans gg))⟩
end
section
variable {X:Cx} {e:Expr} {es:List Expr} {ts:List aQ} {x:Str} {p pos cpos:Pos} {ks:Vs} {j:Nat}
def B6{n:String}(hm:X.mg x=none)(hg:Gl X x:=by rfl)(hv:bootBuiltins x=some (.type n):=by decide +kernel)(hn:x ≠ "__name__":=by decide)(hd:(x == ("__debug__":Str))=false:=by decide):a_ X (.Name x pos) (c3 (.ty n)):=DV hg hm hv hn hd
end
end L3
namespace L2
open PySem PySem.Spec PyProof.Rows
end L2
namespace L3
open PySem L2
end L3
namespace CY
open PySem L2 L3
end CY
namespace L3
open PySem L2
section
variable {X:Cx} {o:Expr} {to:aQ} {c m:Str} {pos apos:Pos} {j k n:Nat} {sp:aE}
def B7{pl:Sem Bool}(O:vN X.prog X.w X.K X.mg X.base k c m n sp)(hr:Room j X.A)(ho:a_ X o to)(hj:k<=j:=by omega)(hl:1=n:=by rfl)
  (ht:eval (.Call (.Attribute o m apos) [] [] pos) X.env=(do
   let ov <-eval o X.env
   standAt apos.atName
   let (f,first) <-holding [ov] (getMethod ov m pl)
   callWith pos f first (backTo pos (starEach [] X.env)) (backToKw pos (keywordEach [] X.env))):=by rfl):a_ X (.Call (.Attribute o m apos) [] [] pos) (da c m sp to []):=by
 obtain⟨C,f,fd,ps,hn,F,h1,h2,h3,h4⟩:=O.ex
 refine⟨aK (tF ho.ok h2 h3 F.ok (hr.mono hj) h4 .nil qC ht) fun σ H Q ⟨σ3,S,Q3,E3,rσ,rS,h,xo,k⟩=>⟨σ3,S,_,E3,rσ,rS,h,xo,fun p S1 v H1 q1 rv Fm g1=>?_⟩⟩
 obtain⟨a,dx,fs,f',rfl,rfl,e1,e2,rf,q2,q3⟩:=jW h1 Fm rv q1
 refine⟨a,dx,f',rfl,e2,rf.Jd q2,?_⟩
 have q3:sp [.ref a] S1 Q3 E3:=q3
 exact⟨by rw[<-hl]at hn;rw[hn];rfl,[.ref a],S1,Q3,E3,.cons (.ref a) .nil,Fm,q3,k.mono g1⟩
end
end L3
namespace L2
open PySem PySem.Spec PyProof.Rows
end L2
namespace L3
open PySem L2
end L3
namespace L2
open PySem PySem.Spec PyProof.Rows
section
variable {prog:Program} {w:World} {A:Around} {E:Vq} {s:Shared}
def uD{a b:Addr}{i j k l:Int}{t1 t2 t3 t4:Tok}{P:Fin->Shared->Prop}(hx:s.heap.IsTuple a #[.int i t1,.int j t2])(hy:s.heap.IsTuple b #[.int k t3,.int l t4])(h:P (.done (.ret (.bool (decide (i < k\/(i=k/\j < l)))))) s) :
  wpAny (model prog w) A (Builtin.«tuple.__lt__» ⟨[.ref a,.ref b],[]⟩) P E s:=by
 obtain⟨oa,hoa,hca,na,hda⟩:=hx
 obtain⟨ob,hob,hcb,nb,hdb⟩:=hy
 have hTb:s.TypeIs (.ref b) "tuple":=⟨_,hob,hcb⟩
 show wpAny _ _ (isInstance (.ref b) (.type "tuple") >>= _) _ _ s
 refine wpAny_bind (wpAny_isInstance hTb isSubtype_tuple_tuple ?_)
 simp only[Bool.not_true,Bool.false_eq_true,if_false]
 refine wpAny_bind (wpAny_tupleItemsOf hoa hda (wpAny_bind (wpAny_tupleItemsOf hob hdb (wpAny_bind ?_))))
 refine wpAny_forIn_list _
  (fun rest r s'=>r.1=none/\s'=s/\(rest=[(.int i t1,.int k t3),(.int j t2,.int l t4)]\/(rest=[(.int j t2,.int l t4)]/\i=k)\/(rest=[]/\i=k/\j=l)))
  _ ?_ ?_ _ _ ⟨rfl,rfl,.inl rfl⟩
 ·rintro⟨u,v⟩ rest r s' ⟨hr,rfl,hz⟩
  rcases hz with hz|⟨hz,rfl⟩|⟨hz,_⟩
  ·cases hz
   refine wpAny_bind (wpAny_eqBool_int ?_)
   by_cases e:i=k
   ·subst e
    simp only[beq_self_eq_true,Bool.not_true,Bool.false_eq_true,if_false]
    exact wpAny_pure ⟨rfl,rfl,by simp⟩
   ·rw[show(i == k)=false by simpa using e]
    simp only[Bool.not_false,if_true]
    have e2:decide (i < k\/(i=k/\j < l))=decide (i < k):=by simp[e]
    rw[e2]at h
    refine wpAny_bind (wpAny_rule (wpAny_bind (wpAny_lt_int (show _ from ?_))))
    exact wpAny_bind (wpAny_pure (wpAny_pure (wpAny_pure h)))
  ·cases hz
   refine wpAny_bind (wpAny_eqBool_int ?_)
   by_cases e:j=l
   ·subst e
    simp only[beq_self_eq_true,Bool.not_true,Bool.false_eq_true,if_false]
    exact wpAny_pure ⟨rfl,rfl,by simp⟩
   ·rw[show(j == l)=false by simpa using e]
    simp only[Bool.not_false,if_true]
    have e2:decide (i < i\/(i=i/\j < l))=decide (j < l):=by simp
    rw[e2]at h
    refine wpAny_bind (wpAny_rule (wpAny_bind (wpAny_lt_int (show _ from ?_))))
    exact wpAny_bind (wpAny_pure (wpAny_pure (wpAny_pure h)))
  ·cases hz
 ·rintro⟨r1,r2⟩ s' ⟨hr,rfl,hz⟩
  simp only at hr
  subst hr
  rcases hz with hz|⟨hz,_⟩|⟨_,rfl,rfl⟩
  ·cases hz
  ·cases hz
  refine wpAny_pure ?_
  have e2:decide (i < i\/(i=i/\j < j))=false:=by simp
  rw[e2]at h
  exact h
def wY{a b:Addr}{i j k l:Int}{t1 t2 t3 t4:Tok}{Q:Vq}(hu:A.units < cLine)(hx:s.heap.IsTuple a #[.int i t1,.int j t2])(hy:s.heap.IsTuple b #[.int k t3,.int l t4])(h:Q (.bool (decide (i < k\/(i=k/\j < l)))) s) :
  wpAny (model prog w) A (compareOp .Lt (.ref a) (.ref b)) Q E s:=by
 have hTa:s.TypeIs (.ref a) "tuple":=by obtain⟨o,ho,hc,_⟩:=id hx;exact⟨_,ho,hc⟩
 have hTb:s.TypeIs (.ref b) "tuple":=by obtain⟨o,ho,hc,_⟩:=id hy;exact⟨_,ho,hc⟩
 show wpAny _ _ (richCompare .Lt (.ref a) (.ref b)) Q E s
 exact wpAny_richCompare_same_room (op:=.Lt) hTa hTb F.slot_tuple_lt (wpAny_call_entry F.slot_tuple_lt hTa F.entry_tuple_lt (uD hx hy ⟨_,rfl,(fun e=>nomatch e),h⟩) (F.args_tuple_lt_2 _ _)) hu
end
section
variable {X:Cx}
def Aq(hu:X.A.units < cLine):gU X (compareOp .Lt) (fun x y H Q=>∃(p r:Addr) (i j k l:Int),x = .ref p/\y = .ref r/\SqT X.K H p [.int i,.int j]/\SqT X.K H r [.int k,.int l]/\Q (.bl (decide (i < k\/(i=k/\j < l)))) H):=by
 intro pins s σ H x y v u Q I r1 r2 h
 obtain⟨p,r,i,j,k,l,rfl,rfl,h1,h2,q⟩:=h
 cases r1;cases r2
 have pair:∀{p:Addr} {i j:Int},SqT X.K H p [.int i,.int j]->∃t1 t2,s.heap.IsTuple p #[.int i t1,.int j t2]:=fun{p i j} hp=>by
  obtain⟨its,rv,pl,hz⟩:=I.tuple hp
  cases rv with
  |cons a1 r1=>
   cases r1 with
   |cons a2 r2=>
    cases r2
    obtain⟨t1,rfl⟩:=a1
    obtain⟨t2,rfl⟩:=a2
    obtain⟨o,ho,hc,n,hd⟩:=id pl
    exact⟨t1,t2,o,ho,hc,n,hd⟩
 obtain⟨_,_,e1⟩:=pair h1
 obtain⟨_,_,e2⟩:=pair h2
 exact wY hu e1 e2 ⟨.bl _,H,I,rfl,q⟩
end
end L2
namespace L3
open PySem L2
section
variable {X:Cx}
def wZ:R3:=fun x y S Q=>match x,y with
 | .tup [.int i,.int j],.tup [.int k,.int l]=>Q (.bl (decide (i < k\/(i=k/\j < l)))) S
 |_,_=>False
def B8(hu:X.A.units+150 < cLine):ig X (compareOp .Lt) wZ:=⟨fun pins s σ H x y v u Q I rx ry ⟨px,py,S,Q3,r1,r2,rS,q,k⟩=>by
 unfold wZ at q
 split at q
 ·cases r1 with
  |tup h1 Nu=>
   cases r2 with
   |tup h2 J6=>
    have two:∀{vs:List V} {i j:Int},Reps X.K H vs [.int i,.int j]->vs=[.int i,.int j]:=fun r=>by
     cases r with
     |cons a b=>cases a;cases b with|cons c d=>cases c;cases d;rfl
    rw[two Nu]at h1
    rw[two J6]at h2
    exact Aq (by omega) pins s σ H _ _ v u Q I rx ry ⟨_,_,_,_,_,_,rfl,rfl,h1,h2,k _ S _ H q (.bl _) rS .refl⟩
 ·exact q.elim⟩
end
end L3
namespace L2
open PySem PySem.Spec PyProof.Rows
section
variable {X:Cx}
def sv(hc:X.calm=true):eN X (.builtin "max") (fun xs H Q=>∃(p:Addr) (ns:Vu),xs=[.ref p]/\SqL X.K H p (ns.map V.int)/\0 < ns.length/\∀M,M∈ns->(∀a∈ns,a<=M)->Q (.int M) H):=by
 intro pins s σ H xs us Q I r h
 obtain⟨p,ns,rfl,hp,hn,q⟩:=h
 obtain⟨u,rfl,rx⟩:=fX r
 cases rx
 obtain⟨its,rv,pl,hz⟩:=I.list hp
 have hi:IntsAre its ns:=j6 rv
 obtain⟨xs,e⟩:=hi.allInts.items
 have hns:ns=xs.toList.map (·.1):=by rw[<-hi.numsOf,<-nums_intItems,<-e]
 have hsz:0 < xs.size:=by have h3:=hn;rw[hns,List.length_map,Array.length_toList]at h3;exact h3
 have hl:=pl.isList
 rw[e]at hl
 refine max_intList (I.ok.hd hc) hl hsz fun v h' tk hv hk=>?_
 obtain⟨t,rfl⟩:=intItems_at hv
 obtain⟨h1,h2⟩:=argBest_gt (numAt xs) (xs.size - 1)
 refine⟨.int _,H,(I.kept (t':=tk) (h':=h') hk),⟨_,rfl⟩,q _ ?_ fun a ha=>?_⟩
 ·rw[hns,numAt_eq];exact getD_mem (by rw[List.length_map,Array.length_toList];omega)
 ·rw[hns]at ha
  obtain⟨j,hj,rfl⟩:=mem_getD ha
  rw[List.length_map,Array.length_toList]at hj
  rw[<-numAt_eq];exact h2 j (by omega)
end
end L2
namespace L3
open PySem L2
section
variable {X:Cx}
def n6:nM:=fun ps S Q=>match ps with
 |[.ref a]=>(match S a with|some (.lst xs)=>(match fz xs with|some ns=>0 < ns.length/\∀M,M∈ns->(∀a∈ns,a<=M)->Q (.int M) S|none=>False)|_=>False)
 |_=>False
def Ar(hc:X.calm=true):eU X (.builtin "max") n6:=⟨fun pins s σ H xs us Q I r ⟨ps,S,Q3,rp,rS,q,k⟩=>by
 unfold n6 at q
 split at q
 ·cases rp with
  |cons a rr=>
   cases rr;cases a
   split at q
   ·rename_i e
    split at q
    ·rename_i eb
     obtain⟨vs,hv,rs⟩:=rS _ _ e
     have e2:=ja rs eb
     subst e2
     exact sv hc pins s σ H _ us Q I r ⟨_,_,rfl,SqL.of hv,q.1,fun M h1 h2=>k _ S _ H (q.2 M h1 h2) (.int _) rS .refl⟩
    ·exact q.elim
   ·exact q.elim
 ·exact q.elim⟩
end
end L3
namespace Md
open PySem PySem.Spec PyProof.Rows
noncomputable def B9(P:Nat->Value->Prop)(bt:Nat->Nat->Bool):Nat->Array Value->Prop
 |0,l=>l=#[]
 |j+1,l=>∃v,l=#[v,v]/\P (argBest bt j) v
def pO{prog:Program}{w:World}{A:Around}{E:Vq}{s:Shared}{id:String}{b:Builtin}{us:Vv}{kw:List (Str×Value)}{Q:Vq}(hk:builtinKind id=none)(hp:plainId id=true)(hb:entryFor table id=some b)(ha:argsOk id ⟨us,kw⟩)
  (hc:wpAny (model prog w) A.in1 (b ⟨us,kw⟩) (fun fin s'=>match fin with
   | .done f=>(match (Except.ok f:Result)with | .ok (.ret v)=>Q v s' | .ok _=>False | .error e=>E e s')
   | .again c'=>c'.quiet=true/\codeAny (model prog w) A c' (fun r s'=>match r with | .ok (.ret v)=>Q v s' | .ok _=>False | .error e=>E e s') s') E s):wpAny (model prog w) A (call (.builtin id) us kw) Q E s:=by
 refine wpAny_call (codeAny_call_builtin hp hb ?_)
 simp only[checkBuiltinCall,hk]
 cases hs:Manifest.signature? id with
 |none=>exact wpAny_pure hc
 |some sig=>
  have h2:Bind.checkArgs id sig ⟨us,kw⟩=pure ():=by simpa only [argsOk,hs]using ha
  simp only[h2]
  exact wpAny_pure hc
def l_(P:Nat->Value->Prop)(bt:Nat->Nat->Bool)(n:Nat)(d v:Value):Prop:=(n=0/\v=d)\/(0 < n/\P (argBest bt (n - 1)) v)
section
variable {prog:Program} {w:World} {A:Around} {R:Result->Shared->Prop} {I:Addr} {fp wr:List Addr} {n:Nat} {P:Nat->Value->Prop} {St:Nat->Heap->Prop}
def sx(a d:Value):argsOk "min" ⟨[a],[("default",d)]⟩:=by unfold argsOk;kernel_rfl
def uE(W:Walks prog w A.in1 I fp wr n P St)(bt:Nat->Nat->Bool)(hcmp:CmpOf prog w A.in1 .Lt P bt)(S:Addr)(hSf:S ∉ fp)(d:Value):∀(k j:Nat) (s:Shared) (its:Vw) (c:Nat),
  n - j=k->j<=n->St j s.heap->B9 P bt j its->s.heap.get? S=some { cls:=.type "list",dict:=none,data:=.seq its c,slots:=#[] }->
  (∀v h' tk,l_ P bt n d v->(∀b o,b ∉ wr->b≠S->s.heap.get? b=some o->h'.get? b=some o)->R (.ok (.ret v)) { s with heap:=h',toks:=tk })->
  codeAny (model prog w) A (.builtin "min.loop" ⟨[.ref I,.none,.ref S],[("default",d)]⟩) R s:=by
 have nw:S ∉ wr:=fun h=>hSf (W.sub _ h)
 have nm:(toString "min" ++ toString ".loop":String) = "min.loop":=by decide
 intro k
 induction k with
 |zero=>
  intro j s its c hk hj hst hb hS hR
  obtain rfl:j=n:=by omega
  refine codeAny_builtin F.entry_min_loop ?_
  rw[Around.under_plainId F.plain_min_loop _]
  show wpAny _ A.in1 (seqItems? (.ref S) >>= _) _ _ s
  refine wpAny_bind (wpAny_seqItems hS rfl (show wpAny _ A.in1 (tryCatch (pyNext (.ref I)) _ >>= _) _ _ s from ?_))
  refine wpAny_bind (wpAny_tryCatch (W.done s _ _ hst fun h1 tk kk=>?_))
  cases j with
  |zero=>
   have e:its=#[]:=hb
   subst e
   show wpAny _ A.in1 (rule _ >>= _) _ _ _
   refine wpAny_bind (wpAny_rule (wpAny_pure (hR d h1 tk (.inl ⟨rfl,rfl⟩) fun b o hw _ e=>kk b o hw e)))
  |succ i=>
   obtain⟨v,rfl,hv⟩:=hb
   show wpAny _ A.in1 (updateSeq S (fun _=>#[]) >>= _) _ _ _
   refine wpAny_bind (wpAny_updateSeq (kk S _ nw hS) rfl (wpAny_bind (wpAny_letGo (wpAny_pure ?_))))
   exact hR v _ tk (.inr ⟨Nat.succ_pos _,hv⟩) fun b o hw HI e=>(Heap.get?_update_other _ _ (Ne.symm HI)).trans (kk b o hw e)
 |succ k ih=>
  intro j s its c hk hj hst hb hS hR
  have hlt:j < n:=by omega
  refine codeAny_builtin F.entry_min_loop ?_
  rw[Around.under_plainId F.plain_min_loop _]
  show wpAny _ A.in1 (seqItems? (.ref S) >>= _) _ _ s
  refine wpAny_bind (wpAny_seqItems hS rfl (show wpAny _ A.in1 (tryCatch (pyNext (.ref I)) _ >>= _) _ _ s from ?_))
  refine wpAny_bind (wpAny_tryCatch (W.item j s _ _ hlt hst fun v h1 tk hP KF kk=>?_))
  have hS1:=kk S _ nw hS
  -- the new one is kept
  have new:∀h2:Heap,h2=h1.update S (Obj.mapSeq fun _=>#[v,v])->B9 P bt (j+1) #[v,v]->codeAny (model prog w) A (.builtin "min.loop" ⟨[.ref I,.none,.ref S],[("default",d)]⟩) R { s with heap:=h2,toks:=tk }:=fun h2 e2 hb2=>by
   refine ih (j+1) _ #[v,v] _ (by omega) hlt (W.frame _ h1 _ KF fun b Nv o e=>?_) hb2 (by rw[e2];exact Heap.get?_update_self (Obj.mapSeq fun _=>#[v,v]) hS1 rfl) fun v' h3 Ma hE k3=>?_
   ·rw[e2];exact(Heap.get?_update_other _ _ (fun h:S=b=>hSf (by rw[h];exact Nv))).trans e
   ·exact hR v' h3 Ma hE fun b o hw HI e=>k3 b o hw HI (by rw[e2];exact(Heap.get?_update_other _ _ (Ne.symm HI)).trans (kk b o hw e))
  cases j with
  |zero=>
   have e:its=#[]:=hb
   subst e
   show wpAny _ A.in1 (updateSeq S (fun _=>#[v,v]) >>= _) _ _ _
   refine wpAny_bind (wpAny_updateSeq hS1 rfl ?_)
   rw[nm]
   exact wpAny_pure ⟨plainId_quiet F.plain_min_loop _,new _ rfl ⟨v,rfl,hP⟩⟩
  |succ i=>
   obtain⟨u,rfl,hu⟩:=hb
   show wpAny _ A.in1 (tryCatch (holding [v,v] (richCompare .Lt v u >>= _)) _ >>= _) _ _ _
   refine wpAny_bind (wpAny_tryCatch (wpAny_holding (wpAny_bind (hcmp (i+1) (argBest bt i) v u _ _ _ hP hu ?_))))
   refine wpAny_bind (wpAny_holding (wpAny_truthy_bool (wpAny_bind (wpAny_letGo (wpAny_pure ?_)))))
   cases hy:bt (i+1) (argBest bt i)with
   |true=>
    simp only[if_true]
    refine wpAny_bind (wpAny_updateSeq hS1 rfl (wpAny_bind (wpAny_letGo ?_)))
    rw[nm]
    exact wpAny_pure ⟨plainId_quiet F.plain_min_loop _,new _ rfl ⟨v,rfl,by simp only[argBest,hy,if_true];exact hP⟩⟩
   |false=>
    simp only[Bool.false_eq_true,if_false]
    refine wpAny_bind (wpAny_letGo ?_)
    rw[nm]
    refine wpAny_pure ⟨plainId_quiet F.plain_min_loop _,ih (i+2) _ _ c (by omega) hlt KF ⟨u,rfl,by simp only[argBest,hy,Bool.false_eq_true,if_false];exact hu⟩ hS1 fun v' h3 Ma hE k3=>?_⟩
    exact hR v' h3 Ma hE fun b o hw HI e=>k3 b o hw HI (kk b o hw e)
end
section
variable {prog:Program} {w:World} {A:Around} {E:Vq} {s:Shared}
def sy{x d:Value}{Q:Vq}
  (h:wpAny (model prog w) A.in1 (pyIter x) (fun it s1=>∃I fp wr n P St bt,it = .ref I/\Walks prog w A.in1 I fp wr n P St/\St 0 s1.heap/\(∀b∈fp,b < s1.heap.objs.size)/\CmpOf prog w A.in1 .Lt P bt/\
   ∀v h' tk,l_ P bt n d v->(∀b o,b ∉ wr->s1.heap.get? b=some o->h'.get? b=some o)->Q v { s1 with heap:=h',toks:=tk }) E s) :
  wpAny (model prog w) A (call (.builtin "min") [x] [("default",d)]) Q E s:=by
 have nm:(toString "min" ++ toString ".loop":String) = "min.loop":=by decide
 refine pO F.kind_min F.plain_min F.entry_min (sx _ _) ?_
 show wpAny _ A.in1 (Builtin.Builtins.bindParams "min" ["key","default"] 0 ⟨[],[("default",d)]⟩ >>= _) _ _ s
 refine wpAny_bind (wpAny_of_eq (show Builtin.Builtins.bindParams "min" ["key","default"] 0 ⟨[],[("default",d)]⟩=pure [none,some d] from rfl) (wpAny_bind (wpAny_pure ?_)))
 refine wpAny_bind (wpAny_mono h (fun it s1 h1=>?_) fun _ _ e=>e)
 obtain⟨I,fp,wr,n,P,St,bt,rfl,W,hst,hfp,hcmp,hQ⟩:=h1
 refine wpAny_bind (wpAny_newObj_type ?_)
 have nf:s1.heap.objs.size ∉ fp:=fun hm=>Nat.lt_irrefl _ (hfp _ hm)
 rw[nm]
 refine wpAny_pure ⟨plainId_quiet F.plain_min_loop _,uE W bt hcmp s1.heap.objs.size nf d _ 0 _ #[] 0 rfl (Nat.zero_le _) (W.frame _ _ _ hst fun b _ o e=>Heap.get?_push_of_some _ e) rfl (Heap.get?_push_size _ rfl) fun v h' tk hE kk=>?_⟩
 exact hQ v h' tk hE fun b o hw e=>kk b o hw (Nat.ne_of_lt (Heap.lt_size e)) (Heap.get?_push_of_some _ e)
end
end Md
namespace L2
open PySem PySem.Spec PyProof.Rows
def As(ns:Vu)(d M:Int):Prop:=(ns=[]/\M=d)\/(M∈ns/\∀a∈ns,M<=a)
section
variable {X:Cx}
def sA{id:String}{x:Str}{r:R2}{e ed:Expr}{ta td:TE}{p pos kp:Pos}(hc:gU X (fun v u=>call (.builtin id) [v] [("default",u)]) r)(hg:Gl X x)(hm:X.mg x=none)(hv:bootBuiltins x=some (.builtin id))(ha:PE X e ta)(hd:PE X ed td)
  (hs:starEach [e] X.env=[(false,eval e X.env)]) (hn:x ≠ "__name__":=by decide) (hdb:(x == ("__debug__":Str))=false:=by decide):PE X (.Call (.Name x p) [e] [⟨some "default",ed,kp⟩] pos) (AM r ta td):=by
 intro pins s σ H Q I h
 refine wpAny_Call_Name_kw (dS I hg hm hv ?_ hn hdb)
 refine PyProof.Rows.callWith_kw ?_ (by rw[hs];rfl) (by rw[hs];rfl) rfl rfl
 rw[hs]
 refine Calls.spliced_cons (bC (ha pins s σ H _ I h) fun v s1 ⟨x1,H1,I1,r1,q1⟩=>Calls.spliced_nil ?_)
 refine bC ((wj (nm:=some "default") (kpos:=kp) hd zm) pos pins s1 σ H1 (fun zs H2=>match zs with|[y]=>r x1 y H2 Q|_=>False) I1 q1) fun ws s2 ⟨zs,H2,I2,rz,q2⟩=>?_
 cases rz with
 |nil=>exact q2.elim
 |cons a b=>
  cases b with
  |cons _ _=>exact q2.elim
  |nil=>exact hc pins s2 σ H2 _ _ _ _ Q I2 r1 a q2
def w4(hc:X.calm=true):gU X (fun v u=>call (.builtin "min") [v] [("default",u)]) (fun x y H Q=>∃(p:Addr) (ns:Vu) (d:Int),x = .ref p/\y = .int d/\SqT X.K H p (ns.map V.int)/\∀M,As ns d M->Q (.int M) H):=by
 intro pins s σ H x y v u Q I r1 r2 h
 obtain⟨p,ns,d,rfl,rfl,hp,q⟩:=h
 cases r1
 obtain⟨t,rfl⟩:=r2
 obtain⟨its,rv,pl,hz⟩:=I.tuple hp
 have hi:IntsAre its ns:=j6 rv
 obtain⟨xs,e⟩:=hi.allInts.items
 have hns:ns=xs.toList.map (·.1):=by rw[<-hi.numsOf,<-nums_intItems,<-e]
 have hl:s.heap.IsTuple p its.toArray:=by
  obtain⟨o,ho,hc,n,hd⟩:=id pl
  exact⟨o,ho,hc,n,hd⟩
 rw[e]at hl
 have hlt:p < s.heap.objs.size:=by obtain⟨_,e,_⟩:=hl;exact Heap.lt_size e
 refine Md.sy (wpAny_pyIter_tuple hl ?_)
 refine⟨_,_,_,_,_,_,_,rfl,Walks.tuple (A:=X.A.in1) (I.ok.hd hc) _ p (Nat.ne_of_lt hlt) (intItems xs),⟨⟨_,Heap.get?_push_size _ rfl,rfl,rfl⟩,hl.push _⟩,(fun b hb=>?_),CmpOf.ints_lt (numAt xs) (fun _ _=>intItems_at),fun v h' tk hE hk=>?_⟩
 ·show b < (s.heap.push _).objs.size
  rw[Heap.size_push]
  simp only[List.mem_cons,List.not_mem_nil,or_false]at hb
  rcases hb with rfl|rfl
  ·exact Nat.lt_succ_self _
  ·exact Nat.lt_succ_of_lt hlt
 have hsz:(intItems xs).size=xs.size:=by simp[intItems]
 rw[hsz]at hE
 have hlen:ns.length=xs.size:=by rw[hns,List.length_map,Array.length_toList]
 have hk':∀b o,s.heap.get? b=some o->h'.get? b=some o:=fun b o e=>hk b o (fun hm=>by
  rcases List.mem_cons.mp hm with e1|hm
  ·exact absurd (e1▸Heap.lt_size e) (Nat.lt_irrefl _)
  ·cases hm) (Heap.get?_push_of_some _ e)
 rcases hE with⟨h0,rfl⟩|⟨h0,hv⟩
 ·exact⟨.int d,H,(I.kept (t':=tk) (h':=h') hk'),⟨_,rfl⟩,q _ (.inl ⟨List.eq_nil_of_length_eq_zero (by omega),rfl⟩)⟩
 ·obtain⟨t,rfl⟩:=intItems_at hv
  obtain⟨h1,h2⟩:=argBest_lt (numAt xs) (xs.size - 1)
  refine⟨.int _,H,(I.kept (t':=tk) (h':=h') hk'),⟨_,rfl⟩,q _ (.inr ⟨?_,fun a ha=>?_⟩)⟩
  ·rw[hns,numAt_eq];exact getD_mem (by rw[List.length_map,Array.length_toList];omega)
  ·rw[hns]at ha
   obtain⟨j,hj,rfl⟩:=mem_getD ha
   rw[List.length_map,Array.length_toList]at hj
   rw[<-numAt_eq];exact h2 j (by omega)
end
end L2
namespace L3
open PySem L2
section
variable {X:Cx} {e ed:Expr} {te td:aQ} {x:Str} {p pos kp:Pos}
def qL:R3:=fun x y S Q=>match x,y with
 | .tup xs,.int d=>(match fz xs with|some ns=>∀M,As ns d M->Q (.int M) S|none=>False)
 |_,_=>False
def At(hc:X.calm=true):ig X (fun v u=>call (.builtin "min") [v] [("default",u)]) qL:=⟨fun pins s σ H x y v u Q I rx ry ⟨px,py,S,Q3,r1,r2,rS,q,k⟩=>by
 unfold qL at q
 split at q
 ·split at q
  ·rename_i eb
   cases r1 with
   |tup h rs=>
    cases r2
    have e2:=ja rs eb
    subst e2
    exact w4 hc pins s σ H _ _ v u Q I rx ry ⟨_,_,_,rfl,rfl,h,fun M hM=>k _ S _ H (q M hM) (.int _) rS .refl⟩
  ·exact q.elim
 ·exact q.elim⟩
def E4{id:String}{r:R3}(hc:ig X (fun v u=>call (.builtin id) [v] [("default",u)]) r)(hm:X.mg x=none)(ha:a_ X e te)(hd:a_ X ed td)(hg:Gl X x:=by rfl)(hv:bootBuiltins x=some (.builtin id):=by decide +kernel)(hs:starEach [e] X.env=[(false,eval e X.env)]:=by rfl)
  (hnn:x ≠ "__name__":=by decide) (hdb:(x == ("__debug__":Str))=false:=by decide):a_ X (.Call (.Name x p) [e] [⟨some "default",ed,kp⟩] pos) (ai r te td):=
 ⟨aK (sA hc.ok hg hm hv ha.ok hd.ok hs hnn hdb) fun _ _ _=>iI⟩
end
end L3
namespace CW
open PySem L2 L3
def pP:bS:=(av (ai oK (ai aU (ai ak (v3 0) (c3 (.int 0))) (ai ak (v3 1) (c3 (.int 1)))) (ai aU (ai ak (v3 1) (c3 (.int 0))) (ai ak (v3 0) (c3 (.int 1))))))
def jb(J7:aE):bS:=(aj (ap 1 (ai ak (v3 0) (c3 (.int 0))))
  (aj (bQ (aL (v3 0)) (.n 2) (cK (bg (ac J7 [(v3 1),(v3 2)])) (ap 1 (v3 2)) bZ))
  (av (v3 1))))
def il(ID:aE):bS:=(aj (ap 1 (aS [(c3 (.int 0)),(c3 (.int 1))]))
  (aj (bQ (aL (v3 0)) (.n 2) (ap 1 (ac ID [(v3 1),(v3 2)])))
  (av (v3 1))))
def im(IE Jx:aE):bS:=(av (ac IE [(ar (k5 (v3 0) (v3 1)) (.tp (.cons (.n 0) (.cons (.n 1) .nil))) bo (ac Jx [(aS [(v3 0),(c3 (.int 1))]),(v3 1)]) 2 [])]))
def dE(Hm:aE):bS:=(aj (ap 1 (c3 (.int 1)))
  (aj (bQ (aL (v3 0)) (.n 2) (ap 1 (ai eA (ai aU (v3 1) (ai ak (v3 2) (c3 (.int 1)))) (ac Hm [(v3 1),(ai ak (v3 2) (c3 (.int 1)))]))))
  (av (v3 1))))
def eL:bS:=(av (ai bv (ai bv (ar (aL (v3 0)) (.n 0) bo (nK (bg (ai (dU false) (ai ak (v3 0) (c3 (.int 0))) (v3 1))) (c3 (.int 1)) (c3 (.int 0))) 1 [3]) (ai aU (cO [(c3 (.int 0))]) (v3 1))) (cO [(ai ak (v3 2) (v3 3))])))
def fD:bS:=(aj (ap 3 (ar (bH (v3 1)) (.n 0) bo (nK (bg (ai (dU false) (v3 0) (v3 1))) (c3 (.int 1)) (c3 (.int 0))) 1 [2]))
  (av (ai bv (ai bv (ar (aL (v3 0)) (.n 0) bo (jB dw (ai ak (ai ak (v3 0) (c3 (.int 2))) (v3 1))) 1 [2]) (v3 3)) (cO [(c3 (.int 0))]))))
def jc:bS:=(av (ar (jD (v3 0) (v3 1)) (.tp (.cons (.n 0) (.cons (.n 1) .nil))) bo (ai eA (ai bW (ai aU (v3 0) (ai ak (v3 3) (v3 4))) (ai aU (ai ak (v3 5) (v3 4)) (v3 1))) (v3 2)) 2 [3,1,2,0]))
def cD:bS:=(aj (gJ "Balance" "rows" (v3 1) (v3 0))
  (aj (gJ "Balance" "held" (v3 2) (v3 0))
  (gJ "Balance" "bottom" (c3 (.int 1)) (v3 0))))
def dW(IV:aE):bS:=(aj (ap 3 (ai ak (cj "Balance" "rows" (v3 0)) (v3 1)))
  (aj (ap 4 (ar (aL (cj "Balance" "rows" (v3 0))) (.n 0) bo (ac IV [(v3 0),(v3 1),(v3 2),(cj "Balance" "bottom" (v3 3))]) 1 [3,2,0]))
  (aj (gJ "Balance" "rows" (ai bv (ai bv (cP (v3 4) uc (oJ (v3 1))) (cO [(v3 3)])) (cP (v3 4) (oJ (ai bv (v3 1) (c3 (.int 1)))) uc)) (v3 0))
  (aj (gJ "Balance" "bottom" (ai ak (v3 3) (v3 2)) (v3 0))
  (i9 (v3 2) (cj "Balance" "held" (v3 0)) (v3 1))))))
def cQ:bS:=(aj (bQ (hG (cP (ai ak (cj "Balance" "rows" (v3 0)) (jB dw (c3 (.int 1)))) uc (oJ (jB dw (c3 (.int 1)))))) (.tp (.cons (.n 1) (.cons (.n 2) .nil))) (cK (bg (ai oK (v3 2) (c3 (.int 0)))) (av (v3 1)) bZ))
  (av (c3 .non)))
def dg:bS:=(aj (ap 4 (ai aU (ai ak (ai ak (cj "Balance" "rows" (v3 0)) (v3 1)) (jB dw (c3 (.int 1)))) (ai ak (ai ak (cj "Balance" "rows" (v3 0)) (v3 2)) (v3 3))))
  (aj (ap 5 (ai aU (ai ak (ai ak (cj "Balance" "rows" (v3 0)) (v3 2)) (jB dw (c3 (.int 1)))) (ai ak (ai ak (cj "Balance" "rows" (v3 0)) (v3 1)) (v3 3))))
  (av (ai wZ (aS [(v3 4),(ai ak (cj "Balance" "held" (v3 0)) (v3 1))]) (aS [(v3 5),(ai ak (cj "Balance" "held" (v3 0)) (v3 2))])))))
def cR(G9:aE):bS:=(aj (ap 2 (c3 .non))
  (aj (bQ (bH (ah aX [(cj "Balance" "held" (v3 0))])) (.n 3) (cK (jK (bg (ai kW (ai ak (ai ak (cj "Balance" "rows" (v3 0)) (v3 3)) (v3 1)) (c3 (.int 0)))) (jL (bg (ai (kU false) (v3 2) (c3 .non))) (bg (da "Balance" "sooner" G9 (v3 0) [(v3 3),(v3 2),(v3 1)])))) (ap 2 (v3 3)) bZ))
  (av (v3 2))))
def cS(Fv:aE):bS:=(aj (ap 4 (ai aU (cO [(aS [(c3 (.int 0)),(c3 (.int 1))])]) (v3 1)))
  (aj (bQ (jD (cj "Balance" "rows" (v3 0)) (cj "Balance" "held" (v3 0))) (.tp (.cons (.n 5) (.cons (.n 6) .nil))) (cK (bg (ai oK (v3 6) (v3 1))) (i9 (ac Fv [(ai aU (v3 3) (ai ak (v3 5) (v3 2))),(cj "Balance" "bottom" (v3 0))]) (v3 4) (v3 6)) bZ))
  (av (v3 4))))
def bi:bS:=(aj (ap 2 (ar (hG (v3 0)) (.tp (.cons (.n 0) (.cons (.n 1) .nil))) (jK (bg (ai (dU false) (ai ak (v3 1) (c3 (.int 0))) (v3 2))) (bg (ai wU (ai qL (ai ak (v3 1) (c3 (.int 2))) (c3 (.int 0))) (c3 (.int 0))))) (v3 0) 2 [1]))
  (av (ai ak (v3 2) (c3 (.int 0)))))
def fE(F1 HJ HV GP F7 F8:aE):bS:=(aj (ap 3 (ac F1 [(ar (aL (v3 0)) (.n 0) bo (ai ak (v3 0) (c3 (.int 1))) 1 [])]))
  (aj (ap 4 (ai bv (ar (aL (v3 0)) (.n 0) bo (ai aU (jB dw (ai ak (ai ak (v3 0) (c3 (.int 1))) (c3 (.int 0)))) (ai eA (v3 1) (ai ak (ai ak (v3 0) (c3 (.int 1))) (c3 (.int 1))))) 1 [3]) (ai aU (cO [(c3 (.int 0))]) (ai bv (v3 1) (c3 (.int 1))))))
  (aj (ap 6 (ar (bH (ah aX [(v3 2)])) (.n 0) bo (ac HJ [(v3 1),(v3 2),(v3 3),(v3 0)]) 1 [0,1,2]))
  (aj (c_ (ko "list" ft (v3 6) [(ar (bH (v3 1)) (.n 0) bo (ac HV [(v3 1),(v3 2),(v3 0)]) 1 [0,1])]))
  (aj (ap 7 (uC "Balance" GP [(ai bv (v3 6) (cO [(v3 4)])),(ar (bH (ah aX [(v3 6)])) (.n 0) bo (ai bW (ai bv (ah aX [(v3 1)]) (v3 0)) (ah aX [(v3 2)])) 1 [0,2])]))
  (aj (bQ (bH (ah aX [(v3 2)])) (.n 5) (c_ (da "Balance" "hold" F7 (v3 7) [(v3 5),(ac F8 [(v3 0),(v3 5)])])))
  (av (v3 7))))))))
def io(IW ID IF:aE):bS:=(av (ac IW [(ar (aL (v3 0)) (.n 0) (bg (ai (dU false) (ai ak (v3 0) (c3 (.int 0))) (v3 1))) (ac ID [(ai ak (v3 0) (c3 (.int 1))),(ac IF [(ai ak (v3 0) (c3 (.int 2))),(v3 2)])]) 1 [2,1])]))
def jd(FQ:aE):bS:=(aj (ap 3 (da "Balance" "held_by" FQ (v3 0) [(ah aX [(v3 1)]),(v3 2),(jB dw (c3 (.int 1)))]))
  (aj (cK (bg (ai oK (v3 2) (ah aX [(v3 1)]))) (i9 (aS [(c3 (.int 1)),(c3 (.int 1))]) (v3 3) (v3 2)) bZ)
  (av (aS [(c3 (.str "endless")),(ah aR [(v3 3)])]))))
def pQ(F1 Fv IG FQ:aE):bS:=(aj (ap 3 (ai aU (cj "Balance" "bottom" (v3 0)) (ac F1 [(ar (aL (v3 1)) (.n 0) bo (ai ak (v3 0) (c3 (.int 1))) 1 [])])))
  (aj (ap 4 (ai ak (cj "Balance" "rows" (v3 0)) (jB dw (c3 (.int 1)))))
  (aj (ap 5 (ah aR [(ar (aL (cP (v3 4) (oJ (ah aX [(v3 1)])) (oJ (jB dw (c3 (.int 1)))))) (.n 0) bo (ac Fv [(v3 0),(v3 1)]) 1 [3])]))
  (aj (ap 6 (ah aR [(ar (bH (ah aX [(v3 2)])) (.n 0) bo (ac IG [(v3 1),(v3 2),(v3 0)]) 1 [1,5])]))
  (aj (ap 7 (ah aR [(da "Balance" "held_by" FQ (v3 0) [(ah aX [(v3 1)]),(jB dw (c3 (.int 1))),(c3 (.int 1))])]))
  (av (aS [(c3 (.str "most")),(ac Fv [(ai ak (v3 4) (jB dw (c3 (.int 1)))),(v3 3)]),(v3 7),(v3 6),(v3 5)])))))))
def je(HW Gf GX IY F7 J8:aE):bS:=(aj (ap 2 (ah aX [(ai ak (ai ak (v3 0) (c3 (.int 0))) (c3 (.int 2)))]))
  (aj (ap 3 (ac HW [(v3 0),(v3 2),(v3 1)]))
  (aj (ap 4 (da "Balance" "gaining" Gf (v3 3) []))
  (aj (i_ (bg (ai (kU true) (v3 4) (c3 .non))) (aj (ap 5 (da "Balance" "used_up" GX (v3 3) [(v3 4)]))
  (aj (cK (bg (ai (kU false) (v3 5) (c3 .non))) (av (ac IY [(v3 3),(v3 0),(v3 4)])) bZ)
  (aj (c_ (da "Balance" "hold" F7 (v3 3) [(v3 5),(v3 4)]))
  (ap 4 (da "Balance" "gaining" Gf (v3 3) []))))))
  (av (ac J8 [(v3 3),(v3 0),(v3 1)]))))))
def cE(F5:aE):bS:=(aj (cK (jL (df (bg (ah i8 [(v3 0),(c3 (.ty "tuple"))]))) (bg (ai (dU true) (ah aX [(v3 0)]) (c3 (.int 2))))) (av (c3 (.bl false))) bZ)
  (aj (cK (df (bg (ah r_ [(ar (aL (v3 0)) (.n 0) bo (dv (ah i8 [(v3 0),(c3 (.ty "int"))]) (lM (ah i8 [(v3 0),(c3 (.ty "bool"))]))) 1 [])]))) (av (c3 (.bl false))) bZ)
  (av (dv (ai kW (ai ak (v3 0) (c3 (.int 1))) (c3 (.int 0))) (ai (dU false) (ac F5 [(ai ak (v3 0) (c3 (.int 0))),(ai ak (v3 0) (c3 (.int 1)))]) (v3 0))))))
def bL(FK:aE):bS:=(aj (cK (jL (df (bg (ah i8 [(v3 0),(c3 (.ty "tuple"))]))) (bg (ai (dU true) (ah aX [(v3 0)]) (v3 1)))) (av (c3 (.bl false))) bZ)
  (av (ah r_ [(ar (aL (v3 0)) (.n 0) bo (dv (ac FK [(v3 0)]) (ai wU (ai ak (v3 0) (c3 (.int 0))) (c3 (.int 0)))) 1 [])])))
def ip(FO:aE):bS:=(aj (ap 2 (aS [(c3 (.int 0)),(c3 (.int 1))]))
  (aj (bQ (jD (v3 0) (v3 1)) (.tp (.cons (.n 3) (.cons (.n 4) .nil))) (ap 2 (ac FO [(v3 2),(aS [(ai aU (v3 3) (ai ak (v3 4) (c3 (.int 0)))),(ai ak (v3 4) (c3 (.int 1)))])])))
  (av (v3 2))))
end CW
namespace CW
open PySem L2 L3 Wd
open C
structure Sz (i:Int):Prop where
 lt:i.natAbs < 2 ^ 4000
def qM{k:Int}{n:Nat}(h:k.natAbs < 2 ^ n):Builtin.Int.intBits k<=n:=by
 unfold Builtin.Int.intBits
 split
 ·exact Nat.zero_le _
 ·rename_i hz
  have h0:k.natAbs≠0:=by intro e;apply hz;simp;omega
  have:k.natAbs.log2 < n:=(Nat.log2_lt h0).mpr h
  omega
def Sz.mul{a b:Int}(h:Sz a)(g:Sz b):IntMulOk a b:=by
 have h1:=qM h.lt
 have h2:=qM g.lt
 unfold IntMulOk
 have e:Builtin.Int.intTooBig ((Builtin.Int.intBits a:Int)+(Builtin.Int.intBits b:Int))=false:=by
  unfold Builtin.Int.intTooBig
  have:(bitsLine:Int)=2 ^ 27:=rfl
  simp only[gt_iff_lt,decide_eq_false_iff_not,Int.not_lt]
  omega
 rw[e];simp
def Sz.div{a b:Int}(h:b≠0)(g:Sz b):ki a b:=⟨h,Nat.lt_trans g.lt (Nat.pow_lt_pow_right (by decide) (by decide))⟩
def Sz.le{a b:Int}(h:Sz b)(g:a.natAbs<=b.natAbs):Sz a:=⟨Nat.lt_of_le_of_lt g h.lt⟩
noncomputable def dF:Nat:=2 ^ 2000
def jX:0 < dF:=Nat.pow_pos (by decide)
def Au:dF < 2 ^ 4000:=Nat.pow_lt_pow_right (by decide) (by decide)
def bG{a:Int}(h:a.natAbs<=dF):Sz a:=⟨Nat.lt_of_le_of_lt h Au⟩
def uF{a b:Int}(h:a.natAbs<=dF)(g:b.natAbs < dF):Sz (a * b):=by
 refine⟨?_⟩
 rw[Int.natAbs_mul]
 have h1:=Nat.mul_lt_mul_of_le_of_lt h g jX
 have e:dF * dF=2 ^ 4000:=by unfold dF;rw[<-Nat.pow_add]
 rw[e]at h1
 exact h1
noncomputable def cq(Q n:Int):PV:=.tup [.int (M3.aF n Q),.int (M3.aG n Q)]
def fP{Q R n m:Int}(hQ:0 < Q)(hR:0 < R)(e:n * R=m * Q):cq Q n=cq R m:=by
 have L:=M3.cz (t:=n) (b:=Q) (by omega)
 have w:=M3.a8 (t:=n) (b:=Q) (by omega)
 obtain⟨e1,e2⟩:=M3.ke (x:=m) (y:=R) L hR (by
  refine M3.zJ (g:=Q) (by omega) ?_
  rw[Int.mul_right_comm,<-e,Int.mul_right_comm n,<-w]
  grind)
 unfold cq
 rw[e1,e2]
def mJ{x y:Int}(L:M3.zI x y):PV.tup [.int x,.int y]=cq y x:=by
 obtain⟨e1,e2⟩:=M3.t6 L
 unfold cq;rw[e1,e2]
def iq(n:Int):PV.tup [.int n,.int 1]=cq 1 n:=mJ ⟨by decide,Int.gcd_one_right _⟩
def gK{Q n:Int}(hQ:0 < Q):(M3.aF n Q < 0↔n < 0)/\(0 < M3.aF n Q↔0 < n)/\(M3.aF n Q=0↔n=0):=by
 have w:=M3.a8 (t:=n) (b:=Q) (by omega)
 have L:=(M3.cz (t:=n) (b:=Q) (by omega)).pos
 have a1:M3.aF n Q < 0->n < 0:=fun h=>by
  have:=Int.mul_neg_of_neg_of_pos h hQ
  rw[w]at this
  exact Int.not_le.mp fun hn=>by have:=Int.mul_nonneg hn (show 0<=M3.aG n Q by omega);omega
 have a2:0 < M3.aF n Q->0 < n:=fun h=>by
  have:=Int.mul_pos h hQ
  rw[w]at this
  exact Int.not_le.mp fun hn=>by have:=Int.mul_nonneg (show 0 <= -n by omega) (show 0<=M3.aG n Q by omega);rw[Int.neg_mul]at this;omega
 have a3:M3.aF n Q=0->n=0:=fun h=>by
  rw[h,Int.zero_mul]at w
  rcases Int.mul_eq_zero.mp w.symm with h|h
  ·exact h
  ·omega
 refine⟨⟨a1,fun h=>?_⟩,⟨a2,fun h=>?_⟩,⟨a3,fun h=>?_⟩⟩<;>omega
structure Fq (Q n:Int):Prop where
 q0:0 < Q
 q1:Q.natAbs < dF
 n1:n.natAbs < dF
def Fq.sz{Q n:Int}(h:Fq Q n):(M3.aF n Q).natAbs<=n.natAbs/\(M3.aG n Q).natAbs<=Q.natAbs/\0 < M3.aG n Q:=by
 have q0:=h.q0
 have:=M3.ga (t:=n) (b:=Q) (T:=n.natAbs) (B:=Q.natAbs) (by omega) (by omega) (by omega) (by omega) (by omega) (by omega) (by omega)
 omega
abbrev jY(w:aE):Prop:=∀{S:aw} {a b:Int} {Q:bE} {E:ci},0<=b->Q (.int (Int.gcd a b)) S->w [.int a,.int b] S Q E
def pS:jY (bc 3 kA):=by
 intro S a b Q E hb k
 unfold kA
 refine fe ?_
 rw[show au 3 [PV.int a,PV.int b]=[some (.int a),some (.int b),none] from rfl]
 refine ay fun N hN=>?_
 refine⟨fun n σ S'=>S'=S/\∃(x y:Int) (z:Option PV),σ=[some (.int x),some (.int y),z]/\0<=y/\Int.gcd x y=Int.gcd a b/\y.toNat=n,⟨_,rfl,a,b,none,rfl,hb,rfl,rfl⟩,?_⟩
 rintro n σ S' ⟨rfl,x,y,z,rfl,hy,hg,rfl⟩
 walk_at "x"
 simp only[Bool.true_bne,Bool.not_eq_true',decide_eq_false_iff_not]
 split
 ·rename_i hp
  refine⟨fun σ' Jw=>Jw=S'/\∃(x' y':Int) (z':Option PV),σ'=[some (.int x'),some (.int y'),z']/\0<=y'/\Int.gcd x' y'=Int.gcd a b/\y'.toNat < y.toNat,?_,?_⟩
  ·rintro σ' Jw ⟨rfl,x',y',z',rfl,h2,h3,h4⟩
   exact⟨_,h4,rfl,x',y',z',rfl,h2,h3,rfl⟩
  ·have e:x.fmod y=x % y:=jC hy
   have l1:=Int.emod_nonneg x (b:=y) hp
   have l2:=Int.emod_lt_of_pos x (show 0 < y by omega)
   refine⟨hp,rfl,y,x.fmod y,_,rfl,by omega,?_,by omega⟩
   rw[M3.nJ];exact hg
 ·rename_i hp
  have Kr:y=0:=by omega
  subst Kr
  refine hN _ _ ?_
  walk_at "x"
  have L9:(if x < 0 then -x else x)=(Int.gcd a b:Int):=by
   rw[<-hg,Int.gcd_zero_right]
   split<;>omega
  rw[L9]
  exact k
abbrev jE(w:aE):Prop:=∀{S:aw} {t b:Int} {Q:bE} {E:ci},0 < b->Sz b->Q (cq b t) S->w [.int t,.int b] S Q E
def uG{xc:aE}(G_:jY xc):jE (bc 3 (ik xc)):=by
 intro S t b Q E hb hs k
 unfold ik
 refine fe ?_
 rw[show au 3 [PV.int t,PV.int b]=[some (.int t),some (.int b),none] from rfl]
 refine ay fun N hN=>?_
 walk_at "x"
 refine G_ (by omega) (hN _ _ (ay fun N hN=>?_))
 walk_at "x"
 rw[if_neg (by rw[decide_eq_true_eq];omega)]
 refine hN _ _ ?_
 walk_at "x"
 have gp:(0:Int) < (Int.gcd t b:Int):=Int.natCast_pos.mpr (M3.fj (by omega))
 have gl:=M3.pB (t:=t) (b:=b) (by omega)
 have cd:∀z,ki z (Int.gcd t b:Int):=fun z=>Sz.div (by omega) (hs.le (by omega))
 refine⟨cd _,cd _,?_⟩
 have d1:=(M3.nI (t:=t) (b:=b) (by omega))
 rw[if_neg (by omega)]at d1
 rw[d1.1,d1.2]
 exact k
abbrev w5(w:aE):Prop:=jE w
def w9{xl:aE}(h:jV xl):w5 xl:=fun hb hs k=>h hb (Nat.lt_trans hs.lt (Nat.pow_lt_pow_right (by decide) (by decide))) k
def uH{Q n m:Int}(h:Fq Q n)(g:Fq Q m):0 < M3.aG n Q * M3.aG m Q/\Sz (M3.aG n Q * M3.aG m Q)/\cq (M3.aG n Q * M3.aG m Q) (M3.aF n Q * M3.aG m Q+M3.aF m Q * M3.aG n Q)=cq Q (n+m):=by
 have a:=h.sz
 have c:=g.sz
 have q0:=h.q0
 have p:=Int.mul_pos a.2.2 c.2.2
 refine⟨p,uF (by have:=h.q1;omega) (by have:=h.q1;omega),fP p q0 ?_⟩
 have w1:=M3.a8 (t:=n) (b:=Q) (by omega)
 have w2:=M3.a8 (t:=m) (b:=Q) (by omega)
 calc (M3.aF n Q * M3.aG m Q+M3.aF m Q * M3.aG n Q) * Q=(M3.aF n Q * Q) * M3.aG m Q+(M3.aF m Q * Q) * M3.aG n Q:=by grind
  _=_:=by rw[w1,w2];grind
def Fq.ok{Q n R m:Int}(h:Fq Q n)(g:Fq R m):IntMulOk (M3.aF n Q) (M3.aG m R)/\IntMulOk (M3.aG n Q) (M3.aG m R)/\IntMulOk (M3.aF n Q) (M3.aF m R):=by
 have a:=h.sz
 have c:=g.sz
 have:=h.q1;have:=g.q1;have:=h.n1;have:=g.n1
 exact⟨(bG (by omega)).mul (bG (by omega)),(bG (by omega)).mul (bG (by omega)),(bG (by omega)).mul (bG (by omega))⟩
abbrev qN(w:aE):Prop:=∀{S:aw} {B n m:Int} {Q:bE} {E:ci},Fq B n->Fq B m->Q (cq B (n+m)) S->w [cq B n,cq B m] S Q E
def B_{xf:aE}{S:aw}{B n m:Int}{Q:bE}{E:ci}(h:IntMulOk (M3.aF n B) (M3.aG m B)/\IntMulOk (M3.aF m B) (M3.aG n B)/\IntMulOk (M3.aG n B) (M3.aG m B))(k:xf [.int (M3.aF n B * M3.aG m B+M3.aF m B * M3.aG n B),.int (M3.aG n B * M3.aG m B)] S Q gf):bc 2 (gA xf) [cq B n,cq B m] S Q E:=by
 unfold gA
 refine fe ?_
 rw[show au 2 [cq B n,cq B m]=[some (.tup [.int (M3.aF n B),.int (M3.aG n B)]),some (.tup [.int (M3.aF m B),.int (M3.aG m B)])] from rfl]
 walk_at "x"
 simp only[gC,mH]
 exact⟨h.1,h.2.1,h.2.2,k⟩
def uI{xf:aE}(FJ:jE xf):qN (bc 2 (gA xf)):=by
 intro S B n m Q E h g k
 obtain⟨p1,p2,p3⟩:=uH h g
 exact B_ ⟨(h.ok g).1,(g.ok h).1,(h.ok g).2.1⟩ (FJ p1 p2 (by rw[p3];exact k))
abbrev uJ(w:aE):Prop:=∀{S:aw} {i B n:Int} {Q:bE} {E:ci},i.natAbs < dF->Fq B n->Q (cq B (i * n)) S->w [.tup [.int i,.int 1],cq B n] S Q E
def sB{xf:aE}(FJ:jE xf):uJ (bc 2 (mG xf)):=by
 intro S i B n Q E hi h k
 unfold mG
 refine fe ?_
 rw[show au 2 [.tup [.int i,.int 1],cq B n]=[some (.tup [.int i,.int 1]),some (.tup [.int (M3.aF n B),.int (M3.aG n B)])] from rfl]
 have a:=h.sz
 have:=h.q1;have:=h.n1;have q0:=h.q0
 simp only[av,ac,af,ai,v3,lk,c3,ak,gC,mH,aU]
 have one:(1:Int).natAbs<=dF:=jX
 refine⟨(bG (by omega)).mul (bG (by omega)),(bG one).mul (bG (by omega)),?_⟩
 rw[Int.one_mul]
 refine FJ a.2.2 (bG (by omega)) ?_
 rw[fP (m:=i * n) a.2.2 q0 (by have w:=M3.a8 (t:=n) (b:=B) (by omega);rw[Int.mul_assoc,w];grind)]
 exact k
abbrev yj(w:aE):Prop:=∀{S:aw} {B n m:Int} {Q:bE} {E:ci},Fq B n->Fq B m->Q (.bl (decide (n < m))) S->w [cq B n,cq B m] S Q E
def uK:yj (bc 2 pP):=by
 intro S B n m Q E h g k
 unfold pP
 refine fe ?_
 rw[show au 2 [cq B n,cq B m]=[some (.tup [.int (M3.aF n B),.int (M3.aG n B)]),some (.tup [.int (M3.aF m B),.int (M3.aG m B)])] from rfl]
 simp only[av,ai,v3,lk,c3,ak,gC,mH,aU,oK,bN]
 refine⟨(h.ok g).1,(g.ok h).1,?_⟩
 have q0:=h.q0
 have w1:=M3.a8 (t:=n) (b:=B) (by omega)
 have w2:=M3.a8 (t:=m) (b:=B) (by omega)
 have b1:=h.sz.2.2
 have b2:=g.sz.2.2
 have e:(M3.aF n B * M3.aG m B < M3.aF m B * M3.aG n B)↔n < m:=by
  have pp:=Int.mul_pos b1 b2
  have e1:(M3.aF n B * M3.aG m B) * B=n * (M3.aG n B * M3.aG m B):=by rw[Int.mul_right_comm,w1];grind
  have e2:(M3.aF m B * M3.aG n B) * B=m * (M3.aG n B * M3.aG m B):=by rw[Int.mul_right_comm,w2];grind
  constructor
  ·intro hlt
   have:=Int.mul_lt_mul_of_pos_right hlt q0
   rw[e1,e2]at this
   exact Int.lt_of_mul_lt_mul_right this (by omega)
  ·intro hlt
   have:=Int.mul_lt_mul_of_pos_right hlt pp
   rw[<-e1,<-e2]at this
   exact Int.lt_of_mul_lt_mul_right this (by omega)
 rw[show decide (M3.aF n B * M3.aG m B < M3.aF m B * M3.aG n B)=decide (n < m)from decide_eq_decide.mpr e]
 exact k
abbrev jF(w:aE):Prop:=∀{S:aw} {a b c d:Int} {Q:bE} {E:ci},0 < b->0 < d->a.natAbs<=dF->b.natAbs < dF->c.natAbs<=dF->d.natAbs < dF->Q (cq (b * d) (a * d+c * b)) S->w [.tup [.int a,.int b],.tup [.int c,.int d]] S Q E
def Av{xf:aE}{S:aw}{a b c d:Int}{Q:bE}{E:ci}(h:IntMulOk a d/\IntMulOk c b/\IntMulOk b d)(k:xf [.int (a * d+c * b),.int (b * d)] S Q gf):bc 2 (gA xf) [.tup [.int a,.int b],.tup [.int c,.int d]] S Q E:=by
 unfold gA
 refine fe ?_
 rw[show au 2 [PV.tup [.int a,.int b],.tup [.int c,.int d]]=[some (.tup [.int a,.int b]),some (.tup [.int c,.int d])] from rfl]
 walk_at "x"
 simp only[gC,mH]
 exact⟨h.1,h.2.1,h.2.2,k⟩
def uL{xf:aE}(FJ:jE xf):jF (bc 2 (gA xf)):=by
 intro S a b c d Q E hb hd h1 h2 h3 h4 k
 exact Av ⟨(bG h1).mul (bG (by omega)),(bG h3).mul (bG (by omega)),(bG (by omega)).mul (bG (by omega))⟩ (FJ (Int.mul_pos hb hd) (uF (by omega) h4) k)
def sC{xf:aE}(FJ:w5 xf):jF (bc 2 (gB xf)):=by
 have e:gB xf=gA xf:=rfl
 rw[e]
 intro S a b c d Q E hb hd h1 h2 h3 h4 k
 exact uL (fun hb hs k=>FJ hb hs k) hb hd h1 h2 h3 h4 k
noncomputable def eM(ns:Vu):Nat:=(ns.map Int.natAbs).sum
def iO(ns:Vu):ns.sum.natAbs<=eM ns:=by
 induction ns with
 |nil=>simp[eM]
 |cons a r ih=>simp only[eM,List.map_cons,List.sum_cons]at *;have:=Int.natAbs_add_le a r.sum;omega
def jf(ns:Vu)(k:Nat):eM (ns.take k)<=eM ns:=by
 rw[<-List.take_append_drop k ns]
 simp only[eM,List.map_append,List.sum_append]
 rw[List.take_append_drop]
 simp only[List.map_take,List.map_drop]
 have:=List.take_append_drop k (ns.map Int.natAbs)
 have h2:=congrArg List.sum this
 rw[List.sum_append]at h2
 omega
def n9{ns:Vu}{a:Int}(h:a∈ns):a.natAbs<=eM ns:=by
 induction ns with
 |nil=>cases h
 |cons x r ih=>
  simp only[eM,List.map_cons,List.sum_cons]at *
  rcases List.mem_cons.mp h with rfl|h
  ·omega
  ·have:=ih h;omega
abbrev Ca(w:aE):Prop:=∀{S:aw} {p:Addr} {B:Int} {ns:Vu} {Q:bE} {E:ci},0 < B->B.natAbs < dF->eM ns < dF->S p=some (.lst (ns.map (cq B)))->Q (cq B ns.sum) S->w [.ref p] S Q E
def w_{xp:aE}(Ft:qN xp):Ca (bc 3 (il xp)):=by
 intro S p B ns Q E hB Jo ha hp k
 unfold il
 refine fe ?_
 rw[show au 3 [PV.ref p]=[some (.ref p),none,none] from rfl]
 refine ay fun N hN=>?_
 walk_at "x"
 refine hN _ _ (ay fun N hN=>?_)
 simp only[bQ,aL,v3,lk,b6,hp]
 refine bp (fun done σ S'=>S'=S/\done.length<=ns.length/\∃x2:Option PV,σ=[some (.ref p),some (cq B (ns.take done.length).sum),x2]) ⟨rfl,Nat.zero_le _,_,by rw[iq,fP (Q:=1) (R:=B) (n:=0) (m:=0) (by decide) hB (by simp)];rfl⟩ (fun _ _ _ ⟨e,_⟩=>by rw[e];exact hp) ?_ ?_
 ·rintro done x rest σ S' K e ⟨rfl,hl,x2,rfl⟩ hK
  have hget:(ns.map (cq B))[done.length]?=some x:=by rw[e];simp
  obtain⟨n,hn,rfl⟩:∃n,ns[done.length]?=some n/\cq B n=x:=by rw[List.getElem?_map]at hget;exact Option.map_eq_some_iff.mp hget
  have hlt:done.length < ns.length:=(List.getElem?_eq_some_iff.mp hn).1
  simp only[Tg.put,List.set_cons_succ,List.set_cons_zero,ap,ac,af,v3,lk]
  have t1:=iO (ns.take done.length)
  have t2:=jf ns done.length
  have t3:=n9 (List.mem_of_getElem? hn)
  refine Ft ⟨hB,Jo,by omega⟩ ⟨hB,Jo,by omega⟩ (hK _ _ ⟨rfl,by rw[List.length_append];exact hlt,some (cq B n),?_⟩)
  rw[List.length_append,List.length_singleton,List.take_succ,hn]
  simp
 ·rintro σ S' ⟨rfl,hl,x2,rfl⟩
  refine hN _ _ ?_
  rw[List.length_map,List.take_length]
  walk_at "x"
  exact k
noncomputable def cF:List Int->List Int->Int
 |a::r,b::s=>a * b+cF r s
 |_,_=>0
noncomputable def aZ(is ns:Vu):List Int:=List.zipWith (· * ·) is ns
theorem dR:∀(is ns:Vu),(aZ is ns).sum=cF is ns
 |[],_=>by simp[aZ,cF]
 |_::_,[]=>by simp[aZ,cF]
 |a::r,b::s=>by
  have:=dR r s
  simp only[aZ,List.zipWith_cons_cons,List.sum_cons,cF]at *
  omega
abbrev uM(w:aE):Prop:=∀{S:aw} {B:Int} {is ns:Vu} {Q:bE} {E:ci},0 < B->B.natAbs < dF->eM (aZ is ns) < dF->is.length<=1000->is.length=ns.length->(∀i∈is,i.natAbs < dF)->(∀n∈ns,n.natAbs < dF)->(∀S',Ext S S'->Q (cq B (cF is ns)) S')->w [.tup (is.map PV.int),.tup (ns.map (cq B))] S Q E
def sD{xt xm:aE}(J9:Ca xt)(Je:uJ xm):uM (bc 2 (im xt xm)):=by
 intro S B is ns Q E hB Jo ha hl he hi hn k
 unfold im
 refine fe ?_
 rw[show au 2 [.tup (is.map PV.int),.tup (ns.map (cq B))]=[some (.tup (is.map PV.int)),some (.tup (ns.map (cq B)))] from rfl]
 simp only[av,ac,af,ar,k5,v3,lk]
 refine cu (fun done ys S'=>S'=S/\done.length<=is.length/\ys=((aZ is ns).take done.length).map (cq B)) ⟨rfl,Nat.zero_le _,rfl⟩ ?_ ?_ ?_
 ·rintro done ys S' ⟨rfl,h,rfl⟩
  exact⟨trivial,aY (by rw[List.length_map,List.length_take];omega)⟩
 ·rintro done x rest ys S' K e ⟨rfl,h,rfl⟩ hK
  have hget:(aP (is.map PV.int) (ns.map (cq B)))[done.length]?=some x:=by rw[e];simp
  unfold aP at hget
  rw[List.getElem?_map]at hget
  obtain⟨⟨u,v⟩,hz,rfl⟩:=Option.map_eq_some_iff.mp hget
  obtain⟨h1,h2⟩:=List.getElem?_zip_eq_some.mp hz
  rw[List.getElem?_map]at h1 h2
  obtain⟨i,hi1,rfl⟩:=Option.map_eq_some_iff.mp h1
  obtain⟨n,hn1,rfl⟩:=Option.map_eq_some_iff.mp h2
  have hlt:done.length < is.length:=(List.getElem?_eq_some_iff.mp hi1).1
  simp only[Tg.put,Tg.FH,bJ,List.reduceReplicate,List.map_nil,List.append_nil,List.set_cons_zero,List.set_cons_succ,bo,if_true,ac,af,aS,v3,lk,c3]
  refine Je (hi i (List.mem_of_getElem? hi1)) ⟨hB,Jo,hn n (List.mem_of_getElem? hn1)⟩ (hK _ _ ⟨rfl,by rw[List.length_append];exact hlt,?_⟩)
  have hp:(aZ is ns)[done.length]?=some (i * n):=by
   unfold aZ
   rw[List.getElem?_zipWith,hi1,hn1]
  rw[List.length_append,List.length_singleton,List.take_succ,hp]
  simp
 ·rintro ys S' ⟨rfl,h,rfl⟩ p hp
  have lz:(aP (is.map PV.int) (ns.map (cq B))).length=(aZ is ns).length:=by
   unfold aP aZ
   simp
  rw[lz,List.take_length]
  refine J9 hB Jo ha aa ?_
  rw[dR]
  exact k _ (.new hp)
structure Cl where
 who:Option Nat
 x:Int
 y:Nat
 eff:List Int
noncomputable def mK:Option Nat->PV
 |none=>.non
 |some d=>.int (d:Int)
noncomputable def Cl.pv(c:Cl):PV:=.tup [mK c.who,.tup [.int c.x,.int (c.y:Int)],.tup (c.eff.map PV.int)]
def mL{o:Option Nat}{d:Nat}{S:aw}{Q:bE}(q:Q (.bl (decide (o=some d))) S):dU false (mK o) (.int (d:Int)) S Q:=by
 cases o with
 |none=>
  unfold dU
  exact⟨.none,.int d,.non,.int _,by simp[PyData.canLay0],by simp[PyData.canLay0],by simp[PyData.depth],by simpa [PyData.eqv]using q⟩
 |some e=>
  show Q (.bl (false != decide ((e:Int)=(d:Int)))) S
  rw[Bool.false_bne,show decide ((e:Int)=(d:Int))=decide (some e=some d)from decide_eq_decide.mpr ⟨fun h=>by rw[Int.ofNat.inj h],fun h=>by cases h;rfl⟩]
  exact q
abbrev yk(w:aE):Prop:=∀{S:aw} {p:Addr} {B:Int} {ns:Vu} {Q:bE} {E:ci},0 < B->B.natAbs < dF->(∀n∈ns,n.natAbs < dF)->ns≠[]->S p=some (.lst (ns.map (cq B)))->(∀M,M∈ns->(∀a∈ns,a<=M)->Q (cq B M) S)->w [.ref p] S Q E
def uN{xl:aE}(Jy:yj xl):yk (bc 3 (jb xl)):=by
 intro S p B ns Q E hB Jo hn hne hp k
 unfold jb
 refine fe ?_
 rw[show au 3 [PV.ref p]=[some (.ref p),none,none] from rfl]
 obtain⟨n0,r0,rfl⟩:=List.exists_cons_of_ne_nil hne
 refine ay fun N hN=>?_
 have e0:FZ ((n0::r0).map (cq B)) 0=some (cq B n0):=by simp only[List.map_cons,gC]
 simp only[ap,ai,v3,lk,c3,ak,hp,e0,List.set_cons_succ,List.set_cons_zero]
 refine hN _ _ (ay fun N hN=>?_)
 simp only[bQ,aL,v3,lk,b6,hp]
 refine bp (fun done σ S'=>S'=S/\∃M x2,M∈n0::r0/\σ=[some (.ref p),some (cq B M),x2]/\∀a∈(n0::r0).take done.length,a<=M) ⟨rfl,n0,_,by simp,rfl,by simp⟩ (fun _ _ _ ⟨e,_⟩=>by rw[e];exact hp) ?_ ?_
 ·rintro done x rest σ S' K e ⟨rfl,M,x2,hM,rfl,hd⟩ hK
  have hget:((n0::r0).map (cq B))[done.length]?=some x:=by rw[e];simp
  obtain⟨n,hn1,rfl⟩:∃n,(n0::r0)[done.length]?=some n/\cq B n=x:=by rw[List.getElem?_map]at hget;exact Option.map_eq_some_iff.mp hget
  have hm:=List.mem_of_getElem? hn1
  have tk:∀a∈(n0::r0).take (done++[cq B n]).length,a∈(n0::r0).take done.length\/a=n:=fun a ha=>by
   rw[List.length_append,List.length_singleton,List.take_succ,hn1,List.mem_append]at ha
   rcases ha with ha|ha
   ·exact .inl ha
   ·exact .inr (by simpa using ha)
  simp only[Tg.put,List.set_cons_succ,List.set_cons_zero,cK,bg,ac,af,v3,lk]
  refine Jy ⟨hB,Jo,hn M hM⟩ ⟨hB,Jo,hn n hm⟩ ?_
  by_cases hlt:M < n
  ·rw[decide_eq_true hlt]
   simp only[if_true,ap,v3,lk,List.set_cons_succ,List.set_cons_zero]
   exact hK _ _ ⟨rfl,n,_,hm,rfl,fun a ha=>(tk a ha).elim (fun h=>by have:=hd a h;omega) (fun h=>by omega)⟩
  ·rw[decide_eq_false hlt]
   simp only[Bool.false_eq_true,if_false]
   exact hK _ _ ⟨rfl,M,_,hM,rfl,fun a ha=>(tk a ha).elim (fun h=>hd a h) (fun h=>by omega)⟩
 ·rintro σ S' ⟨rfl,M,x2,hM,rfl,hd⟩
  rw[List.length_map,List.take_length]at hd
  refine hN _ _ ?_
  walk_at "x"
  exact k M hM hd
noncomputable def sE(f:Nat)(ys:List Nat):Nat:=ys.foldl Nat.lcm f
theorem kC(L:Nat)(hL:0 < L):∀(ys:List Nat) (f:Nat),0 < f->f ∣ L->(∀y∈ys,0 < y/\y ∣ L)->0 < sE f ys/\sE f ys ∣ L/\f ∣ sE f ys/\∀y∈ys,y ∣ sE f ys
 |[],f,h0,h1,_=>⟨h0,h1,Nat.dvd_refl _,fun y h=>by cases h⟩
 |y::r,f,h0,h1,h=>by
  have hy:=h y (by simp)
  have ih:=kC L hL r (Nat.lcm f y) (Nat.lcm_pos h0 hy.1) (Nat.lcm_dvd h1 hy.2) fun z hz=>h z (by simp[hz])
  refine⟨ih.1,ih.2.1,Nat.dvd_trans (Nat.dvd_lcm_left f y) ih.2.2.1,fun z hz=>?_⟩
  rcases List.mem_cons.mp hz with rfl|hz
  ·exact Nat.dvd_trans (Nat.dvd_lcm_right f z) ih.2.2.1
  ·exact ih.2.2.2 z hz
noncomputable def dX(c:Cl):PV:=.tup [.int c.x,.int (c.y:Int)]
def uO(f y:Nat):((f:Int) * (y:Int)).fdiv (Int.gcd (f:Int) (y:Int):Int)=(Nat.lcm f y:Int):=by
 rw[Int.gcd_natCast_natCast,Int.fdiv_eq_ediv_of_nonneg _ (by omega)]
 show _=((f * y / Nat.gcd f y:Nat):Int)
 rw[Int.natCast_ediv,Int.natCast_mul]
abbrev mM(w:aE):Prop:=∀{S:aw} {p:Addr} {cs:List Cl} {Q:bE} {E:ci},(∀c∈cs,0 < c.y/\c.y ∣ 2520)->S p=some (.lst (cs.map dX))->Q (.int (sE 1 (cs.map (·.y)):Int)) S->w [.ref p] S Q E
def ir{a:Nat}(h:a ∣ 2520):a<=2520:=Nat.le_of_dvd (by decide) h
def Io{xc:aE}(G_:jY xc):mM (bc 3 (dE xc)):=by
 intro S p cs Q E hc hp k
 unfold dE
 refine fe ?_
 rw[show au 3 [PV.ref p]=[some (.ref p),none,none] from rfl]
 refine ay fun N hN=>?_
 walk_at "x"
 refine hN _ _ (ay fun N hN=>?_)
 simp only[bQ,aL,v3,lk,b6,hp]
 refine bp (fun done σ S'=>S'=S/\∃x2,σ=[some (.ref p),some (.int (sE 1 ((cs.take done.length).map (·.y)):Int)),x2]) ⟨rfl,_,rfl⟩ (fun _ _ _ ⟨e,_⟩=>by rw[e];exact hp) ?_ ?_
 ·rintro done x rest σ S' K e ⟨rfl,x2,rfl⟩ hK
  have hget:(cs.map dX)[done.length]?=some x:=by rw[e];simp
  obtain⟨c,hc1,rfl⟩:∃c,cs[done.length]?=some c/\dX c=x:=by rw[List.getElem?_map]at hget;exact Option.map_eq_some_iff.mp hget
  have hy:=hc c (List.mem_of_getElem? hc1)
  have ok:=kC 2520 (by decide) ((cs.take done.length).map (·.y)) 1 (by decide) (Nat.one_dvd _) fun y hy=>by
   obtain⟨c,h,rfl⟩:=List.mem_map.mp hy
   exact hc c (List.mem_of_mem_take h)
  have l1:=ir ok.2.1
  have l2:=ir hy.2
  have en:sE 1 ((cs.take (done++[dX c]).length).map (·.y))=Nat.lcm (sE 1 ((cs.take done.length).map (·.y))) c.y:=by
   rw[List.length_append,List.length_singleton,List.take_succ,hc1,List.map_append]
   unfold sE
   rw[List.foldl_append]
   rfl
  generalize sE 1 ((cs.take done.length).map (·.y))=f at ok l1 en
  simp only[Tg.put,List.set_cons_succ,List.set_cons_zero,ap,dX]
  walk_at "x"
  simp only[mH]
  refine⟨pM (by omega) (by omega),?_⟩
  refine G_ (by omega) ?_
  have gp:0 < Int.gcd (f:Int) (c.y:Int):=M3.fj (by omega)
  have gl:=M3.pB (t:=(f:Int)) (b:=(c.y:Int)) (by omega)
  refine⟨z_ (by omega) (by omega),?_⟩
  rw[uO,<-en]
  exact hK _ _ ⟨rfl,_,rfl⟩
 ·rintro σ S' ⟨rfl,x2,rfl⟩
  rw[List.length_map,List.take_length]
  refine hN _ _ ?_
  walk_at "x"
  exact k
noncomputable def w1(d:Nat)(c:Cl):Int:=if c.who=some d then 1 else 0
noncomputable def jg(cs:List Cl)(k:Nat)(mix:Vu)(d:Nat):List Int:=cs.map (w1 d)++List.replicate k 0++[mix.getD d 0]
noncomputable def jh(cs:List Cl)(k:Nat)(t:Nat):List Int:=cs.map (fun c=>- c.eff.getD t 0)++(List.range k).map (fun o=>if o=t then 1 else 0)++[0]
noncomputable def pT(cs:List Cl)(k cb:Nat):List Int:=cs.map (fun c=>- c.x * ((cb / c.y:Nat):Int))++List.replicate (k+1) 0
def uP(k:Nat):(List.replicate k [PV.int 0]).flatten=(List.replicate k (0:Int)).map PV.int:=by
 induction k with
 |zero=>rfl
 |succ k ih=>rw[List.replicate_succ,List.flatten_cons,ih,List.replicate_succ,List.map_cons];rfl
def IQ{S:aw}{vs:List PV}{Q:bE}(k:∀p S',S p=none->Ext S S'->S' p=some (.lst vs)->Q (.ref p) S'):∀p,S p=none->Q (.ref p) (Fc S p (.lst vs)):=fun p hp=>k p _ hp (.new hp) aa
def n_{S:aw}{a b:Addr}{xs ys:List PV}{Q:bE}(ha:S a=some (.lst xs))(hb:S b=some (.lst ys))(hl:xs.length+ys.length<=1000)(k:∀p S',S p=none->Ext S S'->S' p=some (.lst (xs++ys))->Q (.ref p) S'):bv (.ref a) (.ref b) S Q:=by
 simp only[bv,ha,hb]
 exact⟨aY hl,IQ k⟩
def Cd{S:aw}{a:Addr}{k:Nat}{Q:bE}(ha:S a=some (.lst [.int 0]))(hk:k<=1000)(kk:∀p S',S p=none->Ext S S'->S' p=some (.lst ((List.replicate k (0:Int)).map PV.int))->Q (.ref p) S'):aU (.ref a) (.int (k:Int)) S Q:=by
 simp only[aU,ha]
 refine⟨by omega,by omega,aY (by simp;omega),?_⟩
 rw[Int.toNat_natCast,uP]
 exact IQ kk
def pU{α:Type}(f:α->Int)(xs:List α):(xs.map fun c=>PV.int (f c))=(xs.map f).map PV.int:=by rw[List.map_map];rfl
abbrev og(w:aE):Prop:=∀{S:aw} {cs:List Cl} {k:Nat} {mix:Vu} {d:Nat} {Q:bE} {E:ci},cs.length<=500->k<=100->d < mix.length->(∀p S',S p=none->Ext S S'->S' p=some (.lst ((jg cs k mix d).map PV.int))->Q (.ref p) S')->w [.tup (cs.map Cl.pv),.int (k:Int),.tup (mix.map PV.int),.int (d:Int)] S Q E
def HX:og (bc 4 eL):=by
 intro S cs k mix d Q E hc hk hd kk
 unfold eL
 refine fe ?_
 rw[show au 4 [.tup (cs.map Cl.pv),.int (k:Int),.tup (mix.map PV.int),.int (d:Int)]=[some (.tup (cs.map Cl.pv)),some (.int (k:Int)),some (.tup (mix.map PV.int)),some (.int (d:Int))] from rfl]
 simp only[av,ai,ar,aL,v3,lk,b6]
 refine aO Cl.pv (fun c=>.int (w1 d c)) trivial cs [] (fun c hc=>⟨_,rfl,fun Q' q=>?_⟩) (aY (by simp;omega)) ?_
 ·simp only[bJ,List.reduceReplicate,List.map_cons,List.map_nil,List.cons_append,List.nil_append,List.set_cons_zero,nK,bg,ai,v3,lk,c3,ak,Cl.pv,gC]
  refine mL ?_
  by_cases h:c.who=some d
  ·simp only[w1,h,decide_true,if_true]at q ⊢;exact q
  ·simp only[w1,h,decide_false,Bool.false_eq_true,if_false]at q ⊢;exact q
 rw[List.nil_append,pU (w1 d)]
 intro p1 hp1
 have X1:Ext S (Fc S p1 (.lst ((cs.map (w1 d)).map PV.int))):=.new hp1
 have f1:(Fc S p1 (.lst ((cs.map (w1 d)).map PV.int))) p1=some (.lst ((cs.map (w1 d)).map PV.int)):=aa
 generalize Fc S p1 (.lst ((cs.map (w1 d)).map PV.int))=S1 at X1 f1
 simp only[cO,af,c3]
 intro p2 hp2
 have X2:Ext S1 (Fc S1 p2 (.lst [.int 0])):=.new hp2
 have f2:(Fc S1 p2 (.lst [.int 0])) p2=some (.lst [.int 0]):=aa
 generalize Fc S1 p2 (.lst [.int 0])=S2 at X2 f2
 refine Cd f2 (by omega) fun p3 S3 hp3 X3 f3=>?_
 refine n_ (X3 _ _ (X2 _ _ f1)) f3 (by simp;omega) fun p4 S4 KG X4 f4=>?_
 simp only[cO,af,ai,v3,lk,ak]
 rw[bI (v:=PV.int (mix.getD d 0)) (by rw[List.getElem?_map,List.getD_eq_getElem?_getD,List.getElem?_eq_getElem hd];rfl)]
 intro p5 KH
 have X5:Ext S4 (Fc S4 p5 (.lst [.int (mix.getD d 0)])):=.new KH
 have f5:(Fc S4 p5 (.lst [.int (mix.getD d 0)])) p5=some (.lst [.int (mix.getD d 0)]):=aa
 generalize Fc S4 p5 (.lst [.int (mix.getD d 0)])=S5 at X5 f5
 refine n_ (X5 _ _ f4) f5 (by simp;omega) fun p6 S6 Lf X6 f6=>?_
 have XA:=X1.trans (X2.trans (X3.trans (X4.trans X5)))
 refine kk p6 _ (XA.free Lf) (XA.trans X6) ?_
 rw[f6]
 unfold jg
 rw[List.map_append,List.map_append]
 rfl
abbrev oh(w:aE):Prop:=∀{S:aw} {cs:List Cl} {k t:Nat} {Q:bE} {E:ci},cs.length<=500->k<=100->t < k->(∀c∈cs,c.eff.length=k)->(∀p S',S p=none->Ext S S'->S' p=some (.lst ((jh cs k t).map PV.int))->Q (.ref p) S')->w [.tup (cs.map Cl.pv),.int (k:Int),.int (t:Int)] S Q E
def ym(k:Nat):bP 0 k=(List.range k).map fun o:Nat=>PV.int (o:Int):=by unfold bP;exact List.map_congr_left fun o _=>by simp
def HY:oh (bc 4 fD):=by
 intro S cs k t Q E hc hk ht he kk
 unfold fD
 refine fe ?_
 rw[show au 4 [.tup (cs.map Cl.pv),.int (k:Int),.int (t:Int)]=[some (.tup (cs.map Cl.pv)),some (.int (k:Int)),some (.int (t:Int)),none] from rfl]
 refine ay fun N hN=>?_
 simp only[ap,ar,bH,v3,lk]
 refine⟨by omega,by omega,?_⟩
 rw[Int.toNat_natCast,ym]
 refine aO (fun o:Nat=>PV.int (o:Int)) (fun o:Nat=>.int (if o=t then 1 else 0)) trivial (List.range k) [] (fun o ho=>⟨_,rfl,fun Q' q=>?_⟩) (aY (by simp;omega)) ?_
 ·simp only[bJ,List.reduceReplicate,List.map_cons,List.map_nil,List.cons_append,List.nil_append,List.set_cons_zero,nK,bg,ai,v3,lk,c3,dU,Bool.false_bne]
  by_cases h:o=t
  ·simp only[h,decide_true,if_true]at q ⊢;exact q
  ·have h2:¬((o:Int)=(t:Int)):=fun e=>h (Int.ofNat.inj e)
   simp only[h,h2,decide_false,Bool.false_eq_true,if_false]at q ⊢;exact q
 rw[List.nil_append,pU (fun o:Nat=>if o=t then (1:Int) else 0)]
 intro p1 hp1
 have X1:Ext S (Fc S p1 (.lst (((List.range k).map fun o:Nat=>if o=t then (1:Int) else 0).map PV.int))):=.new hp1
 have f1:(Fc S p1 (.lst (((List.range k).map fun o:Nat=>if o=t then (1:Int) else 0).map PV.int))) p1=some (.lst (((List.range k).map fun o:Nat=>if o=t then (1:Int) else 0).map PV.int)):=aa
 generalize Fc S p1 (.lst (((List.range k).map fun o:Nat=>if o=t then (1:Int) else 0).map PV.int))=S1 at X1 f1
 simp only[List.set_cons_succ,List.set_cons_zero]
 refine hN _ _ ?_
 simp only[av,ai,ar,aL,v3,lk,b6]
 refine aO Cl.pv (fun c=>.int (- c.eff.getD t 0)) trivial cs [] (fun c hc=>⟨_,rfl,fun Q' q=>?_⟩) (aY (by simp;omega)) ?_
 ·simp only[bJ,List.reduceReplicate,List.map_cons,List.map_nil,List.cons_append,List.nil_append,List.set_cons_zero,jB,dw,ai,v3,lk,c3,ak,Cl.pv,yg]
  rw[bI (v:=PV.int (c.eff.getD t 0)) (by rw[List.getElem?_map,List.getD_eq_getElem?_getD,List.getElem?_eq_getElem (by rw[he c hc];exact ht)];rfl)]
  exact q
 rw[List.nil_append,pU (fun c:Cl=>- c.eff.getD t 0)]
 intro p2 hp2
 have X2:Ext S1 (Fc S1 p2 (.lst ((cs.map fun c:Cl=>- c.eff.getD t 0).map PV.int))):=.new hp2
 have f2:(Fc S1 p2 (.lst ((cs.map fun c:Cl=>- c.eff.getD t 0).map PV.int))) p2=some (.lst ((cs.map fun c:Cl=>- c.eff.getD t 0).map PV.int)):=aa
 generalize Fc S1 p2 (.lst ((cs.map fun c:Cl=>- c.eff.getD t 0).map PV.int))=S2 at X2 f2
 refine n_ f2 (X2 _ _ f1) (by simp;omega) fun p3 S3 hp3 X3 f3=>?_
 simp only[cO,af,c3]
 intro p4 KG
 have X4:Ext S3 (Fc S3 p4 (.lst [.int 0])):=.new KG
 have f4:(Fc S3 p4 (.lst [.int 0])) p4=some (.lst [.int 0]):=aa
 generalize Fc S3 p4 (.lst [.int 0])=S4 at X4 f4
 refine n_ (X4 _ _ f3) f4 (by simp;omega) fun p5 S5 KH X5 f5=>?_
 have XA:=X1.trans (X2.trans (X3.trans X4))
 refine kk p5 _ (XA.free KH) (XA.trans X5) ?_
 rw[f5]
 unfold jh
 rw[List.map_append,List.map_append]
 rfl
noncomputable def mN(row ch:Vu)(c:Nat)(q:Int):List Int:=List.zipWith (fun one other=>(one * ch.getD c 0 - row.getD c 0 * other).fdiv q) row ch
abbrev oi(w:aE):Prop:=∀{S:aw} {a b:Addr} {row ch:Vu} {c:Nat} {q:Int} {Q:bE} {E:ci},S a=some (.lst (row.map PV.int))->S b=some (.lst (ch.map PV.int))->row.length=ch.length->row.length<=1000->c < row.length->q≠0->Sz q->(∀x∈row,Sz x)->(∀x∈ch,Sz x)->(∀p S',S p=none->Ext S S'->S' p=some (.lst ((mN row ch c q).map PV.int))->Q (.ref p) S')->w [.ref a,.ref b,.int (c:Int),.int q] S Q E
def HZ:oi (bc 4 jc):=by
 intro S a b row ch c q Q E ha hb hl hn hc hq J_ hr hch kk
 unfold jc
 refine fe ?_
 rw[show au 4 [.ref a,.ref b,.int (c:Int),.int q]=[some (.ref a),some (.ref b),some (.int (c:Int)),some (.int q)] from rfl]
 simp only[av,ar,jD,v3,lk,ha,hb]
 have er:FZ (row.map PV.int) (c:Int)=some (.int (row.getD c 0)):=bI (by rw[List.getElem?_map,List.getD_eq_getElem?_getD,List.getElem?_eq_getElem hc];rfl)
 have ec:FZ (ch.map PV.int) (c:Int)=some (.int (ch.getD c 0)):=bI (by rw[List.getElem?_map,List.getD_eq_getElem?_getD,List.getElem?_eq_getElem (by omega)];rfl)
 have mr:row.getD c 0∈row:=by rw[List.getD_eq_getElem?_getD,List.getElem?_eq_getElem hc];exact List.getElem_mem hc
 have mc:ch.getD c 0∈ch:=by rw[List.getD_eq_getElem?_getD,List.getElem?_eq_getElem (show c < ch.length by omega)];exact List.getElem_mem _
 have ez:aP (row.map PV.int) (ch.map PV.int)=(row.zip ch).map fun z=>PV.tup [.int z.1,.int z.2]:=by unfold aP;rw[List.zip_map,List.map_map];rfl
 rw[ez]
 refine aO (fun z:Int×Int=>PV.tup [.int z.1,.int z.2]) (fun z=>.int ((z.1 * ch.getD c 0 - row.getD c 0 * z.2).fdiv q)) ⟨ha,hb⟩ (row.zip ch) [] (fun z hz=>⟨_,rfl,fun Q' q'=>?_⟩) (aY (by simp;omega)) ?_
 ·obtain⟨z1,z2⟩:=z
  have hz':=List.of_mem_zip hz
  simp only[bJ,List.reduceReplicate,List.map_cons,List.map_nil,List.cons_append,List.nil_append,List.set_cons_zero,List.set_cons_succ,ai,v3,lk,ak,ha,hb,er,ec,aU,bW,bN,eA,d_]
  exact⟨(hr z1 hz'.1).mul (hch _ mc),(hr _ mr).mul (hch z2 hz'.2),Sz.div hq J_,q'⟩
 rw[List.nil_append,pU (fun z:Int×Int=>(z.1 * ch.getD c 0 - row.getD c 0 * z.2).fdiv q)]
 refine IQ fun p S' hp X f=>kk p S' hp X ?_
 rw[f]
 unfold mN
 rw[List.zip,List.map_zipWith]
end CW
namespace Wg
noncomputable def sm:Nat->(Nat->Int)->Int
 |0,_=>0
 |n+1,f=>sm n f+f n
def ao{n:Nat}{f g:Nat->Int}(h:∀i,i < n->f i=g i):sm n f=sm n g:=by
 induction n with
 |zero=>rfl
 |succ n ih=>simp only[sm];rw[ih fun i hi=>h i (by omega),h n (by omega)]
def br{n:Nat}{f:Nat->Int}(h:∀i,i < n->f i=0):sm n f=0:=by
 induction n with
 |zero=>rfl
 |succ n ih=>simp only[sm];rw[ih fun i hi=>h i (by omega),h n (by omega)];rfl
def fF(n:Nat)(f g:Nat->Int):sm n (fun i=>f i+g i)=sm n f+sm n g:=by
 induction n with
 |zero=>rfl
 |succ n ih=>simp only[sm,ih];omega
def bU(n:Nat)(c:Int)(f:Nat->Int):sm n (fun i=>c * f i)=c * sm n f:=by
 induction n with
 |zero=>simp[sm]
 |succ n ih=>simp only[sm,ih,Int.mul_add]
def uQ(n:Nat)(a b:Int)(f g:Nat->Int):sm n (fun i=>a * f i+b * g i)=a * sm n f+b * sm n g:=by rw[fF,bU,bU]
def gL(n:Nat)(f:Nat->Int):sm n (fun i=>- f i) = - sm n f:=by
 have:=bU n (-1) f
 simpa using this
def bj{n i:Nat}{f:Nat->Int}(hi:i < n)(h:∀j,j < n->j≠i->f j=0):sm n f=f i:=by
 induction n with
 |zero=>omega
 |succ n ih=>
  simp only[sm]
  by_cases e:i=n
  ·subst e;rw[br fun j hj=>h j (by omega) (by omega)];omega
  ·rw[ih (by omega) fun j hj hne=>h j (by omega) hne,h n (by omega) (fun e'=>e e'.symm)];omega
def uR{n i j:Nat}{f:Nat->Int}(hi:i < n)(hj:j < n)(hne:i≠j)(h:∀l,l < n->l≠i->l≠j->f l=0):sm n f=f i+f j:=by
 have e:∀l,l < n->f l=(if l=i then f l else 0)+(if l=i then 0 else f l):=fun l _=>by split<;>omega
 rw[ao e,fF,bj hi (fun l _ hl=>if_neg hl),bj hj (fun l hl Nw=>by by_cases e:l=i;rw[if_pos e];rw[if_neg e];exact h l hl e Nw),if_pos rfl,if_neg (Ne.symm hne)]
def iP(n m:Nat)(f:Nat->Nat->Int):sm n (fun i=>sm m fun j=>f i j)=sm m fun j=>sm n fun i=>f i j:=by
 induction n with
 |zero=>exact(br fun _ _=>rfl).symm
 |succ n ih=>simp only[sm];rw[ih,<-fF]
def eZ{n:Nat}{f:Nat->Int}(h:∀i,i < n->0<=f i):0<=sm n f:=by
 induction n with
 |zero=>exact Int.le_refl _
 |succ n ih=>simp only[sm];have:=ih fun i hi=>h i (by omega);have:=h n (by omega);omega
def Ce{n:Nat}{f g:Nat->Int}(h:∀i,i < n->f i<=g i):sm n f<=sm n g:=by
 induction n with
 |zero=>exact Int.le_refl _
 |succ n ih=>simp only[sm];have:=ih fun i hi=>h i (by omega);have:=h n (by omega);omega
def pV{n:Nat}{f:Nat->Int}(h:0 < sm n f):∃i,i < n/\0 < f i:=by
 induction n with
 |zero=>simp[sm]at h
 |succ n ih=>
  simp only[sm]at h
  by_cases e:0 < f n
  ·exact⟨n,by omega,e⟩
  ·obtain⟨i,hi,h⟩:=ih (by omega);exact⟨i,by omega,h⟩
abbrev Vc:=Nat->Int
noncomputable def ud(b:Nat->Vc)(i:Nat)(v:Vc):Nat->Vc:=fun l=>if l=i then v else b l
def aH(b:Nat->Vc)(i:Nat)(v:Vc):ud b i v i=v:=if_pos rfl
def a7{b:Nat->Vc}{i l:Nat}{v:Vc}(h:l≠i):ud b i v l=b l:=if_neg h
noncomputable def sk(i:Nat)(b:Nat->Vc):Nat->Vc:=fun l=>b (if l < i then l else l+1)
noncomputable def sg(n:Nat):Int:=if n % 2=0 then 1 else -1
def xb(n:Nat):sg (n+1) = - sg n:=by unfold sg;split<;>split<;>first|rfl|omega
def Cf(n:Nat):sg (n+n)=1:=by unfold sg;rw[if_pos (by omega)]
noncomputable def dt:Nat->(Nat->Vc)->Int
 |0,_=>1
 |M+1,b=>sm (M+1) fun i=>sg (i+M) * b i M * dt M (sk i b)
theorem cx:∀{M:Nat} {b c:Nat->Vc},(∀i k,i < M->k < M->b i k=c i k)->dt M b=dt M c
 |0,_,_,_=>rfl
 |M+1,b,c,h=>by
  simp only[dt]
  refine ao fun i hi=>?_
  rw[h i M hi (by omega),cx (b:=sk i b) (c:=sk i c) fun l k hl hk=>h _ k (by split<;>omega) (by omega)]
def mO(i:Nat)(b:Nat->Vc)(v:Vc):sk i (ud b i v)=sk i b:=by
 funext l
 unfold sk ud
 rw[if_neg (by split<;>omega)]
noncomputable def pl(l i:Nat):Nat:=if i < l then i else i - 1
def uS{l i:Nat}(h:i≠l)(b:Nat->Vc)(v:Vc):sk l (ud b i v)=ud (sk l b) (pl l i) v:=by
 funext x
 show(if (if x < l then x else x+1)=i then v else b (if x < l then x else x+1))=if x=pl l i then v else b (if x < l then x else x+1)
 have:((if x < l then x else x+1)=i)↔(x=pl l i):=by unfold pl;split<;>split<;>omega
 simp only[this]
theorem ji:∀(M:Nat) (b:Nat->Vc) (i:Nat) (u v:Vc) (x y:Int),i < M->dt M (ud b i fun k=>x * u k+y * v k)=x * dt M (ud b i u)+y * dt M (ud b i v)
 |0,_,_,_,_,_,_,h=>by omega
 |M+1,b,i,u,v,x,y,h=>by
  simp only[dt]
  rw[<-uQ]
  refine ao fun l hl=>?_
  by_cases e:l=i
  ·subst e
   rw[mO,mO,mO,aH,aH,aH]
   simp only[Int.mul_add,Int.add_mul]
   rw[show sg (l+M) * (x * u M)=x * (sg (l+M) * u M) by rw[<-Int.mul_assoc,Int.mul_comm _ x,Int.mul_assoc],show sg (l+M) * (y * v M)=y * (sg (l+M) * v M) by rw[<-Int.mul_assoc,Int.mul_comm _ y,Int.mul_assoc],Int.mul_assoc x,Int.mul_assoc y]
  ·rw[a7 e,a7 e,a7 e,uS (Ne.symm e),uS (Ne.symm e),uS (Ne.symm e),ji M (sk l b) (pl l i) u v x y (by unfold pl;split<;>omega)]
   grind
def iQ{M:Nat}{b:Nat->Vc}{i:Nat}{u:Vc}{x:Int}(h:i < M):dt M (ud b i fun k=>x * u k)=x * dt M (ud b i u):=by
 have:=ji M b i u u x 0 h
 rw[Int.zero_mul,Int.add_zero]at this
 rw[<-this]
 exact cx fun l k _ _=>by unfold ud;split<;>simp
theorem kD{M:Nat}(b:Nat->Vc){i:Nat}(h:i < M)(c:Nat->Int)(v:Nat->Vc):∀n,dt M (ud b i fun k=>sm n fun l=>c l * v l k)=sm n fun l=>c l * dt M (ud b i (v l))
 |0=>by
  have:=iQ (M:=M) (b:=b) (i:=i) (u:=fun _=>0) (x:=0) h
  simpa [sm]using this
 |n+1=>by
  have:=ji M b i (fun k=>sm n fun l=>c l * v l k) (v n) 1 (c n) h
  simp only[sm]
  rw[<-kD b h c v n,<-Int.one_mul (dt M (ud b i fun k=>sm n fun l=>c l * v l k)),<-this]
  exact cx fun l k _ _=>by unfold ud;split<;>simp
theorem mP:∀(M:Nat) (b:Nat->Vc) (i:Nat),i+1 < M->(∀k,b i k=b (i+1) k)->dt M b=0
 |0,_,_,h,_=>by omega
 |M+1,b,i,h,e=>by
  simp only[dt]
  rw[uR (i:=i) (j:=i+1) (by omega) h (by omega)]
  ·have es:sk i b=sk (i+1) b:=by
    funext l
    funext k
    unfold sk
    by_cases h1:l < i
    ·rw[if_pos h1,if_pos (by omega)]
    ·by_cases h2:l=i
     ·subst h2;rw[if_neg (by omega),if_pos (by omega)];exact(e k).symm
     ·rw[if_neg h1,if_neg (by omega)]
   rw[es,e M,show i+1+M=i+M+1 by omega,xb]
   rw[Int.neg_mul,Int.neg_mul]
   omega
  ·intro l hl h1 h2
   have z:dt M (sk l b)=0:=by
    by_cases hlt:l < i
    ·refine mP M (sk l b) (i - 1) (by omega) fun k=>?_
     unfold sk
     rw[if_neg (by omega),if_neg (by omega),show i - 1+1=i by omega]
     exact e k
    ·refine mP M (sk l b) i (by omega) fun k=>?_
     unfold sk
     rw[if_pos (by omega),if_pos (by omega)]
     exact e k
   rw[z,Int.mul_zero]
noncomputable def sw(b:Nat->Vc)(i j:Nat):Nat->Vc:=ud (ud b i (b j)) j (b i)
def qO{b:Nat->Vc}{i j:Nat}{u v:Vc}(h:i≠j):ud (ud b i u) j v=ud (ud b j v) i u:=by
 funext l;unfold ud
 by_cases e1:l=i
 ·subst e1;rw[if_neg h,if_pos rfl,if_pos rfl]
 ·by_cases e2:l=j
  ·rw[if_pos e2,if_neg e1,if_pos e2]
  ·rw[if_neg e2,if_neg e1,if_neg e1,if_neg e2]
def qP(b:Nat->Vc)(i:Nat):ud b i (b i)=b:=by funext l;unfold ud;split<;>simp_all
def oj{M i j:Nat}(hi:i < M)(hj:j < M)(hne:i≠j)(alt:∀b:Nat->Vc,(∀k,b i k=b j k)->dt M b=0)(b:Nat->Vc):dt M (sw b i j) = - dt M b:=by
 have s1:=ji M (ud b j fun k=>b i k+b j k) i (b i) (b j) 1 1 hi
 have z:dt M (ud (ud b j fun k=>b i k+b j k) i fun k=>1 * b i k+1 * b j k)=0:=alt _ fun k=>by
  rw[aH,a7 (Ne.symm hne),aH];omega
 rw[z]at s1
 have s2:=ji M (ud b i (b i)) j (b i) (b j) 1 1 hj
 have s3:=ji M (ud b i (b j)) j (b i) (b j) 1 1 hj
 have e1:∀u:Vc,ud (ud b j fun k=>b i k+b j k) i u=ud (ud b i u) j fun k=>1 * b i k+1 * b j k:=fun u=>by
  rw[qO (Ne.symm hne)]
  have:(fun k=>b i k+b j k)=fun k=>1 * b i k+1 * b j k:=by funext k;omega
  rw[this]
 rw[e1,e1,s2,s3]at s1
 have z1:dt M (ud (ud b i (b i)) j (b i))=0:=alt _ fun k=>by rw[a7 hne,aH,aH]
 have z2:dt M (ud (ud b i (b j)) j (b j))=0:=alt _ fun k=>by rw[a7 hne,aH,aH]
 rw[z1,z2,qP,qP]at s1
 unfold sw
 omega
theorem pW:∀(d:Nat) (M:Nat) (b:Nat->Vc) (i:Nat),i+1+d < M->(∀k,b i k=b (i+1+d) k)->dt M b=0
 |0,M,b,i,h,e=>mP M b i h e
 |d+1,M,b,i,h,e=>by
  have s:=oj (M:=M) (i:=i+1+d) (j:=i+1+d+1) (by omega) (by omega) (by omega) (fun b e=>mP M b (i+1+d) (by omega) e) b
  have z:=pW d M (sw b (i+1+d) (i+1+d+1)) i (by omega) fun k=>by
   unfold sw
   rw[a7 (by omega),a7 (by omega),a7 (by omega),aH]
   exact e k
  rw[z]at s
  omega
def uT{M i j:Nat}(hi:i < M)(hj:j < M)(hne:i≠j)(b:Nat->Vc)(e:∀k,b i k=b j k):dt M b=0:=by
 by_cases h:i < j
 ·obtain⟨d,rfl⟩:∃d,j=i+1+d:=⟨j - i - 1,by omega⟩
  exact pW d M b i hj e
 ·obtain⟨d,rfl⟩:∃d,i=j+1+d:=⟨i - j - 1,by omega⟩
  exact pW d M b j hi fun k=>(e k).symm
def Cg{M i j:Nat}(hi:i < M)(hj:j < M)(hne:i≠j)(b:Nat->Vc):dt M (sw b i j) = - dt M b:=oj hi hj hne (fun b e=>uT hi hj hne b e) b
noncomputable def eu(i:Nat):Vc:=fun k=>if k=i then 1 else 0
theorem yn:∀(M:Nat) (b:Nat->Vc),(∀i k,i < M->k < M->b i k=eu i k)->dt M b=1
 |0,_,_=>rfl
 |M+1,b,h=>by
  simp only[dt]
  rw[bj (i:=M) (by omega),Cf,h M M (by omega) (by omega)]
  ·rw[yn M (sk M b) fun i k hi hk=>by unfold sk;rw[if_pos hi];exact h i k (by omega) (by omega)]
   simp[eu]
  ·intro j hj hne
   rw[h j M hj (by omega)]
   unfold eu
   rw[if_neg (fun e=>hne e.symm),Int.mul_zero,Int.zero_mul]
noncomputable def cl(A:Nat->Nat->Int)(j:Nat):Vc:=fun k=>A k j
structure Tab (m N:Nat) (A T:Nat->Nat->Int) (b:Nat->Vc) (q:Int):Prop where
 KI:∀j k,j < N->k<=m->q * A k j=sm (m+1) fun i=>T i j * b i k
 det:dt (m+1) b=q
 pos:0 < q
 gl:∀k,b m k=eu m k
def yo{q x y:Int}(h:0 < q)(e:q * x=q * y):x=y:=Int.eq_of_mul_eq_mul_left (by omega) e
section
variable {m N:Nat} {A T:Nat->Nat->Int} {b:Nat->Vc} {q:Int}
def Tab.Lg(h:Tab m N A T b q){i l:Nat}(hi:i<=m)(hl:l<=m):dt (m+1) (ud b i (b l))=if l=i then q else 0:=by
 by_cases e:l=i
 ·subst e;rw[if_pos rfl,qP,h.det]
 ·rw[if_neg e]
  exact uT (i:=i) (j:=l) (by omega) (by omega) (Ne.symm e) _ fun k=>by rw[aH,a7 e]
def Tab.ent(h:Tab m N A T b q){i j:Nat}(hi:i<=m)(hj:j < N):T i j=dt (m+1) (ud b i (cl A j)):=by
 have e1:q * dt (m+1) (ud b i (cl A j))=dt (m+1) (ud b i fun k=>sm (m+1) fun l=>T l j * b l k):=by
  rw[<-iQ (by omega)]
  refine cx fun l k hl hk=>?_
  by_cases e:l=i
  ·subst e;rw[aH,aH];exact h.KI j k hj (by omega)
  ·rw[a7 e,a7 e]
 rw[kD b (by omega),bj (i:=i) (by omega) (fun l hl hne=>by rw[h.Lg hi (by omega),if_neg hne,Int.mul_zero]),h.Lg hi hi,if_pos rfl]at e1
 exact(yo h.pos (by rw[e1,Int.mul_comm])).symm
def Tab.Iz(h:Tab m N A T b q){l p:Nat}(hl:l < m)(hp:p < N)(hb:∀k,k<=m->b l k=A k p){i:Nat}(hi:i<=m):T i p=if i=l then q else 0:=by
 rw[h.ent hi hp,show(if i=l then q else 0)=if l=i then q else 0 by by_cases e:i=l;rw[if_pos e,if_pos e.symm];rw[if_neg e,if_neg (Ne.symm e)],<-h.Lg hi (by omega:l<=m)]
 refine cx fun x k hx hk=>?_
 by_cases e:x=i
 ·subst e;rw[aH,aH];exact(hb k (by omega)).symm
 ·rw[a7 e,a7 e]
def Tab.rows(h:Tab m N A T b q)(x:Nat->Int)(hx:∀k,k < m->sm N (fun j=>A k j * x j)=0) :
  (∀i,i < m->sm N (fun j=>T i j * x j)=0)/\sm N (fun j=>T m j * x j)=q * sm N (fun j=>A m j * x j):=by
 have key:∀i,i<=m->sm N (fun j=>T i j * x j)=sm N (fun j=>A m j * x j) * if m=i then q else 0:=fun i hi=>by
  rw[<-h.Lg hi (Nat.le_refl m),<-iQ (by omega),ao (g:=fun j=>x j * dt (m+1) (ud b i (cl A j))) (fun j hj=>by rw[h.ent hi hj,Int.mul_comm]),<-kD b (by omega)]
  refine cx fun l k hl hk=>?_
  by_cases e:l=i
  ·subst e
   rw[aH,aH,h.gl k]
   unfold eu
   by_cases ek:k=m
   ·subst ek;rw[if_pos rfl,Int.mul_one];exact ao fun j _=>Int.mul_comm _ _
   ·rw[if_neg ek,Int.mul_zero,<-hx k (by omega)];exact ao fun j _=>Int.mul_comm _ _
  ·rw[a7 e,a7 e]
 refine⟨fun i hi=>?_,?_⟩
 ·rw[key i (by omega),if_neg (by omega),Int.mul_zero]
 ·rw[key m (Nat.le_refl _),if_pos rfl,Int.mul_comm]
def Tab.back(h:Tab m N A T b q)(x:Nat->Int)(hx:∀i,i < m->sm N (fun j=>T i j * x j)=0) :
  (∀k,k < m->sm N (fun j=>A k j * x j)=0)/\q * sm N (fun j=>A m j * x j)=sm N (fun j=>T m j * x j):=by
 have key:∀k,k<=m->q * sm N (fun j=>A k j * x j)=b m k * sm N (fun j=>T m j * x j):=fun k hk=>by
  rw[<-bU,ao (g:=fun j=>sm (m+1) fun i=>b i k * (T i j * x j)) (fun j hj=>by
   rw[<-Int.mul_assoc,h.KI j k hj hk,Int.mul_comm,<-bU];exact ao fun i _=>by grind),iP]
  rw[ao (g:=fun i=>b i k * sm N fun j=>T i j * x j) (fun i _=>bU _ _ _),bj (i:=m) (by omega)]
  intro i hi hne
  rw[hx i (by omega),Int.mul_zero]
 refine⟨fun k hk=>?_,?_⟩
 ·have:=key k (by omega)
  rw[h.gl k]at this
  unfold eu at this
  rw[if_neg (by omega),Int.zero_mul]at this
  exact yo h.pos (by rw[this,Int.mul_zero])
 ·have:=key m (Nat.le_refl _)
  rw[h.gl m]at this
  unfold eu at this
  rw[if_pos rfl,Int.one_mul]at this
  exact this
def Tab.Hd(h:Tab m N A T b q){r c:Nat}(hr:r < m)(hc:c < N)(hp:0 < T r c){T2:Nat->Nat->Int}(h1:∀j,j < N->T2 r j=T r j)(h2:∀i j,i<=m->i≠r->j < N->T2 i j=(T i j * T r c - T i c * T r j).fdiv q) :
  (∀i j,i<=m->i≠r->j < N->q * T2 i j=T i j * T r c - T i c * T r j)/\Tab m N A T2 (ud b r (cl A c)) (T r c):=by
 have d':dt (m+1) (ud b r (cl A c))=T r c:=(h.ent (by omega) hc).symm
 have whole:∀i j,i<=m->i≠r->j < N->q * dt (m+1) (ud (ud b r (cl A c)) i (cl A j))=T i j * T r c - T i c * T r j:=fun i j hi hne hj=>by
  have e1:q * dt (m+1) (ud (ud b r (cl A c)) i (cl A j))=dt (m+1) (ud (ud b r (cl A c)) i fun k=>sm (m+1) fun l=>T l j * b l k):=by
   rw[<-iQ (by omega)]
   refine cx fun l k hl hk=>?_
   by_cases e:l=i
   ·subst e;rw[aH,aH];exact h.KI j k hj (by omega)
   ·rw[a7 e,a7 e]
  rw[e1,kD _ (by omega),uR (i:=i) (j:=r) (by omega) (by omega) hne]
  ·have ei:dt (m+1) (ud (ud b r (cl A c)) i (b i))=T r c:=by
    rw[qO (Ne.symm hne),qP];exact d'
   have er:dt (m+1) (ud (ud b r (cl A c)) i (b r)) = - T i c:=by
    rw[h.ent hi hc,<-Cg (i:=i) (j:=r) (by omega) (by omega) hne]
    refine cx fun l k hl hk=>?_
    unfold sw
    by_cases e:l=r
    ·subst e;rw[aH,aH,a7 (Ne.symm hne),aH]
    ·rw[a7 (i:=r) e]
     by_cases e2:l=i
     ·subst e2;rw[aH,aH,a7 (Ne.symm hne)]
     ·rw[a7 e2,a7 e2,a7 e,a7 e2]
   rw[ei,er]
   grind
  ·intro l hl h3 h4
   rw[uT (i:=i) (j:=l) (by omega) (by omega) (Ne.symm h3) _ fun k=>by rw[aH,a7 h3,a7 h4],Int.mul_zero]
 have w2:∀i j,i<=m->i≠r->j < N->T2 i j=dt (m+1) (ud (ud b r (cl A c)) i (cl A j)):=fun i j hi hne hj=>by
  rw[h2 i j hi hne hj,<-whole i j hi hne hj,Int.mul_fdiv_cancel_left _ (by have:=h.pos;omega)]
 have w3:∀i j,i<=m->i≠r->j < N->q * T2 i j=T i j * T r c - T i c * T r j:=fun i j hi hne hj=>by rw[w2 i j hi hne hj];exact whole i j hi hne hj
 refine⟨w3,⟨fun j k hj hk=>?_,d',hp,fun k=>by rw[a7 (by omega)];exact h.gl k⟩⟩
 refine yo h.pos ?_
 have s1:q * sm (m+1) (fun i=>T2 i j * ud b r (cl A c) i k)=sm (m+1) fun i=>(T r c * (T i j * b i k)+(- T r j) * (T i c * b i k))+if i=r then q * T r j * A k c else 0:=by
  rw[<-bU]
  refine ao fun i hi=>?_
  by_cases e:i=r
  ·subst e
   rw[h1 j hj,aH,if_pos rfl]
   unfold cl
   grind
  ·rw[a7 e,if_neg e,<-Int.mul_assoc,w3 i j (by omega) e hj]
   grind
 rw[s1,fF,uQ,bj (i:=r) (by omega) (fun l _ hl=>if_neg hl),if_pos rfl,<-h.KI j k hj hk,<-h.KI c k hc hk]
 grind
end
structure Sx where
 T:Nat->Nat->Int
 held:Nat->Nat
 q:Int
noncomputable def Hd(s:Sx)(r c:Nat):Sx:=⟨fun i j=>if i=r then s.T r j else (s.T i j * s.T r c - s.T i c * s.T r j).fdiv s.q,fun i=>if i=r then c else s.held i,s.T r c⟩
structure Val (m V:Nat) (A:Nat->Nat->Int) (s:Sx) (b:Nat->Vc):Prop where
 tab:Tab m (V+1) A s.T b s.q
 hv:∀i,i < m->s.held i < V
 hb:∀i k,i < m->k<=m->b i k=A k (s.held i)
 fs:∀i,i < m->0<=s.T i V
section
variable {m V:Nat} {A:Nat->Nat->Int} {s:Sx} {b:Nat->Vc}
theorem Val.Iz(h:Val m V A s b){i l:Nat}(hi:i<=m)(hl:l < m):s.T i (s.held l)=if i=l then s.q else 0:=h.tab.Iz hl (by have:=h.hv l hl;omega) (fun k hk=>h.hb l k hl hk) hi
def Val.inj(h:Val m V A s b){i l:Nat}(hi:i < m)(hl:l < m)(e:s.held i=s.held l):i=l:=by
 have h1:=h.Iz (i:=i) (by omega) hi
 rw[e,h.Iz (by omega) hl,if_pos rfl]at h1
 by_cases e:i=l
 ·exact e
 ·rw[if_neg e]at h1;have:=h.tab.pos;omega
def jQ(V:Nat)(s:Sx)(c i r:Nat):Prop:=s.T i V * s.T r c < s.T r V * s.T i c\/(s.T i V * s.T r c=s.T r V * s.T i c/\s.held i < s.held r)
structure Lv (m V:Nat) (s:Sx) (c r:Nat):Prop where
 lt:r < m
 ps:0 < s.T r c
 fst:∀i,i < m->0 < s.T i c->¬jQ V s c i r
structure En (m V:Nat) (s:Sx) (c:Nat):Prop where
 lt:c < V
 ng:s.T m c < 0
 fst:∀j,j < c->0<=s.T m j
theorem Val.Hd(h:Val m V A s b){r c:Nat}(e:c < V)(l:Lv m V s c r):Val m V A (Hd s r c) (ud b r (cl A c))/\∀i j,i<=m->i≠r->j<=V->s.q * (Wg.Hd s r c).T i j=s.T i j * s.T r c - s.T i c * s.T r j:=by
 have hq:=h.tab.pos
 obtain⟨w,t⟩:=h.tab.Hd (T2:=(Wg.Hd s r c).T) l.lt (by omega:c < V+1) l.ps (fun j _=>if_pos rfl) (fun i j _ hne _=>if_neg hne)
 refine⟨⟨t,fun i hi=>?_,fun i k hi hk=>?_,fun i hi=>?_⟩,fun i j hi hne hj=>w i j hi hne (by omega)⟩
 ·show(if i=r then c else s.held i) < V
  split
  ·exact e
  ·exact h.hv i hi
 ·show _=A k (if i=r then c else s.held i)
  by_cases e:i=r
  ·subst e;rw[aH,if_pos rfl];rfl
  ·rw[a7 e,if_neg e];exact h.hb i k hi hk
 ·by_cases e:i=r
  ·subst e;show 0<=(if i=i then s.T i V else _);rw[if_pos rfl];exact h.fs i hi
  ·have hw:=w i V (by omega) e (by omega)
   have nn:0<=s.T i V * s.T r c - s.T i c * s.T r V:=by
    have f1:=h.fs i hi
    have f2:=h.fs r l.lt
    have f3:=l.ps
    by_cases hp:0 < s.T i c
    ·have:=l.fst i hi hp
     unfold jQ at this
     have:¬s.T i V * s.T r c < s.T r V * s.T i c:=fun h=>this (.inl h)
     rw[Int.mul_comm (s.T i c)]
     omega
    ·have a1:0<=s.T i V * s.T r c:=Int.mul_nonneg f1 (by omega)
     have a2:0<=(- s.T i c) * s.T r V:=Int.mul_nonneg (by omega) f2
     rw[Int.neg_mul]at a2
     omega
   rw[<-hw]at nn
   exact Int.nonneg_of_mul_nonneg_right nn hq |> fun h=>h
def Bs(m:Nat)(s:Sx)(j:Nat):Prop:=∃i,i < m/\s.held i=j
noncomputable def X(m V:Nat)(s:Sx)(j:Nat):Int:=sm m fun i=>if s.held i=j then s.T i V else 0
def Val.x(h:Val m V A s b){i:Nat}(hi:i < m):X m V s (s.held i)=s.T i V:=by
 unfold X
 rw[bj hi (fun l hl hne=>if_neg fun e=>hne (h.inj hl hi e)),if_pos rfl]
def uU{j:Nat}(h:¬Bs m s j):X m V s j=0:=br fun i hi=>if_neg fun e=>h ⟨i,hi,e⟩
structure Rel (m V:Nat) (A:Nat->Nat->Int) (t:Nat) (s s':Sx):Prop where
 v1:∃b,Val m V A s b
 v2:∃b,Val m V A s' b
 x:∀j,X m V s j * s'.q=X m V s' j * s.q
 bs:∀j,t < j->(Bs m s j↔Bs m s' j)
theorem Rel.symm{t:Nat}{s s':Sx}(h:Rel m V A t s s'):Rel m V A t s' s:=⟨h.v2,h.v1,fun j=>(h.x j).symm,fun j hj=>(h.bs j hj).symm⟩
theorem Rel.trans{t:Nat}{s s' s2:Sx}(h:Rel m V A t s s')(g:Rel m V A t s' s2):Rel m V A t s s2:=⟨h.v1,g.v2,fun j=>by
 obtain⟨b,hb⟩:=h.v2
 have a:=h.x j
 have c:=g.x j
 refine yo hb.tab.pos ?_
 calc s'.q * (X m V s j * s2.q)=(X m V s j * s'.q) * s2.q:=by grind
  _=(X m V s' j * s2.q) * s.q:=by rw[a];grind
  _=_:=by rw[c];grind,fun j hj=>(h.bs j hj).trans (g.bs j hj)⟩
def Val.fresh(h:Val m V A s b){c:Nat}(hn:s.T m c < 0):¬Bs m s c:=fun⟨i,hi,e⟩=>by
 have:=h.Iz (Nat.le_refl m) hi
 rw[e,if_neg (by omega)]at this
 omega
def Rel.step(h:Val m V A s b){t r c:Nat}(e:En m V s c)(l:Lv m V s c r)(d:s.T r V=0)(hc:c<=t)(hr:s.held r<=t):Rel m V A t s (Wg.Hd s r c):=by
 obtain⟨v,w⟩:=h.Hd e.lt l
 refine⟨⟨b,h⟩,⟨_,v⟩,fun j=>?_,fun j hj=>⟨fun⟨i,hi,ei⟩=>⟨i,hi,?_⟩,fun⟨i,hi,ei⟩=>⟨i,hi,?_⟩⟩⟩
 ·unfold X
  rw[Int.mul_comm _ (Wg.Hd s r c).q,Int.mul_comm _ s.q,<-bU,<-bU]
  refine ao fun i hi=>?_
  by_cases er:i=r
  ·subst er
   have z:(Wg.Hd s i c).T i V=0:=by show(if i=i then s.T i V else _)=0;rw[if_pos rfl];exact d
   rw[z,d]
   split<;>split<;>simp
  ·have eh:(Wg.Hd s r c).held i=s.held i:=if_neg er
   have ew:=w i V (by omega) er (Nat.le_refl _)
   rw[d,Int.mul_zero,Int.sub_zero]at ew
   rw[eh]
   split
   ·rw[ew,Int.mul_comm];rfl
   ·simp
 ·show(if i=r then c else s.held i)=j
  rw[if_neg fun er=>by subst er;omega];exact ei
 ·have ei:(if i=r then c else s.held i)=j:=ei
  by_cases er:i=r
  ·rw[if_pos er]at ei;omega
  ·rw[if_neg er]at ei;exact ei
def yp{s u:Sx}{t r c:Nat}(R:Rel m V A t s u)(e:En m V s c)(l:Lv m V s c r)(ht:s.held r=t)(hc:c<=t)(e2:En m V u t):False:=by
 obtain⟨b,h⟩:=R.v1
 obtain⟨b2,h2⟩:=R.v2
 have hne:c≠t:=fun ec=>h.fresh (by rw[<-ec];exact e.ng) ⟨r,l.lt,ht⟩
 have q1:=h.tab.pos
 have q2:=h2.tab.pos
 -- more of the place that comes in
 let y:Nat->Int:=fun j=>(if j=c then s.q else 0) - sm m fun i=>if s.held i=j then s.T i c else 0
 have along:∀F:Nat->Int,sm (V+1) (fun j=>F j * y j)=F c * s.q - sm m fun i=>F (s.held i) * s.T i c:=fun F=>by
  have e1:∀j,F j * y j=(if j=c then F j * s.q else 0)+sm m fun i=>-(if s.held i=j then F (s.held i) * s.T i c else 0):=fun j=>by
   show F j * ((if j=c then s.q else 0) - sm m fun i=>if s.held i=j then s.T i c else 0)=_
   rw[Int.mul_sub,<-bU,gL,Int.sub_eq_add_neg]
   congr 1
   ·split<;>simp
   ·congr 1
    refine ao fun i _=>?_
    split
    ·rename_i e;rw[e]
    ·simp
  rw[ao fun j _=>e1 j,fF,iP,bj (i:=c) (by have:=e.lt;omega) (fun j _ hj=>if_neg hj),if_pos rfl]
  rw[ao (g:=fun i=>-(F (s.held i) * s.T i c)) (fun i hi=>by rw[gL,bj (i:=s.held i) (by have:=h.hv i hi;omega) (fun j _ hj=>if_neg fun e=>hj e.symm),if_pos rfl]),gL,Int.sub_eq_add_neg]
 have z1:∀i,i < m->sm (V+1) (fun j=>s.T i j * y j)=0:=fun i hi=>by
  rw[along (s.T i),bj hi (fun l hl hne=>by rw[h.Iz (by omega) hl,if_neg (Ne.symm hne),Int.zero_mul]),h.Iz (by omega) hi,if_pos rfl]
  rw[Int.mul_comm];omega
 have z2:sm (V+1) (fun j=>s.T m j * y j)=s.T m c * s.q:=by
  rw[along (s.T m),br (fun l hl=>by rw[h.Iz (Nat.le_refl m) hl,if_neg (by omega),Int.zero_mul])];omega
 obtain⟨b1,b3⟩:=h.tab.back y z1
 obtain⟨_,b4⟩:=h2.tab.rows y b1
 rw[z2,Int.mul_comm _ s.q]at b3
 have b5:sm (V+1) (fun j=>A m j * y j)=s.T m c:=yo q1 b3
 rw[b5,along (u.T m)]at b4
 have f1:0<=u.T m c:=e2.fst c (by omega)
 have f2:u.q * s.T m c < 0:=by have:=Int.mul_pos q2 (show 0 < - s.T m c by have:=e.ng;omega);rw[Int.mul_neg]at this;omega
 have f3:0<=u.T m c * s.q:=Int.mul_nonneg f1 (by omega)
 obtain⟨i,hi,hp⟩:=pV (n:=m) (f:=fun i=>u.T m (s.held i) * s.T i c) (by omega)
 have Ny:u.T m (s.held i)≠0:=fun e0=>by rw[e0,Int.zero_mul]at hp;omega
 have nb:¬Bs m u (s.held i):=fun⟨l,hl,el⟩=>Ny (by rw[<-el,h2.Iz (Nat.le_refl m) hl,if_neg (by omega)])
 have hle:s.held i<=t:=Nat.not_lt.mp fun hlt=>nb ((R.bs _ hlt).mp ⟨i,hi,rfl⟩)
 have Nz:i≠r:=fun er=>by
  subst er
  rw[ht]at hp
  have:=Int.mul_pos (show 0 < - u.T m t by have:=e2.ng;omega) l.ps
  rw[Int.neg_mul]at this
  omega
 have hlt:s.held i < t:=by
  have:s.held i≠t:=fun e0=>Nz (h.inj hi l.lt (by rw[e0,ht]))
  omega
 have g1:0<=u.T m (s.held i):=e2.fst _ hlt
 have g2:0 < s.T i c:=by
  refine Int.not_le.mp fun hn=>?_
  have:=Int.mul_nonneg g1 (show 0 <= - s.T i c by omega)
  rw[Int.mul_neg]at this
  omega
 have x1:s.T i V=0:=by
  have:=R.x (s.held i)
  rw[h.x hi,uU nb,Int.zero_mul]at this
  rcases Int.mul_eq_zero.mp this with h|h
  ·exact h
  ·omega
 have x2:s.T r V=0:=by
  have:=R.x t
  rw[uU (h2.fresh e2.ng),<-ht,h.x l.lt,Int.zero_mul]at this
  rcases Int.mul_eq_zero.mp this with h|h
  ·exact h
  ·omega
 refine l.fst i hi g2 (.inr ⟨by rw[x1,x2,Int.zero_mul,Int.zero_mul],by rw[ht];exact hlt⟩)
end
section
variable (m V:Nat) (A:Nat->Nat->Int)
structure Aw (s s':Sx) (c r:Nat):Prop where
 en:En m V s c
 lv:Lv m V s c r
 eq:s'=Hd s r c
noncomputable def Hn:Nat->Sx->Prop
 |0,s=>∀s' c r,¬Aw m V s s' c r
 |n+1,s=>∀s' c r,Aw m V s s' c r->Hn n s'
def Ed(s:Sx):Prop:=∃n,Hn m V n s
end
section
variable {m V:Nat} {A:Nat->Nat->Int}
def pX{s:Sx}{c d:Nat}(h:En m V s c)(g:En m V s d):c=d:=by
 have h1:=h.fst d
 have g1:=g.fst c
 have:=h.ng
 have:=g.ng
 by_cases h2:c < d
 ·have:=g1 h2;omega
 ·by_cases h3:d < c
  ·have:=h1 h3;omega
  ·omega
def pY{s:Sx}{b:Nat->Vc}(v:Val m V A s b){c r l:Nat}(h:Lv m V s c r)(g:Lv m V s c l):r=l:=by
 have h1:=h.fst l g.lt g.ps
 have g1:=g.fst r h.lt h.ps
 unfold jQ at h1 g1
 rw[not_or,not_and]at h1 g1
 have e:s.T l V * s.T r c=s.T r V * s.T l c:=by omega
 have a:=h1.2 e
 have c:=g1.2 e.symm
 exact v.inj h.lt g.lt (by omega)
def Ed.of{s:Sx}{b:Nat->Vc}(v:Val m V A s b)(h:∀s' c r,Aw m V s s' c r->Ed m V s'):Ed m V s:=by
 by_cases e:∃s' c r,Aw m V s s' c r
 ·obtain⟨s',c,r,st⟩:=e
  obtain⟨n,hn⟩:=h s' c r st
  refine⟨n+1,fun s2 c2 r2 st2=>?_⟩
  have ec:=pX st.en st2.en
  subst ec
  have er:=pY v st.lv st2.lv
  subst er
  rw[st2.eq,<-st.eq]
  exact hn
 ·exact⟨0,fun s' c r st=>e ⟨s',c,r,st⟩⟩
inductive Rc (m V:Nat) (t:Nat):Sx->Sx->Prop
 |nil {s:Sx}:Rc m V t s s
 |snoc {s u u':Sx} {c r:Nat}:Rc m V t s u->Aw m V u u' c r->u.T r V=0->c < t->u.held r < t->Rc m V t s u'
def Rc.mono{t t':Nat}(ht:t<=t'){s u:Sx}(h:Rc m V t s u):Rc m V t' s u:=by
 induction h with
 |nil=>exact .nil
 |snoc _ st d a c ih=>exact .snoc ih st d (by omega) (by omega)
def Rc.trans{t:Nat}{s u w:Sx}(h:Rc m V t s u)(g:Rc m V t u w):Rc m V t s w:=by
 induction g with
 |nil=>exact h
 |snoc _ st d a c ih=>exact .snoc ih st d a c
def Rc.rel{t:Nat}{s u:Sx}(v:∃b,Val m V A s b)(h:Rc m V (t+1) s u):Rel m V A t s u:=by
 induction h with
 |nil=>exact⟨v,v,fun _=>rfl,fun _ _=>Iff.rfl⟩
 |snoc _ st d a c ih=>
  obtain⟨b,hb⟩:=ih.v2
  have:=Rel.step (t:=t) hb st.en st.lv d (by omega) (by omega)
  rw[st.eq]
  exact ih.trans this
def Rc.keep{t:Nat}{s u:Sx}(h:Rc m V t s u){j:Nat}(hj:t<=j):Bs m s j↔Bs m u j:=by
 induction h with
 |nil=>exact Iff.rfl
 |@snoc u u' c r _ st d a cc ih=>
  refine ih.trans ?_
  rw[st.eq]
  constructor
  ·rintro⟨i,hi,ei⟩
   refine⟨i,hi,?_⟩
   show(if i=r then c else u.held i)=j
   rw[if_neg fun er=>by subst er;omega];exact ei
  ·rintro⟨i,hi,ei⟩
   have ei:(if i=r then c else u.held i)=j:=ei
   refine⟨i,hi,?_⟩
   by_cases er:i=r
   ·rw[if_pos er]at ei;omega
   ·rw[if_neg er]at ei;exact ei
def Rc.val{t:Nat}{s u:Sx}(v:∃b,Val m V A s b)(h:Rc m V t s u):∃b,Val m V A u b:=by
 induction h with
 |nil=>exact v
 |snoc _ st d a c ih=>obtain⟨b,hb⟩:=ih;rw[st.eq];exact⟨_,(hb.Hd st.en.lt st.lv).1⟩
def Rc.back{t:Nat}{s u:Sx}(v:∃b,Val m V A s b)(h:Rc m V t s u)(e:Ed m V u):Ed m V s:=by
 induction h with
 |nil=>exact e
 |@snoc u u' c r g st d a cc ih=>
  obtain⟨b,hb⟩:=g.val v
  refine ih (Ed.of hb fun s2 c2 r2 st2=>?_)
  have ec:=pX st.en st2.en
  subst ec
  have er:=pY hb st.lv st2.lv
  subst er
  rw[st2.eq,<-st.eq]
  exact e
def qQ{s:Sx}{b:Nat->Vc}(v:Val m V A s b){c r:Nat}(e:En m V s c)(l:Lv m V s c r):s.q * (Hd s r c).T m V=s.T m V * s.T r c - s.T m c * s.T r V:=(v.Hd e.lt l).2 m V (Nat.le_refl _) (by have:=l.lt;omega) (Nat.le_refl _)
def xg{g0 q0:Int}(NA:0 < q0)(H:∀s b,Val m V A s b->g0 * s.q < s.T m V * q0->Ed m V s):∀(t:Nat) (s:Sx),(∃b,Val m V A s b)->s.T m V * q0=g0 * s.q->
  Ed m V s\/∃u u' c r,Rc m V t s u/\u.T m V * q0=g0 * u.q/\Aw m V u u' c r/\u.T r V=0/\(t<=c\/t<=u.held r):=by
 intro t
 induction t with
 |zero=>
  intro s ⟨b,v⟩ hg
  by_cases e:∃s' c r,Aw m V s s' c r
  ·obtain⟨s',c,r,st⟩:=e
   by_cases d:s.T r V=0
   ·exact .inr ⟨s,s',c,r,.nil,hg,st,d,.inl (Nat.zero_le _)⟩
   ·refine .inl (Ed.of v fun s2 c2 r2 st2=>?_)
    have ec:=pX st.en st2.en
    subst ec
    have er:=pY v st.lv st2.lv
    subst er
    obtain⟨v2,_⟩:=v.Hd st2.en.lt st2.lv
    rw[st2.eq]
    refine H _ _ v2 ?_
    have gw:=qQ v st2.en st2.lv
    have q1:=v.tab.pos
    have f1:0 < s.T r V:=by have:=v.fs r st.lv.lt;omega
    have f2:0 < (- s.T m c) * s.T r V:=Int.mul_pos (by have:=st.en.ng;omega) f1
    rw[Int.neg_mul]at f2
    show g0 * s.T r c < (Hd s r c).T m V * q0
    refine Int.lt_of_mul_lt_mul_left (a:=s.q) ?_ (by omega)
    rw[<-Int.mul_assoc,<-Int.mul_assoc s.q ((Hd s r c).T m V),gw,Int.sub_mul]
    have e1:s.q * g0 * s.T r c=s.T m V * s.T r c * q0:=by
     rw[Int.mul_comm s.q,<-hg];grind
    have f3:0 < (- (s.T m c * s.T r V)) * q0:=Int.mul_pos (by omega) NA
    rw[Int.neg_mul]at f3
    omega
  ·exact .inl ⟨0,fun s' c r st=>e ⟨s',c,r,st⟩⟩
 |succ t ih=>
  intro s vs hg
  rcases ih s vs hg with h|⟨u,u',c,r,R,gu,st,d,ht⟩
  ·exact .inl h
  by_cases big:t+1<=c\/t+1<=u.held r
  ·exact .inr ⟨u,u',c,r,R.mono (by omega),gu,st,d,big⟩
  rw[not_or]at big
  obtain⟨b,vu⟩:=R.val vs
  have R1:Rc m V (t+1) s u':=(R.mono (by omega)).snoc st d (by omega) (by omega)
  obtain⟨b',Mb⟩:=R1.val vs
  have NB:u'.T m V * q0=g0 * u'.q:=by
   have gw:=qQ vu st.en st.lv
   rw[d,Int.mul_zero,Int.sub_zero]at gw
   refine yo vu.tab.pos ?_
   rw[st.eq,<-Int.mul_assoc,gw]
   show u.T m V * u.T r c * q0=u.q * (g0 * u.T r c)
   have:u.T m V * u.T r c * q0=(u.T m V * q0) * u.T r c:=by grind
   rw[this,gu];grind
  rcases ih u' ⟨b',Mb⟩ NB with h|⟨w,w',c2,r2,R2,gw,st2,d2,MK⟩
  ·exact .inl (R1.back vs h)
  by_cases KJ:t+1<=c2\/t+1<=w.held r2
  ·exact .inr ⟨w,w',c2,r2,R1.trans (R2.mono (by omega)),gw,st2,d2,KJ⟩
  rw[not_or]at KJ
  exfalso
  obtain⟨bw,vw⟩:=R2.val ⟨b',Mb⟩
  have rel:Rel m V A t u w:=by
   have r1:=Rel.step (t:=t) vu st.en st.lv d (by omega) (by omega)
   rw[<-st.eq]at r1
   exact r1.trans ((R2.mono (Nat.le_succ t)).rel ⟨b',Mb⟩)
  have k1:=R2.keep (Nat.le_refl t)
  by_cases hc:c=t
  ·-- t comes in at u
   have b1:Bs m u' t:=by rw[st.eq];exact⟨r,st.lv.lt,by show(if r=r then c else _)=t;rw[if_pos rfl];exact hc⟩
   have b2:=k1.mp b1
   by_cases hc2:c2=t
   ·exact vw.fresh (by rw[<-hc2];exact st2.en.ng) b2
   ·have hr2:w.held r2=t:=by omega
    exact yp rel.symm st2.en st2.lv hr2 (by omega) (by rw[<-hc];exact st.en)
  ·-- t goes out at u
   have hr:u.held r=t:=by omega
   have b1:¬Bs m u' t:=by
    rw[st.eq]
    rintro⟨i,hi,ei⟩
    have ei:(if i=r then c else u.held i)=t:=ei
    by_cases er:i=r
    ·rw[if_pos er]at ei;exact hc ei
    ·rw[if_neg er]at ei;exact er (vu.inj hi st.lv.lt (by rw[ei,hr]))
   by_cases hc2:c2=t
   ·exact yp rel st.en st.lv hr (by omega) (by rw[<-hc2];exact st2.en)
   ·have hr2:w.held r2=t:=by omega
    exact b1 (k1.mpr ⟨r2,st2.lv.lt,hr2⟩)
end
end Wg
namespace CW
open PySem L2 L3 Wd
open C
noncomputable def bF(R H:Addr)(q:Int):List (Str×PV):=[("rows",.ref R),("held",.ref H),("bottom",.int q)]
def gM(R H:Addr)(q:Int):(bF R H q).lookup ("rows":Str)=some (.ref R):=rfl
def mQ(R H:Addr)(q:Int):(bF R H q).lookup ("held":Str)=some (.ref H):=rfl
def uV(R H:Addr)(q:Int):(bF R H q).lookup ("bottom":Str)=some (.int q):=rfl
def Ax(R H R':Addr)(q:Int):putF3 ("rows":Str) (.ref R') (bF R H q)=bF R' H q:=by simp[putF3,bF]
def Ch(R H:Addr)(q q':Int):putF3 ("bottom":Str) (.int q') (bF R H q)=bF R H q':=by simp[putF3,bF,dr]
noncomputable def hV(held:List Nat):List PV:=held.map fun n:Nat=>PV.int (n:Int)
structure BalAt (S:aw) (a R H:Addr) (rs:List Addr) (rows:List (List Int)) (held:List Nat) (q:Int):Prop where
 o:S a=some (.ins "Balance" (bF R H q))
 r:S R=some (.lst (rs.map PV.ref))
 rl:rs.length=rows.length
 rr:∀(i:Nat) r row,rs[i]?=some r->rows[i]?=some row->S r=some (.lst (row.map PV.int))
 h:S H=some (.lst (hV held))
 nR:R≠H
 nr:∀r∈rs,r≠H
def kE{n i:Nat}(h:i < n):qx n (i:Int)=some i:=by unfold qx;rw[if_pos (by omega),if_pos (by omega)];simp
noncomputable def jj(rows:List (List Int))(r c:Nat)(q:Int):List (List Int):=(rows.map fun row=>mN row (rows.getD r []) c q).set r (rows.getD r [])
def E5(a H:Addr)(S S':aw):Prop:=∀b o,S b=some o->b≠a->b≠H->S' b=some o
structure yq (rows:List (List Int)) (N:Nat):Prop where
 w:∀row∈rows,row.length=N
 n:N<=500
 l:rows.length<=500
 s:∀row∈rows,∀x∈row,Sz x
abbrev iR(w:aE):Prop:=∀{S:aw} {a R H:Addr} {rs:List Addr} {rows:List (List Int)} {held:List Nat} {q:Int} {N r c:Nat} {Q:bE} {E:ci},BalAt S a R H rs rows held q->yq rows N->r < rows.length->r < held.length->c < N->q≠0->Sz q->
 (∀S' R' rs',BalAt S' a R' H rs' (jj rows r c q) (held.set r c) ((rows.getD r []).getD c 0)->E5 a H S S'->Q .non S')->w [.ref a,.int (r:Int),.int (c:Int)] S Q E
def GY{xw:aE}(HZ:oi xw):iR (bc 5 (dW xw)):=by
 intro S a R H rs rows held q N r c Q E B sh hr hh hc hq J_ k
 unfold dW
 refine fe ?_
 rw[show au 5 [.ref a,.int (r:Int),.int (c:Int)]=[some (.ref a),some (.int (r:Int)),some (.int (c:Int)),none,none] from rfl]
 have hrl:=B.rl
 obtain⟨ch,hch⟩:∃ch,rows[r]?=some ch:=⟨_,List.getElem?_eq_getElem hr⟩
 obtain⟨pc,Lh⟩:∃pc,rs[r]?=some pc:=⟨_,List.getElem?_eq_getElem (by omega)⟩
 have Ks:rows.getD r []=ch:=by rw[List.getD_eq_getElem?_getD,hch];rfl
 have ML:=List.mem_of_getElem? hch
 have KK:=sh.w ch ML
 have KL:=B.rr r pc ch Lh hch
 rw[Ks]at k
 have hNn:=sh.n
 have hLl:=sh.l
 refine ay fun N1 hN=>?_
 simp only[ap,ai,cj,v3,lk,cw,B.o,gM,true_and,ak,B.r]
 rw[bI (v:=PV.ref pc) (by rw[List.getElem?_map,Lh];rfl)]
 simp only[List.set_cons_succ,List.set_cons_zero]
 refine hN _ _ (ay fun N1 hN=>?_)
 simp only[ap,ar,aL,cj,v3,lk,cw,B.o,gM,true_and,b6,B.r]
 refine cu (fun done ys S'=>∃ns:List Addr,ys=ns.map PV.ref/\done.length<=rs.length/\ns.length=done.length/\Ext S S'/\(∀n∈ns,S n=none)/\(∀(i:Nat) n row,ns[i]?=some n->rows[i]?=some row->S' n=some (.lst ((mN row ch c q).map PV.int)))) ⟨[],rfl,Nat.zero_le _,rfl,.refl,(fun n h=>by cases h),(fun i n row h=>by cases h)⟩ ?_ ?_ ?_
 ·rintro done ys S' ⟨ns,rfl,h1,h2,X,h3,h4⟩
  exact⟨X _ _ B.r,aY (by rw[List.length_map];omega)⟩
 ·rintro done x rest ys S' K e ⟨ns,rfl,h1,h2,X,h3,h4⟩ hK
  have hget:(rs.map PV.ref)[done.length]?=some x:=by rw[e];simp
  obtain⟨pr,Li,rfl⟩:∃p,rs[done.length]?=some p/\PV.ref p=x:=by rw[List.getElem?_map]at hget;exact Option.map_eq_some_iff.mp hget
  have hlt:done.length < rs.length:=(List.getElem?_eq_some_iff.mp Li).1
  obtain⟨row,GM⟩:∃row,rows[done.length]?=some row:=⟨_,List.getElem?_eq_getElem (by omega)⟩
  have Jf:=List.mem_of_getElem? GM
  have NC:=sh.w row Jf
  have Ka:=X _ _ (B.rr _ pr row Li GM)
  simp only[Tg.put,bJ,List.reduceReplicate,List.map_cons,List.map_nil,List.cons_append,List.nil_append,List.set_cons_zero,bo,if_true,ac,af,cj,v3,lk,cw,X _ _ B.o,uV,true_and]
  refine HZ Ka (X _ _ KL) (by omega) (by omega) (by omega) hq J_ (sh.s row Jf) (sh.s ch ML) fun p S2 hp X2 f2=>?_
  refine hK _ _ ⟨ns++[p],by simp,by rw[List.length_append];exact hlt,by simp[h2],X.trans X2,fun n hn=>?_,fun i n rw' hn hrw=>?_⟩
  ·rcases List.mem_append.mp hn with h|h
   ·exact h3 n h
   ·rw[List.mem_singleton.mp h];exact X.free hp
  ·by_cases hi:i < ns.length
   ·rw[List.getElem?_append_left hi]at hn
    exact X2 _ _ (h4 i n rw' hn hrw)
   ·rw[List.getElem?_append_right (by omega)]at hn
    have e0:i - ns.length=0:=by
     have:=(List.getElem?_eq_some_iff.mp hn).1
     rw[List.length_singleton]at this
     omega
    rw[e0]at hn
    cases hn
    have ei:i=done.length:=by omega
    rw[ei,GM]at hrw
    cases hrw
    exact f2
 rintro ys S1 ⟨ns,rfl,_,h2,X1,h3,h4⟩
 rw[List.length_map]at h2
 intro po MM
 have Xo:Ext S1 (Fc S1 po (.lst (ns.map PV.ref))):=.new MM
 have fo:(Fc S1 po (.lst (ns.map PV.ref))) po=some (.lst (ns.map PV.ref)):=aa
 have ND:S po=none:=X1.free MM
 generalize Fc S1 po (.lst (ns.map PV.ref))=S2 at Xo fo
 have X2:=X1.trans Xo
 simp only[List.set_cons_succ,List.set_cons_zero]
 refine hN _ _ (ay fun N1 hN=>?_)
 simp only[gJ,ai,cP,v3,lk,uc,oJ,km,fo]
 rw[Al (by rw[List.length_map];omega)]
 intro p1 hp1
 have X3:Ext S2 (Fc S2 p1 (.lst ((ns.map PV.ref).take r))):=.new hp1
 have f1:(Fc S2 p1 (.lst ((ns.map PV.ref).take r))) p1=some (.lst ((ns.map PV.ref).take r)):=aa
 generalize Fc S2 p1 (.lst ((ns.map PV.ref).take r))=S3 at X3 f1
 simp only[cO,af,v3,lk]
 intro p2 hp2
 have X4:Ext S3 (Fc S3 p2 (.lst [.ref pc])):=.new hp2
 have f2:(Fc S3 p2 (.lst [.ref pc])) p2=some (.lst [.ref pc]):=aa
 generalize Fc S3 p2 (.lst [.ref pc])=S4 at X4 f2
 refine n_ (X4 _ _ f1) f2 (by simp;omega) fun p3 S5 hp3 X5 f3=>?_
 have NE:=X5 _ _ (X4 _ _ (X3 _ _ fo))
 have e1:∀Q:bE,bv (.int (r:Int)) (.int 1) S5 Q=Q (.int ((r:Int)+1)) S5:=fun _=>rfl
 simp only[c3,e1,km,NE]
 rw[show((r:Int)+1)=((r+1:Nat):Int) by omega,Am (by rw[List.length_map];omega)]
 intro p4 KG
 have X6:Ext S5 (Fc S5 p4 (.lst ((ns.map PV.ref).drop (r+1)))):=.new KG
 have f4:(Fc S5 p4 (.lst ((ns.map PV.ref).drop (r+1)))) p4=some (.lst ((ns.map PV.ref).drop (r+1))):=aa
 generalize Fc S5 p4 (.lst ((ns.map PV.ref).drop (r+1)))=S6 at X6 f4
 refine n_ (X6 _ _ f3) f4 (by simp;omega) fun p5 S7 KH X7 f5=>?_
 have MN:Ext S2 S7:=X3.trans (X4.trans (X5.trans (X6.trans X7)))
 have XS:Ext S S7:=X2.trans MN
 have Jz:S p5=none:=(X2.trans (X3.trans (X4.trans (X5.trans X6)))).free KH
 have Mc:(ns.map PV.ref).take r++[PV.ref pc]++(ns.map PV.ref).drop (r+1)=(ns.set r pc).map PV.ref:=by
  rw[List.map_set,List.set_eq_take_append_cons_drop,if_pos (by rw[List.length_map];omega),List.append_assoc];rfl
 rw[Mc]at f5
 have o7:=XS _ _ B.o
 simp only[cw,o7,true_and]
 refine⟨by simp[bF],?_⟩
 rw[Ax]
 have NF:p5≠a:=fun h=>by rw[h,B.o]at Jz;cases Jz
 have MO:p5≠H:=fun h=>by rw[h,B.h]at Jz;cases Jz
 have Me:a≠H:=fun h=>by have:=B.o;rw[h,B.h]at this;cases this
 have o8:(Fc S7 a (.ins "Balance" (bF p5 H q))) a=some (.ins "Balance" (bF p5 H q)):=aa
 have k8:∀b o,S7 b=some o->b≠a->(Fc S7 a (.ins "Balance" (bF p5 H q))) b=some o:=fun b o h hb=>by rw[aq hb];exact h
 generalize Fc S7 a (.ins "Balance" (bF p5 H q))=S8 at o8 k8
 have MP:pc≠a:=fun h=>by rw[h,B.o]at KL;cases KL
 have NG:=k8 _ _ (XS _ _ KL) MP
 have ec:FZ (ch.map PV.int) (c:Int)=some (.int (ch.getD c 0)):=bI (by rw[List.getElem?_map,List.getD_eq_getElem?_getD,List.getElem?_eq_getElem (by omega)];rfl)
 refine hN _ _ (ay fun N1 hN=>?_)
 simp only[gJ,ai,v3,lk,ak,NG,ec,cw,o8,true_and]
 refine⟨by simp[bF],?_⟩
 rw[Ch]
 have o9:(Fc S8 a (.ins "Balance" (bF p5 H (ch.getD c 0)))) a=some (.ins "Balance" (bF p5 H (ch.getD c 0))):=aa
 have k9:∀b o,S8 b=some o->b≠a->(Fc S8 a (.ins "Balance" (bF p5 H (ch.getD c 0)))) b=some o:=fun b o h hb=>by rw[aq hb];exact h
 generalize Fc S8 a (.ins "Balance" (bF p5 H (ch.getD c 0)))=S9 at o9 k9
 have NH:=k9 _ _ (k8 _ _ (XS _ _ B.h) (Ne.symm Me)) (Ne.symm Me)
 refine hN _ _ ?_
 simp only[i9,cj,v3,lk,cw,o9,mQ,true_and,fw,NH]
 rw[show qx (hV held).length (r:Int)=some r from kE (by unfold hV;rw[List.length_map];exact hh)]
 have NI:(hV held).set r (.int (c:Int))=hV (held.set r c):=by unfold hV;rw[List.map_set]
 simp only[NI]
 have kk:∀b o,S7 b=some o->b≠a->b≠H->(Fc S9 H (.lst (hV (held.set r c)))) b=some o:=fun b o h h1 h2=>by rw[aq h2];exact k9 _ _ (k8 _ _ h h1) h1
 refine k _ p5 (ns.set r pc) ⟨?_,kk _ _ f5 NF MO,?_,fun i n row hn hrw=>?_,aa,MO,fun n hn=>?_⟩ fun b o h h1 h2=>kk b o (XS _ _ h) h1 h2
 ·rw[aq Me];exact o9
 ·unfold jj;rw[List.length_set,List.length_set,List.length_map];omega
 ·unfold jj at hrw
  rw[Ks]at hrw
  rw[List.getElem?_set]at hn hrw
  by_cases e:r=i
  ·rw[if_pos e,if_pos (by omega)]at hn
   rw[if_pos e,if_pos (by rw[List.length_map];omega)]at hrw
   cases hn;cases hrw
   exact kk _ _ (XS _ _ KL) MP (B.nr _ (List.mem_of_getElem? Lh))
  ·rw[if_neg e]at hn hrw
   rw[List.getElem?_map]at hrw
   obtain⟨JA,hr0,rfl⟩:=Option.map_eq_some_iff.mp hrw
   have fn:=h4 i n JA hn hr0
   have nS:=h3 n (List.mem_of_getElem? hn)
   exact kk _ _ (MN _ _ (Xo _ _ fn)) (fun h=>by rw[h,B.o]at nS;cases nS) (fun h=>by rw[h,B.h]at nS;cases nS)
 ·rcases List.mem_or_eq_of_mem_set hn with h|h
  ·have nS:=h3 n h
   exact fun h'=>by rw[h',B.h]at nS;cases nS
  ·rw[h];exact B.nr _ (List.mem_of_getElem? Lh)
end CW
namespace Wg
noncomputable def Kb(C:Nat):Nat->Nat
 |0=>1
 |M+1=>(M+1) * (C * Kb C M)
def pZ{n B:Nat}{f:Nat->Int}(h:∀i,i < n->(f i).natAbs<=B):(sm n f).natAbs<=n * B:=by
 induction n with
 |zero=>simp[sm]
 |succ n ih=>
  simp only[sm]
  have:=ih fun i hi=>h i (by omega)
  have:=h n (by omega)
  have:=Int.natAbs_add_le (sm n f) (f n)
  rw[Nat.succ_mul]
  omega
theorem mR(C:Nat):∀(M:Nat) (b:Nat->Vc),(∀i k,i < M->k < M->(b i k).natAbs<=C)->(dt M b).natAbs<=Kb C M
 |0,_,_=>by simp[dt,Kb]
 |M+1,b,h=>by
  simp only[dt,Kb]
  refine pZ fun i hi=>?_
  have sgn:(sg (i+M)).natAbs=1:=by unfold sg;split<;>rfl
  rw[Int.natAbs_mul,Int.natAbs_mul,sgn,Nat.one_mul]
  exact Nat.mul_le_mul (h i M hi (by omega)) (mR C M (sk i b) fun l k hl hk=>h _ k (by split<;>omega) (by omega))
section
variable {m V:Nat} {A:Nat->Nat->Int} {s:Sx} {b:Nat->Vc}
def Val.bnd(h:Val m V A s b){C:Nat}(h1:1<=C)(hA:∀k j,k<=m->j<=V->(A k j).natAbs<=C):(∀i j,i<=m->j<=V->(s.T i j).natAbs<=Kb C (m+1))/\s.q.natAbs<=Kb C (m+1):=by
 have hb:∀i k,i<=m->k<=m->(b i k).natAbs<=C:=fun i k hi hk=>by
  by_cases e:i=m
  ·subst e;rw[h.tab.gl k];unfold eu;split<;>simp<;>omega
  ·rw[h.hb i k (by omega) hk];exact hA k _ hk (by have:=h.hv i (by omega);omega)
 refine⟨fun i j hi hj=>?_,?_⟩
 ·rw[h.tab.ent hi (by omega)]
  refine mR C _ _ fun l k hl hk=>?_
  by_cases e:l=i
  ·subst e;rw[aH];exact hA k j (by omega) hj
  ·rw[a7 e];exact hb l k (by omega) (by omega)
 ·rw[<-h.tab.det]
  exact mR C _ _ fun l k hl hk=>hb l k (by omega) (by omega)
noncomputable def mu(m V:Nat)(K:Int)(s:Sx):Int:=((K * s.q - s.T m V) * (K * K)) / s.q
def xi{K g q g' q':Int}(hq:0 < q)(hq':0 < q')(k1:q<=K)(k2:q'<=K)(h:g * q' < g' * q):((K * q' - g') * (K * K)) / q'+1<=((K * q - g) * (K * K)) / q:=by
 rw[Int.le_ediv_iff_mul_le hq]
 refine Int.le_of_mul_le_mul_right (a:=q') ?_ hq'
 have e1:((K * q' - g') * (K * K)) / q' * q'<=(K * q' - g') * (K * K):=Int.ediv_mul_le _ (by omega)
 have e2:q * q'<=K * K:=Int.mul_le_mul k1 k2 (by omega) (by omega)
 have e3:K * K<=(g' * q - g * q') * (K * K):=by
  have:0<=K * K:=Int.mul_nonneg (by omega) (by omega)
  have:=Int.mul_le_mul_of_nonneg_right (show 1<=g' * q - g * q' by omega) this
  omega
 have e4:(((K * q' - g') * (K * K)) / q'+1) * q * q'=(((K * q' - g') * (K * K)) / q' * q') * q+q * q':=by grind
 have e5:=Int.mul_le_mul_of_nonneg_right e1 (show 0<=q by omega)
 have e6:(K * q - g) * (K * K) * q'=(K * q' - g') * (K * K) * q+(g' * q - g * q') * (K * K):=by grind
 rw[e4,e6]
 omega
def ends{C:Nat}(h1:1<=C)(hA:∀k j,k<=m->j<=V->(A k j).natAbs<=C):∀(n:Nat) (s:Sx) (b:Nat->Vc),Val m V A s b->mu m V (Kb C (m+1)) s < n->Ed m V s:=by
 intro n
 induction n with
 |zero=>
  intro s b v MQ
  exfalso
  obtain⟨b1,b2⟩:=v.bnd h1 hA
  have q1:=v.tab.pos
  have:=b1 m V (Nat.le_refl _) (Nat.le_refl _)
  have k0:(s.T m V)<=(Kb C (m+1):Int) * s.q:=by
   have a1:s.T m V<=(Kb C (m+1):Int):=by omega
   have:=Int.mul_le_mul_of_nonneg_left (show 1<=s.q by omega) (show 0<=(Kb C (m+1):Int) by omega)
   omega
  have:0<=mu m V (Kb C (m+1)) s:=Int.ediv_nonneg (Int.mul_nonneg (by omega) (Int.mul_nonneg (by omega) (by omega))) (by omega)
  omega
 |succ n ih=>
  intro s b v MQ
  obtain⟨b1,b2⟩:=v.bnd h1 hA
  have q1:=v.tab.pos
  have H:∀s' b',Val m V A s' b'->s.T m V * s'.q < s'.T m V * s.q->Ed m V s':=fun s' b' v' hg=>by
   refine ih s' b' v' ?_
   have q2:=v'.tab.pos
   have:=(v'.bnd h1 hA).2
   have:=xi (K:=Kb C (m+1)) q1 q2 (by omega) (by omega) hg
   unfold mu at MQ ⊢
   omega
  rcases xg (A:=A) (g0:=s.T m V) (q0:=s.q) q1 H V s ⟨b,v⟩ rfl with h|⟨u,u',c,r,R,gu,st,d,ht⟩
  ·exact h
  ·exfalso
   obtain⟨bu,vu⟩:=R.val ⟨b,v⟩
   have:=st.en.lt
   have:=vu.hv r st.lv.lt
   omega
theorem Val.ends(v:Val m V A s b){C:Nat}(h1:1<=C)(hA:∀k j,k<=m->j<=V->(A k j).natAbs<=C):Ed m V s:=Wg.ends h1 hA ((mu m V (Kb C (m+1)) s).toNat+1) s b v (by omega)
end
end Wg
namespace CW
open PySem L2 L3 Wd
open C
noncomputable def toS(rows:List (List Int))(held:List Nat)(q:Int):Wg.Sx:=⟨fun i j=>(rows.getD i []).getD j 0,fun i=>held.getD i 0,q⟩
structure Dim (rows:List (List Int)) (held:List Nat) (m V:Nat):Prop where
 rl:rows.length=m+1
 hl:held.length=m
 w:∀row∈rows,row.length=V+1
 m1:m<=400
 v1:V<=400
 s:∀row∈rows,∀x∈row,Sz x
def Dim.sh{rows:List (List Int)}{held:List Nat}{m V:Nat}(h:Dim rows held m V):yq rows (V+1):=⟨h.w,by have:=h.v1;omega,by have:=h.rl;have:=h.m1;omega,h.s⟩
def lT{α:Type}{xs:List α}{n:Nat}{y:α}(hl:xs.length=n+1)(h:xs[n]?=some y):FZ xs (-1)=some y:=by
 unfold FZ qx
 rw[if_neg (by omega),if_pos (by omega)]
 have:(-1+(xs.length:Int)).toNat=n:=by omega
 rw[this]
 exact h
def xj{α:Type}{xs:List α}:eK xs none (some (-1))=xs.take (xs.length - 1):=by
 unfold eK
 rw[HT.j4,List.drop_zero,Nat.sub_zero]
 have:HT.Fz xs.length xs.length (some (-1))=if (-1:Int) < 0 then (-1+((xs.length:Nat):Int)).toNat else min (-1:Int).toNat xs.length:=rfl
 rw[this,if_pos (by decide)]
 congr 1
 omega
def aA{α:Type}{xs:List α}{i:Nat}{y d:α}(h:xs[i]?=some y):xs.getD i d=y:=by rw[List.getD_eq_getElem?_getD,h];rfl
section
variable {S:aw} {a R H:Addr} {rs:List Addr} {rows:List (List Int)} {held:List Nat} {q:Int} {m V:Nat}
def kF(B:BalAt S a R H rs rows held q)(D:Dim rows held m V){i:Nat}(hi:i<=m):∃p row,rs[i]?=some p/\rows[i]?=some row/\S p=some (.lst (row.map PV.int))/\row.length=V+1/\(∀x∈row,Sz x)/\(∀j,(toS rows held q).T i j=row.getD j 0):=by
 have h1:=B.rl
 have h2:=D.rl
 obtain⟨row,GM⟩:∃row,rows[i]?=some row:=⟨_,List.getElem?_eq_getElem (by omega)⟩
 obtain⟨p,hp⟩:∃p,rs[i]?=some p:=⟨_,List.getElem?_eq_getElem (by omega)⟩
 have mr:=List.mem_of_getElem? GM
 exact⟨p,row,hp,GM,B.rr i p row hp GM,D.w row mr,D.s row mr,fun j=>by show(rows.getD i []).getD j 0=_;rw[aA GM]⟩
def gN{row:Vu}{j:Nat}(h:j < row.length):FZ (row.map PV.int) (j:Int)=some (.int (row.getD j 0))/\row.getD j 0∈row:=by
 have e:=List.getElem?_eq_getElem h
 refine⟨bI (by rw[List.getElem?_map,e,aA e];rfl),?_⟩
 rw[aA e]
 exact List.getElem_mem h
end
abbrev ol(w:aE):Prop:=∀{S:aw} {a R H:Addr} {rs:List Addr} {rows:List (List Int)} {held:List Nat} {q:Int} {m V:Nat} {Q:bE} {E:ci},BalAt S a R H rs rows held q->Dim rows held m V->
 (∀S',Ext S S'->(∀j,j < V->0<=(toS rows held q).T m j)->Q .non S')->(∀(c:Nat) S',Ext S S'->Wg.En m V (toS rows held q) c->Q (.int (c:Int)) S')->w [.ref a] S Q E
def H_:ol (bc 3 cQ):=by
 intro S a R H rs rows held q m V Q E B D k0 k1
 unfold cQ
 refine fe ?_
 rw[show au 3 [PV.ref a]=[some (.ref a),none,none] from rfl]
 obtain⟨p,row,hp,GM,fp,hl,_,hT⟩:=kF B D (Nat.le_refl m)
 have hv:=D.v1
 refine ay fun N hN=>?_
 simp only[bQ,hG,cP,ai,cj,v3,lk,c3,jB,dw,uc,oJ,cw,B.o,gM,true_and,ak,B.r]
 rw[lT (n:=m) (by rw[List.length_map,B.rl,D.rl]) (show(rs.map PV.ref)[m]?=some (.ref p) by rw[List.getElem?_map,hp];rfl)]
 simp only[km,fp]
 rw[xj,List.length_map,hl,Nat.add_sub_cancel,<-List.map_take]
 intro p2 hp2
 have X2:Ext S (Fc S p2 (.lst ((row.take V).map PV.int))):=.new hp2
 have f2:(Fc S p2 (.lst ((row.take V).map PV.int))) p2=some (.lst ((row.take V).map PV.int)):=aa
 generalize Fc S p2 (.lst ((row.take V).map PV.int))=S2 at X2 f2
 simp only[f2]
 refine bp (fun done σ S'=>S'=S2/\done.length<=V/\(∃x1 x2,σ=[some (.ref a),x1,x2])/\∀j,j < done.length->0<=row.getD j 0) ⟨rfl,Nat.zero_le _,⟨_,_,rfl⟩,fun j hj=>absurd hj (Nat.not_lt_zero _)⟩ (fun _ _ _ ⟨e,_⟩=>by rw[e];exact f2) ?_ ?_
 ·rintro done x rest σ S' K e ⟨rfl,hd,⟨x1,x2,rfl⟩,hn⟩ hK
  obtain⟨y,rfl,hy⟩:=n4 e
  rw[List.getElem?_map]at hy
  obtain⟨n,hn1,rfl⟩:=Option.map_eq_some_iff.mp hy
  have hlt:done.length < V:=by have:=(List.getElem?_eq_some_iff.mp hn1).1;rw[List.length_take]at this;omega
  rw[List.getElem?_take_of_lt hlt]at hn1
  have en:=aA (d:=0) hn1
  simp only[Tg.put,Tg.FH,List.set_cons_succ,List.set_cons_zero,cK,bg,ai,v3,lk,c3,oK,bN,decide_eq_true_eq]
  split
  ·rename_i hneg
   simp only[av,v3,lk]
   exact k1 done.length S' X2 ⟨hlt,by rw[hT,en];exact hneg,fun j hj=>by rw[hT];exact hn j hj⟩
  ·rename_i hneg
   refine hK _ _ ⟨rfl,by rw[List.length_append];exact hlt,⟨_,_,rfl⟩,fun j hj=>?_⟩
   rw[List.length_append,List.length_singleton]at hj
   by_cases ej:j=done.length
   ·subst ej;rw[en];omega
   ·exact hn j (by omega)
 ·rintro σ S' ⟨rfl,hd,⟨x1,x2,rfl⟩,hn⟩
  refine hN _ _ ?_
  walk_at "x"
  have ln:(L3.bh ((row.take V).map PV.int)).length=V:=by unfold L3.bh;rw[List.length_mapIdx,List.length_map,List.length_take];omega
  rw[ln]at hn
  exact k0 S' X2 fun j hj=>by rw[hT];exact hn j hj
abbrev om(w:aE):Prop:=∀{S:aw} {a R H:Addr} {rs:List Addr} {rows:List (List Int)} {held:List Nat} {q:Int} {m V i r c:Nat} {Q:bE} {E:ci},BalAt S a R H rs rows held q->Dim rows held m V->i < m->r < m->c<=V->
 (∀b:Bool,(b=true↔Wg.jQ V (toS rows held q) c i r)->Q (.bl b) S)->w [.ref a,.int (i:Int),.int (r:Int),.int (c:Int)] S Q E
def Ia:om (bc 6 dg):=by
 intro S a R H rs rows held q m V i r c Q E B D hi hr hc k
 unfold dg
 refine fe ?_
 rw[show au 6 [PV.ref a,.int (i:Int),.int (r:Int),.int (c:Int)]=[some (.ref a),some (.int (i:Int)),some (.int (r:Int)),some (.int (c:Int)),none,none] from rfl]
 obtain⟨p1,Ip,hp1,hr1,f1,l1,s1,T1⟩:=kF B D (show i<=m by omega)
 obtain⟨p2,row2,hp2,hr2,f2,l2,s2,T2⟩:=kF B D (show r<=m by omega)
 have e1:FZ (rs.map PV.ref) (i:Int)=some (.ref p1):=bI (by rw[List.getElem?_map,hp1];rfl)
 have e2:FZ (rs.map PV.ref) (r:Int)=some (.ref p2):=bI (by rw[List.getElem?_map,hp2];rfl)
 have v1:=gN (row:=Ip) (j:=V) (by omega)
 have v2:=gN (row:=row2) (j:=V) (by omega)
 have c1:=gN (row:=Ip) (j:=c) (by omega)
 have c2:=gN (row:=row2) (j:=c) (by omega)
 have m1:FZ (Ip.map PV.int) (-1)=some (.int (Ip.getD V 0)):=lT (n:=V) (by rw[List.length_map,l1]) (by rw[List.getElem?_map,List.getElem?_eq_getElem (by omega),List.getD_eq_getElem?_getD,List.getElem?_eq_getElem (by omega)];rfl)
 have m2:FZ (row2.map PV.int) (-1)=some (.int (row2.getD V 0)):=lT (n:=V) (by rw[List.length_map,l2]) (by rw[List.getElem?_map,List.getElem?_eq_getElem (by omega),List.getD_eq_getElem?_getD,List.getElem?_eq_getElem (by omega)];rfl)
 have hel:∀j,j < m->FZ (hV held) (j:Int)=some (.int ((held.getD j 0:Nat):Int)):=fun j hj=>bI (by
  unfold hV
  have:j < held.length:=by rw[D.hl];exact hj
  rw[List.getElem?_map,List.getElem?_eq_getElem this,List.getD_eq_getElem?_getD,List.getElem?_eq_getElem this];rfl)
 refine ay fun N hN=>?_
 simp only[ap,ai,cj,v3,lk,c3,jB,dw,cw,B.o,gM,true_and,ak,B.r,e1,e2,f1,f2,m1,c2.1,aU]
 refine⟨(s1 _ v1.2).mul (s2 _ c2.2),?_⟩
 simp only[List.set_cons_succ,List.set_cons_zero]
 refine hN _ _ (ay fun N hN=>?_)
 simp only[ap,ai,cj,v3,lk,c3,jB,dw,cw,B.o,gM,true_and,ak,B.r,e1,e2,f1,f2,m2,c1.1,aU]
 refine⟨(s2 _ v2.2).mul (s1 _ c1.2),?_⟩
 simp only[List.set_cons_succ,List.set_cons_zero]
 refine hN _ _ ?_
 simp only[av,ai,aS,af,cj,v3,lk,cw,B.o,mQ,true_and,ak,B.h,hel i hi,hel r hr,wZ]
 refine k _ ?_
 rw[decide_eq_true_eq]
 unfold Wg.jQ
 rw[T1,T1,T2,T2]
 show _↔Ip.getD V 0 * row2.getD c 0 < row2.getD V 0 * Ip.getD c 0\/(Ip.getD V 0 * row2.getD c 0=row2.getD V 0 * Ip.getD c 0/\held.getD i 0 < held.getD r 0)
 constructor
 ·rintro(h|⟨h,h2⟩)
  ·exact .inl h
  ·exact .inr ⟨h,by omega⟩
 ·rintro(h|⟨h,h2⟩)
  ·exact .inl h
  ·exact .inr ⟨h,by omega⟩
def p8{s:Wg.Sx}{V c i r l:Nat}(hi:0 < s.T i c)(hr:0 < s.T r c)(hl:0 < s.T l c)(h:Wg.jQ V s c i r)(g:Wg.jQ V s c r l):Wg.jQ V s c i l:=by
 unfold Wg.jQ at *
 have cmp:∀{x y:Int},s.T r c * x<=s.T r c * y->x<=y:=fun h=>Int.le_of_mul_le_mul_left h hr
 have A:s.T r c * (s.T i V * s.T l c)=(s.T i V * s.T r c) * s.T l c:=by grind
 have C:s.T r c * (s.T l V * s.T i c)=(s.T l V * s.T r c) * s.T i c:=by grind
 have M:(s.T r V * s.T i c) * s.T l c=(s.T r V * s.T l c) * s.T i c:=by grind
 rcases h with h|⟨h,h2⟩
 ·have h3:=Int.mul_lt_mul_of_pos_right h hl
  rcases g with g|⟨g,g2⟩
  ·have g3:=Int.mul_lt_mul_of_pos_right g hi
   exact .inl (Int.lt_of_mul_lt_mul_left (a:=s.T r c) (by rw[A,C];omega) (by omega))
  ·refine .inl (Int.lt_of_mul_lt_mul_left (a:=s.T r c) (by rw[A,C,<-g];omega) (by omega))
 ·rcases g with g|⟨g,g2⟩
  ·have g3:=Int.mul_lt_mul_of_pos_right g hi
   exact .inl (Int.lt_of_mul_lt_mul_left (a:=s.T r c) (by rw[A,C,h];omega) (by omega))
  ·exact .inr ⟨Int.eq_of_mul_eq_mul_left (a:=s.T r c) (by omega) (by rw[A,C,h,<-g];exact M),by omega⟩
noncomputable def fV:Option Nat->PV
 |none=>.non
 |some r=>.int (r:Int)
abbrev on(w:aE):Prop:=∀{S:aw} {a R H:Addr} {rs:List Addr} {rows:List (List Int)} {held:List Nat} {q:Int} {m V c:Nat} {Q:bE} {E:ci},BalAt S a R H rs rows held q->Dim rows held m V->c<=V->
 ((∀i,i < m->(toS rows held q).T i c<=0)->Q .non S)->(∀r:Nat,Wg.Lv m V (toS rows held q) c r->Q (.int (r:Int)) S)->w [.ref a,.int (c:Int)] S Q E
def Ib{xs:aE}(Ia:om xs):on (bc 4 (cR xs)):=by
 intro S a R H rs rows held q m V c Q E B D hc k0 k1
 unfold cR
 refine fe ?_
 rw[show au 4 [PV.ref a,.int (c:Int)]=[some (.ref a),some (.int (c:Int)),none,none] from rfl]
 have hm:=D.m1
 refine ay fun N hN=>?_
 walk_at "x"
 refine hN _ _ (ay fun N hN=>?_)
 simp only[bQ,bH,ah,af,cj,v3,lk,cw,B.o,mQ,true_and,aX,B.h]
 rw[show(hV held).length=m by unfold hV;rw[List.length_map,D.hl]]
 refine⟨by omega,by omega,?_⟩
 rw[Int.toNat_natCast]
 let T:=(toS rows held q).T
 refine bp (fun done σ S'=>S'=S/\done.length<=m/\∃(f:Option Nat) (x3:Option PV),σ=[some (.ref a),some (.int (c:Int)),some (fV f),x3]/\
   (match f with|none=>∀i,i < done.length->(toS rows held q).T i c<=0|some r=>r < done.length/\0 < (toS rows held q).T r c/\∀i,i < done.length->0 < (toS rows held q).T i c->¬Wg.jQ V (toS rows held q) c i r)) ⟨rfl,Nat.zero_le _,none,_,rfl,fun i hi=>absurd hi (Nat.not_lt_zero _)⟩ (fun _ _ _ _=>trivial) ?_ ?_
 ·rintro done x rest σ S' K e ⟨rfl,hd,f,x3,rfl,hf⟩ hK
  obtain⟨rfl,hi⟩:=cA e
  obtain⟨p,row,hp,GM,fp,hl,_,hT⟩:=kF B D (show done.length<=m by omega)
  have e1:FZ (rs.map PV.ref) (done.length:Int)=some (.ref p):=bI (by rw[List.getElem?_map,hp];rfl)
  have c1:=gN (row:=row) (j:=c) (by omega)
  have tl:∀i,i < (done++[PV.int (done.length:Int)]).length->i < done.length\/i=done.length:=fun i hi=>by rw[List.length_append,List.length_singleton]at hi;omega
  have dl:(done++[PV.int (done.length:Int)]).length=done.length+1:=by simp
  have keep:¬0 < (toS rows held q).T done.length c->K [some (.ref a),some (.int (c:Int)),some (fV f),some (.int (done.length:Int))] S':=fun hn=>by
   refine hK _ _ ⟨rfl,by rw[dl];omega,f,_,rfl,?_⟩
   cases f with
   |none=>exact fun i hi'=>(tl i hi').elim (fun h=>hf i h) (fun h=>by rw[h];omega)
   |some r=>exact⟨by have:=hf.1;rw[dl];omega,hf.2.1,fun i hi' hp'=>(tl i hi').elim (fun h=>hf.2.2 i h hp') (fun h=>by rw[h]at hp';exact absurd hp' hn)⟩
  have take:0 < (toS rows held q).T done.length c->(∀i,i < done.length->0 < (toS rows held q).T i c->¬Wg.jQ V (toS rows held q) c i done.length)->K [some (.ref a),some (.int (c:Int)),some (.int (done.length:Int)),some (.int (done.length:Int))] S':=fun hp' hs=>by
   refine hK _ _ ⟨rfl,by rw[dl];omega,some done.length,_,rfl,⟨by rw[dl];omega,hp',fun i hi' Mf=>(tl i hi').elim (fun h=>hs i h Mf) (fun h=>?_)⟩⟩
   subst h
   unfold Wg.jQ
   omega
  simp only[Tg.put,List.set_cons_succ,List.set_cons_zero,cK,jK,jL,bg,ai,cj,v3,lk,c3,cw,B.o,gM,true_and,ak,B.r,e1,fp,c1.1,kW,bN,decide_eq_true_eq]
  rw[<-hT c]
  by_cases hpos:0 < (toS rows held q).T done.length c
  ·simp only[hpos,if_true]
   cases f with
   |none=>
    simp only[fV,kU,bne_self_eq_false,Bool.not_false,if_true,Bool.false_bne,ap,v3,lk,List.set_cons_succ,List.set_cons_zero]
    exact take hpos fun i hi' hp'=>by have:=hf i hi';omega
   |some r=>
    simp only[fV,kU,da,af,v3,lk,cw,B.o,true_and]
    have hm':(bF R H q).lookup ("sooner":Str)=none:=rfl
    simp only[hm',true_and,Bool.false_bne,Bool.false_eq_true,if_false]
    refine Ia B D hi (by have:=hf.1;omega) hc fun b hb=>?_
    cases b with
    |true=>
     simp only[if_true,ap,v3,lk,List.set_cons_succ,List.set_cons_zero]
     have sn:=hb.mp rfl
     exact take hpos fun i hi' hp' hs=>hf.2.2 i hi' hp' (p8 hp' hpos hf.2.1 hs sn)
    |false=>
     simp only[Bool.false_eq_true,if_false]
     refine hK _ _ ⟨rfl,by rw[dl];omega,some r,_,rfl,⟨by have:=hf.1;rw[dl];omega,hf.2.1,fun i hi' hp'=>(tl i hi').elim (fun h=>hf.2.2 i h hp') (fun h=>?_)⟩⟩
     subst h
     exact fun hs=>by have:=hb.mpr hs;cases this
  ·simp only[hpos,if_false,Bool.false_eq_true]
   exact keep hpos
 ·rintro σ S' ⟨rfl,hd,f,x3,rfl,hf⟩
  rw[cv]at hf
  refine hN _ _ ?_
  cases f with
  |none=>simp only[fV,av,v3,lk];exact k0 hf
  |some r=>simp only[fV,av,v3,lk];exact k1 r ⟨hf.1,hf.2.1,hf.2.2⟩
end CW
namespace C
open PySem L2 L3 Wd
def sF(n:Nat):gc (List.replicate n (.bl true))=some (List.replicate n true):=by
 induction n with
 |zero=>rfl
 |succ n ih=>rw[List.replicate_succ,List.replicate_succ];show(gc (List.replicate n (.bl true))).map _=_;rw[ih];rfl
theorem iu{α:Type}{g:Tg}{tc:jA}{te:aQ}{σ':cZ}{keep:aw->Prop}{fin:List PV->aw->Prop}{S:aw}(enc f:α->PV)(c:α->Bool)(hk:keep S):∀(xs:List α) (ys:List PV),
  (∀x∈xs,∃σ2,g.put (enc x) σ'=some σ2/\(∀K:Bool->aw->Prop,K (c x) S->tc σ2 S K gf)/\(c x=true->∀Q:bE,Q (f x) S->te σ2 S Q gf))->ys.length+xs.length<=sizeLine->fin (ys++(xs.filter c).map f) S->eW g tc te σ' keep fin (xs.map enc) ys S
 |[],ys,_,hl,hf=>⟨hk,by simpa using hl,by simpa using hf⟩
 |x::r,ys,h,hl,hf=>by
  obtain⟨σ2,e,h1,h2⟩:=h x (by simp)
  refine⟨hk,by simp at hl;omega,?_⟩
  rw[e]
  refine h1 _ ?_
  by_cases hc:c x=true
  ·rw[if_pos hc]
   refine h2 hc _ (iu enc f c hk r (ys++[f x]) (fun y hy=>h y (by simp[hy])) (by simp at hl ⊢;omega) ?_)
   rw[List.filter_cons_of_pos hc]at hf
   simpa using hf
  ·rw[if_neg hc]
   refine iu enc f c hk r ys (fun y hy=>h y (by simp[hy])) (by simp at hl;omega) ?_
   rw[List.filter_cons_of_neg hc]at hf
   exact hf
end C
namespace CW
open PySem L2 L3 Wd
open C
noncomputable def HI(n:Nat)(j:Nat)(q sg:Int)(acc:List PV)(z:List Int×Nat):List PV:=if z.2 < n then acc.set z.2 (cq q (sg * z.1.getD j 0)) else acc
noncomputable def xk(n:Nat)(rows:List (List Int))(held:List Nat)(q sg:Int)(j:Nat):List PV:=(rows.zip held).foldl (HI n j q sg) (List.replicate n (cq q 0))
theorem mS(n j:Nat)(q sg:Int):∀(zs:List (List Int×Nat)) (acc:List PV),(zs.foldl (HI n j q sg) acc).length=acc.length
 |[],acc=>rfl
 |z::r,acc=>by rw[List.foldl_cons,mS n j q sg r];unfold HI;split<;>simp
def Ci(V:Nat)(pz:Int)(j:Nat):Prop:=(pz=(j:Int)/\j<=V)\/(pz = -1/\j=V)
def Cj{V:Nat}{pz:Int}{j:Nat}(h:Ci V pz j){row:Vu}(hl:row.length=V+1):FZ (row.map PV.int) pz=some (.int (row.getD j 0))/\row.getD j 0∈row:=by
 rcases h with⟨rfl,hj⟩|⟨rfl,rfl⟩
 ·exact gN (by omega)
 ·refine⟨lT (n:=j) (by rw[List.length_map,hl]) (by rw[List.getElem?_map,List.getElem?_eq_getElem (by omega),List.getD_eq_getElem?_getD,List.getElem?_eq_getElem (by omega)];rfl),(gN (by omega)).2⟩
def xn(v:PV)(k:Nat):(List.replicate k [v]).flatten=List.replicate k v:=by
 induction k with
 |zero=>rfl
 |succ k ih=>rw[List.replicate_succ,List.flatten_cons,ih,List.replicate_succ];rfl
abbrev iS(w:aE):Prop:=∀{S:aw} {a R H:Addr} {rs:List Addr} {rows:List (List Int)} {held:List Nat} {q:Int} {m V n j:Nat} {pz sg:Int} {Q:bE} {E:ci},BalAt S a R H rs rows held q->Dim rows held m V->0 < q->Sz q->n<=500->Ci V pz j->(sg=1\/sg = -1)->
 (∀p S',S p=none->Ext S S'->S' p=some (.lst (xk n rows held q sg j))->Q (.ref p) S')->w [.ref a,.int (n:Int),.int pz,.int sg] S Q E
def GZ{xf:aE}(FJ:jE xf):iS (bc 7 (cS xf)):=by
 intro S a R H rs rows held q m V n j pz sg Q E B D hq J_ hn hp hs k
 unfold cS
 refine fe ?_
 rw[show au 7 [PV.ref a,.int (n:Int),.int pz,.int sg]=[some (.ref a),some (.int (n:Int)),some (.int pz),some (.int sg),none,none,none] from rfl]
 have z0:PV.tup [.int 0,.int 1]=cq q 0:=by rw[iq,fP (Q:=1) (R:=q) (n:=0) (m:=0) (by decide) hq (by simp)]
 refine ay fun N hN=>?_
 simp only[ap,ai,cO,af,aS,c3,v3,lk]
 intro p0 hp0
 simp only[aU,aa]
 refine⟨by omega,by omega,aY (by simp;omega),fun p1 hp1=>?_⟩
 rw[Int.toNat_natCast,xn]
 rw[z0]at hp1 ⊢
 have X1:Ext S (Fc (Fc S p0 (.lst [cq q 0])) p1 (.lst (List.replicate n (cq q 0)))):=(Ext.new hp0).trans (.new hp1)
 have f1:(Fc (Fc S p0 (.lst [cq q 0])) p1 (.lst (List.replicate n (cq q 0)))) p1=some (.lst (List.replicate n (cq q 0))):=aa
 have Iq:S p1=none:=(Ext.new hp0).free hp1
 generalize Fc (Fc S p0 (.lst [cq q 0])) p1 (.lst (List.replicate n (cq q 0)))=S1 at X1 f1
 simp only[List.set_cons_succ,List.set_cons_zero]
 refine hN _ _ (ay fun N hN=>?_)
 have o1:=X1 _ _ B.o
 have r1:=X1 _ _ B.r
 have h1:=X1 _ _ B.h
 simp only[bQ,jD,cj,v3,lk,cw,o1,gM,mQ,true_and,r1,h1]
 have nr:p1≠R:=fun h=>by rw[h,B.r]at Iq;cases Iq
 have nh:p1≠H:=fun h=>by rw[h,B.h]at Iq;cases Iq
 have no:p1≠a:=fun h=>by rw[h,B.o]at Iq;cases Iq
 refine bp (fun done σ S'=>Ext S S'/\S' p1=some (.lst (((rows.zip held).take done.length).foldl (HI n j q sg) (List.replicate n (cq q 0))))/\∃x5 x6,σ=[some (.ref a),some (.int (n:Int)),some (.int pz),some (.int sg),some (.ref p1),x5,x6]) ⟨X1,f1,_,_,rfl⟩ (fun _ _ _ ⟨X,_⟩=>⟨X _ _ B.r,X _ _ B.h⟩) ?_ ?_
 ·rintro done x rest σ S' K e ⟨X,f,x5,x6,rfl⟩ hK
  have hget:(aP (rs.map PV.ref) (hV held))[done.length]?=some x:=by rw[e];simp
  unfold aP at hget
  rw[List.getElem?_map]at hget
  obtain⟨⟨u,v⟩,hz,rfl⟩:=Option.map_eq_some_iff.mp hget
  obtain⟨g1,g2⟩:=List.getElem?_zip_eq_some.mp hz
  unfold hV at g2
  rw[List.getElem?_map]at g1 g2
  obtain⟨p,hp',rfl⟩:=Option.map_eq_some_iff.mp g1
  obtain⟨hd,hd',rfl⟩:=Option.map_eq_some_iff.mp g2
  have hlt:done.length < rs.length:=(List.getElem?_eq_some_iff.mp hp').1
  obtain⟨row,GM⟩:∃row,rows[done.length]?=some row:=⟨_,List.getElem?_eq_getElem (by rw[<-B.rl];exact hlt)⟩
  have Jf:=List.mem_of_getElem? GM
  have Ka:=X _ _ (B.rr _ p row hp' GM)
  have pa:=Cj hp (D.w row Jf)
  have Mg:(rows.zip held)[done.length]?=some (row,hd):=List.getElem?_zip_eq_some.mpr ⟨GM,hd'⟩
  have ef:((rows.zip held).take (done++[PV.tup [.ref p,.int (hd:Int)]]).length).foldl (HI n j q sg) (List.replicate n (cq q 0))=HI n j q sg (((rows.zip held).take done.length).foldl (HI n j q sg) (List.replicate n (cq q 0))) (row,hd):=by
   rw[List.length_append,List.length_singleton,List.take_succ,Mg,List.foldl_append];rfl
  have hlen:(((rows.zip held).take done.length).foldl (HI n j q sg) (List.replicate n (cq q 0))).length=n:=by rw[mS,List.length_replicate]
  generalize ((rows.zip held).take done.length).foldl (HI n j q sg) (List.replicate n (cq q 0))=acc at f ef hlen
  simp only[Tg.put,Tg.FH,List.set_cons_succ,List.set_cons_zero,cK,bg,ai,v3,lk,oK,bN,decide_eq_true_eq]
  by_cases KM:(hd:Int) < (n:Int)
  ·rw[if_pos KM]
   simp only[i9,ac,af,ai,cj,v3,lk,cw,X _ _ B.o,uV,true_and,ak,Ka,pa.1,aU]
   have NJ:Sz sg:=by rcases hs with rfl|rfl<;>exact bG jX
   refine⟨NJ.mul (D.s row Jf _ pa.2),FJ hq J_ ?_⟩
   simp only[fw,f]
   rw[hlen,kE (by omega)]
   refine hK _ _ ⟨X.put Iq,?_,_,_,rfl⟩
   rw[aa,ef]
   unfold HI
   rw[if_pos (by show hd < n;omega)]
  ·rw[if_neg KM]
   refine hK _ _ ⟨X,?_,_,_,rfl⟩
   rw[f,ef]
   unfold HI
   rw[if_neg (by show ¬hd < n;omega)]
 ·rintro σ S' ⟨X,f,x5,x6,rfl⟩
  refine hN _ _ ?_
  have ll:(aP (rs.map PV.ref) (hV held)).length=(rows.zip held).length:=by unfold aP hV;simp[B.rl]
  rw[ll,List.take_length]at f
  simp only[av,v3,lk]
  exact k p1 S' Iq X f
noncomputable def jR(d:Nat)(c:Cl):Bool:=decide (c.who=some d)&&c.eff.all fun e=>decide (0<=e)
noncomputable def p_(cs:List Cl)(d:Nat):List Nat:=(cs.zipIdx.filter fun p=>jR d p.1).map (·.2)
noncomputable def FP(cs:List Cl)(d:Nat):Nat:=(p_ cs d).getD 0 0
def qR{cs:List Cl}{d:Nat}(h:∃c∈cs,jR d c=true):∃c,cs[FP cs d]?=some c/\jR d c=true/\p_ cs d≠[]:=by
 obtain⟨c,hc,hf⟩:=h
 obtain⟨i,hi⟩:=List.getElem?_of_mem hc
 have hm:(c,i)∈cs.zipIdx:=by rw[List.mem_zipIdx_iff_getElem?];exact hi
 have hne:p_ cs d≠[]:=fun e=>by
  have:i∈p_ cs d:=List.mem_map.mpr ⟨(c,i),List.mem_filter.mpr ⟨hm,hf⟩,rfl⟩
  rw[e]at this;cases this
 obtain⟨x,r,e⟩:=List.exists_cons_of_ne_nil hne
 have hx:x∈p_ cs d:=by rw[e];simp
 obtain⟨⟨c',i'⟩,hp,rfl⟩:=List.mem_map.mp hx
 obtain⟨h1,h2⟩:=List.mem_filter.mp hp
 rw[List.mem_zipIdx_iff_getElem?]at h1
 refine⟨c',?_,h2,hne⟩
 unfold FP
 rw[e]
 exact h1
def Ec(cs:List Cl):L3.bh (cs.map Cl.pv)=cs.zipIdx.map fun p=>PV.tup [.int (p.2:Int),p.1.pv]:=by
 unfold L3.bh
 refine List.ext_getElem? fun i=>?_
 rw[List.getElem?_mapIdx,List.getElem?_map,List.getElem?_map,List.getElem?_zipIdx]
 cases cs[i]?<;>simp
def xq{ns:Vu}{M:Int}(h:L2.As ns 0 M):decide (0<=M)=ns.all fun e=>decide (0<=e):=by
 rw[Bool.eq_iff_iff,decide_eq_true_eq,List.all_eq_true]
 rcases h with⟨rfl,rfl⟩|⟨h1,h2⟩
 ·exact⟨(fun _ x hx=>by cases hx),fun _=>Int.le_refl _⟩
 ·constructor
  ·intro h x hx
   have:=h2 x hx
   exact decide_eq_true (by omega)
  ·intro h
   exact of_decide_eq_true (h M h1)
abbrev lU(w:aE):Prop:=∀{S:aw} {cs:List Cl} {d:Nat} {Q:bE} {E:ci},cs.length<=500->(∃c∈cs,jR d c=true)->(∀S',Ext S S'->Q (.int (FP cs d:Int)) S')->w [.tup (cs.map Cl.pv),.int (d:Int)] S Q E
def Hq:lU (bc 3 bi):=by
 intro S cs d Q E hl hex k
 unfold bi
 refine fe ?_
 rw[show au 3 [.tup (cs.map Cl.pv),.int (d:Int)]=[some (.tup (cs.map Cl.pv)),some (.int (d:Int)),none] from rfl]
 refine ay fun N hN=>?_
 simp only[ap,ar,hG,v3,lk]
 rw[Ec]
 refine iu (fun p:Cl×Nat=>PV.tup [.int (p.2:Int),p.1.pv]) (fun p=>.int (p.2:Int)) (fun p=>jR d p.1) trivial cs.zipIdx [] (fun p hp=>⟨_,rfl,fun K hK=>?_,fun _ Q' q=>?_⟩) (aY (by simp;omega)) ?_
 ·simp only[bJ,List.reduceReplicate,List.map_cons,List.map_nil,List.cons_append,List.nil_append,List.set_cons_zero,List.set_cons_succ,jK,bg,ai,v3,lk,c3,ak,Cl.pv,gC,yg]
  refine mL ?_
  unfold jR at hK
  by_cases hw:p.1.who=some d
  ·simp only[hw,decide_true,if_true,Bool.true_and]at hK ⊢
   simp only[qL,kz,wU,bN]
   intro M hM
   rw[xq hM]
   exact hK
  ·simp only[hw,decide_false,Bool.false_eq_true,if_false,Bool.false_and]at hK ⊢
   exact hK
 ·simp only[v3,lk,bJ,List.reduceReplicate,List.map_cons,List.map_nil,List.cons_append,List.nil_append,List.set_cons_zero,List.set_cons_succ]
  exact q
 intro p1 hp1
 have X1:Ext S (Fc S p1 (.lst ([]++(cs.zipIdx.filter fun p=>jR d p.1).map fun p=>PV.int (p.2:Int)))):=.new hp1
 have f1:(Fc S p1 (.lst ([]++(cs.zipIdx.filter fun p=>jR d p.1).map fun p=>PV.int (p.2:Int)))) p1=some (.lst ((p_ cs d).map fun i:Nat=>PV.int (i:Int))):=by rw[aa,List.nil_append];unfold p_;rw[List.map_map];rfl
 generalize Fc S p1 (.lst ([]++(cs.zipIdx.filter fun p=>jR d p.1).map fun p=>PV.int (p.2:Int)))=S1 at X1 f1
 obtain⟨c,_,_,hne⟩:=qR hex
 obtain⟨x,r,e⟩:=List.exists_cons_of_ne_nil hne
 have ex:FP cs d=x:=by unfold FP;rw[e];rfl
 rw[e]at f1
 simp only[List.set_cons_succ,List.set_cons_zero]
 refine hN _ _ ?_
 simp only[av,ai,v3,lk,c3,ak,f1,List.map_cons,gC]
 rw[ex]at k
 exact k S1 X1
structure Dm (rows:List (List Int)) (held:List Nat) (m V:Nat):Prop where
 rl:rows.length=m+1
 hl:held.length=m
 w:∀row∈rows,row.length=V+1
def uW{row ch:Vu}{c:Nat}{q:Int}(h:row.length=ch.length):(mN row ch c q).length=row.length:=by unfold mN;rw[List.length_zipWith];omega
def Dm.Hd{rows:List (List Int)}{held:List Nat}{m V r c:Nat}{q:Int}(h:Dm rows held m V)(hr:r<=m):Dm (jj rows r c q) (held.set r c) m V:=by
 have h1:=h.rl
 obtain⟨ch,hch⟩:∃ch,rows[r]?=some ch:=⟨_,List.getElem?_eq_getElem (by omega)⟩
 have Ks:=aA (d:=[]) hch
 have KK:=h.w ch (List.mem_of_getElem? hch)
 refine⟨by unfold jj;rw[List.length_set,List.length_map,h1],by rw[List.length_set,h.hl],fun row hm=>?_⟩
 unfold jj at hm
 rw[Ks]at hm
 rcases List.mem_or_eq_of_mem_set hm with hm|rfl
 ·obtain⟨JA,h0,rfl⟩:=List.mem_map.mp hm
  rw[uW (by rw[h.w JA h0,KK]),h.w JA h0]
 ·exact KK
def sG(row ch:Vu)(c:Nat)(q:Int)(h:row.length=ch.length)(j:Nat):(mN row ch c q).getD j 0=(row.getD j 0 * ch.getD c 0 - row.getD c 0 * ch.getD j 0).fdiv q:=by
 unfold mN
 rw[List.getD_eq_getElem?_getD (l:=List.zipWith _ _ _),List.getElem?_zipWith]
 by_cases hj:j < row.length
 ·have e1:=List.getElem?_eq_getElem hj
  have e2:=List.getElem?_eq_getElem (show j < ch.length by omega)
  rw[e1,e2,aA e1,aA e2]
  rfl
 ·have e1:row[j]?=none:=List.getElem?_eq_none (by omega)
  have e2:ch[j]?=none:=List.getElem?_eq_none (by omega)
  rw[e1,List.getD_eq_getElem?_getD (i:=j),e1,List.getD_eq_getElem?_getD (i:=j),e2]
  simp
def mT{rows:List (List Int)}{held:List Nat}{m V r c:Nat}{q:Int}(h:Dm rows held m V)(hr:r < m):toS (jj rows r c q) (held.set r c) ((rows.getD r []).getD c 0)=Wg.Hd (toS rows held q) r c:=by
 have h1:=h.rl
 have h2:=h.hl
 obtain⟨ch,hch⟩:∃ch,rows[r]?=some ch:=⟨_,List.getElem?_eq_getElem (by omega)⟩
 have Ks:=aA (d:=[]) hch
 have KK:=h.w ch (List.mem_of_getElem? hch)
 have eT:(toS (jj rows r c q) (held.set r c) ((rows.getD r []).getD c 0)).T=(Wg.Hd (toS rows held q) r c).T:=by
  funext i j
  show((jj rows r c q).getD i []).getD j 0=if i=r then (rows.getD r []).getD j 0 else ((rows.getD i []).getD j 0 * (rows.getD r []).getD c 0 - (rows.getD i []).getD c 0 * (rows.getD r []).getD j 0).fdiv q
  unfold jj
  rw[Ks,List.getD_eq_getElem?_getD (l:=List.set _ _ _),List.getElem?_set]
  by_cases e:i=r
  ·subst e
   rw[if_pos rfl,if_pos rfl,if_pos (by rw[List.length_map];omega)];rfl
  ·rw[if_neg (Ne.symm e),if_neg e,List.getElem?_map]
   by_cases hi:i < rows.length
   ·have ei:=List.getElem?_eq_getElem hi
    rw[ei,aA ei]
    show(mN rows[i] ch c q).getD j 0=_
    rw[sG _ _ _ _ (by rw[h.w _ (List.getElem_mem hi),KK])]
   ·have ei:rows[i]?=none:=List.getElem?_eq_none (by omega)
    rw[ei,List.getD_eq_getElem?_getD (l:=rows),ei]
    simp
 have eH:(toS (jj rows r c q) (held.set r c) ((rows.getD r []).getD c 0)).held=(Wg.Hd (toS rows held q) r c).held:=by
  funext i
  show(held.set r c).getD i 0=if i=r then c else held.getD i 0
  rw[List.getD_eq_getElem?_getD,List.getElem?_set]
  by_cases e:i=r
  ·subst e;rw[if_pos rfl,if_pos rfl,if_pos (by omega)];rfl
  ·rw[if_neg (Ne.symm e),if_neg e,List.getD_eq_getElem?_getD]
 have eq:∀x y:Wg.Sx,x.T=y.T->x.held=y.held->x.q=y.q->x=y:=fun x y a b c=>by cases x;cases y;cases a;cases b;cases c;rfl
 exact eq _ _ eT eH rfl
structure bB (cs:List Cl) (mix:Vu) (k:Nat):Prop where
 n1:1<=cs.length
 n2:cs.length<=100
 k1:k<=8
 d1:mix.length<=8
 ef:∀c∈cs,c.eff.length=k
 eb:∀c∈cs,∀e∈c.eff,e.natAbs<=2 ^ 30
 lo:∀c∈cs,M3.zI c.x (c.y:Int)
 x0:∀c∈cs,0<=c.x/\c.x<=2 ^ 30
 yd:∀c∈cs,0 < c.y/\c.y ∣ 2520
 wd:∀c∈cs,∀d,c.who=some d->d < mix.length
 fx:∀d,d < mix.length->∃c∈cs,jR d c=true
 m0:∀x∈mix,0<=x/\x<=2 ^ 30
noncomputable def cbO(cs:List Cl):Nat:=sE 1 (cs.map (·.y))
noncomputable def dY(cs:List Cl)(mix:Vu)(k:Nat):List (List Int):=(List.range mix.length).map (jg cs k mix)++(List.range k).map (jh cs k)++[pT cs k (cbO cs)]
noncomputable def e7(cs:List Cl)(mix:Vu)(k:Nat):List Nat:=(List.range (mix.length+k)).map fun i=>cs.length+i - mix.length
noncomputable def sH(cs:List Cl)(mix:Vu)(k:Nat):Nat->List (List Int)
 |0=>dY cs mix k
 |d+1=>jj (sH cs mix k d) d (FP cs d) 1
noncomputable def sU(cs:List Cl)(mix:Vu)(k:Nat):Nat->List Nat
 |0=>e7 cs mix k
 |d+1=>(sU cs mix k d).set d (FP cs d)
noncomputable def Ao(cs:List Cl)(mix:Vu)(k:Nat)(i j:Nat):Int:=((dY cs mix k).getD i []).getD j 0
section
variable {cs:List Cl} {mix:Vu} {k:Nat}
def Ee{d:Nat}(h:d < mix.length):(dY cs mix k)[d]?=some (jg cs k mix d):=by
 unfold dY
 rw[List.getElem?_append_left (by simp;omega),List.getElem?_append_left (by simp;omega),List.getElem?_map,List.getElem?_range h];rfl
def Ef{t:Nat}(h:t < k):(dY cs mix k)[mix.length+t]?=some (jh cs k t):=by
 unfold dY
 rw[List.getElem?_append_left (by simp;omega),List.getElem?_append_right (by simp),List.length_map,List.length_range,Nat.add_sub_cancel_left,List.getElem?_map,List.getElem?_range h];rfl
def Eg:(dY cs mix k)[mix.length+k]?=some (pT cs k (cbO cs)):=by
 unfold dY
 rw[List.getElem?_append_right (by simp)]
 simp
def Eh{d j:Nat}(h:d < mix.length):Ao cs mix k d j=(jg cs k mix d).getD j 0:=by unfold Ao;rw[aA (Ee h)]
def Ei{t j:Nat}(h:t < k):Ao cs mix k (mix.length+t) j=(jh cs k t).getD j 0:=by unfold Ao;rw[aA (Ef h)]
def EF{j:Nat}:Ao cs mix k (mix.length+k) j=(pT cs k (cbO cs)).getD j 0:=by unfold Ao;rw[aA Eg]
def qc{xs ys:Vu}{j:Nat}(h:j < xs.length):(xs++ys).getD j 0=xs.getD j 0:=by rw[List.getD_eq_getElem?_getD,List.getElem?_append_left h,List.getD_eq_getElem?_getD]
def uX{xs ys:Vu}{j n:Nat}(h:xs.length=n):(xs++ys).getD (n+j) 0=ys.getD j 0:=by rw[List.getD_eq_getElem?_getD,List.getElem?_append_right (by omega),List.getD_eq_getElem?_getD,show n+j - xs.length=j by omega]
def dh{f:Cl->Int}{j:Nat}{c:Cl}(h:cs[j]?=some c):(cs.map f).getD j 0=f c:=aA (by rw[List.getElem?_map,h];rfl)
def sI{d j:Nat}(h:d < mix.length){c:Cl}(hc:cs[j]?=some c):Ao cs mix k d j=w1 d c:=by
 have hj:=(List.getElem?_eq_some_iff.mp hc).1
 rw[Eh h];unfold jg
 rw[qc (by simp;omega),qc (by simp;exact hj),dh hc]
def xr{d t:Nat}(h:d < mix.length)(ht:t < k):Ao cs mix k d (cs.length+t)=0:=by
 rw[Eh h];unfold jg
 rw[qc (by simp;omega),uX (by simp)]
 rw[List.getD_eq_getElem?_getD,List.getElem?_replicate];split<;>rfl
def uY{d:Nat}(h:d < mix.length):Ao cs mix k d (cs.length+k)=mix.getD d 0:=by
 rw[Eh h];unfold jg
 have:=uX (xs:=cs.map (w1 d)++List.replicate k 0) (ys:=[mix.getD d 0]) (j:=0) (n:=cs.length+k) (by simp)
 rw[Nat.add_zero]at this
 rw[this];rfl
def xu{t j:Nat}(h:t < k){c:Cl}(hc:cs[j]?=some c):Ao cs mix k (mix.length+t) j = - c.eff.getD t 0:=by
 have hj:=(List.getElem?_eq_some_iff.mp hc).1
 rw[Ei h];unfold jh
 rw[qc (by simp;omega),qc (by simp;exact hj),dh hc]
def sJ{t u:Nat}(h:t < k)(hu:u < k):Ao cs mix k (mix.length+t) (cs.length+u)=if u=t then 1 else 0:=by
 rw[Ei h];unfold jh
 rw[qc (by simp;omega),uX (by simp)]
 exact aA (by rw[List.getElem?_map,List.getElem?_range hu];rfl)
def xv{t:Nat}(h:t < k):Ao cs mix k (mix.length+t) (cs.length+k)=0:=by
 rw[Ei h];unfold jh
 have:=uX (xs:=cs.map (fun c=>- c.eff.getD t 0)++(List.range k).map (fun o=>if o=t then (1:Int) else 0)) (ys:=[0]) (j:=0) (n:=cs.length+k) (by simp)
 rw[Nat.add_zero]at this
 rw[this];rfl
def Ay{j:Nat}{c:Cl}(hc:cs[j]?=some c):Ao cs mix k (mix.length+k) j = - c.x * ((cbO cs / c.y:Nat):Int):=by
 have hj:=(List.getElem?_eq_some_iff.mp hc).1
 rw[EF];unfold pT
 rw[qc (by simp;exact hj),dh hc]
def qd{t:Nat}(ht:t<=k):Ao cs mix k (mix.length+k) (cs.length+t)=0:=by
 rw[EF];unfold pT
 rw[uX (by simp),List.getD_eq_getElem?_getD,List.getElem?_replicate];split<;>rfl
end
section
variable {cs:List Cl} {mix:Vu} {k:Nat}
def Az:∀(hs:List Nat) (n:Nat),hs.Nodup->(∀z∈hs,z < n)->hs.length<=n:=by
 intro hs n hn hl
 have:∀(n:Nat) (hs:List Nat),hs.Nodup->(∀z∈hs,z < n)->hs.length<=n:=by
  intro n
  induction n with
  |zero=>intro hs _ h;cases hs with|nil=>exact Nat.le_refl _|cons a r=>exact absurd (h a (by simp)) (Nat.not_lt_zero _)
  |succ n ih=>
   intro hs hn h
   have h1:=ih (hs.erase n) (hn.erase n) fun z hz=>by
    have h2:=(List.Nodup.mem_erase_iff hn).mp hz
    have:=h z h2.2
    have:=h2.1
    omega
   have:=List.length_erase_le (a:=n) (l:=hs)
   by_cases hm:n∈hs
   ·rw[List.length_erase_of_mem hm]at h1;omega
   ·rw[List.erase_of_not_mem hm]at h1;omega
 exact this n hs hn hl
def dG(P:bB cs mix k){d:Nat}(hd:d < mix.length):∃c,cs[FP cs d]?=some c/\c∈cs/\c.who=some d/\(∀e∈c.eff,0<=e)/\FP cs d < cs.length:=by
 obtain⟨c,hc,hf,_⟩:=qR (P.fx d hd)
 unfold jR at hf
 rw[Bool.and_eq_true,decide_eq_true_eq,List.all_eq_true]at hf
 exact⟨c,hc,List.mem_of_getElem? hc,hf.1,fun e he=>of_decide_eq_true (hf.2 e he),(List.getElem?_eq_some_iff.mp hc).1⟩
def oo(P:bB cs mix k):mix.length<=cs.length:=by
 have:=Az ((List.range mix.length).map (FP cs)) cs.length (by
  refine List.pairwise_map.mpr (List.Pairwise.imp_of_mem (fun{a b} ha hb hne e=>hne ?_) (List.nodup_range (n:=mix.length)))
  obtain⟨c,h1,_,h2,_⟩:=dG P (List.mem_range.mp ha)
  obtain⟨c',h3,_,h4,_⟩:=dG P (List.mem_range.mp hb)
  rw[e,h3]at h1
  cases h1
  rw[h2]at h4
  exact Option.some.inj h4) (fun z hz=>by
  obtain⟨d,hd,rfl⟩:=List.mem_map.mp hz
  obtain⟨_,_,_,_,_,h⟩:=dG P (List.mem_range.mp hd)
  exact h)
 rw[List.length_map,List.length_range]at this
 exact this
def EG(P:bB cs mix k):Dm (dY cs mix k) (e7 cs mix k) (mix.length+k) (cs.length+k):=by
 refine⟨by simp[dY];omega,by simp[e7],fun row hm=>?_⟩
 unfold dY at hm
 rw[List.mem_append,List.mem_append,List.mem_map,List.mem_map,List.mem_singleton]at hm
 rcases hm with(⟨d,_,rfl⟩|⟨t,_,rfl⟩)|rfl
 ·simp[jg];omega
 ·simp[jh];omega
 ·simp[pT];omega
theorem Ck(P:bB cs mix k):∀d,d<=mix.length->Dm (sH cs mix k d) (sU cs mix k d) (mix.length+k) (cs.length+k)
 |0,_=>EG P
 |d+1,h=>(Ck P d (by omega)).Hd (by omega)
noncomputable def bb(cs:List Cl)(mix:Vu)(k d:Nat)(i:Nat):Wg.Vc:=if i < d then Wg.cl (Ao cs mix k) (FP cs i) else Wg.eu i
noncomputable def Ts(cs:List Cl)(mix:Vu)(k d i j:Nat):Int:=((sH cs mix k d).getD i []).getD j 0
def Tab.bnd{m N:Nat}{A T:Nat->Nat->Int}{b:Nat->Wg.Vc}{q:Int}{C:Nat}(h:Wg.Tab m N A T b q)(hA:∀i j,i<=m->j < N->(A i j).natAbs<=C)(hb:∀i kk,i<=m->kk<=m->(b i kk).natAbs<=C):∀i j,i<=m->j < N->(T i j).natAbs<=Wg.Kb C (m+1):=fun i j hi hj=>by
 rw[h.ent hi hj]
 refine Wg.mR C _ _ fun l kk hl hk=>?_
 by_cases e:l=i
 ·subst e;rw[Wg.aH];exact hA kk j (by omega) hj
 ·rw[Wg.a7 e];exact hb l kk (by omega) (by omega)
structure C8 (cs:List Cl) (mix:Vu) (k d:Nat):Prop where
 tab:Wg.Tab (mix.length+k) (cs.length+k+1) (Ao cs mix k) (Ts cs mix k d) (bb cs mix k d) 1
 GQ:∀i j,i < mix.length->Ts cs mix k d i j=Ao cs mix k i j
 Jp:∀t j,t < k->Ts cs mix k d (mix.length+t) j=Ao cs mix k (mix.length+t) j+Wg.sm d fun e=>(cs.getD (FP cs e) ⟨none,0,1,[]⟩).eff.getD t 0 * Ao cs mix k e j
def qS(P:bB cs mix k){d e:Nat}(hd:d < mix.length)(he:e < mix.length):Ao cs mix k e (FP cs d)=if e=d then 1 else 0:=by
 obtain⟨c,h1,_,h2,_⟩:=dG P hd
 rw[sI he h1]
 unfold w1
 rw[h2]
 by_cases h:e=d
 ·subst h;rw[if_pos rfl,if_pos rfl]
 ·rw[if_neg h,if_neg fun h'=>h (Option.some.inj h').symm]
def Ej(P:bB cs mix k):C8 cs mix k 0 where
 tab:=⟨fun j kk hj hk=>by
   rw[Int.one_mul,Wg.bj (i:=kk) (by omega)]
   ·show _=Ao cs mix k kk j * bb cs mix k 0 kk kk
    unfold bb Wg.eu
    simp
   ·intro l hl hne
    unfold bb Wg.eu
    simp[Ne.symm hne],Wg.yn _ _ fun i kk hi hk=>by unfold bb;rw[if_neg (Nat.not_lt_zero _)],by decide,fun kk=>by unfold bb;rw[if_neg (Nat.not_lt_zero _)]⟩
 GQ:=fun i j h=>rfl
 Jp:=fun t j h=>by show Ao cs mix k (mix.length+t) j=_+0;rw[Int.add_zero]
def uZ(P:bB cs mix k){d:Nat}(hd:d < mix.length)(h:C8 cs mix k d):C8 cs mix k (d+1):=by
 have D:=Ck P d (by omega)
 obtain⟨c,hc,hcm,hw,he,hlt⟩:=dG P hd
 have p1:Ts cs mix k d d (FP cs d)=1:=by rw[h.GQ d _ hd,qS P hd hd,if_pos rfl]
 have q1:((sH cs mix k d).getD d []).getD (FP cs d) 0=1:=p1
 have eS:=mT (q:=1) (c:=FP cs d) D (show d < mix.length+k by omega)
 have eT:∀i j,Ts cs mix k (d+1) i j=if i=d then Ts cs mix k d d j else (Ts cs mix k d i j * Ts cs mix k d d (FP cs d) - Ts cs mix k d i (FP cs d) * Ts cs mix k d d j).fdiv 1:=fun i j=>by
  have:=congrFun (congrFun (congrArg Wg.Sx.T eS) i) j
  exact this
 have MR:∀i j,i≠d->Ts cs mix k (d+1) i j=Ts cs mix k d i j - Ts cs mix k d i (FP cs d) * Ao cs mix k d j:=fun i j hne=>by
  rw[eT i j,if_neg hne,p1,Int.mul_one,h.GQ d j hd,Int.fdiv_one]
 have MS:∀j,Ts cs mix k (d+1) d j=Ts cs mix k d d j:=fun j=>by rw[eT d j,if_pos rfl]
 obtain⟨_,tb⟩:=h.tab.Hd (r:=d) (c:=FP cs d) (T2:=Ts cs mix k (d+1)) (by omega) (by omega) (by rw[p1];decide) (fun j _=>MS j) (fun i j _ hne _=>by rw[eT i j,if_neg hne])
 refine⟨?_,fun i j hi=>?_,fun t j ht=>?_⟩
 ·rw[p1]at tb
  have eb:Wg.ud (bb cs mix k d) d (Wg.cl (Ao cs mix k) (FP cs d))=bb cs mix k (d+1):=by
   funext i
   unfold Wg.ud bb
   by_cases e:i=d
   ·subst e;rw[if_pos rfl,if_pos (by omega)]
   ·rw[if_neg e]
    by_cases h2:i < d
    ·rw[if_pos h2,if_pos (by omega)]
    ·rw[if_neg h2,if_neg (by omega)]
  rw[eb]at tb
  exact tb
 ·by_cases e:i=d
  ·subst e;rw[MS];exact h.GQ i j hi
  ·rw[MR i j e,h.GQ i j hi,h.GQ i _ hi,qS P hd hi,if_neg e,Int.zero_mul,Int.sub_zero]
 ·rw[MR _ j (by omega),h.Jp t j ht,h.Jp t _ ht,xu ht hc]
  have z:Wg.sm d (fun e=>(cs.getD (FP cs e) ⟨none,0,1,[]⟩).eff.getD t 0 * Ao cs mix k e (FP cs d))=0:=Wg.br (fun e he'=>by rw[qS P hd (show e < mix.length by omega),if_neg (by omega),Int.mul_zero])
  rw[z]
  simp only[Wg.sm]
  rw[show cs.getD (FP cs d) ⟨none,0,1,[]⟩=c from aA hc,Int.add_zero,Int.neg_mul]
  omega
theorem xx(P:bB cs mix k):∀d,d<=mix.length->C8 cs mix k d
 |0,_=>Ej P
 |d+1,h=>uZ P (by omega) (xx P d (by omega))
noncomputable def Cb:Nat:=2 ^ 42
def qT(P:bB cs mix k):∀i j,i<=mix.length+k->j<=cs.length+k->(Ao cs mix k i j).natAbs<=Cb:=by
 intro i j hi hj
 have col:j < cs.length->∃c,cs[j]?=some c/\c∈cs:=fun h=>⟨_,List.getElem?_eq_getElem h,List.getElem_mem h⟩
 have one:(1:Int).natAbs<=Cb:=by decide
 have nought:(0:Int).natAbs<=Cb:=by decide
 have big:(2:Nat) ^ 30<=Cb:=by decide
 have sp:j < cs.length\/(∃t,t < k/\j=cs.length+t)\/j=cs.length+k:=by
  by_cases h1:j < cs.length
  ·exact .inl h1
  ·by_cases h2:j=cs.length+k
   ·exact .inr (.inr h2)
   ·exact .inr (.inl ⟨j - cs.length,by omega,by omega⟩)
 by_cases h1:i < mix.length
 ·rcases sp with h|⟨t,ht,rfl⟩|rfl
  ·obtain⟨c,hc,_⟩:=col h
   rw[sI h1 hc];unfold w1;split
   ·exact one
   ·exact nought
  ·rw[xr h1 ht];exact nought
  ·rw[uY h1]
   have e:=List.getElem?_eq_getElem h1
   rw[aA e]
   have:=P.m0 _ (List.getElem_mem h1)
   omega
 ·by_cases h2:i=mix.length+k
  ·subst h2
   rcases sp with h|⟨t,ht,rfl⟩|rfl
   ·obtain⟨c,hc,hm⟩:=col h
    rw[Ay hc]
    have x0:=P.x0 c hm
    have ok:=kC 2520 (by decide) (cs.map (·.y)) 1 (by decide) (Nat.one_dvd _) fun y hy=>by obtain⟨c,h,rfl⟩:=List.mem_map.mp hy;exact P.yd c h
    have l1:cbO cs<=2520:=ir ok.2.1
    have l2:cbO cs / c.y<=2520:=Nat.le_trans (Nat.div_le_self _ _) l1
    rw[Int.natAbs_mul]
    have a1:(-c.x).natAbs<=2 ^ 30:=by omega
    have a2:(((cbO cs / c.y:Nat):Int)).natAbs<=2 ^ 12:=by rw[Int.natAbs_natCast];exact Nat.le_trans l2 (by decide)
    exact Nat.le_trans (Nat.mul_le_mul a1 a2) (by decide)
   ·rw[qd (by omega)];exact nought
   ·rw[qd (Nat.le_refl _)];exact nought
  ·obtain⟨u,hu,rfl⟩:∃u,u < k/\i=mix.length+u:=⟨i - mix.length,by omega,by omega⟩
   rcases sp with h|⟨t,ht,rfl⟩|rfl
   ·obtain⟨c,hc,hm⟩:=col h
    rw[xu hu hc,Int.natAbs_neg]
    have hl:u < c.eff.length:=by rw[P.ef c hm];exact hu
    rw[aA (List.getElem?_eq_getElem hl)]
    exact Nat.le_trans (P.eb c hm _ (List.getElem_mem hl)) big
   ·rw[sJ hu ht];split
    ·exact one
    ·exact nought
   ·rw[xv hu];exact nought
def u4:∀m,m<=16->Wg.Kb Cb (m+1) < dF:=by
 have:∀m,m<=17->Wg.Kb Cb m<=2 ^ (50 * m):=by
  intro m
  induction m with
  |zero=>intro _;exact Nat.le_refl _
  |succ m ih=>
   intro h
   show(m+1) * (Cb * Wg.Kb Cb m)<=2 ^ (50 * (m+1))
   have h1:=ih (by omega)
   have e:(2:Nat) ^ (50 * (m+1))=2 ^ 8 * (2 ^ 42 * 2 ^ (50 * m)):=by rw[<-Nat.pow_add,<-Nat.pow_add];congr 1;omega
   rw[e]
   exact Nat.mul_le_mul (by omega) (Nat.mul_le_mul (Nat.le_refl _) h1)
 intro m hm
 refine Nat.lt_of_le_of_lt (this (m+1) (by omega)) ?_
 unfold dF
 exact Nat.pow_lt_pow_right (by decide) (by omega)
def AA(P:bB cs mix k){d:Nat}(hd:d<=mix.length):∀i kk,i<=mix.length+k->kk<=mix.length+k->(bb cs mix k d i kk).natAbs<=Cb:=fun i kk hi hk=>by
 unfold bb
 split
 ·rename_i h
  obtain⟨_,_,_,_,_,hlt⟩:=dG P (show i < mix.length by omega)
  exact qT P kk _ hk (by omega)
 ·unfold Wg.eu;split<;>decide
def u5{rows:List (List Int)}{held:List Nat}{m V:Nat}(D:Dm rows held m V)(hm:m<=16)(hv:V<=400)(hb:∀i j,i<=m->j<=V->((rows.getD i []).getD j 0).natAbs < dF):Dim rows held m V:=by
 refine⟨D.rl,D.hl,D.w,by omega,hv,fun row hr x hx=>?_⟩
 obtain⟨i,hi⟩:=List.getElem?_of_mem hr
 obtain⟨j,hj⟩:=List.getElem?_of_mem hx
 have h1:=(List.getElem?_eq_some_iff.mp hi).1
 have h2:=(List.getElem?_eq_some_iff.mp hj).1
 have:=hb i j (by rw[D.rl]at h1;omega) (by rw[D.w row hr]at h2;omega)
 rw[aA hi,aA hj]at this
 exact bG (by omega)
def Ek(P:bB cs mix k){d:Nat}(hd:d<=mix.length):Dim (sH cs mix k d) (sU cs mix k d) (mix.length+k) (cs.length+k):=by
 have a:=P.k1;have b:=P.d1;have c:=P.n2
 refine u5 (Ck P d hd) (by omega) (by omega) fun i j hi hj=>?_
 refine Nat.lt_of_le_of_lt (Tab.bnd (xx P d hd).tab (C:=Cb) (fun i j hi hj=>qT P i j hi (by omega)) (AA P hd) i j hi (by omega)) (u4 _ (by omega))
theorem u6(P:bB cs mix k):∀d,d<=mix.length->∀i,i < mix.length+k->(sU cs mix k d).getD i 0=if i < d then FP cs i else cs.length+i - mix.length
 |0,_,i,hi=>by
  rw[if_neg (Nat.not_lt_zero _)]
  show(e7 cs mix k).getD i 0=_
  unfold e7
  exact aA (by rw[List.getElem?_map,List.getElem?_range hi];rfl)
 |d+1,h,i,hi=>by
  show((sU cs mix k d).set d (FP cs d)).getD i 0=_
  have hl:=(Ck P d (by omega)).hl
  have ih:=u6 P d (by omega) i hi
  rw[List.getD_eq_getElem?_getD,List.getElem?_set]
  by_cases e:i=d
  ·subst e;rw[if_pos rfl,if_pos (by omega),if_pos (by omega)];rfl
  ·rw[if_neg (Ne.symm e),<-List.getD_eq_getElem?_getD,ih]
   by_cases h2:i < d
   ·rw[if_pos h2,if_pos (by omega)]
   ·rw[if_neg h2,if_neg (by omega)]
def El(P:bB cs mix k):Wg.Val (mix.length+k) (cs.length+k) (Ao cs mix k) (toS (sH cs mix k mix.length) (sU cs mix k mix.length) 1) (bb cs mix k mix.length):=by
 have I:=xx P mix.length (Nat.le_refl _)
 have hn:=oo P
 have hh:∀i,i < mix.length+k->(toS (sH cs mix k mix.length) (sU cs mix k mix.length) 1).held i=if i < mix.length then FP cs i else cs.length+i - mix.length:=fun i hi=>u6 P _ (Nat.le_refl _) i hi
 refine⟨I.tab,fun i hi=>?_,fun i kk hi hk=>?_,fun i hi=>?_⟩
 ·rw[hh i hi]
  split
  ·rename_i h
   obtain⟨_,_,_,_,_,hlt⟩:=dG P h
   omega
  ·omega
 ·rw[hh i hi]
  unfold bb
  by_cases h:i < mix.length
  ·rw[if_pos h,if_pos h];rfl
  ·rw[if_neg h,if_neg h]
   obtain⟨t,ht,rfl⟩:∃t,t < k/\i=mix.length+t:=⟨i - mix.length,by omega,by omega⟩
   rw[show cs.length+(mix.length+t) - mix.length=cs.length+t by omega]
   unfold Wg.eu
   by_cases h1:kk < mix.length
   ·rw[xr h1 ht,if_neg (by omega)]
   ·by_cases h2:kk=mix.length+k
    ·rw[h2,qd (by omega),if_neg (by omega)]
    ·obtain⟨u,hu,rfl⟩:∃u,u < k/\kk=mix.length+u:=⟨kk - mix.length,by omega,by omega⟩
     rw[sJ hu ht]
     by_cases h3:t=u
     ·rw[if_pos h3,if_pos (by omega)]
     ·rw[if_neg h3,if_neg (by omega)]
 ·show 0<=Ts cs mix k mix.length i (cs.length+k)
  by_cases h:i < mix.length
  ·rw[I.GQ i _ h,uY h,aA (List.getElem?_eq_getElem h)]
   exact(P.m0 _ (List.getElem_mem h)).1
  ·obtain⟨t,ht,rfl⟩:∃t,t < k/\i=mix.length+t:=⟨i - mix.length,by omega,by omega⟩
   rw[I.Jp t _ ht,xv ht,Int.zero_add]
   refine Wg.eZ fun e he=>?_
   obtain⟨c,hc,hm,_,hpos,_⟩:=dG P he
   rw[aA hc,uY he,aA (List.getElem?_eq_getElem he)]
   have hl:t < c.eff.length:=by rw[P.ef c hm];exact ht
   rw[aA (List.getElem?_eq_getElem hl)]
   exact Int.mul_nonneg (hpos _ (List.getElem_mem hl)) (P.m0 _ (List.getElem_mem he)).1
end
abbrev oq(w:aE):Prop:=∀{S:aw} {x R H:Addr} {Q:bE} {E:ci},S x=some (.ins "Balance" [])->(∀S',S' x=some (.ins "Balance" (bF R H 1))->(∀b o,S b=some o->b≠x->S' b=some o)->Q .non S')->w [.ref x,.ref R,.ref H] S Q E
def Ic:oq (bc 3 cD):=by
 intro S x R H Q E h k
 unfold cD
 refine fe ?_
 rw[show au 3 [PV.ref x,.ref R,.ref H]=[some (.ref x),some (.ref R),some (.ref H)] from rfl]
 refine ay fun N hN=>?_
 simp only[gJ,v3,lk,cw,h,true_and]
 refine⟨by simp,hN _ _ (ay fun N hN=>?_)⟩
 have h1:(Fc S x (.ins "Balance" (putF3 ("rows":Str) (.ref R) []))) x=some (.ins "Balance" [("rows",.ref R)]):=aa
 have k1:∀b o,S b=some o->b≠x->(Fc S x (.ins "Balance" (putF3 ("rows":Str) (.ref R) []))) b=some o:=fun b o hb hn=>by rw[aq hn];exact hb
 generalize Fc S x (.ins "Balance" (putF3 ("rows":Str) (.ref R) []))=S1 at h1 k1
 simp only[gJ,v3,lk,cw,h1,true_and]
 refine⟨by simp,hN _ _ ?_⟩
 have p2:putF3 ("held":Str) (.ref H) [(("rows":Str),PV.ref R)]=[(("rows":Str),PV.ref R),(("held":Str),PV.ref H)]:=by simp[putF3,dr]
 rw[p2]
 have h2:(Fc S1 x (.ins "Balance" [("rows",.ref R),("held",.ref H)])) x=some (.ins "Balance" [("rows",.ref R),("held",.ref H)]):=aa
 have k2:∀b o,S1 b=some o->b≠x->(Fc S1 x (.ins "Balance" [("rows",.ref R),("held",.ref H)])) b=some o:=fun b o hb hn=>by rw[aq hn];exact hb
 generalize Fc S1 x (.ins "Balance" [("rows",.ref R),("held",.ref H)])=S2 at h2 k2
 simp only[gJ,v3,lk,c3,cw,h2,true_and]
 refine⟨by simp,?_⟩
 have p3:putF3 ("bottom":Str) (.int 1) [(("rows":Str),PV.ref R),(("held":Str),PV.ref H)]=bF R H 1:=by simp[putF3,dr,bF]
 rw[p3]
 exact k _ aa fun b o hb hn=>by rw[aq hn];exact k2 _ _ (k1 _ _ hb hn) hn
structure News (S S':aw) (ns:List Addr) (rows:List (List Int)):Prop where
 l:ns.length=rows.length
 x:Ext S S'
 f:∀n∈ns,S n=none
 r:∀(i:Nat) n row,ns[i]?=some n->rows[i]?=some row->S' n=some (.lst (row.map PV.int))
def News.snoc{S S1 S2:aw}{ns:List Addr}{rows:List (List Int)}{p:Addr}{row:Vu}(h:News S S1 ns rows)(hp:S1 p=none)(X:Ext S1 S2)(f:S2 p=some (.lst (row.map PV.int))):News S S2 (ns++[p]) (rows++[row]):=by
 refine⟨by simp[h.l],h.x.trans X,fun n hn=>?_,fun i n rw' hn hr=>?_⟩
 ·rcases List.mem_append.mp hn with h'|h'
  ·exact h.f n h'
  ·rw[List.mem_singleton.mp h'];exact h.x.free hp
 ·by_cases hi:i < ns.length
  ·rw[List.getElem?_append_left hi]at hn
   rw[List.getElem?_append_left (by rw[<-h.l];exact hi)]at hr
   exact X _ _ (h.r i n rw' hn hr)
  ·rw[List.getElem?_append_right (by omega)]at hn
   rw[List.getElem?_append_right (by rw[<-h.l];omega)]at hr
   have e0:i - ns.length=0:=by have:=(List.getElem?_eq_some_iff.mp hn).1;rw[List.length_singleton]at this;omega
   rw[e0]at hn
   rw[<-h.l,e0]at hr
   cases hn;cases hr
   exact f
def News.ext{S S1 S2:aw}{ns:List Addr}{rows:List (List Int)}(h:News S S1 ns rows)(X:Ext S1 S2):News S S2 ns rows:=⟨h.l,h.x.trans X,h.f,fun i n row a b=>X _ _ (h.r i n row a b)⟩
def News.both{S S1 S2:aw}{ns ms:List Addr}{rows KN:List (List Int)}(h:News S S1 ns rows)(g:News S1 S2 ms KN):News S S2 (ns++ms) (rows++KN):=by
 refine⟨by simp[h.l,g.l],h.x.trans g.x,fun n hn=>?_,fun i n row hn hr=>?_⟩
 ·rcases List.mem_append.mp hn with h'|h'
  ·exact h.f n h'
  ·exact h.x.free (g.f n h')
 ·by_cases hi:i < ns.length
  ·rw[List.getElem?_append_left hi]at hn
   rw[List.getElem?_append_left (by rw[<-h.l];exact hi)]at hr
   exact g.x _ _ (h.r i n row hn hr)
  ·rw[List.getElem?_append_right (by omega)]at hn
   rw[List.getElem?_append_right (by rw[<-h.l];omega)]at hr
   rw[<-h.l]at hr
   exact g.r _ n row hn hr
def kG{f:Nat->List Int}{n i:Nat}(h:i < n):((List.range n).map f).take (i+1)=((List.range n).map f).take i++[f i]:=by
 rw[List.take_succ,List.getElem?_map,List.getElem?_range h];rfl
def jk{α:Type}{f:Nat->α}{n:Nat}:((List.range n).map f).take n=(List.range n).map f:=List.take_of_length_le (by simp)
abbrev jl(w:aE):Prop:=∀{S:aw} {cs:List Cl} {mix:Vu} {k:Nat} {Q:bE} {E:ci},bB cs mix k->
 (∀S' a R H rs,S a=none->S H=none->Ext S S'->BalAt S' a R H rs (sH cs mix k mix.length) (sU cs mix k mix.length) 1->Q (.ref a) S')->w [.tup (cs.map Cl.pv),.int (k:Int),.tup (mix.map PV.int)] S Q E
def u7{x0 x1 x2 x3 x4 x5:aE}(Io:mM x0)(HX:og x1)(HY:oh x2)(Ic:oq x3)(GY:iR x4)(Hq:lU x5):jl (bc 8 (fE x0 x1 x2 x3 x4 x5)):=by
 intro S cs mix k Q E P kk
 unfold fE
 refine fe ?_
 rw[show au 8 [.tup (cs.map Cl.pv),.int (k:Int),.tup (mix.map PV.int)]=[some (.tup (cs.map Cl.pv)),some (.int (k:Int)),some (.tup (mix.map PV.int)),none,none,none,none,none] from rfl]
 have n2:=P.n2;have k1:=P.k1;have d1:=P.d1;have dn:=oo P
 refine ay fun N hN=>?_
 simp only[ap,ac,af,ar,aL,v3,lk,b6]
 refine aO Cl.pv dX trivial cs [] (fun c hc=>⟨_,rfl,fun Q' q=>?_⟩) (aY (by simp;omega)) ?_
 ·simp only[bJ,List.reduceReplicate,List.map_nil,List.append_nil,List.set_cons_zero,ai,v3,lk,c3,ak,Cl.pv,mH]
  exact q
 intro p0 hp0
 rw[List.nil_append]
 refine Io (fun c hc=>P.yd c hc) aa ?_
 have X0:Ext S (Fc S p0 (.lst (cs.map dX))):=.new hp0
 generalize Fc S p0 (.lst (cs.map dX))=S0 at X0
 have ok:=kC 2520 (by decide) (cs.map (·.y)) 1 (by decide) (Nat.one_dvd _) fun y hy=>by obtain⟨c,h,rfl⟩:=List.mem_map.mp hy;exact P.yd c h
 have l1:cbO cs<=2520:=ir ok.2.1
 rw[show sE 1 (cs.map (·.y))=cbO cs from rfl]
 simp only[List.set_cons_succ,List.set_cons_zero]
 refine hN _ _ (ay fun N hN=>?_)
 simp only[ap,ai,ar,aL,v3,lk,b6]
 refine aO Cl.pv (fun c=>.int (- c.x * ((cbO cs / c.y:Nat):Int))) trivial cs [] (fun c hc=>⟨_,rfl,fun Q' q=>?_⟩) (aY (by simp;omega)) ?_
 ·simp only[bJ,List.reduceReplicate,List.map_cons,List.map_nil,List.cons_append,List.nil_append,List.set_cons_zero,ai,jB,dw,v3,lk,c3,ak,Cl.pv,gC,mH,eA,d_]
  have y1:=P.yd c hc
  have y2:=ir y1.2
  refine⟨z_ (by omega) (by omega),?_⟩
  rw[show((cbO cs:Nat):Int).fdiv (c.y:Int)=((cbO cs / c.y:Nat):Int) by rw[Int.fdiv_eq_ediv_of_nonneg _ (by omega),Int.natCast_ediv]]
  simp only[aU]
  have l2:cbO cs / c.y<=2520:=Nat.le_trans (Nat.div_le_self _ _) l1
  generalize cbO cs / c.y=z at l2 q
  exact⟨pM (by omega) (by omega),q⟩
 intro p1 hp1
 rw[List.nil_append,pU (fun c:Cl=>- c.x * ((cbO cs / c.y:Nat):Int))]at *
 have X1:Ext S0 (Fc S0 p1 (.lst ((cs.map fun c:Cl=>- c.x * ((cbO cs / c.y:Nat):Int)).map PV.int))):=.new hp1
 have f1:(Fc S0 p1 (.lst ((cs.map fun c:Cl=>- c.x * ((cbO cs / c.y:Nat):Int)).map PV.int))) p1=some (.lst ((cs.map fun c:Cl=>- c.x * ((cbO cs / c.y:Nat):Int)).map PV.int)):=aa
 generalize Fc S0 p1 (.lst ((cs.map fun c:Cl=>- c.x * ((cbO cs / c.y:Nat):Int)).map PV.int))=S1 at X1 f1
 simp only[cO,af,c3]
 intro p2 hp2
 have X2:Ext S1 (Fc S1 p2 (.lst [.int 0])):=.new hp2
 have f2:(Fc S1 p2 (.lst [.int 0])) p2=some (.lst [.int 0]):=aa
 generalize Fc S1 p2 (.lst [.int 0])=S2 at X2 f2
 have e1:∀Q:bE,bv (.int (k:Int)) (.int 1) S2 Q=Q (.int ((k+1:Nat):Int)) S2:=fun _=>rfl
 simp only[e1]
 refine Cd f2 (by omega) fun p3 S3 hp3 X3 f3=>?_
 refine n_ (X3 _ _ (X2 _ _ f1)) f3 (by simp;omega) fun pg S4 NK X4 fg=>?_
 rw[<-List.map_append,show cs.map (fun c:Cl=>- c.x * ((cbO cs / c.y:Nat):Int))++List.replicate (k+1) 0=pT cs k (cbO cs)from rfl]at fg
 have XA:Ext S S4:=X0.trans (X1.trans (X2.trans (X3.trans X4)))
 have NL:S pg=none:=(X0.trans (X1.trans (X2.trans X3))).free NK
 simp only[List.set_cons_succ,List.set_cons_zero]
 refine hN _ _ (ay fun N hN=>?_)
 simp only[ap,ar,bH,ah,af,v3,lk,aX,List.length_map]
 refine⟨by omega,by omega,?_⟩
 rw[Int.toNat_natCast]
 refine cu (fun done ys S'=>done.length<=mix.length/\∃ns,ys=ns.map PV.ref/\News S4 S' ns (((List.range mix.length).map (jg cs k mix)).take done.length)) ⟨Nat.zero_le _,[],rfl,⟨by simp,.refl,(fun n h=>by cases h),(fun i n row h=>by cases h)⟩⟩ ?_ ?_ ?_
 ·rintro done ys S' ⟨h,ns,rfl,nw⟩
  exact⟨trivial,aY (by rw[List.length_map,nw.l];simp;omega)⟩
 ·rintro done x rest ys S' K e ⟨h,ns,rfl,nw⟩ hK
  obtain⟨rfl,hi⟩:=cA e
  simp only[Tg.put,bJ,List.reduceReplicate,List.map_cons,List.map_nil,List.cons_append,List.nil_append,List.set_cons_zero,bo,if_true,ac,af,v3,lk]
  refine HX (by omega) (by omega) hi fun p S' hp X f=>hK _ _ ⟨by rw[List.length_append];exact hi,ns++[p],by simp,?_⟩
  rw[List.length_append,List.length_singleton,kG hi]
  exact nw.snoc hp X f
 rintro ys S5 ⟨_,ns,rfl,nw⟩ p6 Lf
 rw[cv,jk]at nw
 have X6:Ext S5 (Fc S5 p6 (.lst (ns.map PV.ref))):=.new Lf
 have f6:(Fc S5 p6 (.lst (ns.map PV.ref))) p6=some (.lst (ns.map PV.ref)):=aa
 have MT:=nw.ext X6
 have Mh:S4 p6=none:=nw.x.free Lf
 generalize Fc S5 p6 (.lst (ns.map PV.ref))=S6 at X6 f6 MT
 simp only[List.set_cons_succ,List.set_cons_zero]
 refine hN _ _ (ay fun N hN=>?_)
 simp only[c_,ko,sd,af,ar,bH,v3,lk,f6,true_and]
 refine⟨by omega,by omega,?_⟩
 rw[Int.toNat_natCast]
 refine cu (fun done ys S'=>done.length<=k/\∃ms,ys=ms.map PV.ref/\News S6 S' ms (((List.range k).map (jh cs k)).take done.length)) ⟨Nat.zero_le _,[],rfl,⟨by simp,.refl,(fun n h=>by cases h),(fun i n row h=>by cases h)⟩⟩ ?_ ?_ ?_
 ·rintro done ys S' ⟨h,ms,rfl,mw⟩
  exact⟨trivial,aY (by rw[List.length_map,mw.l];simp;omega)⟩
 ·rintro done x rest ys S' K e ⟨h,ms,rfl,mw⟩ hK
  obtain⟨rfl,hi⟩:=cA e
  simp only[Tg.put,bJ,List.reduceReplicate,List.map_cons,List.map_nil,List.cons_append,List.nil_append,List.set_cons_zero,bo,if_true,ac,af,v3,lk]
  refine HY (by omega) (by omega) hi (fun c hc=>P.ef c hc) fun p S' hp X f=>hK _ _ ⟨by rw[List.length_append];exact hi,ms++[p],by simp,?_⟩
  rw[List.length_append,List.length_singleton,kG hi]
  exact mw.snoc hp X f
 rintro ys S7 ⟨_,ms,rfl,mw⟩ p7 MU
 rw[cv,jk]at mw
 have both:=MT.both mw
 have Lj:=mw.x _ _ f6
 have NM:(Fc S7 p7 (.lst (ms.map PV.ref))) p6=some (.lst (ns.map PV.ref)):=by rw[aq (fun h=>by rw[h,MU]at Lj;cases Lj)];exact Lj
 simp only[ft,NM,aa]
 have lb:=both.l
 simp only[List.length_append,List.length_map,List.length_range]at lb
 refine⟨aY (by simp only[List.length_map];omega),?_⟩
 rw[<-List.map_append]
 have f8:(Fc (Fc S7 p7 (.lst (ms.map PV.ref))) p6 (.lst ((ns++ms).map PV.ref))) p6=some (.lst ((ns++ms).map PV.ref)):=aa
 have X8:∀b o,S7 b=some o->b≠p6->(Fc (Fc S7 p7 (.lst (ms.map PV.ref))) p6 (.lst ((ns++ms).map PV.ref))) b=some o:=fun b o h hb=>by rw[aq hb,aq (fun e=>by rw[e,MU]at h;cases h)];exact h
 generalize Fc (Fc S7 p7 (.lst (ms.map PV.ref))) p6 (.lst ((ns++ms).map PV.ref))=S8 at f8 X8
 have KO:Ext S4 S8:=fun b o h=>X8 b o (both.x _ _ h) (fun e=>by rw[e,Mh]at h;cases h)
 have JL:∀(i:Nat) n row,(ns++ms)[i]?=some n->((List.range mix.length).map (jg cs k mix)++(List.range k).map (jh cs k))[i]?=some row->S8 n=some (.lst (row.map PV.int)):=fun i n row hn hr=>by
  have f:=both.r i n row hn hr
  refine X8 _ _ f fun e=>?_
  rw[e,Lj]at f
  injection f with f
  injection f with f
  cases ns with
  |nil=>
   cases ms with
   |nil=>simp at hn
   |cons a r=>
    -- no GQ: the MV rows have lists of numbers
    rw[List.map_nil]at f
    have:row=[]:=by cases row with|nil=>rfl|cons _ _=>cases f
    subst this
    have hl:=(EG P).w [] (by unfold dY;exact List.mem_append_left _ (List.mem_of_getElem? hr))
    simp at hl
  |cons a r=>
   cases row with
   |nil=>cases f
   |cons _ _=>injection f with f1 _;cases f1
 refine hN _ _ (ay fun N hN=>?_)
 simp only[ap,uC,af,ai,cO,v3,lk]
 intro p9 hp9
 have X9:Ext S8 (Fc S8 p9 (.lst [.ref pg])):=.new hp9
 have f9:(Fc S8 p9 (.lst [.ref pg])) p9=some (.lst [.ref pg]):=aa
 generalize Fc S8 p9 (.lst [.ref pg])=S9 at X9 f9
 refine n_ (X9 _ _ f8) f9 (by simp;omega) fun pR Kc hpR NN fR=>?_
 have lnm:(ns++ms).length=mix.length+k:=by rw[List.length_append];omega
 have Lk:Kc pR=some (.lst ((ns++ms++[pg]).map PV.ref)):=by rw[fR,List.map_append (l₂:=[pg])];rfl
 have JB:Ext S8 Kc:=X9.trans NN
 simp only[ar,bH,ah,af,v3,lk,aX,JB _ _ f8,List.length_map]
 refine⟨by omega,by omega,?_⟩
 rw[Int.toNat_natCast,ym]
 refine aO (fun o:Nat=>PV.int (o:Int)) (fun o=>.int ((cs.length+o - mix.length:Nat):Int)) trivial (List.range (ns++ms).length) [] (fun o ho=>⟨_,rfl,fun Q' q=>?_⟩) (aY (by simp only[List.length_nil,List.length_range,List.length_append];omega)) ?_
 ·simp only[bJ,List.reduceReplicate,List.map_cons,List.map_nil,List.cons_append,List.nil_append,List.set_cons_zero,ai,ah,af,v3,lk,aX,List.length_map,bv,bW,bN]
  rw[show((cs.length:Int)+(o:Int) - (mix.length:Int))=((cs.length+o - mix.length:Nat):Int) by omega]
  exact q
 rw[List.nil_append,show(List.range (ns++ms).length).map (fun o=>PV.int ((cs.length+o - mix.length:Nat):Int))=hV (e7 cs mix k) by unfold hV e7;rw[List.map_map,List.length_append,lb];rfl]
 intro pH Ll
 have JM:Ext Kc (Fc Kc pH (.lst (hV (e7 cs mix k)))):=.new Ll
 have Lm:(Fc Kc pH (.lst (hV (e7 cs mix k)))) pH=some (.lst (hV (e7 cs mix k))):=aa
 generalize Fc Kc pH (.lst (hV (e7 cs mix k)))=MW at JM Lm
 intro a ha
 have Ln:Ext MW (Fc MW a (.ins "Balance" [])):=.new ha
 refine Ic aa fun Kt NO k12=>⟨rfl,?_⟩
 have MX:Ext S4 Kt:=fun b o h=>k12 _ _ (Ln _ _ (JM _ _ (JB _ _ (KO _ _ h)))) (fun e=>by have:=JM _ _ (JB _ _ (KO _ _ h));rw[e,ha]at this;cases this)
 have NP:∀b o,S8 b=some o->Kt b=some o:=fun b o h=>k12 _ _ (Ln _ _ (JM _ _ (JB _ _ h))) (fun e=>by have:=JM _ _ (JB _ _ h);rw[e,ha]at this;cases this)
 have Lo:S a=none:=(XA.trans (KO.trans (JB.trans JM))).free ha
 have Lp:S pH=none:=(XA.trans (KO.trans JB)).free Ll
 have XS:Ext S Kt:=XA.trans MX
 have NQ:pH≠a:=fun e=>by rw[e,ha]at Lm;cases Lm
 have Mi:=MX _ _ fg
 have B0:BalAt Kt a pR pH (ns++ms++[pg]) (dY cs mix k) (e7 cs mix k) 1:=by
  have Mj:Kt pR=some (.lst ((ns++ms++[pg]).map PV.ref)):=k12 _ _ (Ln _ _ (JM _ _ Lk)) (fun e=>by have:=JM _ _ Lk;rw[e,ha]at this;cases this)
  have Ml:Kt pH=some (.lst (hV (e7 cs mix k))):=k12 _ _ (Ln _ _ Lm) NQ
  have old:∀r∈ns++ms++[pg],∃o,Kc r=some o:=fun r hr=>by
   rcases List.mem_append.mp hr with h|h
   ·obtain⟨i,hi⟩:=List.getElem?_of_mem h
    have hlt:=(List.getElem?_eq_some_iff.mp hi).1
    have:i < ((List.range mix.length).map (jg cs k mix)++(List.range k).map (jh cs k)).length:=by simp only[List.length_append,List.length_map,List.length_range]at hlt ⊢;omega
    exact⟨_,JB _ _ (JL i r _ hi (List.getElem?_eq_getElem this))⟩
   ·rw[List.mem_singleton.mp h];exact⟨_,JB _ _ (KO _ _ fg)⟩
  refine⟨NO,Mj,?_,fun i n row hn hr=>?_,Ml,(fun e=>by rw[e,Ll]at Lk;cases Lk),fun r hr e=>?_⟩
  ·unfold dY
   simp only[List.length_append,List.length_map,List.length_range,List.length_singleton]
   omega
  ·unfold dY at hr
   by_cases hi:i < (ns++ms).length
   ·rw[List.getElem?_append_left hi]at hn
    rw[List.getElem?_append_left (by simp only[List.length_append,List.length_map,List.length_range]at hi ⊢;omega)]at hr
    exact NP _ _ (JL i n row hn hr)
   ·have e0:i=(ns++ms).length:=by have:=(List.getElem?_eq_some_iff.mp hn).1;rw[List.length_append (bs:=[pg]),List.length_singleton]at this;omega
    rw[List.getElem?_append_right (by omega),e0,Nat.sub_self]at hn
    rw[List.getElem?_append_right (by simp only[List.length_append,List.length_map,List.length_range]at e0 ⊢;omega)]at hr
    have e2:i - ((List.range mix.length).map (jg cs k mix)++(List.range k).map (jh cs k)).length=0:=by simp only[List.length_append,List.length_map,List.length_range]at e0 ⊢;omega
    rw[e2]at hr
    cases hn;cases hr
    exact Mi
  ·obtain⟨o,ho⟩:=old r hr
   rw[e,Ll]at ho;cases ho
 simp only[List.set_cons_succ,List.set_cons_zero]
 refine hN _ _ (ay fun N hN=>?_)
 simp only[bQ,bH,ah,af,v3,lk,aX,List.length_map]
 refine⟨by omega,by omega,?_⟩
 rw[Int.toNat_natCast]
 refine bp (fun done σ S'=>done.length<=mix.length/\Ext S S'/\(∃R rs,BalAt S' a R pH rs (sH cs mix k done.length) (sU cs mix k done.length) 1)/\∃x3 x4 x5 x6,σ=[some (.tup (cs.map Cl.pv)),some (.int (k:Int)),some (.tup (mix.map PV.int)),x3,x4,x5,x6,some (.ref a)]) ⟨Nat.zero_le _,XS,⟨_,_,B0⟩,_,_,_,_,rfl⟩ (fun _ _ _ _=>trivial) ?_ ?_
 ·rintro done x rest σ S' K e ⟨hd,X,⟨R,rs,B⟩,x3,x4,x5,x6,rfl⟩ hK
  obtain⟨rfl,hi⟩:=cA e
  have hm':(bF R pH 1).lookup ("hold":Str)=none:=rfl
  simp only[Tg.put,List.set_cons_succ,List.set_cons_zero,c_,da,af,ac,v3,lk,cw,B.o,hm',true_and]
  refine Hq (by omega) (P.fx _ hi) fun S2 X2=>?_
  have B2:BalAt S2 a R pH rs (sH cs mix k done.length) (sU cs mix k done.length) 1:=⟨X2 _ _ B.o,X2 _ _ B.r,B.rl,fun i r row a b=>X2 _ _ (B.rr i r row a b),X2 _ _ B.h,B.nR,B.nr⟩
  obtain⟨_,hc,_,_,_,hlt⟩:=dG P hi
  have D:=Ek P hd
  have q1:((sH cs mix k done.length).getD done.length []).getD (FP cs done.length) 0=1:=by
   show Ts cs mix k done.length done.length (FP cs done.length)=1
   rw[(xx P done.length hd).GQ _ _ hi,qS P hi hi,if_pos rfl]
  refine GY B2 D.sh (by rw[D.rl];omega) (by rw[D.hl];omega) (show FP cs done.length < cs.length+k+1 by omega) (by decide) (bG jX) fun S3 R3 Mm B3 fr=>?_
  rw[q1]at B3
  refine hK _ _ ⟨by rw[List.length_append];exact hi,fun b o h=>fr b o (X2 _ _ (X _ _ h)) (fun e=>by rw[e,Lo]at h;cases h) (fun e=>by rw[e,Lp]at h;cases h),⟨R3,Mm,by rw[List.length_append,List.length_singleton];exact B3⟩,_,_,_,_,rfl⟩
 ·rintro σ S' ⟨hd,X,⟨R,rs,B⟩,x3,x4,x5,x6,rfl⟩
  rw[cv]at B
  refine hN _ _ ?_
  simp only[av,v3,lk]
  exact kk S' a R pH rs Lo Lp X B
noncomputable def Kq:Nat:=2 ^ 850
def Cm:∀m,m<=16->Wg.Kb Cb (m+1)<=Kq:=by
 have:∀m,m<=17->Wg.Kb Cb m<=2 ^ (50 * m):=by
  intro m
  induction m with
  |zero=>intro _;exact Nat.le_refl _
  |succ m ih=>
   intro h
   show(m+1) * (Cb * Wg.Kb Cb m)<=2 ^ (50 * (m+1))
   have h1:=ih (by omega)
   have e:(2:Nat) ^ (50 * (m+1))=2 ^ 8 * (2 ^ 42 * 2 ^ (50 * m)):=by rw[<-Nat.pow_add,<-Nat.pow_add];congr 1;omega
   rw[e]
   exact Nat.mul_le_mul (by omega) (Nat.mul_le_mul (Nat.le_refl _) h1)
 intro m hm
 refine Nat.le_trans (this (m+1) (by omega)) ?_
 unfold Kq
 exact Nat.pow_le_pow_right (by decide) (by omega)
def mU:Kq * 2 ^ 100 < dF:=by unfold Kq dF;rw[<-Nat.pow_add];exact Nat.pow_lt_pow_right (by decide) (by decide)
def aW{x:Int}{c:Nat}(h:x.natAbs<=Kq * c)(hc:c<=2 ^ 100):x.natAbs < dF:=Nat.lt_of_le_of_lt (Nat.le_trans h (Nat.mul_le_mul (Nat.le_refl _) hc)) mU
noncomputable def Cn(cs:List Cl)(c:Cl):Int:=c.x * ((cbO cs / c.y:Nat):Int)
def hJ{cs:List Cl}{mix:Vu}{k:Nat}(P:bB cs mix k):0 < cbO cs/\cbO cs<=2520/\∀c∈cs,c.y ∣ cbO cs:=by
 have ok:=kC 2520 (by decide) (cs.map (·.y)) 1 (by decide) (Nat.one_dvd _) fun y hy=>by obtain⟨c,h,rfl⟩:=List.mem_map.mp hy;exact P.yd c h
 exact⟨ok.1,ir ok.2.1,fun c hc=>ok.2.2.2 c.y (List.mem_map.mpr ⟨c,hc,rfl⟩)⟩
def qU{cs:List Cl}{mix:Vu}{k:Nat}(P:bB cs mix k){c:Cl}(hc:c∈cs){q:Int}(hq:0 < q):dX c=cq (q * (cbO cs:Int)) (q * Cn cs c):=by
 obtain⟨h0,_,hd⟩:=hJ P
 have hy:=(P.yd c hc).1
 unfold dX
 rw[mJ (P.lo c hc)]
 refine fP (by omega) (Int.mul_pos hq (by omega)) ?_
 unfold Cn
 obtain⟨z,hz⟩:=hd c hc
 rw[hz,Nat.mul_div_cancel_left _ hy,Int.natCast_mul]
 grind
noncomputable def Jq(cs:List Cl)(q:Int)(Y:Vu)(c:Cl):Int:=q * Cn cs c+cF c.eff Y
noncomputable def qV(cs:List Cl)(q:Int)(Y:Vu)(d:Nat):List Int:=(cs.filter fun c=>decide (c.who=some d)).map (Jq cs q Y)
noncomputable def qW:List Int->Int
 |[]=>0
 |a::r=>r.foldl max a
theorem lV:∀(r:Vu) (a:Int),a<=r.foldl max a/\(∀x∈r,x<=r.foldl max a)/\(r.foldl max a=a\/r.foldl max a∈r)
 |[],a=>⟨Int.le_refl _,(fun x h=>by cases h),.inl rfl⟩
 |b::r,a=>by
  have h:=lV r (max a b)
  rw[List.foldl_cons]
  refine⟨by omega,fun x hx=>?_,?_⟩
  ·rcases List.mem_cons.mp hx with rfl|hx
   ·omega
   ·exact h.2.1 x hx
  ·rcases h.2.2 with h2|h2
   ·rw[h2]
    by_cases hab:a<=b
    ·exact .inr (by rw[Int.max_eq_right hab];simp)
    ·exact .inl (Int.max_eq_left (by omega))
   ·exact .inr (List.mem_cons_of_mem _ h2)
def mV{ns:Vu}(h:ns≠[]):qW ns∈ns/\∀a∈ns,a<=qW ns:=by
 obtain⟨a,r,rfl⟩:=List.exists_cons_of_ne_nil h
 have:=lV r a
 refine⟨?_,fun x hx=>?_⟩
 ·show r.foldl max a∈a::r
  rcases this.2.2 with h|h
  ·rw[h];simp
  ·exact List.mem_cons_of_mem _ h
 ·rcases List.mem_cons.mp hx with rfl|hx
  ·exact this.1
  ·exact this.2.1 x hx
def u8{ns:Vu}{M:Int}(h:M∈ns)(hm:∀a∈ns,a<=M):M=qW ns:=by
 have h1:=mV (ns:=ns) (fun e=>by rw[e]at h;cases h)
 have:=hm _ h1.1
 have:=h1.2 _ h
 omega
def jZ{is ns:Vu}{a b:Nat}(hi:∀i∈is,i.natAbs<=a)(hn:∀n∈ns,n.natAbs<=b):eM (aZ is ns)<=is.length * (a * b):=by
 induction is generalizing ns with
 |nil=>simp[aZ,eM]
 |cons i r ih=>
  cases ns with
  |nil=>simp[aZ,eM]
  |cons n s=>
   have h1:=ih (fun x hx=>hi x (by simp[hx])) (ns:=s) (fun x hx=>hn x (by simp[hx]))
   have h2:=Nat.mul_le_mul (hi i (by simp)) (hn n (by simp))
   simp only[aZ,eM,List.zipWith_cons_cons,List.map_cons,List.sum_cons,List.length_cons,Int.natAbs_mul]at *
   rw[Nat.succ_mul]
   omega
def E6:(2:Nat) ^ 42<=2 ^ 100:=Nat.pow_le_pow_right (by decide) (by decide)
def EH:(2:Nat) ^ 33<=2 ^ 100:=Nat.pow_le_pow_right (by decide) (by decide)
def E7:(2:Nat) ^ 42+2 ^ 33<=2 ^ 100:=by omega
structure Qy (q:Int) (Y:Vu) (k:Nat):Prop where
 q0:0 < q
 q1:q.natAbs<=Kq
 l:Y.length=k
 y:∀n∈Y,n.natAbs<=Kq
section
variable {cs:List Cl} {mix:Vu} {k:Nat} {q:Int} {Y:Vu}
def xA(P:bB cs mix k)(h:Qy q Y k):0 < q * (cbO cs:Int)/\(q * (cbO cs:Int)).natAbs < dF:=by
 obtain⟨h0,h1,_⟩:=hJ P
 refine⟨Int.mul_pos h.q0 (by omega),aW (c:=2520) ?_ (by decide)⟩
 rw[Int.natAbs_mul]
 exact Nat.mul_le_mul h.q1 (by omega)
def mW(P:bB cs mix k){c:Cl}(hc:c∈cs):(Cn cs c).natAbs<=2 ^ 42/\0<=Cn cs c:=by
 obtain⟨h0,h1,_⟩:=hJ P
 have l2:cbO cs / c.y<=2520:=Nat.le_trans (Nat.div_le_self _ _) h1
 have x0:=P.x0 c hc
 unfold Cn
 refine⟨?_,Int.mul_nonneg x0.1 (Int.natCast_nonneg _)⟩
 rw[Int.natAbs_mul,Int.natAbs_natCast]
 exact Nat.le_trans (Nat.mul_le_mul (show c.x.natAbs<=2 ^ 30 by omega) l2) (by decide)
def jm(P:bB cs mix k)(h:Qy q Y k){c:Cl}(hc:c∈cs):(q * Cn cs c).natAbs < dF/\eM (aZ c.eff Y) < dF/\(cF c.eff Y).natAbs < dF/\(q * Cn cs c+cF c.eff Y).natAbs < dF:=by
 have a1:(q * Cn cs c).natAbs<=Kq * 2 ^ 42:=by rw[Int.natAbs_mul];exact Nat.mul_le_mul h.q1 (mW P hc).1
 have a2:=jZ (is:=c.eff) (ns:=Y) (P.eb c hc) h.y
 rw[P.ef c hc]at a2
 have k1:=P.k1
 have a3:eM (aZ c.eff Y)<=Kq * 2 ^ 33:=by
  have k8:=Nat.mul_le_mul k1 (Nat.le_refl (2 ^ 30 * Kq))
  refine Nat.le_trans a2 (Nat.le_trans k8 ?_)
  generalize Kq=z
  omega
 have a4:(cF c.eff Y).natAbs<=Kq * 2 ^ 33:=by rw[<-dR];exact Nat.le_trans (iO _) a3
 have a5:=Int.natAbs_add_le (q * Cn cs c) (cF c.eff Y)
 have a6:(q * Cn cs c+cF c.eff Y).natAbs<=Kq * (2 ^ 42+2 ^ 33):=Nat.le_trans a5 (Nat.le_trans (Nat.add_le_add a1 a4) (Nat.le_of_eq (Nat.mul_add _ _ _).symm))
 exact⟨aW a1 E6,Nat.lt_of_le_of_lt (Nat.le_trans a3 (Nat.mul_le_mul (Nat.le_refl _) EH)) mU,aW a4 EH,aW a6 E7⟩
abbrev jn(w:aE):Prop:=∀{S:aw} {cs:List Cl} {mix:Vu} {k:Nat} {q:Int} {Y:Vu} {d:Nat} {Q:bE} {E:ci},bB cs mix k->Qy q Y k->d < mix.length->(∀S',Ext S S'->Q (cq (q * (cbO cs:Int)) (qW (qV cs q Y d))) S')->w [.tup (cs.map Cl.pv),.tup (Y.map (cq (q * (cbO cs:Int)))),.int (d:Int)] S Q E
def Hr{x0 x1 x2:aE}(JC:yk x0)(Ft:qN x1)(Jg:uM x2):jn (bc 3 (io x0 x1 x2)):=by
 intro S cs mix k q Y d Q E P h hd kk
 unfold io
 refine fe ?_
 rw[show au 3 [.tup (cs.map Cl.pv),.tup (Y.map (cq (q * (cbO cs:Int)))),.int (d:Int)]=[some (.tup (cs.map Cl.pv)),some (.tup (Y.map (cq (q * (cbO cs:Int))))),some (.int (d:Int))] from rfl]
 have n2:=P.n2
 obtain⟨B0,B1⟩:=xA P h
 simp only[av,ac,af,ar,aL,v3,lk,b6]
 refine cu (fun done ys S'=>done.length<=cs.length/\Ext S S'/\ys=(((cs.take done.length).filter fun c=>decide (c.who=some d)).map (Jq cs q Y)).map (cq (q * (cbO cs:Int)))) ⟨Nat.zero_le _,.refl,rfl⟩ ?_ ?_ ?_
 ·rintro done ys S' ⟨hl,X,rfl⟩
  refine⟨trivial,aY ?_⟩
  rw[List.length_map,List.length_map]
  have:=List.length_filter_le (fun c:Cl=>decide (c.who=some d)) (cs.take done.length)
  rw[List.length_take]at this
  omega
 ·rintro done x rest ys S' K e ⟨hl,X,rfl⟩ hK
  have hget:(cs.map Cl.pv)[done.length]?=some x:=by rw[e];simp
  obtain⟨c,hc1,rfl⟩:∃c,cs[done.length]?=some c/\c.pv=x:=by rw[List.getElem?_map]at hget;exact Option.map_eq_some_iff.mp hget
  have hc:=List.mem_of_getElem? hc1
  have hlt:=(List.getElem?_eq_some_iff.mp hc1).1
  have et:(cs.take (done++[c.pv]).length)=cs.take done.length++[c]:=by rw[List.length_append,List.length_singleton,List.take_succ,hc1];rfl
  simp only[Tg.put,bJ,List.reduceReplicate,List.map_cons,List.map_nil,List.cons_append,List.nil_append,List.set_cons_zero,bg,ai,v3,lk,c3,ak,Cl.pv,gC]
  refine mL ?_
  by_cases hw:c.who=some d
  ·simp only[hw,decide_true,if_true,ac,af,ai,v3,lk,c3,ak,mH,yg]
   obtain⟨b1,b2,b3,b4⟩:=jm P h hc
   refine Jg B0 B1 b2 (by rw[P.ef c hc];have:=P.k1;omega) (by rw[P.ef c hc,h.l]) (fun i hi=>Nat.lt_of_le_of_lt (P.eb c hc i hi) (Nat.lt_of_lt_of_le (show 2 ^ 30 < 2 ^ 2000 from Nat.pow_lt_pow_right (by decide) (by decide)) (Nat.le_refl _))) (fun n hn=>aW (c:=1) (by rw[Nat.mul_one];exact h.y n hn) (by decide)) fun S2 X2=>?_
   rw[show PV.tup [.int c.x,.int (c.y:Int)]=dX c from rfl,qU P hc h.q0]
   refine Ft ⟨B0,B1,b1⟩ ⟨B0,B1,b3⟩ (hK _ _ ⟨by rw[List.length_append];exact hlt,X.trans X2,?_⟩)
   rw[et,List.filter_append,List.map_append,List.map_append]
   simp[hw,Jq]
  ·simp only[hw,decide_false,Bool.false_eq_true,if_false]
   refine hK _ _ ⟨by rw[List.length_append];exact hlt,X,?_⟩
   rw[et,List.filter_append,List.map_append,List.map_append]
   simp[hw]
 ·rintro ys S' ⟨hl,X,rfl⟩ p hp
  rw[List.length_map,List.take_length]
  have hne:qV cs q Y d≠[]:=by
   obtain⟨c,_,hm,hw,_⟩:=dG P hd
   intro e
   have:Jq cs q Y c∈qV cs q Y d:=List.mem_map.mpr ⟨c,List.mem_filter.mpr ⟨hm,decide_eq_true hw⟩,rfl⟩
   rw[e]at this;cases this
  refine JC B0 B1 (fun n hn=>?_) hne aa fun M hM Mn=>?_
  ·obtain⟨c,hc,rfl⟩:=List.mem_map.mp hn
   exact(jm P h (List.mem_filter.mp hc).1).2.2.2
  ·rw[u8 hM Mn]
   exact kk _ (X.trans (.new hp))
end
noncomputable def xB(n:Nat)(rows:List (List Int))(held:List Nat)(q:Int)(c:Nat):List PV:=if c < n then (xk n rows held q (-1) c).set c (cq q q) else xk n rows held q (-1) c
noncomputable def sK(n:Nat)(rows:List (List Int))(held:List Nat)(q:Int)(c:Nat):PV:=.tup [.str "endless",.tup (xB n rows held q c)]
abbrev qX(w:aE):Prop:=∀{S:aw} {a R H:Addr} {rs:List Addr} {rows:List (List Int)} {held:List Nat} {q:Int} {m V c:Nat} {cs:List Cl} {Q:bE} {E:ci},BalAt S a R H rs rows held q->Dim rows held m V->0 < q->Sz q->cs.length<=500->c<=V->(∀S',Ext S S'->Q (sK cs.length rows held q c) S')->w [.ref a,.tup (cs.map Cl.pv),.int (c:Int)] S Q E
def IH{xh:aE}(GZ:iS xh):qX (bc 4 (jd xh)):=by
 intro S a R H rs rows held q m V c cs Q E B D hq J_ hn hc k
 unfold jd
 refine fe ?_
 rw[show au 4 [PV.ref a,.tup (cs.map Cl.pv),.int (c:Int)]=[some (.ref a),some (.tup (cs.map Cl.pv)),some (.int (c:Int)),none] from rfl]
 have hm':(bF R H q).lookup ("held_by":Str)=none:=rfl
 refine ay fun N hN=>?_
 simp only[ap,da,af,ah,jB,dw,c3,v3,lk,cw,B.o,hm',true_and,aX,List.length_map]
 refine GZ (n:=cs.length) (sg:=-1) B D hq J_ hn (.inl ⟨rfl,hc⟩) (.inr rfl) fun p S1 hp X1 f1=>?_
 have hlen:(xk cs.length rows held q (-1) c).length=cs.length:=by unfold xk;rw[mS,List.length_replicate]
 simp only[List.set_cons_succ,List.set_cons_zero]
 refine hN _ _ (ay fun N hN=>?_)
 simp only[cK,bg,ai,ah,af,v3,lk,aX,List.length_map,oK,bN,decide_eq_true_eq]
 have NR:PV.tup [.int 1,.int 1]=cq q q:=by rw[iq,fP (Q:=1) (R:=q) (n:=1) (m:=q) (by decide) hq (by omega)]
 by_cases h:c < cs.length
 ·rw[if_pos (by omega)]
  simp only[i9,aS,af,c3,v3,lk,fw,f1]
  rw[hlen,kE h,NR]
  refine hN _ _ ?_
  simp only[av,aS,af,c3,ah,v3,lk,aR,iJ,aa]
  have:=k _ (X1.put hp (o:=.lst ((xk cs.length rows held q (-1) c).set c (cq q q))))
  unfold sK xB at this
  rw[if_pos h]at this
  exact this
 ·rw[if_neg (by omega)]
  refine hN _ _ ?_
  simp only[av,aS,af,c3,ah,v3,lk,aR,iJ,f1]
  have:=k _ X1
  unfold sK xB at this
  rw[if_neg h]at this
  exact this
def xC{xs:List PV}{n k:Nat}(h:xs.length=n+k+1):eK xs (some (n:Int)) (some (-1))=(xs.drop n).take k:=by
 unfold eK
 have e1:HT.Fz xs.length 0 (some (n:Int))=n:=by rw[HT.me];omega
 have e2:HT.Fz xs.length xs.length (some (-1))=if (-1:Int) < 0 then (-1+((xs.length:Nat):Int)).toNat else min (-1:Int).toNat xs.length:=rfl
 rw[e1,e2,if_pos (by decide)]
 congr 1
 omega
def AB{row:Vu}{n k:Nat}(h:row.length=n+k+1):(row.drop n).take k=(List.range k).map fun t=>row.getD (n+t) 0:=by
 refine List.ext_getElem? fun i=>?_
 by_cases hi:i < k
 ·rw[List.getElem?_take_of_lt hi,List.getElem?_drop,List.getElem?_map,List.getElem?_range hi,List.getElem?_eq_getElem (by omega)]
  show some _=some (row.getD (n+i) 0)
  rw[aA (List.getElem?_eq_getElem (show n+i < row.length by omega))]
 ·rw[List.getElem?_eq_none (by rw[List.length_take,List.length_drop];omega),List.getElem?_eq_none (by simp;omega)]
noncomputable def Yl(rows:List (List Int))(n m k:Nat):List Int:=(List.range k).map fun t=>(rows.getD m []).getD (n+t) 0
noncomputable def ot(cs:List Cl)(mix:Vu)(k:Nat)(rows:List (List Int))(held:List Nat)(q:Int):PV:=
 .tup [.str "most",cq (q * (cbO cs:Int)) ((rows.getD (mix.length+k) []).getD (cs.length+k) 0),.tup (xk cs.length rows held q 1 (cs.length+k)),
  .tup ((List.range mix.length).map fun d=>cq (q * (cbO cs:Int)) (qW (qV cs q (Yl rows cs.length (mix.length+k) k) d))),.tup ((Yl rows cs.length (mix.length+k) k).map (cq (q * (cbO cs:Int))))]
abbrev ou(w:aE):Prop:=∀{S:aw} {a R H:Addr} {rs:List Addr} {rows:List (List Int)} {held:List Nat} {q:Int} {cs:List Cl} {mix:Vu} {k:Nat} {Q:bE} {E:ci},bB cs mix k->BalAt S a R H rs rows held q->Dim rows held (mix.length+k) (cs.length+k)->Qy q (Yl rows cs.length (mix.length+k) k) k->
 (∀S',Ext S S'->Q (ot cs mix k rows held q) S')->w [.ref a,.tup (cs.map Cl.pv),.tup (mix.map PV.int)] S Q E
def BalAt.ext{S S':aw}{a R H:Addr}{rs:List Addr}{rows:List (List Int)}{held:List Nat}{q:Int}(B:BalAt S a R H rs rows held q)(X:Ext S S'):BalAt S' a R H rs rows held q:=⟨X _ _ B.o,X _ _ B.r,B.rl,fun i r row a b=>X _ _ (B.rr i r row a b),X _ _ B.h,B.nR,B.nr⟩
def Ie{x0 x1 x2 x3:aE}(Io:mM x0)(FJ:jE x1)(Hr:jn x2)(GZ:iS x3):ou (bc 8 (pQ x0 x1 x2 x3)):=by
 intro S a R H rs rows held q cs mix k Q E P B D Y kk
 unfold pQ
 refine fe ?_
 rw[show au 8 [PV.ref a,.tup (cs.map Cl.pv),.tup (mix.map PV.int)]=[some (.ref a),some (.tup (cs.map Cl.pv)),some (.tup (mix.map PV.int)),none,none,none,none,none] from rfl]
 have n2:=P.n2;have k1:=P.k1;have d1:=P.d1
 obtain⟨B0,B1⟩:=xA P Y
 obtain⟨NS,NT,_⟩:=hJ P
 have qs:Sz q:=bG (by have:=aW (c:=1) (x:=q) (by rw[Nat.mul_one];exact Y.q1) (by decide);omega)
 obtain⟨p,row,hp,GM,fp,hl,_,hT⟩:=kF B D (Nat.le_refl (mix.length+k))
 have KP:rows.getD (mix.length+k) []=row:=aA GM
 have eY:Yl rows cs.length (mix.length+k) k=(List.range k).map fun t=>row.getD (cs.length+t) 0:=by unfold Yl;rw[KP]
 refine ay fun N hN=>?_
 simp only[ap,ai,cj,v3,lk,cw,B.o,uV,true_and,ac,af,ar,aL,b6]
 refine aO Cl.pv dX trivial cs [] (fun c hc=>⟨_,rfl,fun Q' q=>?_⟩) (aY (by simp;omega)) ?_
 ·simp only[bJ,List.reduceReplicate,List.map_nil,List.append_nil,List.set_cons_zero,ai,v3,lk,c3,ak,Cl.pv,mH]
  exact q
 intro p0 hp0
 rw[List.nil_append]
 refine Io (fun c hc=>P.yd c hc) aa ?_
 have X0:Ext S (Fc S p0 (.lst (cs.map dX))):=.new hp0
 generalize Fc S p0 (.lst (cs.map dX))=S0 at X0
 rw[show sE 1 (cs.map (·.y))=cbO cs from rfl]
 simp only[aU]
 refine⟨pM (by omega) (by omega),?_⟩
 have Ba:=B.ext X0
 simp only[List.set_cons_succ,List.set_cons_zero]
 refine hN _ _ (ay fun N hN=>?_)
 simp only[ap,ai,cj,v3,lk,c3,jB,dw,cw,Ba.o,gM,true_and,ak,Ba.r]
 rw[lT (n:=mix.length+k) (by rw[List.length_map,B.rl,D.rl]) (show(rs.map PV.ref)[mix.length+k]?=some (.ref p) by rw[List.getElem?_map,hp];rfl)]
 have NU:=X0 _ _ fp
 simp only[List.set_cons_succ,List.set_cons_zero]
 refine hN _ _ (ay fun N hN=>?_)
 simp only[ap,ah,af,ar,aL,cP,oJ,jB,dw,c3,v3,lk,aX,List.length_map,km,NU]
 rw[xC (k:=k) (by rw[List.length_map,hl]),<-List.map_drop,<-List.map_take,AB (by rw[hl]),<-eY]
 intro p1 hp1
 have X1:Ext S0 (Fc S0 p1 (.lst ((Yl rows cs.length (mix.length+k) k).map PV.int))):=.new hp1
 have f1:(Fc S0 p1 (.lst ((Yl rows cs.length (mix.length+k) k).map PV.int))) p1=some (.lst ((Yl rows cs.length (mix.length+k) k).map PV.int)):=aa
 generalize Fc S0 p1 (.lst ((Yl rows cs.length (mix.length+k) k).map PV.int))=S1 at X1 f1
 simp only[b6,f1]
 have lY:(Yl rows cs.length (mix.length+k) k).length=k:=by unfold Yl;simp
 refine aO PV.int (cq (q * (cbO cs:Int))) f1 (Yl rows cs.length (mix.length+k) k) [] (fun c hc=>⟨_,rfl,fun Q' q'=>?_⟩) (aY (by rw[lY];simp;omega)) ?_
 ·simp only[bJ,List.reduceReplicate,List.map_cons,List.map_nil,List.cons_append,List.nil_append,List.set_cons_zero,ac,af,v3,lk]
  exact FJ B0 (bG (by omega)) q'
 intro p2 hp2
 simp only[List.nil_append,aR,iJ,aa]
 have X2:Ext S1 (Fc S1 p2 (.lst ((Yl rows cs.length (mix.length+k) k).map (cq (q * (cbO cs:Int)))))):=.new hp2
 generalize Fc S1 p2 (.lst ((Yl rows cs.length (mix.length+k) k).map (cq (q * (cbO cs:Int)))))=S2 at X2
 simp only[List.set_cons_succ,List.set_cons_zero]
 refine hN _ _ (ay fun N hN=>?_)
 simp only[ap,ah,af,ar,bH,v3,lk,aX,List.length_map]
 refine⟨by omega,by omega,?_⟩
 rw[Int.toNat_natCast]
 refine cu (fun done ys S'=>done.length<=mix.length/\Ext S2 S'/\ys=((List.range mix.length).map fun d=>cq (q * (cbO cs:Int)) (qW (qV cs q (Yl rows cs.length (mix.length+k) k) d))).take done.length) ⟨Nat.zero_le _,.refl,rfl⟩ ?_ ?_ ?_
 ·rintro done ys S' ⟨h,X,rfl⟩
  exact⟨trivial,aY (by rw[List.length_take];simp;omega)⟩
 ·rintro done x rest ys S' K e ⟨h,X,rfl⟩ hK
  obtain⟨rfl,hi⟩:=cA e
  simp only[Tg.put,bJ,List.reduceReplicate,List.map_cons,List.map_nil,List.cons_append,List.nil_append,List.set_cons_zero,bo,if_true,ac,af,v3,lk]
  refine Hr P Y hi fun S3 X3=>hK _ _ ⟨by rw[List.length_append];exact hi,X.trans X3,?_⟩
  rw[List.length_append,List.length_singleton,List.take_succ,List.getElem?_map,List.getElem?_range hi];rfl
 rintro ys S3 ⟨_,X3,rfl⟩ p3 hp3
 rw[cv,jk]
 simp only[aR,iJ,aa]
 have X4:Ext S3 (Fc S3 p3 (.lst ((List.range mix.length).map fun d=>cq (q * (cbO cs:Int)) (qW (qV cs q (Yl rows cs.length (mix.length+k) k) d))))):=.new hp3
 generalize Fc S3 p3 (.lst ((List.range mix.length).map fun d=>cq (q * (cbO cs:Int)) (qW (qV cs q (Yl rows cs.length (mix.length+k) k) d))))=S4 at X4
 have XA:Ext S S4:=X0.trans (X1.trans (X2.trans (X3.trans X4)))
 have B4:=B.ext XA
 have hm':(bF R H q).lookup ("held_by":Str)=none:=rfl
 simp only[List.set_cons_succ,List.set_cons_zero]
 refine hN _ _ (ay fun N hN=>?_)
 simp only[ap,ah,da,af,jB,dw,c3,v3,lk,cw,B4.o,hm',true_and,aX,List.length_map]
 refine GZ (n:=cs.length) (sg:=1) B4 D Y.q0 qs (by omega) (.inr ⟨rfl,rfl⟩) (.inl rfl) fun p4 S5 KG X5 f4=>?_
 simp only[aR,iJ,f4,List.set_cons_succ,List.set_cons_zero]
 refine hN _ _ ?_
 have NV:=X5 _ _ (XA _ _ fp)
 simp only[av,aS,af,ac,ai,jB,dw,c3,v3,lk,ak,NV]
 rw[lT (n:=cs.length+k) (by rw[List.length_map,hl]) (show(row.map PV.int)[cs.length+k]?=some (.int (row.getD (cs.length+k) 0)) by rw[List.getElem?_map,List.getElem?_eq_getElem (by omega),List.getD_eq_getElem?_getD,List.getElem?_eq_getElem (by omega)];rfl)]
 refine FJ B0 (bG (by omega)) ?_
 have:=kk S5 (XA.trans X5)
 unfold ot at this
 rw[KP]at this
 exact this
inductive IA (cs:List Cl) (mix:Vu) (k:Nat):Nat->List (List Int)->List Nat->Int->Prop
 |ini:IA cs mix k 0 (sH cs mix k mix.length) (sU cs mix k mix.length) 1
 |step {n:Nat} {rows:List (List Int)} {held:List Nat} {q:Int} {c r:Nat}:IA cs mix k n rows held q->Wg.En (mix.length+k) (cs.length+k) (toS rows held q) c->Wg.Lv (mix.length+k) (cs.length+k) (toS rows held q) c r->IA cs mix k (n+1) (jj rows r c q) (held.set r c) ((rows.getD r []).getD c 0)
section
variable {cs:List Cl} {mix:Vu} {k:Nat}
def IA.ok(P:bB cs mix k){n:Nat}{rows:List (List Int)}{held:List Nat}{q:Int}(h:IA cs mix k n rows held q):Dm rows held (mix.length+k) (cs.length+k)/\∃b,Wg.Val (mix.length+k) (cs.length+k) (Ao cs mix k) (toS rows held q) b:=by
 induction h with
 |ini=>exact⟨Ck P _ (Nat.le_refl _),_,El P⟩
 |step h e l ih=>
  obtain⟨D,b,v⟩:=ih
  have v2:=(v.Hd e.lt l).1
  rw[<-mT D l.lt]at v2
  exact⟨D.Hd (by have:=l.lt;omega),_,v2⟩
theorem IA.bnd(P:bB cs mix k){n:Nat}{rows:List (List Int)}{held:List Nat}{q:Int}(h:IA cs mix k n rows held q):Dim rows held (mix.length+k) (cs.length+k)/\Qy q (Yl rows cs.length (mix.length+k) k) k/\Sz q/\∀i j,i<=mix.length+k->j<=cs.length+k->((rows.getD i []).getD j 0).natAbs<=Kq:=by
 obtain⟨D,b,v⟩:=h.ok P
 have a:=P.k1;have b':=P.d1;have c:=P.n2
 obtain⟨b1,b2⟩:=v.bnd (C:=Cb) (by decide) (fun i j hi hj=>qT P i j hi hj)
 have kb:=Cm (mix.length+k) (by omega)
 have sm:∀{x:Int},x.natAbs<=Kq->x.natAbs < dF:=fun{x} h=>aW (c:=1) (by rw[Nat.mul_one];exact h) (by decide)
 have bT:∀i j,i<=mix.length+k->j<=cs.length+k->((rows.getD i []).getD j 0).natAbs<=Kq:=fun i j hi hj=>Nat.le_trans (b1 i j hi hj) kb
 have bq:q.natAbs<=Kq:=Nat.le_trans b2 kb
 refine⟨u5 D (by omega) (by omega) fun i j hi hj=>sm (bT i j hi hj),⟨v.tab.pos,bq,by unfold Yl;simp,fun y hy=>?_⟩,bG (by have:=sm bq;omega),bT⟩
 unfold Yl at hy
 obtain⟨t,ht,rfl⟩:=List.mem_map.mp hy
 exact bT _ _ (Nat.le_refl _) (by have:=List.mem_range.mp ht;omega)
def Out(cs:List Cl)(mix:Vu)(k:Nat)(v:PV):Prop:=∃n rows held q,IA cs mix k n rows held q/\
  (((∀j,j < cs.length+k->0<=(toS rows held q).T (mix.length+k) j)/\v=ot cs mix k rows held q) \/
   ∃c,Wg.En (mix.length+k) (cs.length+k) (toS rows held q) c/\(∀i,i < mix.length+k->(toS rows held q).T i c<=0)/\v=sK cs.length rows held q c)
end
abbrev jo(w:aE):Prop:=∀{S:aw} {cs:List Cl} {mix:Vu} {k:Nat} {Q:bE} {E:ci},bB cs mix k->(∀v S',Ext S S'->Out cs mix k v->Q v S')->w [.tup (cs.map Cl.pv),.tup (mix.map PV.int)] S Q E
def G0{x0 x1 x2 x3 x4 x5:aE}(Kd:jl x0)(H_:ol x1)(Ib:on x2)(IH:qX x3)(GY:iR x4)(Ie:ou x5):jo (bc 6 (je x0 x1 x2 x3 x4 x5)):=by
 intro S cs mix k Q E P kk
 unfold je
 refine fe ?_
 rw[show au 6 [.tup (cs.map Cl.pv),.tup (mix.map PV.int)]=[some (.tup (cs.map Cl.pv)),some (.tup (mix.map PV.int)),none,none,none,none] from rfl]
 have n1:=P.n1
 obtain⟨c0,r0,JN⟩:=List.exists_cons_of_ne_nil (show cs≠[] from fun e=>by rw[e]at n1;simp at n1)
 have e0:FZ (cs.map Cl.pv) 0=some c0.pv:=by rw[JN,List.map_cons];exact gC
 have l0:c0.eff.length=k:=P.ef c0 (by rw[JN];simp)
 refine ay fun N hN=>?_
 simp only[ap,ah,af,ai,v3,lk,c3,ak,e0,Cl.pv,yg,aX,List.length_map,l0,List.set_cons_succ,List.set_cons_zero]
 refine hN _ _ (ay fun N hN=>?_)
 simp only[ap,ac,af,v3,lk]
 refine Kd P fun S1 a R H rs Lo Lp X1 B1=>?_
 simp only[List.set_cons_succ,List.set_cons_zero]
 refine hN _ _ (ay fun N hN=>?_)
 have p0:IA cs mix k 0 (sH cs mix k mix.length) (sU cs mix k mix.length) 1:=.ini
 -- how it is asked what comes in
 have ask:∀{S1:aw} {R:Addr} {rs:List Addr} {rows:List (List Int)} {held:List Nat} {q:Int} {n:Nat} {Q':bE},IA cs mix k n rows held q->BalAt S1 a R H rs rows held q->(∀(pl:Option Nat) S2,Ext S1 S2->(match pl with|none=>∀j,j < cs.length+k->0<=(toS rows held q).T (mix.length+k) j|some c=>Wg.En (mix.length+k) (cs.length+k) (toS rows held q) c)->Q' (fV pl) S2)->x1 [.ref a] S1 Q' gf:=fun{S1 R rs rows held q n Q'} pt B k'=>H_ B (pt.bnd P).1 (fun S2 X2 h=>k' none S2 X2 h) (fun c S2 X2 h=>k' (some c) S2 X2 h)
 have hm1:∀R q,(bF R H q).lookup ("gaining":Str)=none:=fun _ _=>rfl
 have hm2:∀R q,(bF R H q).lookup ("used_up":Str)=none:=fun _ _=>rfl
 have NW:∀R q,(bF R H q).lookup ("hold":Str)=none:=fun _ _=>rfl
 simp only[ap,da,af,v3,lk,cw,B1.o,hm1,true_and]
 refine ask p0 B1 fun pl S2 X2 hpl=>?_
 simp only[List.set_cons_succ,List.set_cons_zero]
 refine hN _ _ (ay fun N hN=>?_)
 have C1:1<=Cb:=by decide
 have fin:∀{rows:List (List Int)} {held:List Nat} {q:Int} {n:Nat},IA cs mix k n rows held q->∃m,Wg.Hn (mix.length+k) (cs.length+k) m (toS rows held q):=fun pt=>by
  obtain⟨_,b,v⟩:=pt.ok P
  exact v.ends C1 (fun i j hi hj=>qT P i j hi hj)
 obtain⟨m0,hm0⟩:=fin p0
 refine⟨fun m σ S'=>∃(n:Nat) (R:Addr) (rs:List Addr) (rows:List (List Int)) (held:List Nat) (q:Int) (pl:Option Nat) (x5:Option PV),IA cs mix k n rows held q/\Wg.Hn (mix.length+k) (cs.length+k) m (toS rows held q)/\BalAt S' a R H rs rows held q/\Ext S S'/\
  (match pl with|none=>∀j,j < cs.length+k->0<=(toS rows held q).T (mix.length+k) j|some c=>Wg.En (mix.length+k) (cs.length+k) (toS rows held q) c)/\
  σ=[some (.tup (cs.map Cl.pv)),some (.tup (mix.map PV.int)),some (.int (k:Int)),some (.ref a),some (fV pl),x5],⟨m0,0,R,rs,_,_,_,pl,_,p0,hm0,B1.ext X2,X1.trans X2,hpl,rfl⟩,?_⟩
 rintro m σ S' ⟨n,R,rs,rows,held,q,pl,x5,pt,hn,B,X,hpl,rfl⟩
 obtain⟨D,Y,qs,_⟩:=pt.bnd P
 cases pl with
 |none=>
  simp only[fV,bg,ai,v3,lk,c3,kU,bne_self_eq_false,Bool.false_eq_true,if_false]
  refine hN _ _ ?_
  simp only[av,ac,af,v3,lk]
  exact Ie P B D Y fun S2 X2=>kk _ S2 (X.trans X2) ⟨n,rows,held,q,pt,.inl ⟨hpl,rfl⟩⟩
 |some c=>
  have hpl:Wg.En (mix.length+k) (cs.length+k) (toS rows held q) c:=hpl
  have hcl:=hpl.lt
  simp only[fV,bg,ai,v3,lk,c3,kU,Bool.bne_false,if_true]
  refine⟨fun σ' Jw=>∃(m':Nat),m' < m/\∃(n:Nat) (R:Addr) (rs:List Addr) (rows:List (List Int)) (held:List Nat) (q:Int) (pl:Option Nat) (x5:Option PV),IA cs mix k n rows held q/\Wg.Hn (mix.length+k) (cs.length+k) m' (toS rows held q)/\BalAt Jw a R H rs rows held q/\Ext S Jw/\
   (match pl with|none=>∀j,j < cs.length+k->0<=(toS rows held q).T (mix.length+k) j|some c=>Wg.En (mix.length+k) (cs.length+k) (toS rows held q) c)/\
   σ'=[some (.tup (cs.map Cl.pv)),some (.tup (mix.map PV.int)),some (.int (k:Int)),some (.ref a),some (fV pl),x5],fun σ' Jw h=>h,?_⟩
  refine ay fun N2 Hi=>?_
  simp only[ap,da,af,v3,lk,cw,B.o,hm2,true_and]
  refine Ib B D (by omega) (fun hno=>?_) (fun r lv=>?_)
  ·simp only[List.set_cons_succ,List.set_cons_zero]
   refine Hi _ _ (ay fun N2 Hi=>?_)
   simp only[cK,bg,ai,v3,lk,c3,kU,Bool.false_bne,if_true,av,ac,af]
   exact IH B D Y.q0 qs (by have:=P.n2;omega) (by omega) fun S2 X2=>kk _ S2 (X.trans X2) ⟨n,rows,held,q,pt,.inr ⟨c,hpl,hno,rfl⟩⟩
  ·simp only[List.set_cons_succ,List.set_cons_zero]
   refine Hi _ _ (ay fun N2 Hi=>?_)
   simp only[cK,bg,ai,v3,lk,c3,kU,Bool.false_bne,Bool.false_eq_true,if_false]
   refine Hi _ _ (ay fun N2 Hi=>?_)
   simp only[c_,da,af,v3,lk,cw,B.o,NW,true_and]
   have lr:=lv.lt
   refine GY B D.sh (by rw[D.rl];omega) (by rw[D.hl];omega) (show c < cs.length+k+1 by omega) (by have:=Y.q0;omega) qs fun S3 R3 Mm B3 fr=>?_
   have MY:=IA.step pt hpl lv
   have X3:Ext S S3:=fun b o h=>fr b o (X _ _ h) (fun e=>by rw[e,Lo]at h;cases h) (fun e=>by rw[e,Lp]at h;cases h)
   refine Hi _ _ ?_
   simp only[ap,da,af,v3,lk,cw,B3.o,hm1,true_and]
   refine ask MY B3 fun NX S4 X4 Mo=>?_
   simp only[List.set_cons_succ,List.set_cons_zero]
   cases m with
   |zero=>exact absurd ⟨hpl,lv,rfl⟩ (hn _ c r)
   |succ m=>
    have MZ:=hn _ c r ⟨hpl,lv,rfl⟩
    rw[<-mT ⟨D.rl,D.hl,D.w⟩ lr]at MZ
    exact⟨m,Nat.lt_succ_self _,n+1,R3,Mm,_,_,_,NX,_,MY,MZ,B3.ext X4,X3.trans X4,Mo,rfl⟩
noncomputable def Xj(s:Wg.Sx)(m j x:Nat):Int:=Wg.sm m fun i=>if s.held i=x then s.T i j else 0
def yr{rows:List (List Int)}{held:List Nat}{m V n j:Nat}{q sg:Int}(D:Dm rows held m V)(inj:∀i l,i < m->l < m->held.getD i 0=held.getD l 0->i=l):xk n rows held q sg j=(List.range n).map fun x=>cq q (sg * Xj (toS rows held q) m j x):=by
 have h1:=D.rl
 have h2:=D.hl
 have key:∀p,p<=m->((rows.zip held).take p).foldl (HI n j q sg) (List.replicate n (cq q 0))=(List.range n).map fun x=>cq q (sg * Xj (toS rows held q) p j x):=by
  intro p
  induction p with
  |zero=>
   intro _
   refine List.ext_getElem? fun x=>?_
   show(List.replicate n (cq q 0))[x]?=_
   rw[List.getElem?_map,List.getElem?_replicate]
   by_cases hx:x < n
   ·rw[if_pos hx,List.getElem?_range hx]
    show some (cq q 0)=some (cq q (sg * 0))
    rw[Int.mul_zero]
   ·rw[if_neg hx,List.getElem?_eq_none (by simp;omega)];rfl
  |succ p ih=>
   intro hp
   have hz:(rows.zip held)[p]?=some (rows[p]'(by omega),held[p]'(by omega)):=List.getElem?_zip_eq_some.mpr ⟨List.getElem?_eq_getElem _,List.getElem?_eq_getElem _⟩
   rw[List.take_succ,hz,List.foldl_append,ih (by omega)]
   have eh:held.getD p 0=held[p]'(by omega):=aA (List.getElem?_eq_getElem _)
   have er:(toS rows held q).T p j=(rows[p]'(by omega)).getD j 0:=by show(rows.getD p []).getD j 0=_;rw[aA (List.getElem?_eq_getElem (show p < rows.length by omega))]
   have M0:(toS rows held q).held p=held[p]'(by omega):=eh
   show HI n j q sg ((List.range n).map fun x=>cq q (sg * Xj (toS rows held q) p j x)) (rows[p]'(by omega),held[p]'(by omega))=_
   refine List.ext_getElem? fun x=>?_
   unfold HI
   have old:∀x,x≠held[p]'(by omega)->Xj (toS rows held q) (p+1) j x=Xj (toS rows held q) p j x:=fun x hx=>by
    unfold Xj
    simp only[Wg.sm]
    rw[M0,if_neg (Ne.symm hx),Int.add_zero]
   have new:Xj (toS rows held q) (p+1) j (held[p]'(by omega))=(rows[p]'(by omega)).getD j 0:=by
    unfold Xj
    simp only[Wg.sm]
    rw[M0,if_pos rfl,er,Wg.br (fun i hi=>if_neg fun e=>by
     have e:held.getD i 0=held.getD p 0:=by rw[eh];exact e
     have:=inj i p (by omega) (by omega) e
     omega),Int.zero_add]
   by_cases hx:x < n
   ·rw[List.getElem?_map,List.getElem?_range hx]
    by_cases he:x=held[p]'(by omega)
    ·have hlt:held[p]'(by omega) < n:=by omega
     show(if held[p]'(by omega) < n then ((List.range n).map fun x=>cq q (sg * Xj (toS rows held q) p j x)).set (held[p]'(by omega)) (cq q (sg * (rows[p]'(by omega)).getD j 0)) else (List.range n).map fun x=>cq q (sg * Xj (toS rows held q) p j x))[x]?=some (cq q (sg * Xj (toS rows held q) (p+1) j x))
     rw[if_pos hlt,List.getElem?_set,if_pos he.symm,if_pos (by simp;exact hlt),he,new]
    ·have:(if held[p]'(by omega) < n then ((List.range n).map fun x=>cq q (sg * Xj (toS rows held q) p j x)).set (held[p]'(by omega)) (cq q (sg * (rows[p]'(by omega)).getD j 0)) else (List.range n).map fun x=>cq q (sg * Xj (toS rows held q) p j x))[x]?=((List.range n).map fun x=>cq q (sg * Xj (toS rows held q) p j x))[x]?:=by
      split
      ·rw[List.getElem?_set,if_neg (Ne.symm he)]
      ·rfl
     refine this.trans ?_
     rw[List.getElem?_map,List.getElem?_range hx]
     show some (cq q (sg * Xj (toS rows held q) p j x))=some (cq q (sg * Xj (toS rows held q) (p+1) j x))
     rw[old x he]
   ·rw[List.getElem?_eq_none (by split<;>simp<;>omega),List.getElem?_eq_none (by simp;omega)]
 have:=key m (Nat.le_refl _)
 unfold xk
 rw[<-this,List.take_of_length_le (by rw[List.length_zip];omega)]
section
variable {cs:List Cl} {mix:Vu} {k:Nat}
noncomputable def ck(cs:List Cl)(f:Cl->Int)(X:Nat->Int):Int:=cF (cs.map f) ((List.range cs.length).map X)
def u9(n:Nat)(f:Nat->Int):Wg.sm (n+1) f=f 0+Wg.sm n fun j=>f (j+1):=by
 induction n with
 |zero=>simp[Wg.sm]
 |succ n ih=>show Wg.sm (n+1) f+f (n+1)=f 0+((Wg.sm n fun j=>f (j+1))+f (n+1));rw[ih];omega
theorem iw:∀(xs ys:Vu),xs.length=ys.length->cF xs ys=Wg.sm xs.length fun j=>xs.getD j 0 * ys.getD j 0
 |[],[],_=>rfl
 |a::r,b::s,h=>by
  rw[List.length_cons,u9]
  have:=iw r s (by simpa using h)
  show a * b+cF r s=a * b+Wg.sm r.length fun j=>r.getD j 0 * s.getD j 0
  rw[this]
def b_(f:Cl->Int)(X:Nat->Int):ck cs f X=Wg.sm cs.length fun j=>(cs.map f).getD j 0 * X j:=by
 unfold ck
 rw[iw _ _ (by simp),List.length_map]
 refine Wg.ao fun j hj=>?_
 rw[show((List.range cs.length).map X).getD j 0=X j from aA (by rw[List.getElem?_map,List.getElem?_range hj];rfl)]
def e8(n k:Nat)(f:Nat->Int):Wg.sm (n+k) f=Wg.sm n f+Wg.sm k fun t=>f (n+t):=by
 induction k with
 |zero=>simp[Wg.sm]
 |succ k ih=>show Wg.sm (n+k) f+f (n+k)=_+(_+f (n+k));rw[ih];omega
def yt{d:Nat}(hd:d < mix.length)(y:Nat->Int):Wg.sm (cs.length+k+1) (fun j=>Ao cs mix k d j * y j)=ck cs (w1 d) y+mix.getD d 0 * y (cs.length+k):=by
 simp only[Wg.sm]
 rw[e8,uY hd,Wg.br (n:=k) (fun t ht=>by rw[xr hd ht,Int.zero_mul]),Int.add_zero,b_]
 congr 1
 refine Wg.ao fun j hj=>?_
 have hc:=List.getElem?_eq_getElem hj
 rw[sI hd hc,dh hc]
def yu{t:Nat}(ht:t < k)(y:Nat->Int):Wg.sm (cs.length+k+1) (fun j=>Ao cs mix k (mix.length+t) j * y j) = - ck cs (fun c=>c.eff.getD t 0) y+y (cs.length+t):=by
 simp only[Wg.sm]
 rw[e8,xv ht,Int.zero_mul,Int.add_zero,Wg.bj (n:=k) (i:=t) ht (fun u hu hne=>by rw[sJ ht hu,if_neg hne,Int.zero_mul]),sJ ht ht,if_pos rfl,Int.one_mul,b_,<-Wg.gL]
 congr 1
 refine Wg.ao fun j hj=>?_
 have hc:=List.getElem?_eq_getElem hj
 rw[xu ht hc,dh hc,Int.neg_mul]
def yv(y:Nat->Int):Wg.sm (cs.length+k+1) (fun j=>Ao cs mix k (mix.length+k) j * y j) = - ck cs (Cn cs) y:=by
 simp only[Wg.sm]
 rw[e8,qd (Nat.le_refl _),Int.zero_mul,Int.add_zero,Wg.br (n:=k) (fun t ht=>by rw[qd (by omega),Int.zero_mul]),Int.add_zero,b_,<-Wg.gL]
 refine Wg.ao fun j hj=>?_
 have hc:=List.getElem?_eq_getElem hj
 rw[Ay hc,dh hc]
 unfold Cn
 grind
def along{m V:Nat}{A:Nat->Nat->Int}{s:Wg.Sx}{b:Nat->Wg.Vc}(v:Wg.Val m V A s b)(F:Nat->Int)(G:Nat->Int)(j:Nat):Wg.sm V (fun x=>F x * Xj s m j x)=Wg.sm m fun i=>F (s.held i) * s.T i j:=by
 unfold Xj
 rw[Wg.ao (g:=fun x=>Wg.sm m fun i=>if s.held i=x then F (s.held i) * s.T i j else 0) (fun x _=>by
  rw[<-Wg.bU];refine Wg.ao fun i _=>?_;split
  ·rename_i e;rw[e]
  ·simp),Wg.iP]
 refine Wg.ao fun i hi=>?_
 rw[Wg.bj (i:=s.held i) (v.hv i hi) (fun x _ hx=>if_neg fun e=>hx e.symm),if_pos rfl]
def E8{b:Nat->Wg.Vc}{s:Wg.Sx}(v:Wg.Val (mix.length+k) (cs.length+k) (Ao cs mix k) s b) :
  (∀d,d < mix.length->ck cs (w1 d) (Xj s (mix.length+k) (cs.length+k))=mix.getD d 0 * s.q)/\
  (∀t,t < k->ck cs (fun c=>c.eff.getD t 0) (Xj s (mix.length+k) (cs.length+k))=Xj s (mix.length+k) (cs.length+k) (cs.length+t))/\
  ck cs (Cn cs) (Xj s (mix.length+k) (cs.length+k))=s.T (mix.length+k) (cs.length+k):=by
 let y:Nat->Int:=fun j=>if j=cs.length+k then - s.q else Xj s (mix.length+k) (cs.length+k) j
 have y1:∀j,j < cs.length+k->y j=Xj s (mix.length+k) (cs.length+k) j:=fun j hj=>if_neg (by omega)
 have y2:y (cs.length+k) = - s.q:=if_pos rfl
 have Jh:∀i,i<=mix.length+k->Wg.sm (cs.length+k+1) (fun j=>s.T i j * y j)=(Wg.sm (mix.length+k) fun l=>s.T i (s.held l) * s.T l (cs.length+k)) - s.T i (cs.length+k) * s.q:=fun i hi=>by
  simp only[Wg.sm]
  rw[y2,Wg.ao (g:=fun j=>s.T i j * Xj s (mix.length+k) (cs.length+k) j) (fun j hj=>by rw[y1 j hj]),along v (s.T i) (fun _=>0)]
  grind
 have z:∀i,i < mix.length+k->Wg.sm (cs.length+k+1) (fun j=>s.T i j * y j)=0:=fun i hi=>by
  rw[Jh i (by omega),Wg.bj hi (fun l hl hne=>by rw[v.Iz (by omega) hl,if_neg (Ne.symm hne),Int.zero_mul]),v.Iz (by omega) hi,if_pos rfl]
  grind
 obtain⟨b1,b2⟩:=v.tab.back y z
 have cy:∀f:Cl->Int,ck cs f y=ck cs f (Xj s (mix.length+k) (cs.length+k)):=fun f=>by
  rw[b_,b_]
  exact Wg.ao fun j hj=>by rw[y1 j (by omega)]
 refine⟨fun d hd=>?_,fun t ht=>?_,?_⟩
 ·have:=b1 d (by omega)
  rw[yt hd,cy,y2]at this
  grind
 ·have:=b1 (mix.length+t) (by omega)
  rw[yu ht,cy,y1 _ (by omega)]at this
  omega
 ·rw[yv,cy,Jh _ (Nat.le_refl _),Wg.br (fun l hl=>by rw[v.Iz (Nat.le_refl _) hl,if_neg (by omega),Int.zero_mul])]at b2
  refine Wg.yo v.tab.pos ?_
  grind
def yw{b:Nat->Wg.Vc}{s:Wg.Sx}(v:Wg.Val (mix.length+k) (cs.length+k) (Ao cs mix k) s b)(x:Nat):0<=Xj s (mix.length+k) (cs.length+k) x:=Wg.eZ fun i hi=>by
 split
 ·exact v.fs i hi
 ·exact Int.le_refl _
def xD{b:Nat->Wg.Vc}{s:Wg.Sx}(v:Wg.Val (mix.length+k) (cs.length+k) (Ao cs mix k) s b):∃Z:Nat->Int,(∀j,j<=cs.length+k->s.T (mix.length+k) j=s.q * Ao cs mix k (mix.length+k) j+Wg.sm (mix.length+k) fun i=>Z i * Ao cs mix k i j):=by
 refine⟨fun i=>Wg.dt (mix.length+k+1) (Wg.ud b (mix.length+k) (Wg.eu i)),fun j hj=>?_⟩
 rw[v.tab.ent (Nat.le_refl _) (by omega)]
 have e:Wg.dt (mix.length+k+1) (Wg.ud b (mix.length+k) (Wg.cl (Ao cs mix k) j))=Wg.dt (mix.length+k+1) (Wg.ud b (mix.length+k) fun kk=>Wg.sm (mix.length+k+1) fun l=>Ao cs mix k l j * Wg.eu l kk):=by
  refine Wg.cx fun l kk hl hk=>?_
  by_cases el:l=mix.length+k
  ·subst el
   rw[Wg.aH,Wg.aH,Wg.bj (i:=kk) hk (fun u _ hu=>by unfold Wg.eu;rw[if_neg (Ne.symm hu),Int.mul_zero])]
   unfold Wg.cl Wg.eu
   rw[if_pos rfl,Int.mul_one]
  ·rw[Wg.a7 el,Wg.a7 el]
 rw[e,Wg.kD b (by omega)]
 simp only[Wg.sm]
 have eg:Wg.dt (mix.length+k+1) (Wg.ud b (mix.length+k) (Wg.eu (mix.length+k)))=s.q:=by
  rw[<-v.tab.det]
  refine Wg.cx fun l kk hl hk=>?_
  by_cases el:l=mix.length+k
  ·subst el;rw[Wg.aH,v.tab.gl kk]
  ·rw[Wg.a7 el]
 rw[eg,Int.mul_comm,Int.add_comm]
 congr 1
 exact Wg.ao fun i _=>Int.mul_comm _ _
end
section
variable {cs:List Cl} {mix:Vu} {k:Nat}
structure u_ (cs:List Cl) (mix:Vu) (k:Nat) (v:PV) (q g:Int) (X:Nat->Int) (Y:Vu) (pr:Nat->Int):Prop where
 v:v = .tup [.str "most",cq (q * (cbO cs:Int)) g,.tup ((List.range cs.length).map fun x=>cq q (X x)),.tup ((List.range mix.length).map fun d=>cq (q * (cbO cs:Int)) (pr d)),.tup (Y.map (cq (q * (cbO cs:Int))))]
 qy:Qy q Y k
 x0:∀x,0<=X x
 x1:∀x,(X x).natAbs<=Kq * 16
 GQ:∀d,d < mix.length->ck cs (w1 d) X=mix.getD d 0 * q
 Jp:∀t,t < k->0<=ck cs (fun c=>c.eff.getD t 0) X
 cost:ck cs (Cn cs) X=g
 g1:g.natAbs<=Kq
 y0:∀y∈Y,0<=y
 non:∀c∈cs,c.who=none->q * Cn cs c+cF c.eff Y<=0
 Ke:∀c∈cs,∀d,c.who=some d->q * Cn cs c+cF c.eff Y<=pr d
 NY:∀d,d < mix.length->0<=pr d
 Jq:∀d,d < mix.length->(pr d).natAbs<=Kq * 2 ^ 43
 sum:cF mix ((List.range mix.length).map pr)=g
structure xE (cs:List Cl) (k:Nat) (v:PV) (q:Int) (y:Nat->Int):Prop where
 v:v = .tup [.str "endless",.tup ((List.range cs.length).map fun x=>cq q (y x))]
 q0:0 < q
 q1:q.natAbs<=Kq
 y0:∀x,0<=y x
 y1:∀x,(y x).natAbs<=Kq * 17
 GQ:∀j c,cs[j]?=some c->c.who≠none->y j=0
 Jp:∀t,t < k->0<=ck cs (fun c=>c.eff.getD t 0) y
 cost:0 < ck cs (Cn cs) y
theorem va:∀(xs ys:Vu),(∀x∈xs,0<=x)->(∀y∈ys,0<=y)->0<=cF xs ys
 |[],_,_,_=>by simp[cF]
 |_::_,[],_,_=>by simp[cF]
 |a::r,b::s,h,g=>by
  have:=va r s (fun x hx=>h x (by simp[hx])) (fun y hy=>g y (by simp[hy]))
  have:=Int.mul_nonneg (h a (by simp)) (g b (by simp))
  show 0<=a * b+cF r s
  omega
def AC(P:bB cs mix k){q:Int}{Y:Vu}(h:Qy q Y k){c:Cl}(hc:c∈cs):(q * Cn cs c+cF c.eff Y).natAbs<=Kq * 2 ^ 43:=by
 have a1:(q * Cn cs c).natAbs<=Kq * 2 ^ 42:=by rw[Int.natAbs_mul];exact Nat.mul_le_mul h.q1 (mW P hc).1
 have a2:=jZ (is:=c.eff) (ns:=Y) (P.eb c hc) h.y
 rw[P.ef c hc]at a2
 have k8:=Nat.mul_le_mul P.k1 (Nat.le_refl (2 ^ 30 * Kq))
 have a4:(cF c.eff Y).natAbs<=eM (aZ c.eff Y):=by rw[<-dR];exact iO _
 have a5:=Int.natAbs_add_le (q * Cn cs c) (cF c.eff Y)
 have a6:=Nat.le_trans a5 (Nat.add_le_add a1 (Nat.le_trans a4 (Nat.le_trans a2 k8)))
 refine Nat.le_trans a6 ?_
 generalize Kq=z
 omega
def vb(P:bB cs mix k){b:Nat->Wg.Vc}{s:Wg.Sx}{Z:Nat->Int}(hZ:∀j,j<=cs.length+k->s.T (mix.length+k) j=s.q * Ao cs mix k (mix.length+k) j+Wg.sm (mix.length+k) fun i=>Z i * Ao cs mix k i j) :
  (∀t,t < k->s.T (mix.length+k) (cs.length+t)=Z (mix.length+t))/\
  (∀j c,cs[j]?=some c->s.T (mix.length+k) j=(match c.who with|some d=>Z d|none=>0) - s.q * Cn cs c - cF c.eff ((List.range k).map fun t=>Z (mix.length+t)))/\
  s.T (mix.length+k) (cs.length+k)=Wg.sm mix.length fun d=>mix.getD d 0 * Z d:=by
 refine⟨fun t ht=>?_,fun j c hc=>?_,?_⟩
 ·rw[hZ _ (by omega),qd (by omega),Int.mul_zero,Int.zero_add,e8,Wg.br (n:=mix.length) (fun d hd=>by rw[xr hd ht,Int.mul_zero]),Int.zero_add,Wg.bj (i:=t) ht (fun u hu hne=>by rw[sJ hu ht,if_neg (Ne.symm hne),Int.mul_zero]),sJ ht ht,if_pos rfl,Int.mul_one]
 ·have hj:=(List.getElem?_eq_some_iff.mp hc).1
  have hm:=List.mem_of_getElem? hc
  rw[hZ _ (by omega),Ay hc,e8]
  have e1:Wg.sm mix.length (fun d=>Z d * Ao cs mix k d j)=match c.who with|some d=>Z d|none=>0:=by
   cases hw:c.who with
   |none=>exact Wg.br fun d hd=>by rw[sI hd hc];unfold w1;rw[hw,if_neg (by simp),Int.mul_zero]
   |some d=>
    have hd:=P.wd c hm d hw
    rw[Wg.bj hd (fun e he hne=>by rw[sI he hc];unfold w1;rw[hw,if_neg (fun h=>hne (Option.some.inj h).symm),Int.mul_zero]),sI hd hc]
    unfold w1
    rw[hw,if_pos rfl,Int.mul_one]
  have e2:Wg.sm k (fun t=>Z (mix.length+t) * Ao cs mix k (mix.length+t) j) = - cF c.eff ((List.range k).map fun t=>Z (mix.length+t)):=by
   rw[iw _ _ (by rw[P.ef c hm];simp),P.ef c hm,<-Wg.gL]
   refine Wg.ao fun t ht=>?_
   rw[xu ht hc,show((List.range k).map fun t=>Z (mix.length+t)).getD t 0=Z (mix.length+t)from aA (by rw[List.getElem?_map,List.getElem?_range ht];rfl)]
   grind
  rw[e1,e2]
  unfold Cn
  grind
 ·rw[hZ _ (Nat.le_refl _),qd (Nat.le_refl _),Int.mul_zero,Int.zero_add,e8,Wg.br (n:=k) (fun t ht=>by rw[xv ht,Int.mul_zero]),Int.add_zero]
  exact Wg.ao fun d hd=>by rw[uY hd,Int.mul_comm]
def qe(P:bB cs mix k){n:Nat}{rows:List (List Int)}{held:List Nat}{q:Int}(pt:IA cs mix k n rows held q)(hg:∀j,j < cs.length+k->0<=(toS rows held q).T (mix.length+k) j) :
  ∃g X Y pr,u_ cs mix k (ot cs mix k rows held q) q g X Y pr:=by
 obtain⟨D,b,v⟩:=pt.ok P
 obtain⟨_,Yq,_,bT⟩:=pt.bnd P
 obtain⟨s1,s2,s3⟩:=E8 v
 obtain⟨Z,hZ⟩:=xD v
 obtain⟨g1,g2,g3⟩:=vb (b:=b) P hZ
 have hq:0 < q:=v.tab.pos
 have eY:Yl rows cs.length (mix.length+k) k=(List.range k).map fun t=>Z (mix.length+t):=by
  unfold Yl
  exact List.map_congr_left fun t ht=>g1 t (List.mem_range.mp ht)
 have y0:∀y∈Yl rows cs.length (mix.length+k) k,0<=y:=fun y hy=>by
  unfold Yl at hy
  obtain⟨t,ht,rfl⟩:=List.mem_map.mp hy
  exact hg _ (by have:=List.mem_range.mp ht;omega)
 have inj:∀i l,i < mix.length+k->l < mix.length+k->held.getD i 0=held.getD l 0->i=l:=fun i l hi hl e=>v.inj hi hl e
 have col:∀j c,cs[j]?=some c->q * Cn cs c+cF c.eff (Yl rows cs.length (mix.length+k) k)=(match c.who with|some d=>Z d|none=>0) - (toS rows held q).T (mix.length+k) j:=fun j c hc=>by
  rw[g2 j c hc,eY]
  show q * Cn cs c+_=_
  have:(toS rows held q).q=q:=rfl
  rw[this]
  omega
 have le:∀c∈cs,∀d,c.who=some d->q * Cn cs c+cF c.eff (Yl rows cs.length (mix.length+k) k)<=Z d:=fun c hc d hw=>by
  obtain⟨j,hj⟩:=List.getElem?_of_mem hc
  have:=col j c hj
  rw[hw]at this
  have:=hg j (by have:=(List.getElem?_eq_some_iff.mp hj).1;omega)
  simp only at *
  omega
 have ne:∀d,d < mix.length->qV cs q (Yl rows cs.length (mix.length+k) k) d≠[]:=fun d hd e=>by
  obtain⟨c,_,hm,hw,_⟩:=dG P hd
  have:Jq cs q (Yl rows cs.length (mix.length+k) k) c∈qV cs q (Yl rows cs.length (mix.length+k) k) d:=List.mem_map.mpr ⟨c,List.mem_filter.mpr ⟨hm,decide_eq_true hw⟩,rfl⟩
  rw[e]at this;cases this
 have Mp:∀d,d < mix.length->mix.getD d 0 * qW (qV cs q (Yl rows cs.length (mix.length+k) k) d)=mix.getD d 0 * Z d:=fun d hd=>by
  by_cases hz:mix.getD d 0=0
  ·rw[hz,Int.zero_mul,Int.zero_mul]
  ·congr 1
   have hmp:0 < mix.getD d 0:=by
    have e:=List.getElem?_eq_getElem hd
    rw[aA e]at hz ⊢
    have:=P.m0 _ (List.getElem_mem hd)
    omega
   have hs:=s1 d hd
   rw[b_]at hs
   obtain⟨x,hx,hp⟩:=Wg.pV (n:=cs.length) (f:=fun j=>(cs.map (w1 d)).getD j 0 * Xj (toS rows held q) (mix.length+k) (cs.length+k) j) (by rw[hs];exact Int.mul_pos hmp hq)
   have hc:=List.getElem?_eq_getElem hx
   rw[dh hc]at hp
   have hw:(cs[x]).who=some d:=by
    unfold w1 at hp
    by_cases h:(cs[x]).who=some d
    ·exact h
    ·rw[if_neg h,Int.zero_mul]at hp;omega
   have hX:0 < Xj (toS rows held q) (mix.length+k) (cs.length+k) x:=by
    unfold w1 at hp
    rw[if_pos hw,Int.one_mul]at hp
    exact hp
   obtain⟨i,hi,Mf⟩:=Wg.pV hX
   have hh:(toS rows held q).held i=x:=by
    by_cases h:(toS rows held q).held i=x
    ·exact h
    ·simp only[h,if_false]at Mf;omega
   have NZ:(toS rows held q).T (mix.length+k) x=0:=by rw[<-hh,v.Iz (Nat.le_refl _) hi,if_neg (by omega)]
   have KQ:=col x _ hc
   rw[hw,NZ,Int.sub_zero]at KQ
   refine(u8 (ns:=qV cs q (Yl rows cs.length (mix.length+k) k) d) ?_ fun a ha=>?_).symm
   ·exact List.mem_map.mpr ⟨cs[x],List.mem_filter.mpr ⟨List.getElem_mem hx,decide_eq_true hw⟩,KQ⟩
   ·obtain⟨c,hc',rfl⟩:=List.mem_map.mp ha
    obtain⟨h1,h2⟩:=List.mem_filter.mp hc'
    exact le c h1 d (of_decide_eq_true h2)
 refine⟨(rows.getD (mix.length+k) []).getD (cs.length+k) 0,Xj (toS rows held q) (mix.length+k) (cs.length+k),Yl rows cs.length (mix.length+k) k,fun d=>qW (qV cs q (Yl rows cs.length (mix.length+k) k) d),⟨?_,Yq,yw v,fun x=>?_,s1,fun t ht=>by rw[s2 t ht];exact yw v _,s3,bT _ _ (Nat.le_refl _) (Nat.le_refl _),y0,fun c hc hw=>?_,fun c hc d hw=>?_,fun d hd=>?_,fun d hd=>?_,?_⟩⟩
 ·unfold ot
  rw[yr D inj]
  simp only[Int.one_mul]
 ·have:=Wg.pZ (n:=mix.length+k) (B:=Kq) (f:=fun i=>if (toS rows held q).held i=x then (toS rows held q).T i (cs.length+k) else 0) (fun i hi=>by
   show(if (toS rows held q).held i=x then (toS rows held q).T i (cs.length+k) else 0).natAbs<=Kq
   split
   ·exact bT i _ (by omega) (Nat.le_refl _)
   ·exact Nat.zero_le _)
  refine Nat.le_trans this ?_
  rw[Nat.mul_comm]
  exact Nat.mul_le_mul (Nat.le_refl _) (by have:=P.k1;have:=P.d1;omega)
 ·obtain⟨j,hj⟩:=List.getElem?_of_mem hc
  have h1:=col j c hj
  rw[hw]at h1
  have h2:=hg j (by have:=(List.getElem?_eq_some_iff.mp hj).1;omega)
  simp only at h1
  omega
 ·exact(mV (ne d (P.wd c hc d hw))).2 _ (List.mem_map.mpr ⟨c,List.mem_filter.mpr ⟨hc,decide_eq_true hw⟩,rfl⟩)
 ·obtain⟨c,_,hm,hw,hpos,_⟩:=dG P hd
  have h1:=(mV (ne d hd)).2 _ (List.mem_map.mpr ⟨c,List.mem_filter.mpr ⟨hm,decide_eq_true hw⟩,rfl⟩)
  have h2:=va c.eff _ hpos y0
  have h3:=Int.mul_nonneg (show 0<=q by omega) (mW P hm).2
  unfold Jq at h1
  show 0<=qW _
  omega
 ·obtain⟨c,hc,e⟩:=List.mem_map.mp (mV (ne d hd)).1
  show(qW _).natAbs<=_
  rw[<-e]
  exact AC P Yq (List.mem_filter.mp hc).1
 ·rw[iw _ _ (by simp)]
  refine Eq.trans ?_ g3.symm
  refine Wg.ao fun d hd=>?_
  rw[show((List.range mix.length).map fun d=>qW (qV cs q (Yl rows cs.length (mix.length+k) k) d)).getD d 0=qW (qV cs q (Yl rows cs.length (mix.length+k) k) d)from aA (by rw[List.getElem?_map,List.getElem?_range hd];rfl)]
  exact Mp d hd
end
section
variable {cs:List Cl} {mix:Vu} {k:Nat}
def qf{n:Nat}{f:Nat->Int}(h0:∀i,i < n->0<=f i)(h:Wg.sm n f=0):∀i,i < n->f i=0:=by
 induction n with
 |zero=>intro i hi;omega
 |succ n ih=>
  have h1:=Wg.eZ (n:=n) (f:=f) fun i hi=>h0 i (by omega)
  have h2:=h0 n (by omega)
  have h:Wg.sm n f+f n=0:=h
  intro i hi
  by_cases e:i=n
  ·subst e;omega
  ·exact ih (fun i hi=>h0 i (by omega)) (by omega) i (by omega)
def sL(P:bB cs mix k){n:Nat}{rows:List (List Int)}{held:List Nat}{q:Int}{c:Nat}(pt:IA cs mix k n rows held q)(en:Wg.En (mix.length+k) (cs.length+k) (toS rows held q) c)(hno:∀i,i < mix.length+k->(toS rows held q).T i c<=0) :
  ∃y,xE cs k (sK cs.length rows held q c) q y:=by
 obtain⟨D,b,v⟩:=pt.ok P
 obtain⟨_,Yq,_,bT⟩:=pt.bnd P
 have hq:0 < q:=v.tab.pos
 have hcl:=en.lt
 have inj:∀i l,i < mix.length+k->l < mix.length+k->held.getD i 0=held.getD l 0->i=l:=fun i l hi hl e=>v.inj hi hl e
 have fr:=v.fresh en.ng
 have x0:∀x,Xj (toS rows held q) (mix.length+k) c x<=0:=fun x=>by
  have:=Wg.eZ (n:=mix.length+k) (f:=fun i=>-(if (toS rows held q).held i=x then (toS rows held q).T i c else 0)) (fun i hi=>by
   split
   ·have:=hno i hi;omega
   ·simp)
  rw[Wg.gL]at this
  unfold Xj
  omega
 have xc:Xj (toS rows held q) (mix.length+k) c c=0:=Wg.br fun i hi=>if_neg fun e=>fr ⟨i,hi,e⟩
 let y:Nat->Int:=fun x=>(if x=c then q else 0) - Xj (toS rows held q) (mix.length+k) c x
 have y0:∀x,0<=y x:=fun x=>by
  show 0<=(if x=c then q else 0) - _
  have:=x0 x
  split<;>omega
 let y':Nat->Int:=fun j=>if j=cs.length+k then 0 else y j
 have y1:∀j,j < cs.length+k->y' j=y j:=fun j hj=>if_neg (by omega)
 have y2:y' (cs.length+k)=0:=if_pos rfl
 have Jh:∀i,i<=mix.length+k->Wg.sm (cs.length+k+1) (fun j=>(toS rows held q).T i j * y' j)=(toS rows held q).T i c * q - Wg.sm (mix.length+k) fun l=>(toS rows held q).T i ((toS rows held q).held l) * (toS rows held q).T l c:=fun i hi=>by
  simp only[Wg.sm]
  rw[y2,Int.mul_zero,Int.add_zero,Wg.ao (g:=fun j=>(if j=c then (toS rows held q).T i j * q else 0) + -((toS rows held q).T i j * Xj (toS rows held q) (mix.length+k) c j)) (fun j hj=>by
   rw[y1 j hj]
   show(toS rows held q).T i j * ((if j=c then q else 0) - _)=_
   rw[Int.mul_sub,Int.sub_eq_add_neg]
   congr 1
   split<;>simp),Wg.fF,Wg.gL,along v ((toS rows held q).T i) (fun _=>0),Wg.bj hcl (fun j _ hj=>if_neg hj),if_pos rfl,Int.sub_eq_add_neg]
 have z:∀i,i < mix.length+k->Wg.sm (cs.length+k+1) (fun j=>(toS rows held q).T i j * y' j)=0:=fun i hi=>by
  rw[Jh i (by omega),Wg.bj hi (fun l hl hne=>by rw[v.Iz (by omega) hl,if_neg (Ne.symm hne),Int.zero_mul]),v.Iz (by omega) hi,if_pos rfl]
  show _ * q - q * _=0
  rw[Int.mul_comm];omega
 obtain⟨b1,b2⟩:=v.tab.back y' z
 have cy:∀f:Cl->Int,ck cs f y'=ck cs f y:=fun f=>by
  rw[b_,b_]
  exact Wg.ao fun j hj=>by rw[y1 j (by omega)]
 refine⟨y,⟨?_,hq,Yq.q1,y0,fun x=>?_,fun j cl hj hw=>?_,fun t ht=>?_,?_⟩⟩
 ·unfold sK xB
  rw[yr D inj]
  congr 2
  refine congrArg (fun l=>[PV.tup l]) ?_
  have e1:∀x,x≠c->cq q (-1 * Xj (toS rows held q) (mix.length+k) c x)=cq q (y x):=fun x hx=>by
   have:y x = -1 * Xj (toS rows held q) (mix.length+k) c x:=by show(if x=c then q else 0) - _=_;rw[if_neg hx];omega
   rw[this]
  refine List.ext_getElem? fun x=>?_
  by_cases hx:x < cs.length
  ·rw[List.getElem?_map,List.getElem?_range hx]
   by_cases hc:c < cs.length
   ·rw[if_pos hc,List.getElem?_set]
    by_cases e:c=x
    ·rw[if_pos e,if_pos (by simp;exact hc)]
     have:y x=q:=by show(if x=c then q else 0) - _=_;rw[if_pos e.symm,<-e,xc];omega
     show some (cq q q)=some (cq q (y x))
     rw[this]
    ·rw[if_neg e,List.getElem?_map,List.getElem?_range hx]
     exact congrArg some (e1 x (Ne.symm e))
   ·rw[if_neg hc,List.getElem?_map,List.getElem?_range hx]
    exact congrArg some (e1 x (by omega))
  ·rw[List.getElem?_eq_none (by split<;>simp<;>omega),List.getElem?_eq_none (by simp;omega)]
 ·have a:=Wg.pZ (n:=mix.length+k) (B:=Kq) (f:=fun i=>if (toS rows held q).held i=x then (toS rows held q).T i c else 0) (fun i hi=>by
   show(if (toS rows held q).held i=x then (toS rows held q).T i c else 0).natAbs<=Kq
   split
   ·exact bT i _ (by omega) (by omega)
   ·exact Nat.zero_le _)
  have a2:(Xj (toS rows held q) (mix.length+k) c x).natAbs<=16 * Kq:=Nat.le_trans a (Nat.mul_le_mul (by have:=P.k1;have:=P.d1;omega) (Nat.le_refl _))
  have a3:=Yq.q1
  show((if x=c then q else 0) - Xj (toS rows held q) (mix.length+k) c x).natAbs<=Kq * 17
  generalize Kq=z at a2 a3
  split<;>omega
 ·cases hw':cl.who with
  |none=>exact absurd hw' hw
  |some d=>
   have hd:=P.wd cl (List.mem_of_getElem? hj) d hw'
   have hlt:=(List.getElem?_eq_some_iff.mp hj).1
   have:=b1 d (by omega)
   rw[yt hd,cy,y2,Int.mul_zero,Int.add_zero,b_]at this
   have hz:=qf (fun i hi=>Int.mul_nonneg (by
    rw[dh (List.getElem?_eq_getElem hi)];unfold w1;split<;>decide) (y0 i)) this j hlt
   rw[dh hj]at hz
   unfold w1 at hz
   rw[if_pos hw',Int.one_mul]at hz
   exact hz
 ·have:=b1 (mix.length+t) (by omega)
  rw[yu ht,cy,y1 _ (by omega)]at this
  have:=y0 (cs.length+t)
  omega
 ·rw[yv,cy,Jh _ (Nat.le_refl _),Wg.br (fun l hl=>by rw[v.Iz (Nat.le_refl _) hl,if_neg (by omega),Int.zero_mul]),Int.sub_zero,Int.mul_comm _ q]at b2
  have:=Wg.yo hq b2
  have:=en.ng
  omega
def Out.right(P:bB cs mix k){v:PV}(h:Out cs mix k v):(∃q g X Y pr,u_ cs mix k v q g X Y pr)\/∃q y,xE cs k v q y:=by
 obtain⟨n,rows,held,q,pt,⟨hg,rfl⟩|⟨c,en,hno,rfl⟩⟩:=h
 ·obtain⟨g,X,Y,pr,h⟩:=qe P pt hg
  exact .inl ⟨q,g,X,Y,pr,h⟩
 ·obtain⟨y,h⟩:=sL P pt en hno
  exact .inr ⟨q,y,h⟩
end
def xF{i j k l:Int}{neg:Bool}{S:aw}{Q:bE}(q:Q (.bl (neg != decide (i=k/\j=l))) S):dU neg (.tup [.int i,.int j]) (.tup [.int k,.int l]) S Q:=by
 unfold dU
 refine⟨.tuple [.int i,.int j],.tuple [.int k,.int l],.tup (.cons (.int _) (.cons (.int _) .nil)),.tup (.cons (.int _) (.cons (.int _) .nil)),by simp[PyData.canLay0,PyData.canLayAll0],by simp[PyData.canLay0,PyData.canLayAll0],by simp[PyData.depth,PyData.depthAll],?_⟩
 have e:PyData.eqv (.tuple [.int i,.int j]) (.tuple [.int k,.int l])=decide (i=k/\j=l):=by
  simp only[PyData.eqv,PyData.eqvAll,Bool.and_true]
  rw[Bool.eq_iff_iff]
  simp
 rw[e]
 exact q
def qY{neg:Bool}{A B n m:Int}{S:aw}{Q:bE}(e:cq A n=cq B m)(q:Q (.bl (!neg)) S):dU neg (cq A n) (cq B m) S Q:=by
 rw[<-e]
 unfold cq
 refine xF ?_
 simpa using q
abbrev j0(w:aE):Prop:=∀{S:aw} {B n:Int} {Q:bE} {E:ci},Fq B n->(∀S',Ext S S'->Q (.bl true) S')->w [cq B n] S Q E
def Hs{xl:aE}(Ho:w5 xl):j0 (bc 1 (cE xl)):=by
 intro S B n Q E h k
 unfold cE
 refine fe ?_
 have sz:=h.sz
 have hq1:=h.q1;have q0:=h.q0
 rw[show au 1 [cq B n]=[some (.tup [.int (M3.aF n B),.int (M3.aG n B)])] from rfl]
 refine ay fun N hN=>?_
 simp only[cK,jL,df,bg,ah,ai,af,v3,lk,c3,mI,Bool.not_true,Bool.false_eq_true,if_false,aX,dU,List.length_cons,List.length_nil]
 simp only[Nat.zero_add,Nat.reduceAdd,Int.cast_ofNat_Int,decide_true,bne_self_eq_false,Bool.false_eq_true,if_false]
 refine hN _ _ (ay fun N hN=>?_)
 simp only[cK,df,bg,ah,af,ar,aL,v3,lk,b6]
 refine aO PV.int (fun _=>.bl true) trivial [M3.aF n B,M3.aG n B] [] (fun i hi=>⟨_,rfl,fun Q' q=>?_⟩) (aY (by simp)) ?_
 ·simp only[bJ,List.reduceReplicate,List.map_nil,List.append_nil,List.set_cons_zero,dv,lM,ah,af,v3,lk,c3,An,Ap,if_true,Bool.not_false]
  exact q
 intro p hp
 have eb:gc [PV.bl true,PV.bl true]=some [true,true]:=rfl
 simp only[r_,List.nil_append,List.map_cons,List.map_nil,aa,eb]
 simp only[List.all_cons,List.all_nil,id,Bool.and_true,Bool.not_true,Bool.false_eq_true,if_false]
 refine hN _ _ ?_
 simp only[av,dv,ai,v3,lk,c3,ak,gC,mH,kW,bN]
 rw[decide_eq_true sz.2.2]
 simp only[if_true,ac,af,v3,lk,ai,c3,ak,gC,mH]
 refine Ho sz.2.2 (bG (by omega)) ?_
 have L:=M3.cz (t:=n) (b:=B) (by omega)
 have e:cq (M3.aG n B) (M3.aF n B)=cq B n:=(mJ L).symm
 refine qY e ?_
 exact k _ (.new hp)
abbrev iT(w:aE):Prop:=∀{S:aw} {vs:List PV} {Q:bE} {E:ci},vs.length<=1000->(∀v∈vs,∃B n,v=cq B n/\Fq B n/\0<=n)->(∀S',Ext S S'->Q (.bl true) S')->w [.tup vs,.int (vs.length:Int)] S Q E
def Gq{xf:aE}(Hs:j0 xf):iT (bc 2 (bL xf)):=by
 intro S vs Q E hl hv k
 unfold bL
 refine fe ?_
 rw[show au 2 [PV.tup vs,.int (vs.length:Int)]=[some (.tup vs),some (.int (vs.length:Int))] from rfl]
 refine ay fun N hN=>?_
 simp only[cK,jL,df,bg,ah,ai,af,v3,lk,c3,mI,Bool.not_true,Bool.false_eq_true,if_false,aX,dU,decide_true,bne_self_eq_false]
 refine hN _ _ ?_
 simp only[av,ah,af,ar,aL,v3,lk,b6]
 refine cu (fun done ys S'=>Ext S S'/\done.length<=vs.length/\ys=List.replicate done.length (.bl true)) ⟨.refl,Nat.zero_le _,rfl⟩ (fun done ys S' ⟨X,l,e⟩=>⟨trivial,aY (by rw[e,List.length_replicate];omega)⟩) ?_ ?_
 ·rintro done x rest ys S' K e ⟨X,l,rfl⟩ hK
  obtain⟨B,n,rfl,hf,h0⟩:=hv x (by rw[e];simp)
  simp only[Tg.put,bJ,List.reduceReplicate,List.map_nil,List.append_nil,List.set_cons_zero,bo,if_true,dv,ac,af,v3,lk]
  refine Hs hf fun S2 X2=>?_
  have e0:(cq B n) = .tup [.int (M3.aF n B),.int (M3.aG n B)]:=rfl
  simp only[if_true,ai,v3,lk,c3,ak,e0,gC,wU,bN]
  have ct:=gK (n:=n) hf.q0
  rw[decide_eq_true (show 0<=M3.aF n B from Int.not_lt.mp fun h=>by have:=ct.1.mp h;omega)]
  refine hK _ _ ⟨X.trans X2,?_,?_⟩
  ·have:vs.length=done.length+(rest.length+1):=by rw[e,List.length_append,List.length_cons]
   rw[List.length_append,List.length_singleton];omega
  ·rw[List.length_append,List.length_singleton,List.replicate_succ']
 ·rintro ys S' ⟨X,_,rfl⟩ p hp
  simp only[r_,aa,sF]
  rw[show(List.replicate vs.length true).all id=true by simp]
  exact k _ (X.trans (.new hp))
def qZ{xp:aE}(Ft:jF xp){S:aw}{B f m c d:Int}{Q:bE}{E:ci}(hf:Fq B f)(hd:0 < d)(h1:c.natAbs<=dF)(h2:d.natAbs < dF)(e:c * B=m * d)(k:Q (cq B (f+m)) S):xp [cq B f,.tup [.int c,.int d]] S Q E:=by
 have sz:=hf.sz
 have:=hf.q1;have:=hf.n1;have q0:=hf.q0
 refine Ft sz.2.2 hd (by omega) (by omega) h1 h2 ?_
 have w:=M3.a8 (t:=f) (b:=B) (by omega)
 rw[fP (m:=f+m) (R:=B) (Int.mul_pos sz.2.2 hd) q0 (by
  calc (M3.aF f B * d+c * M3.aG f B) * B=(M3.aF f B * B) * d+(c * B) * M3.aG f B:=by grind
   _=_:=by rw[w,e];grind)]
 exact k
inductive qg (S:aw) (is:Vu):PV->Prop
 |tup:qg S is (.tup (is.map PV.int))
 |lst {p:Addr}:S p=some (.lst (is.map PV.int))->qg S is (.ref p)
abbrev e9(w:aE):Prop:=∀{S:aw} {v:PV} {B:Int} {is ns:Vu} {Q:bE} {E:ci},qg S is v->0 < B->B.natAbs < dF->is.length=ns.length->eM (aZ is ns) < dF->(∀i∈is,i.natAbs < dF)->(∀n∈ns,n.natAbs < dF)->Q (cq B (cF is ns)) S->w [v,.tup (ns.map (cq B))] S Q E
def xG{xp:aE}(Ft:jF xp):e9 (bc 5 (ip xp)):=by
 intro S v B is ns Q E hv hB Jo hl ha his hns k
 unfold ip
 refine fe ?_
 rw[show au 5 [v,.tup (ns.map (cq B))]=[some v,some (.tup (ns.map (cq B))),none,none,none] from rfl]
 have z0:PV.tup [.int 0,.int 1]=cq B 0:=by rw[iq,fP (Q:=1) (R:=B) (n:=0) (m:=0) (by decide) hB (by simp)]
 refine ay fun N hN=>?_
 simp only[ap,aS,af,c3,List.set_cons_succ,List.set_cons_zero]
 rw[z0]
 refine hN _ _ (ay fun N hN=>?_)
 -- the walk,by either kind
 have walk:∀keep:aw->Prop,keep S->mD (.tp (.cons (.n 3) (.cons (.n 4) .nil))) (ap 2 (ac xp [v3 2,aS [ai aU (v3 3) (ai ak (v3 4) (c3 (.int 0))),ai ak (v3 4) (c3 (.int 1))]])) { nx:=N,rt:=Q,ex:=gf } keep (aP (is.map PV.int) (ns.map (cq B))) [some v,some (.tup (ns.map (cq B))),some (cq B 0),none,none] S:=by
  intro keep hk
  refine bp (fun done σ S'=>S'=S/\done.length<=is.length/\∃x3 x4,σ=[some v,some (.tup (ns.map (cq B))),some (cq B ((aZ is ns).take done.length).sum),x3,x4]) ⟨rfl,Nat.zero_le _,_,_,rfl⟩ (fun _ _ _ ⟨e,_⟩=>by rw[e];exact hk) ?_ ?_
  ·rintro done x rest σ S' K e ⟨rfl,hd,x3,x4,rfl⟩ hK
   have hget:(aP (is.map PV.int) (ns.map (cq B)))[done.length]?=some x:=by rw[e];simp
   unfold aP at hget
   rw[List.getElem?_map]at hget
   obtain⟨⟨u,w⟩,hz,rfl⟩:=Option.map_eq_some_iff.mp hget
   obtain⟨h1,h2⟩:=List.getElem?_zip_eq_some.mp hz
   rw[List.getElem?_map]at h1 h2
   obtain⟨i,hi1,rfl⟩:=Option.map_eq_some_iff.mp h1
   obtain⟨n,hn1,rfl⟩:=Option.map_eq_some_iff.mp h2
   have hlt:done.length < is.length:=(List.getElem?_eq_some_iff.mp hi1).1
   have hp:(aZ is ns)[done.length]?=some (i * n):=by unfold aZ;rw[List.getElem?_zipWith,hi1,hn1]
   have t1:=iO ((aZ is ns).take done.length)
   have t2:=jf (aZ is ns) done.length
   have t3:=n9 (List.mem_of_getElem? hp)
   have L:=(M3.cz (t:=n) (b:=B) (by omega)).pos
   have ls:=M3.ga (t:=n) (b:=B) (T:=n.natAbs) (B:=B.natAbs) (by omega) (by omega) (by omega) (by omega) (by omega) (by omega) (by omega)
   have le1:(i * M3.aF n B).natAbs<=(i * n).natAbs:=by rw[Int.natAbs_mul,Int.natAbs_mul];exact Nat.mul_le_mul (Nat.le_refl _) (by omega)
   have e0:cq B n = .tup [.int (M3.aF n B),.int (M3.aG n B)]:=rfl
   simp only[Tg.put,Tg.FH,List.set_cons_succ,List.set_cons_zero,ap,ac,af,aS,ai,v3,lk,c3,ak,e0,gC,mH]
   have mi:=his i (List.mem_of_getElem? hi1)
   have mn:=hns n (List.mem_of_getElem? hn1)
   have mo:IntMulOk i (M3.aF n B):=(bG (by omega)).mul (bG (by omega))
   simp only[aU]
   refine⟨mo,qZ Ft (m:=i * n) ⟨hB,Jo,by omega⟩ L (by omega) (by omega) (by
    have w:=M3.a8 (t:=n) (b:=B) (by omega)
    rw[Int.mul_assoc,w];grind) (hK _ _ ⟨rfl,by rw[List.length_append];exact hlt,some (.int i),some (.tup [.int (M3.aF n B),.int (M3.aG n B)]),?_⟩)⟩
   rw[List.length_append,List.length_singleton,List.take_succ,hp]
   simp
  ·rintro σ S' ⟨rfl,hd,x3,x4,rfl⟩
   refine hN _ _ ?_
   have lz:(aP (is.map PV.int) (ns.map (cq B))).length=(aZ is ns).length:=by unfold aP aZ;simp
   rw[lz,List.take_length,dR]
   simp only[av,v3,lk]
   exact k
 cases hv with
 |tup=>simp only[bQ,jD,v3,lk];exact walk _ trivial
 |lst hp=>simp only[bQ,jD,v3,lk,hp];exact walk _ hp
section
variable {cs:List Cl} {mix:Vu} {k:Nat}
def weak(P:bB cs mix k){X M p:Nat->Int}{b:Int}{Z:Vu}(x0:∀x,0<=X x)(hM:∀d,d < mix.length->ck cs (w1 d) X=M d)(hj:∀t,t < k->0<=ck cs (fun c=>c.eff.getD t 0) X)(zl:Z.length=k)(z0:∀z∈Z,0<=z)
  (non:∀c∈cs,c.who=none->b * Cn cs c+cF c.eff Z<=0) (Ke:∀c∈cs,∀d,c.who=some d->b * Cn cs c+cF c.eff Z<=p d):b * ck cs (Cn cs) X<=Wg.sm mix.length fun d=>M d * p d:=by
 have each:∀j,j < cs.length->b * ((cs.map (Cn cs)).getD j 0 * X j)+Wg.sm k (fun t=>Z.getD t 0 * ((cs.map fun c=>c.eff.getD t 0).getD j 0 * X j))<=Wg.sm mix.length fun d=>p d * ((cs.map (w1 d)).getD j 0 * X j):=fun j hj=>by
  have hc:=List.getElem?_eq_getElem hj
  have hm:=List.getElem_mem hj
  generalize cs[j]=c at hc hm
  have R:b * Cn cs c+cF c.eff Z<=Wg.sm mix.length fun d=>p d * w1 d c:=by
   cases hw:c.who with
   |none=>
    rw[Wg.br fun d hd=>by unfold w1;rw[hw,if_neg (by simp),Int.mul_zero]]
    exact non c hm hw
   |some d=>
    rw[Wg.bj (P.wd c hm d hw) fun e he hne=>by unfold w1;rw[hw,if_neg (fun h=>hne (Option.some.inj h).symm),Int.mul_zero]]
    unfold w1
    rw[hw,if_pos rfl,Int.mul_one]
    exact Ke c hm d hw
  have m:=Int.mul_le_mul_of_nonneg_left R (x0 j)
  rw[iw _ _ (by rw[P.ef c hm,zl]),P.ef c hm,Int.mul_add,<-Wg.bU,<-Wg.bU]at m
  rw[dh hc]
  have e1:Wg.sm k (fun t=>Z.getD t 0 * ((cs.map fun c=>c.eff.getD t 0).getD j 0 * X j))=Wg.sm k fun t=>X j * (c.eff.getD t 0 * Z.getD t 0):=Wg.ao fun t _=>by rw[dh hc];grind
  have e2:Wg.sm mix.length (fun d=>p d * ((cs.map (w1 d)).getD j 0 * X j))=Wg.sm mix.length fun d=>X j * (p d * w1 d c):=Wg.ao fun t _=>by rw[dh hc];grind
  rw[e1,e2]
  have e3:b * (Cn cs c * X j)=X j * (b * Cn cs c):=by grind
  rw[e3]
  exact m
 have s:=Wg.Ce each
 rw[Wg.fF,Wg.bU,Wg.iP cs.length k,Wg.iP cs.length mix.length,<-b_]at s
 have e1:Wg.sm k (fun t=>Wg.sm cs.length fun j=>Z.getD t 0 * ((cs.map fun c=>c.eff.getD t 0).getD j 0 * X j))=Wg.sm k fun t=>Z.getD t 0 * ck cs (fun c=>c.eff.getD t 0) X:=Wg.ao fun t _=>by rw[Wg.bU,<-b_]
 have e2:Wg.sm mix.length (fun d=>Wg.sm cs.length fun j=>p d * ((cs.map (w1 d)).getD j 0 * X j))=Wg.sm mix.length fun d=>M d * p d:=Wg.ao fun d hd=>by rw[Wg.bU,<-b_,hM d hd,Int.mul_comm]
 rw[e1,e2]at s
 have nn:0<=Wg.sm k fun t=>Z.getD t 0 * ck cs (fun c=>c.eff.getD t 0) X:=Wg.eZ fun t ht=>by
  refine Int.mul_nonneg ?_ (hj t ht)
  have hl:t < Z.length:=by omega
  rw[aA (List.getElem?_eq_getElem hl)]
  exact z0 _ (List.getElem_mem hl)
 omega
structure Kf (cs:List Cl) (D k:Nat) (b:Int) (Z:Vu) (p:Nat->Int):Prop where
 b0:0 < b
 zl:Z.length=k
 z0:∀z∈Z,0<=z
 non:∀c∈cs,c.who=none->b * Cn cs c+cF c.eff Z<=0
 Ke:∀c∈cs,∀d,c.who=some d->b * Cn cs c+cF c.eff Z<=p d
def Kf.Kg(P:bB cs mix k){b:Int}{Z:Vu}{p:Nat->Int}(h:Kf cs mix.length k b Z p){v:PV}{q:Int}{y:Nat->Int}(e:xE cs k v q y):False:=by
 have w:=weak P (M:=fun _=>0) (p:=p) e.y0 (fun d hd=>by
  rw[b_]
  refine Wg.br fun j hj=>?_
  have hc:=List.getElem?_eq_getElem hj
  rw[dh hc]
  by_cases hw:cs[j].who=none
  ·unfold w1;rw[hw,if_neg (by simp),Int.zero_mul]
  ·rw[e.GQ j _ hc hw,Int.mul_zero]) e.Jp h.zl h.z0 h.non h.Ke
 rw[Wg.br fun d _=>Int.zero_mul _]at w
 have:=Int.mul_pos h.b0 e.cost
 omega
def AD{pr:Nat->Int}:cF mix ((List.range mix.length).map pr)=Wg.sm mix.length fun d=>mix.getD d 0 * pr d:=by
 rw[iw _ _ (by simp)]
 exact Wg.ao fun d hd=>by rw[show((List.range mix.length).map pr).getD d 0=pr d from aA (by rw[List.getElem?_map,List.getElem?_range hd];rfl)]
end
def vc{t b:Int}(hb:0 < b):(M3.aG t b).natAbs ∣ b.natAbs:=by
 have L:=M3.cz (t:=t) (b:=b) (by omega)
 have w:=M3.a8 (t:=t) (b:=b) (by omega)
 have c:Nat.Coprime (M3.aG t b).natAbs (M3.aF t b).natAbs:=by
  have:=L.one
  unfold Int.gcd at this
  exact Nat.Coprime.symm this
 refine c.dvd_of_dvd_mul_left ?_
 rw[<-Int.natAbs_mul,w,Int.natAbs_mul]
 exact Nat.dvd_mul_left _ _
theorem jp(a:Int):∀(xs ys:Vu),cF xs (ys.map (a * ·))=a * cF xs ys
 |[],_=>by simp[cF]
 |_::_,[]=>by simp[cF]
 |x::r,y::s=>by
  show x * (a * y)+cF r (s.map (a * ·))=a * (x * y+cF r s)
  rw[jp a r s];grind
structure Cc where
 who:Option Nat
 n:Int
 eff:List Int
noncomputable def Cc.cl(p:Cc):Cl:=⟨p.who,M3.aF p.n 2520,(M3.aG p.n 2520).natAbs,p.eff⟩
noncomputable def Cc.v(p:Cc):PV:=.tup [mK p.who,cq 2520 p.n,.tup (p.eff.map PV.int)]
theorem Cc.pv(p:Cc):p.cl.pv=p.v:=by
 unfold Cc.cl Cl.pv Cc.v cq
 have L:=(M3.cz (t:=p.n) (b:=2520) (by decide)).pos
 rw[show((M3.aG p.n 2520).natAbs:Int)=M3.aG p.n 2520 by omega]
def Cc.N0(L:List Cc):(L.map Cc.cl).map Cl.pv=L.map Cc.v:=by rw[List.map_map];exact List.map_congr_left fun c _=>Cc.pv c
structure kH (k D:Nat) (c:Cc):Prop where
 el:c.eff.length=k
 eb:∀e∈c.eff,e.natAbs<=2 ^ 30
 n0:0<=c.n
 n1:c.n<=2 ^ 30
 wd:∀d,c.who=some d->d < D
def sM(d:Nat)(c:Cc):Prop:=c.who=some d/\∀e∈c.eff,0<=e
structure Cp (k:Nat) (mix:Vu) (L:List Cc):Prop where
 ok:∀c∈L,kH k mix.length c
 fx:∀d,d < mix.length->∃c∈L,sM d c
 k1:k<=8
 d1:mix.length<=8
 n1:1<=L.length
 n2:L.length<=100
 m0:∀x∈mix,0<=x/\x<=2 ^ 30
def Cp.Kh{k:Nat}{mix:Vu}{L:List Cc}(h:Cp k mix L):bB (L.map Cc.cl) mix k:=by
 have mem:∀c∈L.map Cc.cl,∃p∈L,kH k mix.length p/\p.cl=c:=fun c hc=>by obtain⟨p,hp,e⟩:=List.mem_map.mp hc;exact⟨p,hp,h.ok p hp,e⟩
 constructor
 ·simpa using h.n1
 ·simpa using h.n2
 ·exact h.k1
 ·exact h.d1
 ·intro c hc;obtain⟨p,_,o,rfl⟩:=mem c hc;exact o.el
 ·intro c hc;obtain⟨p,_,o,rfl⟩:=mem c hc;exact o.eb
 ·intro c hc
  obtain⟨p,_,o,rfl⟩:=mem c hc
  have L:=M3.cz (t:=p.n) (b:=2520) (by decide)
  have:=L.pos
  show M3.zI (M3.aF p.n 2520) ((M3.aG p.n 2520).natAbs:Int)
  rw[show((M3.aG p.n 2520).natAbs:Int)=M3.aG p.n 2520 by omega]
  exact L
 ·intro c hc
  obtain⟨p,_,o,rfl⟩:=mem c hc
  have n0:=o.n0;have n1:=o.n1
  have ct:=gK (n:=p.n) (Q:=2520) (by decide)
  have z:=M3.ga (t:=p.n) (b:=2520) (T:=p.n) (B:=2520) (by decide) (by omega) (by omega) (by omega) (by omega) (by omega) (by omega)
  exact⟨Int.not_lt.mp fun hh=>by have:=ct.1.mp hh;omega,show M3.aF p.n 2520<=_ by omega⟩
 ·intro c hc
  obtain⟨p,_,o,rfl⟩:=mem c hc
  have L:=(M3.cz (t:=p.n) (b:=2520) (by decide)).pos
  exact⟨show 0 < (M3.aG p.n 2520).natAbs by omega,vc (t:=p.n) (b:=2520) (by decide)⟩
 ·intro c hc d hd;obtain⟨p,_,o,rfl⟩:=mem c hc;exact o.wd d hd
 ·intro d hd
  obtain⟨p,hp,f⟩:=h.fx d hd
  refine⟨p.cl,List.mem_map.mpr ⟨p,hp,rfl⟩,?_⟩
  unfold jR Cc.cl
  simp only[f.1,decide_true,Bool.true_and,List.all_eq_true,decide_eq_true_eq]
  exact f.2
 ·exact h.m0
def Cc.cn{cs:List Cl}{mix:Vu}{k:Nat}(P:bB cs mix k){p:Cc}(hp:p.cl∈cs):2520 * Cn cs p.cl=p.n * (cbO cs:Int):=by
 obtain⟨z,hz⟩:=(hJ P).2.2 p.cl hp
 have y0:=(P.yd p.cl hp).1
 have w:=M3.a8 (t:=p.n) (b:=2520) (by decide)
 have L:=(M3.cz (t:=p.n) (b:=2520) (by decide)).pos
 have ey:(p.cl.y:Int)=M3.aG p.n 2520:=by show((M3.aG p.n 2520).natAbs:Int)=_;omega
 have ez:(cbO cs:Int)=M3.aG p.n 2520 * (z:Int):=by rw[hz,Int.natCast_mul,ey]
 unfold Cn
 rw[hz,Nat.mul_div_cancel_left _ y0,Int.natCast_mul,ey]
 show 2520 * (M3.aF p.n 2520 * (z:Int))=_
 calc 2520 * (M3.aF p.n 2520 * (z:Int))=(M3.aF p.n 2520 * 2520) * z:=by grind
  _=_:=by rw[w];grind
noncomputable def wp(p:Nat->Int):Option Nat->Int
 |none=>0
 |some d=>p d
structure Du (L:List Cc) (k:Nat) (B:Int) (Z:Vu) (p:Nat->Int):Prop where
 b0:0 < B
 zl:Z.length=k
 z0:∀z∈Z,0<=z
 le:∀c∈L,B * c.n+cF c.eff Z<=wp p c.who
noncomputable def Vl(mix:Vu)(p:Nat->Int):Int:=Wg.sm mix.length fun d=>mix.getD d 0 * p d
def Du.KR{L:List Cc}{mix:Vu}{k:Nat}{B:Int}{Z:Vu}{p:Nat->Int}(h:Du L k B Z p)(P:bB (L.map Cc.cl) mix k):Kf (L.map Cc.cl) mix.length k (2520 * B) (Z.map ((cbO (L.map Cc.cl):Int) * ·)) (fun d=>(cbO (L.map Cc.cl):Int) * p d):=by
 have cb:=(hJ P).1
 have b0:=h.b0
 have key:∀c∈L,2520 * B * Cn (L.map Cc.cl) c.cl+cF c.cl.eff (Z.map ((cbO (L.map Cc.cl):Int) * ·))<=(cbO (L.map Cc.cl):Int) * wp p c.who:=fun c hc=>by
  have cn:=Cc.cn P (List.mem_map.mpr ⟨c,hc,rfl⟩)
  rw[jp,show c.cl.eff=c.eff from rfl]
  calc 2520 * B * Cn (L.map Cc.cl) c.cl+(cbO (L.map Cc.cl):Int) * cF c.eff Z=B * (2520 * Cn (L.map Cc.cl) c.cl)+(cbO (L.map Cc.cl):Int) * cF c.eff Z:=by grind
   _=(cbO (L.map Cc.cl):Int) * (B * c.n+cF c.eff Z):=by rw[cn];grind
   _<=_:=Int.mul_le_mul_of_nonneg_left (h.le c hc) (by omega)
 refine⟨by omega,by simpa using h.zl,fun z hz=>?_,fun c hc hw=>?_,fun c hc d hw=>?_⟩
 ·obtain⟨w,hw,rfl⟩:=List.mem_map.mp hz
  exact Int.mul_nonneg (by omega) (h.z0 w hw)
 ·obtain⟨c,h2,rfl⟩:=List.mem_map.mp hc
  have:=key c h2
  rw[show c.who=none from hw]at this
  simpa [wp]using this
 ·obtain⟨c,h2,rfl⟩:=List.mem_map.mp hc
  have:=key c h2
  rw[show c.who=some d from hw]at this
  exact this
noncomputable def Tl(L:List Cc)(mix:Vu)(k:Nat):Option (Int×Int)->Prop
 |none=>¬∃B Z p,Du L k B Z p
 |some (g,Q)=>Fq Q g/\g.natAbs<=Kq/\(∃B Z p,Du L k B Z p/\Vl mix p * Q=g * (2520 * B))/\∀B Z p,Du L k B Z p->g * (2520 * B)<=Q * Vl mix p
def Tl.of{k:Nat}{mix:Vu}{L:List Cc}(C:Cp k mix L){v:PV}(o:Out (L.map Cc.cl) mix k v):∃t,Tl L mix k t/\((t=none/\∃w,v = .tup [.str "endless",w])\/∃g Q a b c,t=some (g,Q)/\v = .tup [.str "most",cq Q g,a,b,c]):=by
 have P:=C.Kh
 rcases o.right P with⟨q,g,X,Y,pr,m⟩|⟨q,y,e⟩
 ·have cb:=(hJ P).1
  have cb2:=(hJ P).2.1
  have q0:=m.qy.q0
  have Q0:0 < q * (cbO (L.map Cc.cl):Int):=Int.mul_pos q0 (by omega)
  refine⟨some (g,q * (cbO (L.map Cc.cl):Int)),⟨⟨Q0,?_,Nat.lt_of_le_of_lt m.g1 ?_⟩,m.g1,⟨q * (cbO (L.map Cc.cl):Int),Y.map (2520 * ·),fun d=>2520 * pr d,⟨Q0,by simpa using m.qy.l,fun z hz=>?_,fun c hc=>?_⟩,?_⟩,fun B Z p h=>?_⟩,.inr ⟨_,_,_,_,_,rfl,m.v⟩⟩
  ·rw[Int.natAbs_mul]
   exact Nat.lt_of_le_of_lt (Nat.mul_le_mul m.qy.q1 (show((cbO (L.map Cc.cl):Int)).natAbs<=2 ^ 12 by omega)) (show Kq * 2 ^ 12 < dF by unfold Kq dF;rw[<-Nat.pow_add];exact Nat.pow_lt_pow_right (by decide) (by decide))
  ·exact show Kq < dF from Nat.pow_lt_pow_right (by decide) (by decide)
  ·obtain⟨w,hw,rfl⟩:=List.mem_map.mp hz
   exact Int.mul_nonneg (by decide) (m.y0 w hw)
  ·have cn:=Cc.cn P (List.mem_map.mpr ⟨c,hc,rfl⟩)
   rw[jp]
   have e:q * (cbO (L.map Cc.cl):Int) * c.n+2520 * cF c.eff Y=2520 * (q * Cn (L.map Cc.cl) c.cl+cF c.cl.eff Y):=by
    show _=2520 * (q * Cn (L.map Cc.cl) c.cl+cF c.eff Y)
    calc q * (cbO (L.map Cc.cl):Int) * c.n+2520 * cF c.eff Y=q * (c.n * (cbO (L.map Cc.cl):Int))+2520 * cF c.eff Y:=by grind
     _=_:=by rw[<-cn];grind
   rw[e]
   cases hw:c.who with
   |none=>
    have:=m.non c.cl (List.mem_map.mpr ⟨c,hc,rfl⟩) hw
    show _<=0
    omega
   |some d=>
    have:=m.Ke c.cl (List.mem_map.mpr ⟨c,hc,rfl⟩) d hw
    show _<=2520 * pr d
    omega
  ·have e:Vl mix (fun d=>2520 * pr d)=2520 * g:=by
    unfold Vl
    rw[<-m.sum,AD,<-Wg.bU]
    exact Wg.ao fun d _=>by grind
   rw[e];grind
  ·have D:=h.KR P
   have w:=weak P (M:=fun d=>mix.getD d 0 * q) m.x0 m.GQ m.Jp D.zl D.z0 D.non D.Ke
   rw[m.cost]at w
   have e:Wg.sm mix.length (fun d=>mix.getD d 0 * q * ((cbO (L.map Cc.cl):Int) * p d))=q * (cbO (L.map Cc.cl):Int) * Vl mix p:=by
    unfold Vl
    rw[<-Wg.bU]
    exact Wg.ao fun d _=>by grind
   rw[e]at w
   rw[Int.mul_comm g]
   exact w
 ·refine⟨none,fun⟨B,Z,p,h⟩=>(h.KR P).Kg P e,.inl ⟨rfl,_,e.v⟩⟩
noncomputable def Ge(k x y z:Nat)(e1 e2 e3:Int):List Int:=(List.range k).map fun j=>if j=x then e1 else if j=y then e2 else if j=z then e3 else 0
structure AY (k x y z:Nat):Prop where
 hx:x < k
 hy:y < k
 hz:z < k
 xy:x≠y
 xz:x≠z
 yz:y≠z
def fG(k x y z:Nat)(e1 e2 e3:Int):(Ge k x y z e1 e2 e3).length=k:=by unfold Ge;simp
def fH{k x y z:Nat}{e1 e2 e3:Int}{j:Nat}(h:j < k):(Ge k x y z e1 e2 e3).getD j 0=if j=x then e1 else if j=y then e2 else if j=z then e3 else 0:=by
 unfold Ge
 rw[aA (by rw[List.getElem?_map,List.getElem?_range h];rfl)]
def vd{k x y z:Nat}(h:AY k x y z){g:Nat->Int}(h0:∀j,j < k->j≠x->j≠y->j≠z->g j=0):Wg.sm k g=g x+g y+g z:=by
 have e:Wg.sm k g=Wg.sm k fun j=>(if j=x then g x else 0)+((if j=y then g y else 0)+(if j=z then g z else 0)):=Wg.ao fun j hj=>by
  have h1:=h.xy;have h2:=h.xz;have h3:=h.yz
  by_cases a:j=x
  ·subst a;simp[h1,h2]
  ·by_cases b:j=y
   ·subst b;simp[a,h3]
   ·by_cases c:j=z
    ·subst c;simp[a,b]
    ·simp[a,b,c,h0 j hj a b c]
 rw[e,Wg.fF,Wg.fF,Wg.bj h.hx fun j _ hne=>if_neg hne,Wg.bj h.hy fun j _ hne=>if_neg hne,Wg.bj h.hz fun j _ hne=>if_neg hne]
 simp;omega
def j1{k x y z:Nat}(h:AY k x y z){e1 e2 e3:Int}{Z:Vu}(hz:Z.length=k):cF (Ge k x y z e1 e2 e3) Z=e1 * Z.getD x 0+e2 * Z.getD y 0+e3 * Z.getD z 0:=by
 rw[iw _ _ (by rw[fG,hz]),fG,vd h fun j hj a b c=>by rw[fH hj,if_neg a,if_neg b,if_neg c,Int.zero_mul]]
 rw[fH h.hx,fH h.hy,fH h.hz,if_pos rfl,if_neg (Ne.symm h.xy),if_pos rfl,if_neg (Ne.symm h.xz),if_neg (Ne.symm h.yz),if_pos rfl]
structure En (k:Nat) (mix:Vu) (L:List Cc) (x y z:Nat) (a b c d n1 n2:Int):Prop where
 cp:Cp k mix L
 X:AY k x y z
 a1:1<=a
 b1:1<=b
 c1:1<=c
 d1:1<=d
 JD:0<=n1
 JE:0<=n2
 m1:⟨none,n1,Ge k x y z a (0 - b) 0⟩∈L
 m2:⟨none,n2,Ge k x y z (0 - c) d 0⟩∈L
 non:∀q∈L,q.who=none->q=⟨none,n1,Ge k x y z a (0 - b) 0⟩\/q=⟨none,n2,Ge k x y z (0 - c) d 0⟩\/∃e1 e2 t,q.eff=Ge k x y z e1 e2 t/\0<=e1/\e1<=9/\0<=e2/\e2<=9/\t <= -1
section
variable {k:Nat} {mix:Vu} {L:List Cc} {x y z:Nat} {a b c d n1 n2:Int}
def En.perm(h:En k mix L x y z a b c d n1 n2){L':List Cc}(e:L.Perm L'):En k mix L' x y z a b c d n1 n2:=
 ⟨⟨fun q hq=>h.cp.ok q (e.mem_iff.mpr hq),fun i hi=>let ⟨q,hq,f⟩:=h.cp.fx i hi;⟨q,e.mem_iff.mp hq,f⟩,h.cp.k1,h.cp.d1,by rw[<-e.length_eq];exact h.cp.n1,by rw[<-e.length_eq];exact h.cp.n2,h.cp.m0⟩,h.X,h.a1,h.b1,h.c1,h.d1,h.JD,h.JE,e.mem_iff.mp h.m1,e.mem_iff.mp h.m2,fun q hq=>h.non q (e.mem_iff.mpr hq)⟩
def yx{Z:Vu}(h:∀z∈Z,0<=z)(j:Nat):0<=Z.getD j 0:=by
 rw[List.getD_eq_getElem?_getD]
 cases e:Z[j]? with
 |none=>exact Int.le_refl _
 |some w=>exact h w (List.mem_of_getElem? e)
def En.endless(h:En k mix L x y z a b c d n1 n2)(le:b * c<=a * d)(n:0 < n1\/0 < n2):¬∃B Z p,Du L k B Z p:=by
 rintro⟨B,Z,p,D⟩
 have l1:B * n1+cF (Ge k x y z a (0 - b) 0) Z<=0:=D.le _ h.m1
 have l2:B * n2+cF (Ge k x y z (0 - c) d 0) Z<=0:=D.le _ h.m2
 rw[j1 h.X D.zl]at l1 l2
 have zy:=yx D.z0 y
 have zx:=yx D.z0 x
 generalize Z.getD x 0=X at l1 l2 zx
 generalize Z.getD y 0=Y at l1 l2 zy
 generalize Z.getD z 0=W at l1 l2
 have a1:=h.a1;have c1:=h.c1
 have b0:=D.b0
 have e1:=Int.mul_le_mul_of_nonneg_left l1 (show 0<=c by omega)
 have e2:=Int.mul_le_mul_of_nonneg_left l2 (show 0<=a by omega)
 have e3:=Int.mul_le_mul_of_nonneg_right le zy
 have p1:0<=c * (B * n1):=Int.mul_nonneg (by omega) (Int.mul_nonneg (by omega) h.JD)
 have p2:0<=a * (B * n2):=Int.mul_nonneg (by omega) (Int.mul_nonneg (by omega) h.JE)
 have s1:c * (B * n1+(a * X+(0 - b) * Y+0 * W))=c * (B * n1)+(a * c * X - b * c * Y):=by grind
 have s2:a * (B * n2+((0 - c) * X+d * Y+0 * W))=a * (B * n2)+(a * d * Y - a * c * X):=by grind
 rw[s1]at e1
 rw[s2]at e2
 rw[Int.mul_zero]at e1 e2
 rcases n with n|n
 ·have:=Int.mul_pos (show 0 < c by omega) (Int.mul_pos b0 n)
  omega
 ·have:=Int.mul_pos (show 0 < a by omega) (Int.mul_pos b0 n)
  omega
theorem ow{α:Type}(f:α->Int):∀L:List α,∃P:Int,∀q∈L,f q<=P
 |[]=>⟨0,fun q hq=>by cases hq⟩
 |q::r=>by
  obtain⟨P,h⟩:=ow f r
  refine⟨max P (f q),fun s hs=>?_⟩
  rcases List.mem_cons.mp hs with rfl|hs
  ·omega
  ·have:=h s hs;omega
def En.du(h:En k mix L x y z a b c d n1 n2){B X Y:Int}(b0:0 < B)(x0:0<=X)(y0:0<=Y)(l1:B * n1+a * X<=b * Y)(l2:B * n2+d * Y<=c * X):∃B Z p,Du L k B Z p:=by
 have w0:0<=B * 2 ^ 30:=Int.mul_nonneg (by omega) (by decide)
 obtain⟨P,hP⟩:=ow (fun q:Cc=>B * q.n+cF q.eff (Ge k x y z X Y (B * 2 ^ 30+9 * X+9 * Y))) L
 refine⟨B,Ge k x y z X Y (B * 2 ^ 30+9 * X+9 * Y),fun _=>P,b0,fG ..,fun w hw=>?_,fun q hq=>?_⟩
 ·unfold Ge at hw
  obtain⟨j,_,rfl⟩:=List.mem_map.mp hw
  split
  ·exact x0
  ·split
   ·exact y0
   ·split
    ·omega
    ·exact Int.le_refl _
 ·cases hw:q.who with
  |some e=>exact hP q hq
  |none=>
   show _<=0
   have gx:(Ge k x y z X Y (B * 2 ^ 30+9 * X+9 * Y)).getD x 0=X:=by rw[fH h.X.hx,if_pos rfl]
   have gy:(Ge k x y z X Y (B * 2 ^ 30+9 * X+9 * Y)).getD y 0=Y:=by rw[fH h.X.hy,if_neg (Ne.symm h.X.xy),if_pos rfl]
   have gz:(Ge k x y z X Y (B * 2 ^ 30+9 * X+9 * Y)).getD z 0=B * 2 ^ 30+9 * X+9 * Y:=by rw[fH h.X.hz,if_neg (Ne.symm h.X.xz),if_neg (Ne.symm h.X.yz),if_pos rfl]
   rcases h.non q hq hw with rfl|rfl|⟨e1,e2,t,ee,Lq,KS,Lr,KU,t1⟩
   ·show B * n1+cF (Ge k x y z a (0 - b) 0) _<=0
    rw[j1 h.X (fG ..),gx,gy]
    have:(0 - b) * Y = - (b * Y):=by grind
    rw[this,Int.zero_mul];omega
   ·show B * n2+cF (Ge k x y z (0 - c) d 0) _<=0
    rw[j1 h.X (fG ..),gx,gy]
    have:(0 - c) * X = - (c * X):=by grind
    rw[this,Int.zero_mul];omega
   ·rw[ee,j1 h.X (fG ..),gx,gy,gz]
    have o:=(h.cp.ok q hq).n1
    have m1:=Int.mul_le_mul_of_nonneg_left o (Int.le_of_lt b0)
    have m2:=Int.mul_le_mul_of_nonneg_right KS x0
    have m3:=Int.mul_le_mul_of_nonneg_right KU y0
    have m4:=Int.mul_le_mul_of_nonneg_right t1 (show 0<=B * 2 ^ 30+9 * X+9 * Y by omega)
    omega
def En.most(h:En k mix L x y z a b c d n1 n2)(hn:¬(b * c<=a * d/\(0 < n1\/0 < n2))):∃B Z p,Du L k B Z p:=by
 have JD:=h.JD;have JE:=h.JE
 have a1:=h.a1;have b1:=h.b1;have c1:=h.c1;have d1:=h.d1
 by_cases le:b * c<=a * d
 ·have e1:n1=0:=by
   by_cases z:0 < n1
   ·exact(hn ⟨le,.inl z⟩).elim
   ·omega
  have e2:n2=0:=by
   by_cases z:0 < n2
   ·exact(hn ⟨le,.inr z⟩).elim
   ·omega
  exact h.du (B:=1) (X:=0) (Y:=0) (by decide) (by decide) (by decide) (by rw[e1];omega) (by rw[e2];omega)
 ·have n1d:=Int.mul_nonneg (show 0<=d by omega) JD
  have n2b:=Int.mul_nonneg (show 0<=b by omega) JE
  have n1c:=Int.mul_nonneg (show 0<=c by omega) JD
  have n2a:=Int.mul_nonneg (show 0<=a by omega) JE
  exact h.du (B:=b * c - a * d) (X:=b * n2+d * n1) (Y:=c * n1+a * n2) (by omega) (by omega) (by omega) (Int.le_of_eq (by grind)) (Int.le_of_eq (by grind))
def En.word(h:En k mix L x y z a b c d n1 n2){v:PV}(o:Out (L.map Cc.cl) mix k v){e:Bool}(he:e=true↔b * c<=a * d/\(0 < n1\/0 < n2)):∃r,v = .tup (.str (if e then "endless" else "most")::r):=by
 obtain⟨t,T,⟨rfl,w,rfl⟩|⟨g,Q,u1,u2,u3,rfl,rfl⟩⟩:=Tl.of h.cp o
 ·cases e with
  |true=>exact⟨_,rfl⟩
  |false=>exact(T (h.most fun hh=>by have:=he.mpr hh;cases this)).elim
 ·cases e with
  |true=>exact(h.endless (he.mp rfl).1 (he.mp rfl).2 (let ⟨B,Z,p,D,_⟩:=T.2.2.1;⟨B,Z,p,D⟩)).elim
  |false=>exact⟨_,rfl⟩
end
end CW
namespace L2
open PySem PySem.Spec PyProof.Rows
end L2
namespace L3
open PySem PySem.Spec PyProof.Rows L2
end L3
namespace PySem
namespace F
def jq:Manifest.owners.lookup (String.ofList ['d','e','s','r','e','v','e','r'].reverse)=some Manifest.sig_reversed:=by kernel_rfl
def FI:Slot "reversed" "__next__" "reversed.__next__" :=
 .of (owner:="reversed") (n:="__next__") (by rw[typeLookup_type,builtinLookup_eq_fast];kernel_rfl) (by decide +kernel) (by decide +kernel) (by decide +kernel)
  (by first|exact .inl (by decide +kernel)|exact .inr (by decide +kernel)) (by rw[isSubtype_type];kernel_rfl)
def gP:entryFor table "reversed.__next__" = some Builtin.«reversed.__next__»:=entryFor_of_tree (by kernel_rfl)
def hU(a:Value):argsOk "reversed.__next__" ⟨[a],[]⟩:=by
 unfold argsOk;rw[signature?_of (id:="reversed.__next__") (n:=['_','_','t','x','e','n','_','_']) (o:=['d','e','s','r','e','v','e','r']) (by kernel_rfl) jq];kernel_rfl
def hW:Slot "reversed" "__iter__" "reversed.__iter__" :=
 .of (owner:="reversed") (n:="__iter__") (by rw[typeLookup_type,builtinLookup_eq_fast];kernel_rfl) (by decide +kernel) (by decide +kernel) (by decide +kernel)
  (by first|exact .inl (by decide +kernel)|exact .inr (by decide +kernel)) (by rw[isSubtype_type];kernel_rfl)
def k7(a:Value):argsOk "reversed.__iter__" ⟨[a],[]⟩:=by
 unfold argsOk;rw[signature?_of (id:="reversed.__iter__") (n:=['_','_','r','e','t','i','_','_']) (o:=['d','e','s','r','e','v','e','r']) (by kernel_rfl) jq];kernel_rfl
def kI:entryFor table "reversed.__iter__" = some Builtin.«dict_keyiterator.__iter__»:=
 entryFor_alias (id':="dict_keyiterator.__iter__") (by kernel_rfl) (by first|rfl|decide +kernel|(unfold String.splitOn;simp +decide [String.splitOnAux])) (by decide +kernel) (by kernel_rfl)
def Gg:Slot "reversed" "__length_hint__" "reversed.__length_hint__" :=
 .of (owner:="reversed") (n:="__length_hint__") (by rw[typeLookup_type,builtinLookup_eq_fast];kernel_rfl) (by decide +kernel) (by decide +kernel) (by decide +kernel)
  (by first|exact .inl (by decide +kernel)|exact .inr (by decide +kernel)) (by rw[isSubtype_type];kernel_rfl)
def kJ:entryFor table "reversed.__length_hint__" = some Builtin.«reversed.__length_hint__»:=entryFor_of_tree (by kernel_rfl)
def k_(a:Value):argsOk "reversed.__length_hint__" ⟨[a],[]⟩:=by
 unfold argsOk;rw[signature?_of (id:="reversed.__length_hint__") (n:=['_','_','t','n','i','h','_','h','t','g','n','e','l','_','_']) (o:=['d','e','s','r','e','v','e','r']) (by kernel_rfl) jq];kernel_rfl
def qh:typeLookup (.type "reversed") "__len__" = pure none:=by rw[typeLookup_type,builtinLookup_eq_fast];kernel_rfl
def ld:Slot "reversed" "__init__" "object.__init__" :=
 .of (owner:="object") (n:="__init__") (by rw[typeLookup_type,builtinLookup_eq_fast];kernel_rfl) (by decide +kernel) (by decide +kernel) (by decide +kernel)
  (by first|exact .inl (by decide +kernel)|exact .inr (by decide +kernel)) (by rw[isSubtype_type];kernel_rfl)
def GR:TypeCalled "reversed" "reversed.__new__" "object.__init__" :=
 ⟨by decide +kernel,by decide +kernel,⟨_,_,mro_reversed⟩,madeBy_type mro_reversed lookup_reversed_new (by decide +kernel),by decide +kernel,by rw[isSubtype_type];kernel_rfl,ld⟩
def mX:typeLookup (.type "tuple") "__reversed__" = pure none:=by rw[typeLookup_type,builtinLookup_eq_fast];kernel_rfl
def lg:isSubtype (.type "tuple") (.type "dict")=pure false:=by rw[isSubtype_type];kernel_rfl
end F
section
open PyProof.Rows
variable {prog:Program} {w:World} {A:Around} {E:Vq} {s:Shared}
noncomputable def ve(t:Addr)(i:Int):Obj:={ cls:=.type "reversed",data:=.fields #[.ref t,rawInt i] }
def Heap.F9(h:Heap)(a t:Addr)(i:Int):Prop:=∃o,h.get? a=some o/\o.cls = .type "reversed"/\o.data = .fields #[.ref t,rawInt i]
def Heap.F9.typeIs{a l:Addr}{i:Int}(x:s.heap.F9 a l i):s.TypeIs (.ref a) "reversed":=let ⟨o,ho,hc,_⟩:=x;⟨o,ho,hc⟩
def Heap.F9.at{h h':Heap}{a l:Addr}{i:Int}(x:h.F9 a l i)(e:∀o,h.get? a=some o->h'.get? a=some o):h'.F9 a l i:=let ⟨o,ho,r⟩:=x;⟨o,e _ ho,r⟩
def mY{t:Addr}{items:Vw}{Q₁:Vq}(ht:IsTup s.heap t items)(hfit:items.size<=sizeLine)
  (h:∀tk,Q₁ (.ref s.heap.objs.size) { s with heap:=s.heap.push (ve t ((items.size:Int) - 1)),toks:=tk }) :
  codeAny (model prog w) A (.call (.builtin "reversed.__new__") ⟨[.type "reversed",.ref t],[]⟩) (wants Q₁ E) s:=by
 refine codeAny_of_tree ?_
 show wpAny _ A.in1 (do checkBuiltinCall "reversed.__new__" ⟨[.type "reversed",.ref t],[]⟩;again (.builtin "reversed.__new__" ⟨[.type "reversed",.ref t],[]⟩)) _ _ s
 refine wpAny_bind (wpAny_of_eq (F.newCall_reversed_1 _) (wpAny_pure ⟨plainId_quiet F.plain_reversed_new _,codeAny_builtin F.entry_reversed_new ?_⟩))
 rw[Around.under_plainId F.plain_reversed_new _]
 unfold Builtin.«reversed.__new__»
 refine wpAny_bind (wpAny_of_eq (newClass_reversed _) ?_)
 try dsimp only
 refine wpAny_bind (wpAny_of_eq (a:=()) (by first|rfl|kernel_rfl) ?_)
 refine wpAny_bind (wpAny_of_eq (a:=()) (by first|rfl|kernel_rfl) ?_)
 try dsimp only
 refine wpAny_bind (wpAny_specialOf ht.typeIs F.mX ?_)
 try dsimp only
 refine wpAny_bind ?_
 show wpAny _ _ (isInstance (.ref t) (.type "dict") >>= _) _ _ s
 refine wpAny_bind (wpAny_isInstance ht.typeIs F.lg ?_)
 show wpAny _ _ (specialOf (.ref t) "__getitem__" >>= _) _ _ s
 refine wpAny_bind (wpAny_specialOf ht.typeIs F.slot_tuple_getitem.lookup ?_)
 dsimp only
 rw[if_pos (by decide +kernel)]
 refine wpAny_pure ?_
 rw[if_neg (by decide)]
 have big:sizeLine < 2 ^ 62:=by decide
 refine wpAny_bind (len_tuple ht (by omega) ?_)
 refine wpAny_bind (wpAny_of_eq (a:=some (items.size:Int)) rfl ?_)
 dsimp only
 refine wpAny_bind (m:=Builtin.SmallTypes.newRecord _ _) ?_
 show wpAny _ _ (newObj (.type "reversed") (.fields #[.ref t,rawInt ((items.size:Int) - 1)])) _ _ _
 refine wpAny_newObj_type ?_ (by size_fits)
 exact wpAny_pure (h _)
def vf{t:Addr}{items:Vw}{Q:Vq}(ht:IsTup s.heap t items)(hfit:items.size<=sizeLine)
  (h:∀tk,Q (.ref s.heap.objs.size) { s with heap:=s.heap.push (ve t ((items.size:Int) - 1)),toks:=tk }):wpAny (model prog w) A (call (.type "reversed") [.ref t]) Q E s:=
 callType_codes (Q₁:=fun obj s₁=>s₁.TypeIs obj "reversed"/\Q obj s₁) F.GR (F.typeCall_reversed_1 _) F.entry_object_init (mY ht hfit fun tk=>⟨⟨_,Heap.get?_push_size _ rfl,rfl⟩,h tk⟩) fun obj s₁ h₁=>
  ⟨h₁.1,F.args_object_init_2 obj _,object_init_meets F.GR.init.lookup F.GR.made (by decide) prog w A.in1 _ s₁ ⟨h₁.1,rfl,h₁.2⟩⟩
def lh{it t:Addr}{i:Nat}{items:Vw}{x:Value}{Q:Option Value->Shared->Prop}(hit:s.heap.F9 it t (i:Int))(ht:IsTup s.heap t items)(hfit:items.size<=sizeLine)(hx:items[i]?=some x)
  (hQ:∀h' tk,h'.F9 it t ((i:Int) - 1)->Heap.SameBut it s.heap h'->Q (some x) { s with heap:=h',toks:=tk }):wpAny (model prog w) A (pyNext (.ref it)) Q E s:=by
 obtain⟨o,ho,hc,hd⟩:=id hit
 have big:sizeLine < 2 ^ 62:=by decide
 have hi:i < items.size:=(Array.getElem?_eq_some_iff.mp hx).1
 unfold pyNext
 refine wpAny_bind (wpAny_attempt (wpAny_callSpecial?_slot (name:=Str.ofString "__next__") hit.typeIs F.FI
  (wpAny_call_entry F.FI hit.typeIs F.gP ?_ (F.hU _))))
 unfold Builtin.«reversed.__next__»
 refine wpAny_bind (wpAny_of_eq (a:=(Value.ref it,[])) rfl ?_)
 try dsimp only
 refine wpAny_bind (wpAny_field ho hd (x:=.ref t) rfl ?_)
 refine wpAny_bind (wpAny_field ho hd (x:=rawInt (i:Int)) rfl ?_)
 show wpAny _ _ (if (i:Int) < 0 then _ else _) _ _ s
 rw[if_neg (by omega)]
 show wpAny _ _ (specialOf (.ref t) "__getitem__" >>= _) _ _ s
 refine wpAny_bind (wpAny_specialOf ht.typeIs F.slot_tuple_getitem.lookup ?_)
 show wpAny _ _ (if (Option.isNone (some _))=true then _ else _) _ _ s
 rw[if_neg (by decide)]
 refine wpAny_bind (wpAny_mkInt ?_)
 refine wpAny_bind (wpAny_attempt (getItem_tuple (j:=i) ht (by omega) (by omega) (by unfold seqIndex?;simp;omega) hx ?_))
 dsimp only
 refine wpAny_bind (wpAny_field ho hd (x:=rawInt (i:Int)) rfl ?_)
 show wpAny _ _ (setField (.ref it) 1 (rawInt ((i:Int) - 1)) >>= _) _ _ _
 refine wpAny_bind (wpAny_setField ho hd (by simp) ?_)
 refine wpAny_pure ⟨x,rfl,wpAny_pure (hQ _ _ ?_ (Heap.SameBut.update ..))⟩
 exact⟨_,Heap.get?_update_self _ ho (Obj.isFreed_of_fields (Obj.data_mapFields hd _)),(Obj.cls_mapFields ..).trans hc,by
  rw[Obj.data_mapFields hd];simp⟩
def mZ{it t:Addr}{Q:Option Value->Shared->Prop}(hh:A.handled=none)(hit:s.heap.F9 it t (-1))
  (hQ:∀h',Heap.ExtBut it s.heap h'->Q none { s with heap:=h' }):wpAny (model prog w) A (pyNext (.ref it)) Q E s:=by
 obtain⟨o,ho,hc,hd⟩:=id hit
 unfold pyNext
 refine wpAny_bind (wpAny_attempt (wpAny_callSpecial?_slot (name:=Str.ofString "__next__") hit.typeIs F.FI
  (wpAny_call_entry F.FI hit.typeIs F.gP ?_ (F.hU _))))
 unfold Builtin.«reversed.__next__»
 refine wpAny_bind (wpAny_of_eq (a:=(Value.ref it,[])) rfl ?_)
 try dsimp only
 refine wpAny_bind (wpAny_field ho hd (x:=.ref t) rfl ?_)
 refine wpAny_bind (wpAny_field ho hd (x:=rawInt (-1)) rfl ?_)
 show wpAny _ _ (if (-1:Int) < 0 then _ else _) _ _ s
 rw[if_pos (by decide)]
 refine wpAny_bind (wpAny_rule ?_)
 refine wpAny_bind ?_
 show wpAny _ _ (setField (.ref it) 1 (rawInt (-1)) >>= fun _=>setField (.ref it) 0 .none) _ _ s
 refine wpAny_bind (wpAny_setField ho hd (by simp) ?_)
 have ho2:=Heap.get?_update_self (Obj.mapFields (·.set! 1 (rawInt (-1)))) ho (Obj.isFreed_of_fields (Obj.data_mapFields hd _))
 refine wpAny_setField ho2 (Obj.data_mapFields hd _) (by simp) ?_
 refine wpAny_bind ?_
 show wpAny _ _ (newExc (.type "StopIteration") [] >>= _) _ _ _
 refine wpAny_bind ?_
 simp only[newExc,newTuple]
 refine wpAny_bind (wpAny_newObj_type ?_ (by size_fits))
 refine wpAny_bind (m:=firstArgMember _ _) (wpAny_of_eq (a:=Value.none) (by first|rfl|(simp only[firstArgMember];rfl)) ?_)
 refine wpAny_newObj_type ?_ (by size_fits)
 simp only[raiseNew]
 refine wpAny_bind (wpAny_handled ?_)
 first|rw[show A.in1.handled=none from hh]|rw[hh]
 refine wpAny_bind (wpAny_pure (wpAny_throw ?_))
 refine wpAny_bind (wpAny_isInstance (T:="StopIteration") (b:=true) ⟨_,Heap.get?_push_size _ rfl,rfl⟩ isSubtype_stop ?_)
 refine wpAny_pure (hQ _ ?_)
 refine Heap.ExtBut.push (Heap.ExtBut.push ?_ _) _
 exact fun b o hb e=>(Heap.get?_update_other _ _ (Ne.symm hb)).trans ((Heap.get?_update_other _ _ (Ne.symm hb)).trans e)
def vg{it t:Addr}{i:Int}{Q:Vq}(hit:s.heap.F9 it t i)(h:Q (.ref it) s):wpAny (model prog w) A (pyIter (.ref it)) Q E s:=by
 refine wpAny_pyIter_slot hit.typeIs F.hW (wpAny_call_entry F.hW hit.typeIs F.kI ?_ (F.k7 _))
 show wpAny _ _ (ret (.ref it)) _ _ s
 exact wpAny_pure ⟨_,rfl,"reversed",_,hit.typeIs,F.FI.lookup,h⟩
end
open PyProof.Rows in
def Walks.Ki{prog:Program}{w:World}{A:Around}(hh:A.handled=none)(I l:Addr)(hne:l≠I)(items:Vw)(hfit:items.size<=sizeLine) :
  Walks prog w A I [I,l] [I] items.size (fun i v=>items[items.size - 1 - i]?=some v) (fun i h=>i<=items.size/\h.F9 I l ((items.size:Int) - 1 - (i:Int))/\IsTup h l items) where
 sub:=fun b hb=>by simp at hb;simp[hb]
 frame:=fun _ _ _ x hk=>⟨x.1,x.2.1.at fun o e=>hk I (by simp) o e,let ⟨o,ho,r⟩:=x.2.2;⟨o,hk l (by simp) o ho,r⟩⟩
 item:=fun i s Q E hi x hQ=>by
  have e:(items.size:Int) - 1 - (i:Int)=((items.size - 1 - i:Nat):Int):=by omega
  have hit:=x.2.1
  rw[e]at hit
  have hx:items[items.size - 1 - i]?=some (items[items.size - 1 - i]'(by omega)):=Array.getElem?_eq_getElem (by omega)
  refine lh hit x.2.2 hfit hx fun h' tk hit' hs'=>?_
  have e2:((items.size - 1 - i:Nat):Int) - 1=(items.size:Int) - 1 - ((i+1:Nat):Int):=by omega
  rw[e2]at hit'
  exact hQ _ h' tk hx ⟨hi,hit',let ⟨o,ho,r⟩:=x.2.2;⟨o,(hs'.2 l hne).trans ho,r⟩⟩ fun b o hb eo=>hs'.extBut b o (fun h=>hb (by simp[h])) eo
 done:=fun s Q E x hQ=>by
  have e:(items.size:Int) - 1 - (items.size:Int) = -1:=by omega
  have hit:=x.2.1
  rw[e]at hit
  exact mZ hh hit fun h' he'=>hQ h' s.toks fun b o hb eo=>he' b o (fun h=>hb (by simp[h])) eo
 self:=fun _ _ _ _ x hQ=>vg x.2.1 hQ
section
open PyProof.Rows
variable {prog:Program} {w:World} {A:Around} {E:Vq} {s:Shared}
def li{it t:Addr}{items:Vw}{Q:Vq}(hit:s.heap.F9 it t ((items.size:Int) - 1))(ht:IsTup s.heap t items)(hfit:items.size<=sizeLine)
  (hQ:∀u tk,s.toks<=tk->Q (.int (items.size:Int) u) { s with toks:=tk }):wpAny (model prog w) A (call (.builtin "reversed.__length_hint__") [.ref it]) Q E s:=by
 obtain⟨o,ho,hc,hd⟩:=id hit
 have big:sizeLine < 2 ^ 62:=by decide
 refine wpAny_call_entry F.Gg hit.typeIs F.kJ ?_ (F.k_ _)
 unfold Builtin.«reversed.__length_hint__»
 refine wpAny_bind (wpAny_of_eq (a:=Value.ref it) rfl ?_)
 refine wpAny_bind (wpAny_field ho hd (x:=.ref t) rfl ?_)
 show wpAny _ _ (if (Value.ref t == Value.none)=true then _ else _) _ _ s
 rw[if_neg (show ¬((Value.ref t == Value.none)=true)from Bool.false_ne_true)]
 refine wpAny_bind (len_tuple ht (by omega) ?_)
 refine wpAny_bind (wpAny_of_eq (a:=some (items.size:Int)) rfl ?_)
 dsimp only
 refine wpAny_bind (wpAny_field ho hd (x:=rawInt ((items.size:Int) - 1)) rfl ?_)
 show wpAny _ _ (if (items.size:Int) < (items.size:Int) - 1+1 then _ else _) _ _ _
 rw[if_neg (by omega),Int.sub_add_cancel]
 exact wpAny_bind (wpAny_mkInt (wpAny_pure ⟨_,rfl,hQ _ _ (show s.toks<=s.toks+1+1+1 by omega)⟩))
def vh{it t:Addr}{items:Vw}{Q:Bool->Shared->Prop}(hit:s.heap.F9 it t ((items.size:Int) - 1))(ht:IsTup s.heap t items)(hfit:items.size<=sizeLine)(h1:1<=items.size)
  (hQ:∀tk,s.toks<=tk->Q true { s with toks:=tk }):wpAny (model prog w) A (Builtin.List.listLengthHint (.ref it)) Q E s:=by
 have big:sizeLine < 2 ^ 62:=by decide
 unfold Builtin.List.listLengthHint
 refine wpAny_bind (wpAny_specialOf hit.typeIs F.qh ?_)
 show wpAny _ _ (specialOf (Value.ref it) (Str.ofString "__length_hint__") >>= _) _ _ _
 refine wpAny_bind (wpAny_specialOf hit.typeIs F.Gg.lookup ?_)
 (generalize hid:("reversed.__length_hint__":String)=LV;wp_delta;rw[show splitId LV=some ("reversed","__length_hint__")from by subst hid;decide +kernel];subst hid)
 refine wpAny_bind (wpAny_isInstance (b:=true) hit.typeIs (by rw[isSubtype_type];kernel_rfl) ?_)
 rw[if_neg (by decide)]
 show wpAny _ _ (if _=true then _ else _) _ _ _
 rw[if_neg (by decide +kernel)]
 refine wpAny_bind (wpAny_rule ?_)
 refine wpAny_bind (wpAny_of_eq (F.Gg.bind _) ?_)
 dsimp only
 refine wpAny_bind (wpAny_attempt (li hit ht hfit fun u tk htk=>?_))
 show wpAny _ _ (asInt? (Value.int (items.size:Int) u) >>= _) _ _ _
 have ei:asInt? (Value.int (items.size:Int) u)=pure (some (items.size:Int)):=rfl
 rw[ei,pure_bind]
 dsimp only
 have f1:Builtin.List.listFitsIndex (items.size:Int)=true:=by
  unfold Builtin.List.listFitsIndex
  rw[Bool.and_eq_true]
  exact⟨decide_eq_true (by omega),decide_eq_true (by omega)⟩
 have f2:Builtin.List.listTooLong (items.size:Int).toNat=false:=by
  unfold Builtin.List.listTooLong
  exact decide_eq_false (by omega)
 rw[f1,if_neg (by decide),if_neg (by omega),f2,if_neg (by decide)]
 rw[show((items.size:Int) != 0)=true from bne_iff_ne.mpr (by omega)]
 exact wpAny_pure (hQ tk htk)
def ox{I t:Addr}{items:Vw}{Q:List Value->Shared->Prop}(hh:A.handled=none)(hit:s.heap.F9 I t ((items.size:Int) - 1))(ht:IsTup s.heap t items)(hne:t≠I)(hn:items.size<=sizeLine)(h1:1<=items.size)
  (hQ:∀h' tk,(∀b o,b≠I->s.heap.get? b=some o->h'.get? b=some o)->Q items.toList.reverse { s with heap:=h',toks:=tk }):wpAny (model prog w) A (collect (.ref I)) Q E s:=by
 have W:=(Walks.Ki (prog:=prog) (w:=w) (A:=A.in1) hh I t hne items hn).toS
 have J3:I < s.heap.objs.size:=by obtain⟨o,ho,_⟩:=hit;exact Heap.lt_size ho
 have Mq:t < s.heap.objs.size:=by obtain⟨o,ho,_⟩:=ht;exact Heap.lt_size ho
 have hfp:∀b∈[I,t],b < s.heap.objs.size:=fun b hb=>by
  rcases List.mem_cons.mp hb with rfl|hb
  ·exact J3
  ·rw[List.mem_singleton.mp hb];exact Mq
 have hst:(fun i (s:Shared)=>i<=items.size/\s.heap.F9 I t ((items.size:Int) - 1 - (i:Int))/\IsTup s.heap t items) 0 s:=⟨Nat.zero_le _,by simpa using hit,ht⟩
 have hSf:s.heap.objs.size ∉ [I,t]:=fun hm=>Nat.lt_irrefl _ (hfp _ hm)
 have hSI:s.heap.objs.size≠I:=fun e=>hSf (by rw[e];simp)
 unfold collect
 refine wpAny_bind (wpAny_runValue (codeAny_builtin F.entry_proto_collect ?_))
 rw[Around.under_plainId F.plain_proto_collect _]
 show wpAny _ A.in1 (newList [] >>= fun l=>again (.builtin "list.__iadd__" ⟨[l,.ref I],[]⟩)) _ _ s
 refine wpAny_bind (wpAny_newObj_type ?_)
 refine wpAny_pure ⟨plainId_quiet F.plain_list_iadd _,codeAny_builtin F.entry_list_iadd ?_⟩
 rw[Around.under_plainId F.plain_list_iadd _]
 have Ji:=W.frame 0 s (s.heap.push { cls:=.type "list",data:=.seq ([]:Vv).toArray }) s.toks hst (Nat.le_refl _) fun b _ o e=>Heap.get?_push_of_some _ e
 show wpAny _ A.in1 (Builtin.List.listExtendWith (.ref s.heap.objs.size) (.ref I) (.ref s.heap.objs.size)) _ _ _
 unfold Builtin.List.listExtendWith
 refine wpAny_bind (wpAny_typeOf Ji.2.1.typeIs ?_)
 have e1:Builtin.List.listSameRef (.ref s.heap.objs.size) (.ref I)=false:=by simp[Builtin.List.listSameRef,hSI]
 have e2:(Value.type "reversed" == Value.type "list")=false:=by decide
 have e3:(Value.type "reversed" == Value.type "tuple")=false:=by decide
 simp only[e1,e2,e3,Bool.or_false,Bool.false_eq_true,if_false]
 refine wpAny_bind (W.self 0 _ _ _ Ji ?_)
 refine wpAny_bind (wpAny_holding ?_)
 refine vh (items:=items) (by simpa using Ji.2.1) Ji.2.2 hn h1 fun tk htk=>?_
 show wpAny _ A.in1 (rule "list.extend.makes-room" >>= fun _=>Builtin.List.listTouch (.ref s.heap.objs.size) >>= fun _=>
  again (.builtin "list.extend.loop" ⟨[.ref s.heap.objs.size,.ref I,.ref s.heap.objs.size],[]⟩)) _ _ _
 refine wpAny_bind (wpAny_rule ?_)
 have M1:(s.heap.push { cls:=.type "list",data:=.seq ([]:Vv).toArray }).get? s.heap.objs.size=some { cls:=.type "list",data:=.seq ([]:Vv).toArray }:=Heap.get?_push_size _ rfl
 refine wpAny_bind ?_
 show wpAny _ A.in1 (updateSeq s.heap.objs.size (·.push .none) >>= fun _=>updateSeq s.heap.objs.size (·.pop)) _ _ _
 refine wpAny_bind (wpAny_updateSeq M1 rfl ?_)
 have La:=Heap.get?_update_self (Obj.mapSeq (·.push Value.none)) M1 rfl
 refine wpAny_updateSeq La rfl ?_
 have N4:=Heap.get?_update_self (Obj.mapSeq (·.pop)) La rfl
 have HP:∀b o,b≠s.heap.objs.size->(s.heap.push { cls:=.type "list",data:=.seq ([]:Vv).toArray }).get? b=some o->
   (((s.heap.push { cls:=.type "list",data:=.seq ([]:Vv).toArray }).update s.heap.objs.size (Obj.mapSeq (·.push Value.none))).update s.heap.objs.size (Obj.mapSeq (·.pop))).get? b=some o:=
  fun b o hb e=>(Heap.get?_update_other _ _ (Ne.symm hb)).trans ((Heap.get?_update_other _ _ (Ne.symm hb)).trans e)
 refine wpAny_pure ⟨plainId_quiet F.plain_extend_loop _,codeAny_extend_loopS W hn _ hSf _ items.size 0 _ _ _ rfl (Nat.zero_le _)
  (W.frame 0 ({ s with heap:=s.heap.push { cls:=.type "list",data:=.seq ([]:Vv).toArray } }:Shared) _ tk Ji htk fun b hb o e=>HP b o (fun h=>hSf (h▸hb)) e) N4 (ItemsOf.nil _) fun s' acc' c' hm hS' hacc=>?_⟩
 show wpAny _ A (load s.heap.objs.size >>= _) _ _ s'
 refine wpAny_bind (wpAny_load hS' ?_)
 have ea:acc'.toList=items.toList.reverse:=by
  obtain⟨hsz,hP⟩:=hacc
  apply List.ext_getElem?
  intro j
  by_cases hj:j < items.size
  ·have hj':j < acc'.size:=by rw[hsz];exact hj
   have q:=hP j acc'[j] (by simp[hj'])
   have e1:acc'.toList[j]?=some acc'[j]:=by simp[hj']
   rw[e1,List.getElem?_reverse (by simpa using hj)]
   simpa using q.symm
  ·rw[List.getElem?_eq_none (by simpa [hsz]using hj),List.getElem?_eq_none (by simpa using hj)]
 show wpAny _ A (pure acc'.toList) _ _ s'
 rw[ea]
 have:=hQ s'.heap s'.toks fun b o hb e=>hm.heap b o (fun z=>by
  rcases List.mem_cons.mp z with z|z
  ·exact absurd (Heap.lt_size e) (by rw[z];exact Nat.lt_irrefl _)
  ·exact hb (List.mem_singleton.mp z)) (HP b o (Nat.ne_of_lt (Heap.lt_size e)) (Heap.get?_push_of_some _ e))
 rw[hm.eq_with]
 exact wpAny_pure this
def kK{I t:Addr}{items:Vw}{Q:Vq}(hh:A.handled=none)(hit:s.heap.F9 I t ((items.size:Int) - 1))(ht:IsTup s.heap t items)(hne:t≠I)(hn:items.size<=sizeLine)(h1:1<=items.size)
  (hQ:∀(h':Heap) tk,(∀b o,b≠I->s.heap.get? b=some o->h'.get? b=some o)->Q (.ref h'.objs.size) { s with heap:=h'.push { cls:=.type "tuple",data:=.seq items.toList.reverse.toArray },toks:=tk }):wpAny (model prog w) A (call (.type "tuple") [.ref I]) Q E s:=by
 have hT:s.TypeIs (.ref I) "reversed":=hit.typeIs
 refine callType_codes (Q₁:=fun obj s₁=>s₁.TypeIs obj "tuple"/\Q obj s₁) F.called_tuple (F.typeCall_tuple_1 _) F.entry_object_init ?_ fun obj s₁ h₁=>
  ⟨h₁.1,F.args_object_init_2 obj _,object_init_meets F.called_tuple.init.lookup F.called_tuple.made (by decide) prog w A.in1 _ s₁ ⟨h₁.1,rfl,h₁.2⟩⟩
 refine codeAny_of_tree ?_
 show wpAny _ A.in1.in1 (do checkBuiltinCall "tuple.__new__" ⟨[.type "tuple",.ref I],[]⟩;again (.builtin "tuple.__new__" ⟨[.type "tuple",.ref I],[]⟩)) _ _ s
 refine wpAny_bind (wpAny_of_eq (F.newCall_tuple_1 _) (wpAny_pure ⟨plainId_quiet F.plain_tuple_new _,codeAny_builtin F.entry_tuple_new ?_⟩))
 rw[Around.under_plainId F.plain_tuple_new _]
 have hsub:=sub_tuple_self
 have M4:=init_tuple_lookup
 have hmh:=madeHere_tuple
 wp_walk using wpAny_typeOf hT,ox (A:=A.in1.in1) hh hit ht hne hn h1
 intro h' tk hk
 show wpAny _ _ (Builtin.Tuple.tupleExact items.toList.reverse.toArray >>= fun v=>ret v) _ _ _
 unfold Builtin.Tuple.tupleExact
 refine wpAny_bind (wpAny_newObj_type ?_ (by show items.toList.reverse.toArray.size<=sizeLine;simpa using hn))
 exact wpAny_pure ⟨⟨_,Heap.get?_push_size _ rfl,rfl⟩,hQ h' tk hk⟩
end
end PySem
namespace L2
open PySem PySem.Spec PyProof.Rows
section
variable {X:Cx}
def xH(K:Vo)(te:TE):TE:=fun σ H Q=>te σ H fun x H1=>∃a xs,x = .ref a/\SqT K H1 a xs/\1<=xs.length/\∀q,H1 q=none->Q (.ref q) (upd H1 q (.tup xs.reverse))
def sN{e:Expr}{te:TE}{p1 p2 q1 q2:Pos}(hc:X.calm=true)(he:PE X e te)(J4:Gl X "tuple")(hm1:X.mg "tuple" = none)(J5:Gl X "reversed")(hm2:X.mg "reversed" = none)
  (hs:starEach [e] X.env=[(false,eval e X.env)]:=by rfl) (hs2:starEach [.Call (.Name "reversed" p2) [e] [] q2] X.env=[(false,eval (.Call (.Name "reversed" p2) [e] [] q2) X.env)]:=by rfl) :
  PE X (.Call (.Name "tuple" p1) [.Call (.Name "reversed" p2) [e] [] q2] [] q1) (xH X.K te):=by
 intro pins s σ H Q I h
 refine wpAny_Call_Name_kw (dS I J4 hm1 (u:=.type "tuple") (by decide +kernel) ?_)
 refine PyProof.Rows.callWith_type1 ?_ hs2 rfl
 rw[hs2]
 show wpAny _ _ (spliced ((false,eval (.Call (.Name "reversed" p2) [e] [] q2) X.env)::backTo q1 [])) _ _ s
 refine Calls.spliced_cons ?_
 refine wpAny_Call_Name_kw (dS I J5 hm2 (u:=.type "reversed") boot_reversed ?_)
 refine PyProof.Rows.callWith_type1 ?_ hs rfl
 rw[hs]
 show wpAny _ _ (spliced ((false,eval e X.env)::backTo q2 [])) _ _ s
 refine Calls.spliced_cons (bC (he pins s σ H _ I h) fun u s1 ⟨x,H1,I1,r1,a,xs,ex,hx,hl1,q⟩=>?_)
 subst ex
 cases r1
 obtain⟨its,rv,p,hz⟩:=I1.tuple hx
 have hl:=rv.length
 have hal:a < s1.heap.objs.size:=by obtain⟨o,ho,_⟩:=p;exact Heap.lt_size ho
 have hn:its.toArray.size<=sizeLine:=by rw[List.size_toArray,<-hl];exact hz
 refine Calls.spliced_nil (vf (items:=its.toArray) p hn fun tk=>?_)
 refine Calls.spliced_nil ?_
 refine kK (items:=its.toArray) (I.ok.hd hc) ⟨_,Heap.get?_push_size _ rfl,rfl,rfl⟩ (p.keeps fun b o e=>Heap.get?_push_of_some _ e) (Nat.ne_of_lt hal) hn (by rw[List.size_toArray];omega) fun h' tk' hk=>?_
 have I2:Inv X pins σ H1 { s1 with heap:=h',toks:=tk' }:=I1.kept (t':=tk') fun b o e=>hk b o (Nat.ne_of_lt (Heap.lt_size e)) (Heap.get?_push_of_some _ e)
 have I3:Inv X pins σ (upd H1 h'.objs.size (.tup xs.reverse)) { s1 with heap:=h'.push { cls:=.type "tuple",data:=.seq its.reverse.toArray },toks:=tk' }:=
  I2.laid (t':=tk') (fun b o e=>Heap.get?_push_of_some _ e) (Nat.le_refl _) (show Fu X.prog X.w _ _ _ (.tup xs.reverse)from ⟨by rw[List.length_reverse];exact hz,its.reverse,Vals.reverse rv,FT.new _ _⟩)
 exact⟨.ref h'.objs.size,_,I3,rfl,q _ (I2.hok.fresh (Nat.le_refl _))⟩
end
end L2
namespace L3
open PySem PySem.Spec PyProof.Rows L2
section
variable {X:Cx} {e:Expr} {te:aQ}
def vi(te:aQ):aQ:=fun σ S Q E=>te σ S (fun x S1=>match x with
 | .tup xs=>1<=xs.length/\Q (.tup xs.reverse) S1
 |_=>False) E
def AE{p1 p2 q1 q2:Pos}(hs:starEach [e] X.env=[(false,eval e X.env)])(hc:X.calm=true)(he:a_ X e te)(J4:Gl X "tuple")(hm1:X.mg "tuple" = none)(J5:Gl X "reversed")(hm2:X.mg "reversed" = none):a_ X (.Call (.Name "tuple" p1) [.Call (.Name "reversed" p2) [e] [] q2] [] q1) (vi te):=
 ⟨aK (sN hc he.ok J4 hm1 J5 hm2 hs rfl) fun σ H Q ⟨σ3,S,Q3,E3,rσ,rS,h,xo,k⟩=>⟨σ3,S,_,E3,rσ,rS,h,xo,fun x S1 v H1 h1 rx Fm g1=>by
  dsimp only at h1
  split at h1
  ·cases rx with
   |tup hq rs=>exact⟨_,_,rfl,hq,by rw[rs.length];exact h1.1,fun q hq'=>k _ S1 _ _ h1.2 (.tup (SqT.of aB) (rs.reverse.mono (.new hq'))) (Fm.other hq') (g1.trans (.new hq'))⟩
  ·exact h1.elim⟩⟩
end
end L3
namespace PySem
section
open PyProof.Rows
variable {prog:Program} {w:World} {A:Around} {E:Vq} {s:Shared}
theorem lW{it t:Addr}{items:Vw}(hne:t≠it):∀(n i:Nat) (s:Shared) (Q:List Value->Shared->Prop),s.heap.IsListIter it t i->s.heap.IsList t items->i+n<=items.size->
  (∀h',h'.IsListIter it t (i+n)->Heap.SameBut it s.heap h'->Q ((items.toList.drop i).take n) { s with heap:=h' })->wpAny (model prog w) A (draw (.ref it) n) Q E s
 |0,i,s,Q,hit,_,_,hQ=>by
  show wpAny _ _ (pure []) Q E s
  exact wpAny_pure (by simpa using hQ s.heap hit (Heap.SameBut.refl ..))
 |n+1,i,s,Q,hit,ht,hle,hQ=>by
  have hlt:i < items.size:=by omega
  show wpAny _ _ (pyNext (.ref it) >>= _) Q E s
  refine wpAny_bind (wpAny_pyNext_list_item hit ht (x:=items[i]) (by simp[hlt]) fun h₁ Kj hs₁=>?_)
  refine wpAny_bind (wpAny_holding (lW hne n (i+1) _ _ Kj (ht.at fun o e=>(hs₁.2 t hne).trans e) (by omega) fun h₂ Mr hs₂=>wpAny_pure ?_))
  have hd:items.toList.drop i=items[i]::items.toList.drop (i+1):=by simp[List.drop_eq_getElem_cons,hlt]
  have:=hQ h₂ (by rw[show i+(n+1)=i+1+n by omega];exact Mr) (hs₁.trans hs₂)
  rw[hd,List.take_succ_cons]at this
  exact this
def jr{t:Addr}{items:Vw}{Q:List Value->Shared->Prop}(hh:A.handled=none)(ht:s.heap.IsList t items)
  (hQ:∀h',Heap.ExtBut s.heap.objs.size s.heap h'->Q items.toList { s with heap:=h' }):wpAny (model prog w) A (unpackItems (.ref t) items.size none) Q E s:=by
 have hlt:t≠s.heap.objs.size:=by obtain⟨o,ho,_⟩:=ht;exact Nat.ne_of_lt (Heap.lt_size ho)
 unfold unpackItems
 refine wpAny_bind ?_
 ·unfold notIterableAtAll
  refine wpAny_bind (wpAny_specialOf ht.typeIs F.slot_list_iter.lookup ?_)
  refine wpAny_pure ?_
  simp only[Bool.false_eq_true,if_false]
  refine wpAny_bind (wpAny_holding (wpAny_pyIter_list ht ?_))
  refine wpAny_bind (wpAny_holding (lW hlt items.size 0 _ _ ⟨_,Heap.get?_push_size _ rfl,rfl,rfl⟩ (ht.push _) (by omega) fun h₁ Kj hs₁=>?_))
  have hall:List.take items.size (List.drop 0 items.toList)=items.toList:=by
   rw[List.drop_zero];exact List.take_of_length_le (by simp)
  rw[hall]
  rw[if_neg (by simp)]
  have ht₁:h₁.IsList t items:=(ht.push _).at fun o e=>(hs₁.2 t hlt).trans e
  refine wpAny_bind (wpAny_holding (wpAny_pyNext_list_end hh Kj ht₁ (by simp) fun h₂ N5=>?_))
  simp only[Option.isSome_none,Bool.false_eq_true,if_false]
  refine wpAny_pure (hQ h₂ fun b o hb e=>N5 b o hb (hs₁.extBut b o hb (Heap.get?_push_of_some _ e)))
def iU{env:Env}{elts:List Expr}{x1}{pos:Pos}{t:Addr}{items:Vw}{Q:Unit->Shared->Prop}(hh:A.handled=none)(ht:s.heap.IsList t items)
  (hn:(assignEach elts env).length=items.size) (hstar:(assignEach elts env).findIdx? (·.1)=none)
  (h:∀h',Heap.ExtBut s.heap.objs.size s.heap h'->wpAny (model prog w) A (assignInOrder ((assignEach elts env).map (·.2)) items.toList) Q E { s with heap:=h' }) :
  wpAny (model prog w) A (assign (.Tuple elts x1 pos) env (.ref t)) Q E s:=by
 rw[assign_Tuple]
 refine wpAny_bind (wpAny_standAt ?_)
 unfold unpack
 rw[hn,hstar]
 exact wpAny_bind (wpAny_holding (jr hh ht h))
end
end PySem
namespace L2
open PySem PySem.Spec PyProof.Rows
section
variable {X:Cx} {pos:Pos}
def Em(K:Vo)(n:Nat)(t:vJ):TG:=fun v σ H Q=>∃a xs,v = .ref a/\SqL K H a xs/\xs.length=n/\t xs σ H Q
def AF{es:List Expr}{k:Nat}{t:vJ}{n:Nat}(hc:X.calm=true)(h:AL X es t)
  (hn:(assignEach es X.env).length=n:=by rfl) (hst:(assignEach es X.env).findIdx? (·.1)=none:=by rfl):PG X (.Tuple es k pos) (Em X.K n t):=by
 intro pins s σ H v u Q I r hw
 obtain⟨a,xs,e1,hq,hl,hw⟩:=hw
 subst e1
 cases r
 obtain⟨its,rv,ht,hz⟩:=I.list hq
 refine iU (I.ok.hd hc) ht.isList (by simp[hn,<-hl,rv.length]) hst fun h' hx=>?_
 have I1:Inv X pins σ H { s with heap:=h' }:=I.kept (t':=s.toks) fun b o e=>hx b o (Nat.ne_of_lt (Heap.lt_size e)) e
 exact h pins _ σ H xs _ Q I1 (by simpa using rv) hw
end
end L2
namespace L3
open PySem PySem.Spec PyProof.Rows L2
section
variable {X:Cx} {e:Expr} {te:aQ} {pos:Pos}
def oy(te:aQ)(l:Tg):bS:=fun D σ S=>te σ S (fun v S1=>match v with
 | .ref a=>(match S1 a with|some (.lst xs)=>xs.length=l.len/\(match l.FH xs σ with|some σ'=>D.nx σ' S1|none=>False)|_=>False)
 |_=>False) D.ex
def vj{es:List Expr}{k:Nat}{l:Tg}{tpos:Pos}(hc:X.calm=true)(he:a_ X e te)(hg:uo X es l)(hst:(assignEach es X.env).findIdx? (·.1)=none:=by rfl)(hs:swapsWithSole [.Tuple es k tpos] e pos.line X.env=pure false:=by rfl)(hw:swappedStores [.Tuple es k tpos] e X.env=pure none:=by rfl)
  (h1:(assignEach [.Tuple es k tpos] X.env).map (·.2)=[assign (.Tuple es k tpos) X.env]:=by rfl):oI X (.Assign [.Tuple es k tpos] e pos) (oy te l):=
 ⟨dC (oO he.ok (AF (pos:=tpos) (k:=k) hc hg.ok hg.len hst) hs hw h1) fun D σ H ⟨σ3,S,D3,rσ,rS,h,xo,n,r,bk,ct⟩=>⟨σ3,S,_,D3.ex,rσ,rS,h,xo,fun p S1 v H1 h1 rv Fm g1=>by
  dsimp only at h1
  split at h1
  ·split at h1
   ·rename_i ea
    obtain⟨hlen,h1⟩:=h1
    split at h1
    ·rename_i σ' e'
     cases rv
     obtain⟨vs,hv,rs⟩:=Fm _ _ ea
     refine⟨_,vs,rfl,SqL.of hv,by rw[rs.length];exact hlen,?_⟩
     exact Tg.HS (own:=0) l rs (rσ.mono g1) e' fun σ2 L5 _=>n _ S1 _ H1 h1 L5 Fm g1
    ·exact h1.elim
   ·exact h1.elim
  ·exact h1.elim⟩⟩
end
end L3
namespace Sa
open PySem PyProof.Rows
end Sa
namespace L2
open PySem PySem.Spec PyProof.Rows
end L2
namespace L3
open PySem L2
end L3
namespace L2
open PySem PySem.Spec PyProof.Rows
end L2
namespace L3
open PySem L2
end L3
namespace G35
open PySem L2 L3
noncomputable def bR(i:Nat):Stmt:=PySem.Challenge.pw_dueworth_k35_whole_endless_or_not.main.body.getD i (.Pass ⟨0,0,0,0⟩)
noncomputable def mt(i j:Nat):Stmt:=(wX (bR i)).getD j (.Pass ⟨0,0,0,0⟩)
structure Txt (P:Program) (w:World) (K:Vo) (mg:Vr):Prop where
 o_common:bK K mg "common" (bR 1) ["one","other"]
 o_fraction:bK K mg "fraction" (bR 2) ["top","bottom"]
 o_plus:bK K mg "plus" (bR 3) ["one","other"]
 o_times:bK K mg "times" (bR 4) ["one","other"]
 o_less:bK K mg "less" (bR 5) ["one","other"]
 o_highest:bK K mg "highest" (bR 6) ["fractions"]
 o_together:bK K mg "together" (bR 7) ["fractions"]
 o_worth_of:bK K mg "worth_of" (bR 8) ["numbers","fractions"]
 o_common_bottom:bK K mg "common_bottom" (bR 10) ["fractions"]
 o_row_of_deed:bK K mg "row_of_deed" (bR 11) ["columns","jars","mix","d"]
 o_row_of_jar:bK K mg "row_of_jar" (bR 12) ["columns","jars","jar"]
 o_without:bK K mg "without" (bR 13) ["row","chosen","place","bottom"]
 o_Balance___init__:n5 K "Balance" "__init__" "Balance.__init__" (mt 14 0) ["self","rows","held"]
 o_Balance_hold:n5 K "Balance" "hold" "Balance.hold" (mt 14 1) ["self","number","place"]
 o_Balance_gaining:n5 K "Balance" "gaining" "Balance.gaining" (mt 14 2) ["self"]
 o_Balance_sooner:n5 K "Balance" "sooner" "Balance.sooner" (mt 14 3) ["self","one","other","place"]
 o_Balance_used_up:n5 K "Balance" "used_up" "Balance.used_up" (mt 14 4) ["self","place"]
 o_Balance_held_by:n5 K "Balance" "held_by" "Balance.held_by" (mt 14 5) ["self","count","place","sign"]
 o_balance_of:bK K mg "balance_of" (bR 15) ["columns","jars","mix"]
 o_first_that_takes_nothing:bK K mg "first_that_takes_nothing" (bR 16) ["columns","d"]
 o_price_of:bK K mg "price_of" (bR 17) ["columns","worths","d"]
 o_endless:bK K mg "endless" (bR 18) ["balance","columns","place"]
 o_most:bK K mg "most" (bR 19) ["balance","columns","mix"]
 o_weighed:bK K mg "weighed" (bR 20) ["columns","mix"]
 o__law_deal:bK K mg "_law_deal" (bR 22) ["_law_script","_law_base"]
 o__law_draw:bK K mg "_law_draw" (bR 23) ["_law_deal_here","_law_many"]
 o__law_low:bK K mg "_law_low" (bR 24) ["_law_top","_law_bottom"]
 o__law_plus:bK K mg "_law_plus" (bR 25) ["_law_one","_law_other"]
 o__law_cost:bK K mg "_law_cost" (bR 26) ["_law_deal_here"]
 o__law_is_fraction:bK K mg "_law_is_fraction" (bR 27) ["_law_one"]
 o__law_are_from_nought:bK K mg "_law_are_from_nought" (bR 28) ["_law_row","_law_many"]
 o__law_sum:bK K mg "_law_sum" (bR 29) ["_law_numbers","_law_shares"]
 o__law_cost_of:bK K mg "_law_cost_of" (bR 30) ["_law_columns","_law_shares"]
 o__law_jars_hold:bK K mg "_law_jars_hold" (bR 31) ["_law_columns","_law_shares"]
 o__law_deeds_hold:bK K mg "_law_deeds_hold" (bR 32) ["_law_columns","_law_mix","_law_shares"]
 o__law_prices_hold:bK K mg "_law_prices_hold" (bR 33) ["_law_columns","_law_prices","_law_worths"]
 o__law_endless_right:bK K mg "_law_endless_right" (bR 34) ["_law_columns","_law_shares"]
 o__law_most_right:bK K mg "_law_most_right" (bR 35) ["_law_columns","_law_mix","_law_answer"]
 o__law_right:bK K mg "_law_right" (bR 36) ["_law_columns","_law_mix","_law_answer"]
 o__law_four:bK K mg "_law_four" (bR 37) ["_law_deal_here"]
 o__law_drawn:bK K mg "_law_drawn" (bR 38) ["_law_deal_here","_law_jars","_law_deeds"]
 o__law_at:bK K mg "_law_at" (bR 39) ["_law_jars","_law_places"]
 o__law_planted:bK K mg "_law_planted" (bR 40) ["_law_deal_here"]
 Ff:AU K mg "Balance" ["rows","held","bottom"]
 KW:mg "abs" = none
 JO:mg "all" = none
 KY:mg "any" = none
 Kk:mg "bool" = none
 GC:mg "enumerate" = none
 Jj:mg "int" = none
 FR:mg "isinstance" = none
 Fs:mg "len" = none
 Kl:mg "list" = none
 Jk:mg "max" = none
 KZ:mg "min" = none
 Fk:mg "range" = none
 Ht:mg "reversed" = none
 FB:mg "tuple" = none
 HK:mg "zip" = none
section
variable {P:Program} {w:World} {K:Vo} {mg:Vr} {base:Heap}
def Co:(["number","one"]:Vs).Nodup:=by decide +kernel
def Eo:(["column","d"]:Vs).Nodup:=by decide +kernel
def Ep:(["other","jar"]:Vs).Nodup:=by decide +kernel
def Er:(["column","jar"]:Vs).Nodup:=by decide +kernel
def Cq:(["one","other","bottom","chosen","place","row"]:Vs).Nodup:=by decide +kernel
def Es:(["row","chosen","place","self"]:Vs).Nodup:=by decide +kernel
def Cr:(["place","column","d"]:Vs).Nodup:=by decide +kernel
def Cs:(["column"]:Vs).Nodup:=by decide +kernel
def Eu:(["column","bottom"]:Vs).Nodup:=by decide +kernel
def Ev:(["d","columns","jars","mix"]:Vs).Nodup:=by decide +kernel
def Ct:(["jar","columns","jars"]:Vs).Nodup:=by decide +kernel
def Cu:(["number","columns","mix"]:Vs).Nodup:=by decide +kernel
def Cv:(["column","d","worths"]:Vs).Nodup:=by decide +kernel
def Cw:(["number","bottom"]:Vs).Nodup:=by decide +kernel
def Cy:(["d","columns","worths"]:Vs).Nodup:=by decide +kernel
def vk:(["_law_one"]:Vs).Nodup:=by decide +kernel
def Cz:(["_law_number"]:Vs).Nodup:=by decide +kernel
def CA:(["_law_column","_law_j"]:Vs).Nodup:=by decide +kernel
def CB:(["_law_column","_law_deed"]:Vs).Nodup:=by decide +kernel
def yy:(["_law_column","_law_share"]:Vs).Nodup:=by decide +kernel
def CC:(["_law_k","_law_deal_here","_law_wide"]:Vs).Nodup:=by decide +kernel
def CD:(["_law_x"]:Vs).Nodup:=by decide +kernel
def yA:(["_law_j","_law_deal_here"]:Vs).Nodup:=by decide +kernel
def CF:(["_law_j","_law_places"]:Vs).Nodup:=by decide +kernel
def CG:(["_law_k","_law_deal_here"]:Vs).Nodup:=by decide +kernel
def CH:(["_law_deed","_law_deal_here"]:Vs).Nodup:=by decide +kernel
def CI:(["_law_cost_here"]:Vs).Nodup:=by decide +kernel
def iV:aE:=bc 3 C.kA
def lX(T:Txt P w K mg):fB P w K mg base 1 "common" 2 iV:=fU ["one","other","left"] T.o_common (fun _ _ _ _ _ _ _ hr nd=>(ae (iN PassesOwn.never (yh hr (ad 1) ag) (ae (s4 2 nd (ax eX (ad 0) (ad 1)))
  (ae (s4 0 nd (ad 1))
  (al (s4 1 nd (ad 2))))))
  (al (az (cB BP T.KW (l1 (ad 0))))))) rfl
def di:aE:=bc 3 (C.ik iV)
def dz(T:Txt P w K mg):fB P w K mg base 2 "fraction" 2 di:=fU ["top","bottom","part"] T.o_fraction (fun _ _ _ _ _ _ _ hr nd=>(ae (s4 2 nd (c4 (lX T) hr (lc (ad 0) (l1 (ad 1)))))
  (ae (cY (cI pL (ad 1) ag (aJ _)) (al (s4 2 nd (jM dD (ad 2)))) bz)
  (al (az (bx (lc (ax gk (ad 0) (ad 2)) (l1 (ax gk (ad 1) (ad 2)))))))))) rfl
def m5:aE:=bc 2 (C.gA di)
def q9(T:Txt P w K mg):fB P w K mg base 3 "plus" 2 m5:=fU ["one","other"] T.o_plus (fun _ _ _ _ _ _ _ hr nd=>(al (az (c4 (dz T) hr (lc (ax aT (ax aI (bY hr (ad 0)) (bY hr (ad 1))) (ax aI (bY hr (ad 1)) (bY hr (ad 0)))) (l1 (ax aI (bY hr (ad 0)) (bY hr (ad 1))))))))) rfl
def q_:aE:=bc 2 (C.mG di)
def vm(T:Txt P w K mg):fB P w K mg base 3 "times" 2 q_:=fU ["one","other"] T.o_times (fun _ _ _ _ _ _ _ hr nd=>(al (az (c4 (dz T) hr (lc (ax aI (bY hr (ad 0)) (bY hr (ad 1))) (l1 (ax aI (bY hr (ad 0)) (bY hr (ad 1))))))))) rfl
def vn:aE:=bc 2 CW.pP
def xI(T:Txt P w K mg):fB P w K mg base 1 "less" 2 vn:=fU ["one","other"] T.o_less (fun _ _ _ _ _ _ _ hr nd=>(al (az (eQ pL (ax aI (bY hr (ad 0)) (bY hr (ad 1))) (ax aI (bY hr (ad 1)) (bY hr (ad 0))) (aJ _))))) rfl
def lZ:aE:=bc 3 (CW.jb vn)
def qi(T:Txt P w K mg):fB P w K mg base 2 "highest" 1 lZ:=fU ["fractions","found","one"] T.o_highest (fun _ _ _ _ _ _ _ hr nd=>(ae (s4 1 nd (bY hr (ad 0)))
  (ae (dy PassesOwn.never rfl (cm (ad 0)) (gn 2 nd) (al (cY (dH (c4 (xI T) hr (lc (ad 1) (l1 (ad 2))))) (al (s4 1 nd (ad 2))) bz)))
  (al (az (ad 1)))))) rfl
def kL:aE:=bc 3 (CW.il m5)
def oz(T:Txt P w K mg):fB P w K mg base 4 "together" 1 kL:=fU ["fractions","found","one"] T.o_together (fun _ _ _ _ _ _ _ hr nd=>(ae (s4 1 nd (bx (lc ag (l1 ag))))
  (ae (dy PassesOwn.never rfl (cm (ad 0)) (gn 2 nd) (al (s4 1 nd (c4 (q9 T) hr (lc (ad 1) (l1 (ad 2)))))))
  (al (az (ad 1)))))) rfl
def kM:aE:=bc 2 (CW.im kL q_)
def oA(T:Txt P w K mg):fB P w K mg base 5 "worth_of" 2 kM:=fU ["numbers","fractions"] T.o_worth_of (fun _ _ _ _ _ _ _ hr nd=>(al (az (c4 (oz T) hr (l1 (jP [] 2 [] ["number","one"] (ut rfl rfl rfl T.HK (by decide +kernel) (lc (ad 0) (l1 (ad 1)))) (fun _=>(qI rfl (aD (gn 0 Co) (aD (gn 1 Co) dI)))) (fun _=>bA) (fun _=>(c4 (vm T) hr (lc (bx (lc (ad 0) (l1 ag))) (l1 (ad 1))))))))))) rfl
def cC:aE:=bc 3 (CW.dE iV)
def e_(T:Txt P w K mg):fB P w K mg base 2 "common_bottom" 1 cC:=fU ["fractions","found","one"] T.o_common_bottom (fun _ _ _ _ _ _ _ hr nd=>(ae (s4 1 nd ag)
  (ae (dy PassesOwn.never rfl (cm (ad 0)) (gn 2 nd) (al (s4 1 nd (ax gk (ax aI (ad 1) (bY hr (ad 2))) (c4 (lX T) hr (lc (ad 1) (l1 (bY hr (ad 2)))))))))
  (al (az (ad 1)))))) rfl
def h_:aE:=bc 4 CW.eL
def kN(T:Txt P w K mg):fB P w K mg base 1 "row_of_deed" 4 h_:=fU ["columns","jars","mix","d"] T.o_row_of_deed (fun _ _ _ _ _ _ _ hr nd=>(al (az (ax aT (ax aT (jP ["d"] 1 [3] ["column","d"] (cm (ad 0)) (fun _=>(gn 0 Eo)) (fun _=>bA) (fun _=>(ya (vO hr (bY hr (ad 0)) (ad 1)) ag ag))) (ax aI (fN (l1 ag)) (ad 1))) (fN (l1 (gD hr (ad 2) (ad 3)))))))) rfl
def iW:aE:=bc 4 CW.fD
def lj(T:Txt P w K mg):fB P w K mg base 1 "row_of_jar" 3 iW:=fU ["columns","jars","jar","over"] T.o_row_of_jar (fun _ _ _ _ _ _ _ hr nd=>(ae (AW ["jar"] 1 [2] ["other","jar"] 3 nd (aV rfl rfl T.Fk (l1 (ad 1))) (fun _=>(gn 0 Ep)) (fun _=>bA) (fun _=>(ya (vO hr (ad 0) (ad 1)) ag ag)))
  (al (az (ax aT (ax aT (jP ["jar"] 1 [2] ["column","jar"] (cm (ad 0)) (fun _=>(gn 0 Er)) (fun _=>bA) (fun _=>(jM dD (gD hr (bY hr (ad 0)) (ad 1))))) (ad 3)) (fN (l1 ag))))))) rfl
def l3:aE:=bc 4 CW.jc
def qj(T:Txt P w K mg):fB P w K mg base 1 "without" 4 l3:=fU ["row","chosen","place","bottom"] T.o_without (fun _ _ _ _ _ _ _ hr nd=>(al (az (jP ["row","place","chosen","bottom"] 2 [3,1,2,0] ["one","other","bottom","chosen","place","row"] (pN rfl rfl rfl T.HK (by decide +kernel) (lc (ad 0) (l1 (ad 1)))) (fun _=>(qI rfl (aD (gn 0 Cq) (aD (gn 1 Cq) dI)))) (fun _=>bA) (fun _=>(ax gk (ax gj (ax aI (ad 0) (gD hr (ad 3) (ad 4))) (ax aI (gD hr (ad 5) (ad 4)) (ad 1))) (ad 2))))))) rfl
def dZ:aE:=bc 3 CW.cD
def gW(T:Txt P w K mg):vN P w K mg base 1 "Balance" "__init__" 3 dZ:=AV ["self","rows","held"] T.o_Balance___init__ (fun _ _ _ _ _ _ _ hr nd=>(ae (B5 T.Ff (ad 1) (ad 0))
  (ae (B5 T.Ff (ad 2) (ad 0))
  (al (B5 T.Ff ag (ad 0)))))) rfl
def cU:aE:=bc 5 (CW.dW l3)
def fQ(T:Txt P w K mg):vN P w K mg base 2 "Balance" "hold" 3 cU:=AV ["self","number","place","chosen","others"] T.o_Balance_hold (fun _ _ _ _ _ _ _ hr nd=>(ae (s4 3 nd (gD hr (nk T.Ff (ad 0)) (ad 1)))
  (ae (AW ["self","place","chosen"] 1 [3,2,0] ["row","chosen","place","self"] 4 nd (cm (nk T.Ff (ad 0))) (fun _=>(gn 0 Es)) (fun _=>bA) (fun _=>(c4 (qj T) hr (lc (ad 0) (lc (ad 1) (lc (ad 2) (l1 (nk T.Ff (ad 3)))))))))
  (ae (B5 T.Ff (ax aT (ax aT (gT (ad 4) mC (gb (ad 1))) (fN (l1 (ad 3)))) (gT (ad 4) (gb (ax aT (ad 1) ag)) mC)) (ad 0))
  (ae (B5 T.Ff (gD hr (ad 3) (ad 2)) (ad 0))
  (al (lO (wV hr) (ad 2) (nk T.Ff (ad 0)) (ad 1)))))))) rfl
def eB:aE:=bc 3 CW.cQ
def d0(T:Txt P w K mg):vN P w K mg base 1 "Balance" "gaining" 1 eB:=AV ["self","place","number"] T.o_Balance_gaining (fun _ _ _ _ _ _ _ hr nd=>(ae (dy PassesOwn.never rfl (pJ rfl rfl T.GC (by decide +kernel) (l1 (gT (gD hr (nk T.Ff (ad 0)) (jM dD ag)) mC (gb (jM dD ag))))) (qI rfl (aD (gn 1 nd) (aD (gn 2 nd) dI))) (al (cY (cI pL (ad 2) ag (aJ _)) (al (az (ad 1))) bz)))
  (al (az g6)))) rfl
def fb:aE:=bc 6 CW.dg
def iX(T:Txt P w K mg):vN P w K mg base 1 "Balance" "sooner" 4 fb:=AV ["self","one","other","place","first","second"] T.o_Balance_sooner (fun _ _ _ _ _ _ _ hr nd=>(ae (s4 4 nd (ax aI (gD hr (gD hr (nk T.Ff (ad 0)) (ad 1)) (jM dD ag)) (gD hr (gD hr (nk T.Ff (ad 0)) (ad 2)) (ad 3))))
  (ae (s4 5 nd (ax aI (gD hr (gD hr (nk T.Ff (ad 0)) (ad 2)) (jM dD ag)) (gD hr (gD hr (nk T.Ff (ad 0)) (ad 1)) (ad 3))))
  (al (az (eQ (B8 (ky hr)) (bx (lc (ad 4) (l1 (gD hr (nk T.Ff (ad 0)) (ad 1))))) (bx (lc (ad 5) (l1 (gD hr (nk T.Ff (ad 0)) (ad 2))))) (aJ _))))))) rfl
def eC:aE:=bc 4 (CW.cR fb)
def ix(T:Txt P w K mg):vN P w K mg base 2 "Balance" "used_up" 2 eC:=AV ["self","place","found","number"] T.o_Balance_used_up (fun _ _ _ _ _ _ _ hr nd=>(ae (s4 2 nd g6)
  (ae (dy PassesOwn.never rfl (aV rfl rfl T.Fk (l1 (cB bO T.Fs (l1 (nk T.Ff (ad 0)))))) (gn 3 nd) (al (cY (qF (qE (cI k6 (gD hr (gD hr (nk T.Ff (ad 0)) (ad 3)) (ad 1)) ag (aJ _)) (mz (qF (k4 (cI yb (ad 2) g6 (aJ _)) (g7 (dH (AX (iX T) hr (ad 0) (lc (ad 3) (lc (ad 2) (l1 (ad 1)))))))))))) (al (s4 2 nd (ad 3))) bz)))
  (al (az (ad 2)))))) rfl
def bX:aE:=bc 7 (CW.cS di)
def d3(T:Txt P w K mg):vN P w K mg base 3 "Balance" "held_by" 4 bX:=AV ["self","count","place","sign","found","row","held"] T.o_Balance_held_by (fun _ _ _ _ _ _ _ hr nd=>(ae (s4 4 nd (ax aI (fN (l1 (bx (lc ag (l1 ag))))) (ad 1)))
  (ae (dy PassesOwn.never rfl (pN rfl rfl rfl T.HK (by decide +kernel) (lc (nk T.Ff (ad 0)) (l1 (nk T.Ff (ad 0))))) (qI rfl (aD (gn 5 nd) (aD (gn 6 nd) dI))) (al (cY (cI pL (ad 6) (ad 1) (aJ _)) (al (lO (wV hr) (c4 (dz T) hr (lc (ax aI (ad 3) (gD hr (ad 5) (ad 2))) (l1 (nk T.Ff (ad 0))))) (ad 4) (ad 6))) bz)))
  (al (az (ad 4)))))) rfl
def b7:aE:=bc 3 CW.bi
def dN(T:Txt P w K mg):fB P w K mg base 1 "first_that_takes_nothing" 2 b7:=fU ["columns","d","fit"] T.o_first_that_takes_nothing (fun _ _ _ _ _ _ _ hr nd=>(ae (AW ["d"] 2 [1] ["place","column","d"] 2 nd (pJ rfl rfl T.GC (by decide +kernel) (l1 (ad 0))) (fun _=>(qI rfl (aD (gn 0 Cr) (aD (gn 1 Cr) dI)))) (fun _=>(uu (qF (qE (vO hr (bY hr (ad 1)) (ad 2)) (mz (cI z9 (E4 (At rfl) T.KZ (bY hr (ad 1)) ag) ag (aJ _))))))) (fun _=>(ad 0)))
  (al (az (bY hr (ad 2)))))) rfl
def fI:aE:=bc 8 (CW.fE cC h_ iW dZ cU b7)
def lm(T:Txt P w K mg):fB P w K mg base 3 "balance_of" 3 fI:=fU ["columns","jars","mix","bottom","goal","d","rows","balance"] T.o_balance_of (fun _ _ _ _ _ _ _ hr nd=>(ae (s4 3 nd (c4 (e_ T) hr (l1 (jP [] 1 [] ["column"] (cm (ad 0)) (fun _=>(gn 0 Cs)) (fun _=>bA) (fun _=>(bY hr (ad 0)))))))
  (ae (s4 4 nd (ax aT (jP ["bottom"] 1 [3] ["column","bottom"] (cm (ad 0)) (fun _=>(gn 0 Eu)) (fun _=>bA) (fun _=>(ax aI (jM dD (bY hr (bY hr (ad 0)))) (ax gk (ad 1) (bY hr (bY hr (ad 0))))))) (ax aI (fN (l1 ag)) (ax aT (ad 1) ag))))
  (ae (AW ["mix","jars","columns"] 1 [0,1,2] ["d","columns","jars","mix"] 6 nd (aV rfl rfl T.Fk (l1 (cB bO T.Fs (l1 (ad 2))))) (fun _=>(gn 0 Ev)) (fun _=>bA) (fun _=>(c4 (kN T) hr (lc (ad 1) (lc (ad 2) (lc (ad 3) (l1 (ad 0))))))))
  (ae (fu (yi su ul (ad 6) (l1 (jP ["jars","columns"] 1 [0,1] ["jar","columns","jars"] (aV rfl rfl T.Fk (l1 (ad 1))) (fun _=>(gn 0 Ct)) (fun _=>bA) (fun _=>(c4 (lj T) hr (lc (ad 1) (lc (ad 2) (l1 (ad 0))))))))))
  (ae (s4 7 nd (EZ T.Ff (gW T) hr (lc (ax aT (ad 6) (fN (l1 (ad 4)))) (l1 (jP ["mix","columns"] 1 [0,2] ["number","columns","mix"] (aV rfl rfl T.Fk (l1 (cB bO T.Fs (l1 (ad 6))))) (fun _=>(gn 0 Cu)) (fun _=>bA) (fun _=>(ax gj (ax aT (cB bO T.Fs (l1 (ad 1))) (ad 0)) (cB bO T.Fs (l1 (ad 2))))))))))
  (ae (dy PassesOwn.never rfl (aV rfl rfl T.Fk (l1 (cB bO T.Fs (l1 (ad 2))))) (gn 5 nd) (al (fu (AX (fQ T) hr (ad 7) (lc (ad 5) (l1 (c4 (dN T) hr (lc (ad 0) (l1 (ad 5))))))))))
  (al (az (ad 7)))))))))) rfl
def iy:aE:=bc 3 (CW.io lZ m5 kM)
def oB(T:Txt P w K mg):fB P w K mg base 6 "price_of" 3 iy:=fU ["columns","worths","d"] T.o_price_of (fun _ _ _ _ _ _ _ hr nd=>(al (az (c4 (qi T) hr (l1 (jP ["worths","d"] 1 [2,1] ["column","d","worths"] (cm (ad 0)) (fun _=>(gn 0 Cv)) (fun _=>(uu (vO hr (bY hr (ad 0)) (ad 1)))) (fun _=>(c4 (q9 T) hr (lc (bY hr (ad 0)) (l1 (c4 (oA T) hr (lc (bY hr (ad 0)) (l1 (ad 2)))))))))))))) rfl
def l5:aE:=bc 4 (CW.jd bX)
def qk(T:Txt P w K mg):fB P w K mg base 4 "endless" 3 l5:=fU ["balance","columns","place","shares"] T.o_endless (fun _ _ _ _ _ _ _ hr nd=>(ae (s4 3 nd (AX (d3 T) hr (ad 0) (lc (cB bO T.Fs (l1 (ad 1))) (lc (ad 2) (l1 (jM dD ag))))))
  (ae (cY (cI pL (ad 2) (cB bO T.Fs (l1 (ad 1))) (aJ _)) (al (lO (wV hr) (bx (lc ag (l1 ag))) (ad 3) (ad 2))) bz)
  (al (az (bx (lc cM (l1 (cT dM T.FB (l1 (ad 3))))))))))) rfl
def vo:aE:=bc 8 (CW.pQ cC di iy bX)
def xJ(T:Txt P w K mg):fB P w K mg base 7 "most" 3 vo:=fU ["balance","columns","mix","bottom","goal","worths","prices","shares"] T.o_most (fun _ _ _ _ _ _ _ hr nd=>(ae (s4 3 nd (ax aI (nk T.Ff (ad 0)) (c4 (e_ T) hr (l1 (jP [] 1 [] ["column"] (cm (ad 1)) (fun _=>(gn 0 Cs)) (fun _=>bA) (fun _=>(bY hr (ad 0))))))))
  (ae (s4 4 nd (gD hr (nk T.Ff (ad 0)) (jM dD ag)))
  (ae (s4 5 nd (cT dM T.FB (l1 (jP ["bottom"] 1 [3] ["number","bottom"] (cm (gT (ad 4) (gb (cB bO T.Fs (l1 (ad 1)))) (gb (jM dD ag)))) (fun _=>(gn 0 Cw)) (fun _=>bA) (fun _=>(c4 (dz T) hr (lc (ad 0) (l1 (ad 1)))))))))
  (ae (s4 6 nd (cT dM T.FB (l1 (jP ["worths","columns"] 1 [1,5] ["d","columns","worths"] (aV rfl rfl T.Fk (l1 (cB bO T.Fs (l1 (ad 2))))) (fun _=>(gn 0 Cy)) (fun _=>bA) (fun _=>(c4 (oB T) hr (lc (ad 1) (lc (ad 2) (l1 (ad 0))))))))))
  (ae (s4 7 nd (cT dM T.FB (l1 (AX (d3 T) hr (ad 0) (lc (cB bO T.Fs (l1 (ad 1))) (lc (jM dD ag) (l1 ag)))))))
  (al (az (bx (lc cM (lc (c4 (dz T) hr (lc (gD hr (ad 4) (jM dD ag)) (l1 (ad 3)))) (lc (ad 7) (lc (ad 6) (l1 (ad 5))))))))))))))) rfl
def js:aE:=bc 6 (CW.je fI eB eC l5 cU vo)
def kO(T:Txt P w K mg):fB P w K mg base 8 "weighed" 2 js:=fU ["columns","mix","jars","balance","place","number"] T.o_weighed (fun _ _ _ _ _ _ _ hr nd=>(ae (s4 2 nd (cB bO T.Fs (l1 (bY hr (bY hr (ad 0))))))
  (ae (s4 3 nd (c4 (lm T) hr (lc (ad 0) (lc (ad 2) (l1 (ad 1))))))
  (ae (s4 4 nd (B7 (d0 T) hr (ad 3)))
  (ae (iN PassesOwn.never (cI kj (ad 4) g6 (aJ _)) (ae (s4 5 nd (AX (ix T) hr (ad 3) (l1 (ad 4))))
  (ae (cY (cI yb (ad 5) g6 (aJ _)) (al (az (c4 (qk T) hr (lc (ad 3) (lc (ad 0) (l1 (ad 4))))))) bz)
  (ae (fu (AX (fQ T) hr (ad 3) (lc (ad 5) (l1 (ad 4)))))
  (al (s4 4 nd (B7 (d0 T) hr (ad 3))))))))
  (al (az (c4 (xJ T) hr (lc (ad 3) (lc (ad 0) (l1 (ad 1)))))))))))) rfl
def jG:aE:=bc 5 C.gq
def m6(T:Txt P w K mg):fB P w K mg base 1 "_law_deal" 2 jG:=fU ["_law_script","_law_base","_law_one","_law_some","_law_number"] T.o__law_deal (fun _ _ _ _ _ _ _ hr nd=>(ae (AW [] 1 [] ["_law_one"] 3 nd (cm (gT (ad 0) (gb (ad 1)) (gb ag))) (fun _=>(gn 0 vk)) (fun _=>bA) (fun _=>(cB (uf rfl) T.Jk (lc (ad 0) (l1 (ax gj ag (ad 0)))))))
  (ae (s4 4 nd (ax aT ag (ad 1)))
  (ae (dy PassesOwn.never rfl (cm (ad 3)) (gn 2 nd) (al (s4 4 nd (ax eX (ax aT (ax aI (ad 4) ag) (ax eX (ad 2) ag)) ag))))
  (al (az (mF (dq cM (ad 4) (dq cM ag (dq cM (zZ rX rfl (jP [] 1 [] ["_law_one"] (cm (ad 3)) (fun _=>(gn 0 vk)) (fun _=>(uu (cI z9 (ad 0) (ax BW ag ag) (aJ _)))) (fun _=>(ad 0))) rfl T.Kl rfl T.Ht) mE)))))))))) rfl
def cJ:aE:=bc 5 C.gr
def am(T:Txt P w K mg):fB P w K mg base 1 "_law_draw" 2 cJ:=fU ["_law_deal_here","_law_many","_law_number","_law_one","_law_other"] T.o__law_draw (fun _ _ _ _ _ _ _ hr nd=>(ae (iN PassesOwn.never (qF (qE (vO hr (gD hr (ad 0) cM) ag) (mz (cI k6 (cB bO T.Fs (l1 (gD hr (ad 0) cM))) ag (aJ _))))) (al (lO (wV hr) (Eb uB yf (gD hr (ad 0) cM)) (ad 0) cM)))
  (ae (s4 2 nd (gD hr (ad 0) cM))
  (ae (cY (cI k6 (ad 2) ag (aJ _)) (ae (lO (wV hr) (ax gk (ad 2) (ad 1)) (ad 0) cM)
  (al (az (ax eX (ad 2) (ad 1))))) bz)
  (ae (s4 3 nd (ax eX (ax aT (ax aI (gD hr (ad 0) cM) ag) ag) ag))
  (ae (lO (wV hr) (ax eX (ax aT (ax aI (ad 3) ag) ag) ag) (ad 0) cM)
  (ae (s4 4 nd (ax eX (ax aI (gD hr (ad 0) cM) (gD hr (ad 0) cM)) ag))
  (al (az (ax eX (ax aT (ax aI (ax eX (ax aI (ad 3) (ad 3)) ag) ag) (ad 4)) (ad 1))))))))))) rfl
def dj:aE:=bc 4 C.ij
def gQ(T:Txt P w K mg):fB P w K mg base 1 "_law_low" 2 dj:=fU ["_law_top","_law_bottom","_law_one","_law_other"] T.o__law_low (fun _ _ _ _ _ _ _ hr nd=>(ae (nQ (i:=2) (j:=3) rfl nd rfl rfl (by decide) rfl rfl (lc (cB (uf rfl) T.Jk (lc (ad 0) (l1 (ax gj ag (ad 0))))) (l1 (ad 1))))
  (ae (iN PassesOwn.never (cI k6 (ad 3) ag (aJ _)) (al (nQ (i:=2) (j:=3) rfl nd rfl rfl (by decide) rfl rfl (lc (ad 3) (l1 (ax eX (ad 2) (ad 3)))))))
  (al (az (bx (lc (ax gk (ad 0) (ad 2)) (l1 (ax gk (ad 1) (ad 2)))))))))) rfl
def dA:aE:=bc 2 (C.gB dj)
def dO(T:Txt P w K mg):fB P w K mg base 2 "_law_plus" 2 dA:=fU ["_law_one","_law_other"] T.o__law_plus (fun _ _ _ _ _ _ _ hr nd=>(al (az (c4 (gQ T) hr (lc (ax aT (ax aI (bY hr (ad 0)) (bY hr (ad 1))) (ax aI (bY hr (ad 1)) (bY hr (ad 0)))) (l1 (ax aI (bY hr (ad 0)) (bY hr (ad 1))))))))) rfl
def eE:aE:=bc 2 (C.gv cJ dj)
def dP(T:Txt P w K mg):fB P w K mg base 2 "_law_cost" 1 eE:=fU ["_law_deal_here","_law_form"] T.o__law_cost (fun _ _ _ _ _ _ _ hr nd=>(ae (s4 1 nd (c4 (am T) hr (lc (ad 0) (l1 ag))))
  (ae (cY (vO hr (ad 1) ag) (al (az (bx (lc ag (l1 ag))))) bz)
  (ae (cY (cI pL (ad 1) ag (aJ _)) (al (az (bx (lc (ax aT ag (c4 (am T) hr (lc (ad 0) (l1 ag)))) (l1 ag))))) bz)
  (al (az (c4 (gQ T) hr (lc (c4 (am T) hr (lc (ad 0) (l1 ag))) (l1 (ax aT ag (c4 (am T) hr (lc (ad 0) (l1 ag))))))))))))) rfl
def bM:aE:=bc 1 (CW.cE dj)
def dJ(T:Txt P w K mg):fB P w K mg base 2 "_law_is_fraction" 1 bM:=fU ["_law_one"] T.o__law_is_fraction (fun _ _ _ _ _ _ _ hr nd=>(ae (cY (qF (k4 (eR (dH (cB nO T.FR (lc (ad 0) (l1 (B6 T.FB)))))) (g7 (yh hr (cB bO T.Fs (l1 (ad 0))) ag)))) (al (az fk)) bz)
  (ae (cY (eR (dH (cB (ye rfl) T.JO (l1 (jP [] 1 [] ["_law_number"] (cm (ad 0)) (fun _=>(gn 0 Cz)) (fun _=>bA) (fun _=>(kh (cB nO T.FR (lc (ad 0) (l1 (B6 T.Jj)))) (lN (BF (cB nO T.FR (lc (ad 0) (l1 (B6 T.Kk))))))))))))) (al (az fk)) bz)
  (al (az (kh (eQ k6 (bY hr (ad 0)) ag (aJ _)) (lN (eQ (nL (ky hr)) (c4 (gQ T) hr (lc (bY hr (ad 0)) (l1 (bY hr (ad 0))))) (ad 0) (aJ _))))))))) rfl
def bd:aE:=bc 2 (CW.bL bM)
def a9(T:Txt P w K mg):fB P w K mg base 3 "_law_are_from_nought" 2 bd:=fU ["_law_row","_law_many"] T.o__law_are_from_nought (fun _ _ _ _ _ _ _ hr nd=>(ae (cY (qF (k4 (eR (dH (cB nO T.FR (lc (ad 0) (l1 (B6 T.FB)))))) (g7 (yh hr (cB bO T.Fs (l1 (ad 0))) (ad 1))))) (al (az fk)) bz)
  (al (az (cB (ye rfl) T.JO (l1 (jP [] 1 [] ["_law_one"] (cm (ad 0)) (fun _=>(gn 0 vk)) (fun _=>bA) (fun _=>(kh (c4 (dJ T) hr (l1 (ad 0))) (lN (eQ z9 (bY hr (ad 0)) ag (aJ _)))))))))))) rfl
def dk:aE:=bc 5 (CW.ip dA)
def eF(T:Txt P w K mg):fB P w K mg base 3 "_law_sum" 2 dk:=fU ["_law_numbers","_law_shares","_law_found","_law_number","_law_share"] T.o__law_sum (fun _ _ _ _ _ _ _ hr nd=>(ae (s4 2 nd (bx (lc ag (l1 ag))))
  (ae (dy PassesOwn.never rfl (pN rfl rfl rfl T.HK (by decide +kernel) (lc (ad 0) (l1 (ad 1)))) (qI rfl (aD (gn 3 nd) (aD (gn 4 nd) dI))) (al (s4 2 nd (c4 (dO T) hr (lc (ad 2) (l1 (bx (lc (ax aI (ad 3) (bY hr (ad 4))) (l1 (bY hr (ad 4)))))))))))
  (al (az (ad 2)))))) rfl
def d4(FO:aE):bS:=(aj (ap 2 (aS [(c3 (.int 0)),(c3 (.int 1))]))
  (aj (bQ (k5 (v3 0) (v3 1)) (.tp (.cons (.n 3) (.cons (.n 4) .nil))) (ap 2 (ac FO [(v3 2),(aS [(ai aU (ai ak (ai ak (v3 3) (c3 (.int 1))) (c3 (.int 0))) (ai ak (v3 4) (c3 (.int 0)))),(ai aU (ai ak (ai ak (v3 3) (c3 (.int 1))) (c3 (.int 1))) (ai ak (v3 4) (c3 (.int 1))))])])))
  (av (v3 2))))
def cV:aE:=bc 5 (d4 dA)
def fS(T:Txt P w K mg):fB P w K mg base 3 "_law_cost_of" 2 cV:=fU ["_law_columns","_law_shares","_law_found","_law_column","_law_share"] T.o__law_cost_of (fun _ _ _ _ _ _ _ hr nd=>(ae (s4 2 nd (bx (lc ag (l1 ag))))
  (ae (dy PassesOwn.never rfl (ut rfl rfl rfl T.HK (by decide +kernel) (lc (ad 0) (l1 (ad 1)))) (qI rfl (aD (gn 3 nd) (aD (gn 4 nd) dI))) (al (s4 2 nd (c4 (dO T) hr (lc (ad 2) (l1 (bx (lc (ax aI (bY hr (bY hr (ad 3))) (bY hr (ad 4))) (l1 (ax aI (bY hr (bY hr (ad 3))) (bY hr (ad 4))))))))))))
  (al (az (ad 2)))))) rfl
def dm(FL:aE):bS:=(aj (bQ (bH (ah aX [(ai ak (ai ak (v3 0) (c3 (.int 0))) (c3 (.int 2)))])) (.n 2) (cK (bg (ai oK (ai ak (ac FL [(ar (aL (v3 0)) (.n 0) bo (ai ak (ai ak (v3 0) (c3 (.int 2))) (v3 1)) 1 [2]),(v3 1)]) (c3 (.int 0))) (c3 (.int 0)))) (av (c3 (.bl false))) bZ))
  (av (c3 (.bl true))))
def cf:aE:=bc 3 (dm dk)
def eG(T:Txt P w K mg):fB P w K mg base 4 "_law_jars_hold" 2 cf:=fU ["_law_columns","_law_shares","_law_j"] T.o__law_jars_hold (fun _ _ _ _ _ _ _ hr nd=>(ae (dy PassesOwn.never rfl (aV rfl rfl T.Fk (l1 (cB bO T.Fs (l1 (bY hr (bY hr (ad 0))))))) (gn 2 nd) (al (cY (cI pL (bY hr (c4 (eF T) hr (lc (jP ["_law_j"] 1 [2] ["_law_column","_law_j"] (cm (ad 0)) (fun _=>(gn 0 CA)) (fun _=>bA) (fun _=>(gD hr (bY hr (ad 0)) (ad 1)))) (l1 (ad 1))))) ag (aJ _)) (al (az fk)) bz)))
  (al (az fk)))) rfl
def cW(FL:aE):bS:=(aj (bQ (hG (v3 1)) (.tp (.cons (.n 3) (.cons (.n 4) .nil))) (cK (bg (ai (dU true) (ac FL [(ar (aL (v3 0)) (.n 0) bo (ah g_ [(ai (dU false) (ai ak (v3 0) (c3 (.int 0))) (v3 1))]) 1 [3]),(v3 2)]) (aS [(v3 4),(c3 (.int 1))]))) (av (c3 (.bl false))) bZ))
  (av (c3 (.bl true))))
def eI:aE:=bc 5 (cW dk)
def iz(T:Txt P w K mg):fB P w K mg base 4 "_law_deeds_hold" 3 eI:=fU ["_law_columns","_law_mix","_law_shares","_law_deed","_law_many"] T.o__law_deeds_hold (fun _ _ _ _ _ _ _ hr nd=>(ae (dy PassesOwn.never rfl (pJ rfl rfl T.GC (by decide +kernel) (l1 (ad 1))) (qI rfl (aD (gn 3 nd) (aD (gn 4 nd) dI))) (al (cY (yh hr (c4 (eF T) hr (lc (jP ["_law_deed"] 1 [3] ["_law_column","_law_deed"] (cm (ad 0)) (fun _=>(gn 0 CB)) (fun _=>bA) (fun _=>(cT yc T.Jj (l1 (eQ (nL (ky hr)) (bY hr (ad 0)) (ad 1) (aJ _)))))) (l1 (ad 2)))) (bx (lc (ad 4) (l1 ag)))) (al (az fk)) bz)))
  (al (az fk)))) rfl
def cG(FO FL:aE):bS:=(aj (bQ (aL (v3 0)) (.tp (.cons (.n 3) (.cons (.n 4) (.cons (.n 5) .nil)))) (aj (ap 6 (ac FO [(v3 4),(ac FL [(v3 5),(v3 2)])]))
  (aj (cK (bg (ai (kU true) (v3 3) (c3 .non))) (ap 6 (ac FO [(v3 6),(aS [(ai bW (c3 (.int 0)) (ai ak (ai ak (v3 1) (v3 3)) (c3 (.int 0)))),(ai ak (ai ak (v3 1) (v3 3)) (c3 (.int 1)))])])) bZ)
  (cK (bg (ai kW (ai ak (v3 6) (c3 (.int 0))) (c3 (.int 0)))) (av (c3 (.bl false))) bZ))))
  (av (c3 (.bl true))))
def d5:aE:=bc 7 (cG dA dk)
def gX(T:Txt P w K mg):fB P w K mg base 4 "_law_prices_hold" 3 d5:=fU ["_law_columns","_law_prices","_law_worths","_law_who","_law_cost_here","_law_effect","_law_found"] T.o__law_prices_hold (fun _ _ _ _ _ _ _ hr nd=>(ae (dy PassesOwn.never rfl (cm (ad 0)) (qI rfl (aD (gn 3 nd) (aD (gn 4 nd) (aD (gn 5 nd) dI)))) (ae (s4 6 nd (c4 (dO T) hr (lc (ad 4) (l1 (c4 (eF T) hr (lc (ad 5) (l1 (ad 2))))))))
  (ae (cY (cI kj (ad 3) g6 (aJ _)) (al (s4 6 nd (c4 (dO T) hr (lc (ad 6) (l1 (bx (lc (ax gj ag (bY hr (gD hr (ad 1) (ad 3)))) (l1 (bY hr (gD hr (ad 1) (ad 3))))))))))) bz)
  (al (cY (cI k6 (bY hr (ad 6)) ag (aJ _)) (al (az fk)) bz)))))
  (al (az fk)))) rfl
def b8(Fg FU F_:aE):bS:=(aj (cK (jL (df (bg (ac Fg [(v3 1),(ah aX [(v3 0)])]))) (df (bg (ac FU [(v3 0),(v3 1)])))) (av (c3 (.bl false))) bZ)
  (aj (cK (bg (ah wN [(ar (k5 (v3 0) (v3 1)) (.tp (.cons (.n 0) (.cons (.n 1) .nil))) bo (dv (ai (kU true) (ai ak (v3 0) (c3 (.int 0))) (c3 .non)) (ai kW (ai ak (v3 1) (c3 (.int 0))) (c3 (.int 0)))) 2 [])])) (av (c3 (.bl false))) bZ)
  (av (ai kW (ai ak (ac F_ [(v3 0),(v3 1)]) (c3 (.int 0))) (c3 (.int 0))))))
def dB:aE:=bc 2 (b8 bd cf cV)
def fW(T:Txt P w K mg):fB P w K mg base 5 "_law_endless_right" 2 dB:=fU ["_law_columns","_law_shares"] T.o__law_endless_right (fun _ _ _ _ _ _ _ hr nd=>(ae (cY (qF (k4 (eR (dH (c4 (a9 T) hr (lc (ad 1) (l1 (cB bO T.Fs (l1 (ad 0)))))))) (g7 (eR (dH (c4 (eG T) hr (lc (ad 0) (l1 (ad 1))))))))) (al (az fk)) bz)
  (ae (cY (dH (cB (BQ rfl) T.KY (l1 (jP [] 2 [] ["_law_column","_law_share"] (ut rfl rfl rfl T.HK (by decide +kernel) (lc (ad 0) (l1 (ad 1)))) (fun _=>(qI rfl (aD (gn 0 yy) (aD (gn 1 yy) dI)))) (fun _=>bA) (fun _=>(kh (eQ kj (bY hr (ad 0)) g6 (aJ _)) (lN (eQ k6 (bY hr (ad 1)) ag (aJ _))))))))) (al (az fk)) bz)
  (al (az (eQ k6 (bY hr (c4 (fS T) hr (lc (ad 0) (l1 (ad 1))))) ag (aJ _))))))) rfl
def cX(Fg FK G1 FU F_ FL GS:aE):bS:=(aj (jO (v3 2) (.tp (.cons (.n 3) (.cons (.n 4) (.cons (.n 5) (.cons (.n 6) .nil))))))
  (aj (ap 7 (ah aX [(ai ak (ai ak (v3 0) (c3 (.int 0))) (c3 (.int 2)))]))
  (aj (cK (jL (df (bg (ac Fg [(v3 4),(ah aX [(v3 0)])]))) (df (bg (ac Fg [(v3 5),(ah aX [(v3 1)])])))) (av (c3 (.bl false))) bZ)
  (aj (cK (jL (df (bg (ac Fg [(v3 6),(v3 7)]))) (df (bg (ac FK [(v3 3)])))) (av (c3 (.bl false))) bZ)
  (aj (cK (jL (df (bg (ac G1 [(v3 0),(v3 1),(v3 4)]))) (df (bg (ac FU [(v3 0),(v3 4)])))) (av (c3 (.bl false))) bZ)
  (aj (cK (jL (bg (ai (dU true) (ac F_ [(v3 0),(v3 4)]) (v3 3))) (bg (ai (dU true) (ac FL [(v3 1),(v3 5)]) (v3 3)))) (av (c3 (.bl false))) bZ)
  (av (ac GS [(v3 0),(v3 5),(v3 6)]))))))))
def eJ:aE:=bc 8 (cX bd bM eI cf cV dk d5)
def iA(T:Txt P w K mg):fB P w K mg base 5 "_law_most_right" 3 eJ:=fU ["_law_columns","_law_mix","_law_answer","_law_total","_law_shares","_law_prices","_law_worths","_law_jars"] T.o__law_most_right (fun _ _ _ _ _ _ _ hr nd=>(ae (qJ (ad 2) (qI rfl (aD (gn 3 nd) (aD (gn 4 nd) (aD (gn 5 nd) (aD (gn 6 nd) dI))))))
  (ae (s4 7 nd (cB bO T.Fs (l1 (bY hr (bY hr (ad 0))))))
  (ae (cY (qF (k4 (eR (dH (c4 (a9 T) hr (lc (ad 4) (l1 (cB bO T.Fs (l1 (ad 0)))))))) (g7 (eR (dH (c4 (a9 T) hr (lc (ad 5) (l1 (cB bO T.Fs (l1 (ad 1))))))))))) (al (az fk)) bz)
  (ae (cY (qF (k4 (eR (dH (c4 (a9 T) hr (lc (ad 6) (l1 (ad 7)))))) (g7 (eR (dH (c4 (dJ T) hr (l1 (ad 3)))))))) (al (az fk)) bz)
  (ae (cY (qF (k4 (eR (dH (c4 (iz T) hr (lc (ad 0) (lc (ad 1) (l1 (ad 4))))))) (g7 (eR (dH (c4 (eG T) hr (lc (ad 0) (l1 (ad 4))))))))) (al (az fk)) bz)
  (ae (cY (qF (k4 (yh hr (c4 (fS T) hr (lc (ad 0) (l1 (ad 4)))) (ad 3)) (g7 (yh hr (c4 (eF T) hr (lc (ad 1) (l1 (ad 5)))) (ad 3))))) (al (az fk)) bz)
  (al (az (c4 (gX T) hr (lc (ad 0) (lc (ad 5) (l1 (ad 6)))))))))))))) rfl
def fJ(GD G2:aE):bS:=(aj (cK (jL (df (bg (ah i8 [(v3 2),(c3 (.ty "tuple"))]))) (bg (ai (dU false) (ah aX [(v3 2)]) (c3 (.int 0))))) (av (c3 (.bl false))) bZ)
  (aj (cK (jK (bg (ai (dU false) (ai ak (v3 2) (c3 (.int 0))) (c3 (.str "endless")))) (bg (ai (dU false) (ah aX [(v3 2)]) (c3 (.int 2))))) (av (ac GD [(v3 0),(ai ak (v3 2) (c3 (.int 1)))])) bZ)
  (av (dv (ai (dU false) (ai ak (v3 2) (c3 (.int 0))) (c3 (.str "most"))) (dv (ai (dU false) (ah aX [(v3 2)]) (c3 (.int 5))) (ac G2 [(v3 0),(v3 1),(cP (v3 2) (oJ (c3 (.int 1))) uc)]))))))
def fK:aE:=bc 3 (fJ dB eJ)
def lp(T:Txt P w K mg):fB P w K mg base 6 "_law_right" 3 fK:=fU ["_law_columns","_law_mix","_law_answer"] T.o__law_right (fun _ _ _ _ _ _ _ hr nd=>(ae (cY (qF (k4 (eR (dH (cB nO T.FR (lc (ad 2) (l1 (B6 T.FB)))))) (g7 (vO hr (cB bO T.Fs (l1 (ad 2))) ag)))) (al (az fk)) bz)
  (ae (cY (qF (qE (vO hr (bY hr (ad 2)) cM) (mz (vO hr (cB bO T.Fs (l1 (ad 2))) ag)))) (al (az (c4 (fW T) hr (lc (ad 0) (l1 (bY hr (ad 2))))))) bz)
  (al (az (kh (eQ (nL (ky hr)) (bY hr (ad 2)) cM (aJ _)) (kh (eQ (nL (ky hr)) (cB bO T.Fs (l1 (ad 2))) ag (aJ _)) (lN (c4 (iA T) hr (lc (ad 0) (lc (ad 1) (l1 (gT (ad 2) (gb ag) mC))))))))))))) rfl
def gR(Fd:aE):bS:=(aj (ap 1 (ai ak (cO [(c3 (.int 3)),(c3 (.int 12)),(c3 (.int 200))]) (ac Fd [(v3 0),(c3 (.int 3))])))
  (aj (oy (ar (bH (c3 (.int 4))) (.n 0) bo (ai bv (c3 (.int 1)) (ac Fd [(v3 1),(v3 2)])) 1 [0,1]) (.cons (.n 3) (.cons (.n 4) (.cons (.n 5) (.cons (.n 6) .nil)))))
  (aj (cK (bg (ai (dU false) (ac Fd [(v3 0),(c3 (.int 3))]) (c3 (.int 0)))) (aj (jN 2 7 (ai bv (c3 (.int 1)) (ac Fd [(v3 0),(c3 (.int 14))])) (ai bv (c3 (.int 1)) (ac Fd [(v3 0),(c3 (.int 14))])))
  (aj (oy (ar (aL (aS [(v3 3),(v3 3),(v3 5),(v3 5)])) (.n 0) bo (ai bv (ai fy (ai bW (v3 0) (c3 (.int 1))) (c3 (.int 14))) (c3 (.int 1))) 1 []) (.cons (.n 3) (.cons (.n 4) (.cons (.n 5) (.cons (.n 6) .nil)))))
  (jO (aS [(ai aU (v3 2) (v3 3)),(ai aU (v3 7) (v3 3)),(ai aU (v3 2) (v3 5)),(ai aU (v3 7) (v3 5))]) (.tp (.cons (.n 3) (.cons (.n 4) (.cons (.n 5) (.cons (.n 6) .nil)))))))) bZ)
  (av (aS [(v3 3),(v3 4),(v3 5),(v3 6)])))))
def jH:aE:=bc 8 (gR cJ)
def m7(T:Txt P w K mg):fB P w K mg base 2 "_law_four" 1 jH:=fU ["_law_deal_here","_law_wide","_law_k","_law_a","_law_b","_law_c","_law_d","_law_m"] T.o__law_four (fun _ _ _ _ _ _ _ hr nd=>(ae (s4 1 nd (gD hr (fN (lc ag (lc ag (l1 ag)))) (c4 (am T) hr (lc (ad 0) (l1 ag)))))
  (ae (vj rfl (jP ["_law_wide","_law_deal_here"] 1 [0,1] ["_law_k","_law_deal_here","_law_wide"] (aV rfl rfl T.Fk (l1 ag)) (fun _=>(gn 0 CC)) (fun _=>bA) (fun _=>(ax aT ag (c4 (am T) hr (lc (ad 1) (l1 (ad 2))))))) (aD (gn 3 nd) (aD (gn 4 nd) (aD (gn 5 nd) (aD (gn 6 nd) dI)))))
  (ae (cY (vO hr (c4 (am T) hr (lc (ad 0) (l1 ag))) ag) (ae (nQ (i:=2) (j:=7) rfl nd rfl rfl (by decide) rfl rfl (lc (ax aT ag (c4 (am T) hr (lc (ad 0) (l1 ag)))) (l1 (ax aT ag (c4 (am T) hr (lc (ad 0) (l1 ag)))))))
  (ae (vj rfl (jP [] 1 [] ["_law_x"] (cm (bx (lc (ad 3) (lc (ad 3) (lc (ad 5) (l1 (ad 5))))))) (fun _=>(gn 0 CD)) (fun _=>bA) (fun _=>(ax aT (ax eX (ax gj (ad 0) ag) ag) ag))) (aD (gn 3 nd) (aD (gn 4 nd) (aD (gn 5 nd) (aD (gn 6 nd) dI)))))
  (al (qJ (bx (lc (ax aI (ad 2) (ad 3)) (lc (ax aI (ad 7) (ad 3)) (lc (ax aI (ad 2) (ad 5)) (l1 (ax aI (ad 7) (ad 5))))))) (qI rfl (aD (gn 3 nd) (aD (gn 4 nd) (aD (gn 5 nd) (aD (gn 6 nd) dI))))))))) bz)
  (al (az (bx (lc (ad 3) (lc (ad 4) (lc (ad 5) (l1 (ad 6)))))))))))) rfl
def fL(FY Fd:aE):bS:=(aj (ap 3 (cO []))
  (aj (bQ (bH (v3 2)) (.n 4) (c_ (ko "list" bD (v3 3) [(aS [(v3 4),(ac FY [(v3 0)]),(ah aR [(ar (bH (v3 1)) (.n 0) bo (ac Fd [(v3 1),(c3 (.int 4))]) 1 [0])])])])))
  (aj (bQ (bH (ac Fd [(v3 0),(c3 (.int 4))])) (.n 5) (aj (ap 6 (ah aR [(ar (bH (v3 1)) (.n 0) bo (ai bW (ac Fd [(v3 1),(c3 (.int 9))]) (c3 (.int 4))) 1 [0])]))
  (c_ (ko "list" bD (v3 3) [(aS [(ac Fd [(v3 0),(v3 2)]),(ac FY [(v3 0)]),(v3 6)])]))))
  (av (v3 3)))))
def iY:aE:=bc 7 (fL eE cJ)
def lu(T:Txt P w K mg):fB P w K mg base 3 "_law_drawn" 3 iY:=fU ["_law_deal_here","_law_jars","_law_deeds","_law_found","_law_deed","_law_k","_law_effect"] T.o__law_drawn (fun _ _ _ _ _ _ _ hr nd=>(ae (s4 3 nd (fN t9))
  (ae (dy PassesOwn.never rfl (aV rfl rfl T.Fk (l1 (ad 2))) (gn 4 nd) (al (fu (yi dQ eV (ad 3) (l1 (bx (lc (ad 4) (lc (c4 (dP T) hr (l1 (ad 0))) (l1 (cT dM T.FB (l1 (jP ["_law_deal_here"] 1 [0] ["_law_j","_law_deal_here"] (aV rfl rfl T.Fk (l1 (ad 1))) (fun _=>(gn 0 yA)) (fun _=>bA) (fun _=>(c4 (am T) hr (lc (ad 1) (l1 ag))))))))))))))))
  (ae (dy PassesOwn.never rfl (aV rfl rfl T.Fk (l1 (c4 (am T) hr (lc (ad 0) (l1 ag))))) (gn 5 nd) (ae (s4 6 nd (cT dM T.FB (l1 (jP ["_law_deal_here"] 1 [0] ["_law_j","_law_deal_here"] (aV rfl rfl T.Fk (l1 (ad 1))) (fun _=>(gn 0 yA)) (fun _=>bA) (fun _=>(ax gj (c4 (am T) hr (lc (ad 1) (l1 ag))) ag))))))
  (al (fu (yi dQ eV (ad 3) (l1 (bx (lc (c4 (am T) hr (lc (ad 0) (l1 (ad 2)))) (lc (c4 (dP T) hr (l1 (ad 0))) (l1 (ad 6)))))))))))
  (al (az (ad 3))))))) rfl
def jt:bS:=(av (ah aR [(ar (bH (v3 0)) (.n 0) bo (uv (v3 1) (v3 0) (c3 (.int 0))) 1 [1])]))
def l7:aE:=bc 2 jt
def iB(T:Txt P w K mg):fB P w K mg base 1 "_law_at" 2 l7:=fU ["_law_jars","_law_places"] T.o__law_at (fun _ _ _ _ _ _ _ hr nd=>(al (az (cT dM T.FB (l1 (jP ["_law_places"] 1 [1] ["_law_j","_law_places"] (aV rfl rfl T.Fk (l1 (ad 0))) (fun _=>(gn 0 CF)) (fun _=>bA) (fun _=>(zY (wV hr) (ad 1) (ad 0) ag ⟨rfl,rfl,rfl,rfl⟩)))))))) rfl
def d6(Fd Ir FY Ig Ha:aE):bS:=(aj (jN 1 2 (ai bv (c3 (.int 3)) (ac Fd [(v3 0),(c3 (.int 2))])) (ai bv (c3 (.int 1)) (ac Fd [(v3 0),(c3 (.int 4))])))
  (aj (jO (ac Ir [(v3 0)]) (.tp (.cons (.n 3) (.cons (.n 4) (.cons (.n 5) (.cons (.n 6) .nil))))))
  (aj (ap 7 (ac Fd [(v3 0),(v3 1)]))
  (aj (jN 8 9 (ai fy (ai bv (v3 7) (c3 (.int 1))) (v3 1)) (ai fy (ai bv (v3 7) (c3 (.int 2))) (v3 1)))
  (aj (ap 11 (ar (bH (c3 (.int 2))) (.n 0) bo (ai ak (cO [(aS [(c3 (.int 0)),(c3 (.int 1))]),(ac FY [(v3 1)])]) (ac Fd [(v3 1),(c3 (.int 2))])) 1 [0]))
  (aj (ap 12 (ac Ig [(v3 0),(v3 1),(v3 2)]))
  (aj (c_ (ko "list" bD (v3 12) [(aS [(c3 .non),(ai ak (v3 11) (c3 (.int 0))),(ac Ha [(v3 1),(fO [((v3 7),(v3 3)),((v3 8),(ai bW (c3 (.int 0)) (v3 4)))])])])]))
  (aj (c_ (ko "list" bD (v3 12) [(aS [(c3 .non),(ai ak (v3 11) (c3 (.int 1))),(ac Ha [(v3 1),(fO [((v3 7),(ai bW (c3 (.int 0)) (v3 5))),((v3 8),(v3 6))])])])]))
  (aj (bQ (bH (ac Fd [(v3 0),(c3 (.int 3))])) (.n 10) (aj (ap 13 (ai bW (ai bW (c3 (.int 0)) (c3 (.int 1))) (ac Fd [(v3 0),(c3 (.int 200))])))
  (c_ (ko "list" bD (v3 12) [(aS [(c3 .non),(ac FY [(v3 0)]),(ac Ha [(v3 1),(fO [((v3 7),(ac Fd [(v3 0),(c3 (.int 9))])),((v3 8),(ac Fd [(v3 0),(c3 (.int 9))])),((v3 9),(v3 13))])])])]))))
  (aj (ap 14 (cO []))
  (aj (i_ (bg (ai kW (ah aX [(v3 12)]) (c3 (.int 0)))) (c_ (ko "list" bD (v3 14) [(ko "list" nP (v3 12) [(ac Fd [(v3 0),(ah aX [(v3 12)])])])])))
  (aj (ap 15 (ah aR [(ar (bH (v3 2)) (.n 0) bo (ac Fd [(v3 1),(c3 (.int 10))]) 1 [0])]))
  (av (aS [(ah aR [(v3 14)]),(v3 15),(dv (ai AT (ai aU (v3 4) (v3 5)) (ai aU (v3 3) (v3 6))) (ai kW (ah n6 [(ar (aL (v3 11)) (.n 0) bo (ai ak (v3 0) (c3 (.int 0))) 1 [])]) (c3 (.int 0))))]))))))))))))))
def d8:aE:=bc 16 (d6 cJ jH eE iY l7)
def jS(T:Txt P w K mg):fB P w K mg base 4 "_law_planted" 1 d8:=fU ["_law_deal_here","_law_jars","_law_deeds","_law_a","_law_b","_law_c","_law_d","_law_x","_law_y","_law_z","_law_k","_law_costs","_law_left","_law_takes","_law_columns","_law_mix"] T.o__law_planted (fun _ _ _ _ _ _ _ hr nd=>(ae (nQ (i:=1) (j:=2) rfl nd rfl rfl (by decide) rfl rfl (lc (ax aT ag (c4 (am T) hr (lc (ad 0) (l1 ag)))) (l1 (ax aT ag (c4 (am T) hr (lc (ad 0) (l1 ag)))))))
  (ae (qJ (c4 (m7 T) hr (l1 (ad 0))) (qI rfl (aD (gn 3 nd) (aD (gn 4 nd) (aD (gn 5 nd) (aD (gn 6 nd) dI))))))
  (ae (s4 7 nd (c4 (am T) hr (lc (ad 0) (l1 (ad 1)))))
  (ae (nQ (i:=8) (j:=9) rfl nd rfl rfl (by decide) rfl rfl (lc (ax eX (ax aT (ad 7) ag) (ad 1)) (l1 (ax eX (ax aT (ad 7) ag) (ad 1)))))
  (ae (AW ["_law_deal_here"] 1 [0] ["_law_k","_law_deal_here"] 11 nd (aV rfl rfl T.Fk (l1 ag)) (fun _=>(gn 0 CG)) (fun _=>bA) (fun _=>(gD hr (fN (lc (bx (lc ag (l1 ag))) (l1 (c4 (dP T) hr (l1 (ad 1)))))) (c4 (am T) hr (lc (ad 1) (l1 ag))))))
  (ae (s4 12 nd (c4 (lu T) hr (lc (ad 0) (lc (ad 1) (l1 (ad 2))))))
  (ae (fu (yi dQ eV (ad 12) (l1 (bx (lc g6 (lc (bY hr (ad 11)) (l1 (c4 (iB T) hr (lc (ad 1) (l1 (mF (dq (ad 7) (ad 3) (dq (ad 8) (ax gj ag (ad 4)) mE)))))))))))))
  (ae (fu (yi dQ eV (ad 12) (l1 (bx (lc g6 (lc (bY hr (ad 11)) (l1 (c4 (iB T) hr (lc (ad 1) (l1 (mF (dq (ad 7) (ax gj ag (ad 5)) (dq (ad 8) (ad 6) mE)))))))))))))
  (ae (dy PassesOwn.never rfl (aV rfl rfl T.Fk (l1 (c4 (am T) hr (lc (ad 0) (l1 ag))))) (gn 10 nd) (ae (s4 13 nd (ax gj (ax gj ag ag) (c4 (am T) hr (lc (ad 0) (l1 ag)))))
  (al (fu (yi dQ eV (ad 12) (l1 (bx (lc g6 (lc (c4 (dP T) hr (l1 (ad 0))) (l1 (c4 (iB T) hr (lc (ad 1) (l1 (mF (dq (ad 7) (c4 (am T) hr (lc (ad 0) (l1 ag))) (dq (ad 8) (c4 (am T) hr (lc (ad 0) (l1 ag))) (dq (ad 9) (ad 13) mE)))))))))))))))))
  (ae (s4 14 nd (fN t9))
  (ae (iN PassesOwn.never (cI k6 (cB bO T.Fs (l1 (ad 12))) ag (aJ _)) (al (fu (yi dQ eV (ad 14) (l1 (yi uB yf (ad 12) (l1 (c4 (am T) hr (lc (ad 0) (l1 (cB bO T.Fs (l1 (ad 12)))))))))))))
  (ae (s4 15 nd (cT dM T.FB (l1 (jP ["_law_deal_here"] 1 [0] ["_law_deed","_law_deal_here"] (aV rfl rfl T.Fk (l1 (ad 2))) (fun _=>(gn 0 CH)) (fun _=>bA) (fun _=>(c4 (am T) hr (lc (ad 1) (l1 ag))))))))
  (al (az (bx (lc (cT dM T.FB (l1 (ad 14))) (lc (ad 15) (l1 (kh (eQ D_ (ax aI (ad 4) (ad 5)) (ax aI (ad 3) (ad 6)) (aJ _)) (lN (eQ k6 (cB (Ar rfl) T.Jk (l1 (jP [] 1 [] ["_law_cost_here"] (cm (ad 11)) (fun _=>(gn 0 CI)) (fun _=>bA) (fun _=>(bY hr (ad 0)))))) ag (aJ _))))))))))))))))))))))) rfl
def vp(Iu Hu HL Ih:aE):bS:=(aj (ap 1 (ac Iu [(v3 0),(c3 (.int 0))]))
  (aj (bQ (bH (c3 (.int 4))) (.n 2) (aj (jO (ac Hu [(v3 1)]) (.tp (.cons (.n 3) (.cons (.n 4) (.cons (.n 5) .nil)))))
  (aj (ap 6 (ac HL [(v3 3),(v3 4)]))
  (aj (cK (jL (df (bg (ac Ih [(v3 3),(v3 4),(v3 6)]))) (bg (ai (dU true) (ai ak (v3 6) (c3 (.int 0))) (ai ak (cO [(c3 (.str "most")),(c3 (.str "endless"))]) (ah g_ [(v3 5)]))))) (av (c3 (.bl false))) bZ)
  (cK (bg (ai (dU true) (ai ak (ac HL [(vi (v3 3)),(v3 4)]) (c3 (.int 0))) (ai ak (v3 6) (c3 (.int 0))))) (av (c3 (.bl false))) bZ)))))
  (av (c3 (.bl true)))))
def oC:aE:=bc 7 (vp jG d8 js fK)
def AG(T:Txt P w K mg){f:Addr}{fd:FuncData}(O:C7 K mg "law" (bR 41) ["_law_script"] f fd):AS P w K mg base 9 f fd ["_law_script"] oC:=EY ["_law_script","_law_deal_here","_law_k","_law_columns","_law_mix","_law_endless","_law_answer"] O (fun _ _ _ _ _ _ _ hr nd=>(ae (s4 1 nd (c4 (m6 T) hr (lc (ad 0) (l1 ag))))
  (ae (dy PassesOwn.never rfl (aV rfl rfl T.Fk (l1 ag)) (gn 2 nd) (ae (qJ (c4 (jS T) hr (l1 (ad 1))) (qI rfl (aD (gn 3 nd) (aD (gn 4 nd) (aD (gn 5 nd) dI)))))
  (ae (s4 6 nd (c4 (kO T) hr (lc (ad 3) (l1 (ad 4)))))
  (ae (cY (qF (k4 (eR (dH (c4 (lp T) hr (lc (ad 3) (lc (ad 4) (l1 (ad 6))))))) (g7 (yh hr (bY hr (ad 6)) (gD hr (fN (lc cM (l1 cM))) (cT yc T.Jj (l1 (ad 5)))))))) (al (az fk)) bz)
  (al (cY (yh hr (bY hr (c4 (kO T) hr (lc (AE wE rfl (ad 3) rfl T.FB rfl T.Ht) (l1 (ad 4))))) (bY hr (ad 6))) (al (az fk)) bz))))))
  (al (az fk))))) rfl
end
end G35
namespace G35
open PySem L2 L3 Wd
open C CW
structure He (q:Int) (X:Nat->Int):Prop where
 q0:0 < q
 q1:q.natAbs<=Kq
 x1:∀x,(X x).natAbs<=Kq * 17
noncomputable abbrev Fj(n:Nat)(X:Nat->Int):List Int:=(List.range n).map X
def He.fq{q:Int}{X:Nat->Int}(h:He q X):q.natAbs < dF/\∀n,∀x∈Fj n X,x.natAbs < dF:=by
 refine⟨aW (c:=1) (by rw[Nat.mul_one];exact h.q1) (by decide),fun n x hx=>?_⟩
 obtain⟨i,_,rfl⟩:=List.mem_map.mp hx
 exact aW (h.x1 i) (by decide)
def ql{cs:List Cl}{f:Cl->Int}{q:Int}{X:Nat->Int}(h:He q X)(hn:cs.length<=100)(hf:∀c∈cs,(f c).natAbs<=2 ^ 42):eM (aZ (cs.map f) (Fj cs.length X)) < dF/\(∀i∈cs.map f,i.natAbs < dF)/\(cs.map f).length=(Fj cs.length X).length:=by
 have b:=jZ (is:=cs.map f) (ns:=Fj cs.length X) (a:=2 ^ 42) (b:=Kq * 17) (fun i hi=>by obtain⟨c,hc,rfl⟩:=List.mem_map.mp hi;exact hf c hc) (fun x hx=>by obtain⟨i,_,rfl⟩:=List.mem_map.mp hx;exact h.x1 i)
 rw[List.length_map]at b
 refine⟨?_,fun i hi=>?_,by simp⟩
 ·have b2:eM (aZ (cs.map f) (Fj cs.length X))<=100 * (2 ^ 42 * (Kq * 17)):=Nat.le_trans b (Nat.mul_le_mul hn (Nat.le_refl _))
  refine Nat.lt_of_le_of_lt b2 (Nat.lt_of_le_of_lt ?_ mU)
  generalize Kq=z
  omega
 ·obtain⟨c,hc,rfl⟩:=List.mem_map.mp hi
  exact Nat.lt_of_le_of_lt (hf c hc) (Nat.lt_of_lt_of_le (show 2 ^ 42 < 2 ^ 2000 from Nat.pow_lt_pow_right (by decide) (by decide)) (Nat.le_refl _))
def CJ{cs:List Cl}{mix:Vu}{k:Nat}(P:bB cs mix k){t:Nat}(ht:t < k):∀c∈cs,(c.eff.getD t 0).natAbs<=2 ^ 42:=fun c hc=>by
 have hl:t < c.eff.length:=by rw[P.ef c hc];exact ht
 rw[aA (List.getElem?_eq_getElem hl)]
 exact Nat.le_trans (P.eb c hc _ (List.getElem_mem hl)) (by decide)
abbrev iZ(w:aE):Prop:=∀{S:aw} {cs:List Cl} {mix:Vu} {k:Nat} {q:Int} {X:Nat->Int} {Q:bE} {E:ci},bB cs mix k->He q X->(∀t,t < k->0<=ck cs (fun c=>c.eff.getD t 0) X)->(∀S',Ext S S'->Q (.bl true) S')->w [.tup (cs.map Cl.pv),.tup ((Fj cs.length X).map (cq q))] S Q E
def G3{x0:aE}(GT:e9 x0):iZ (bc 3 (dm x0)):=by
 intro S cs mix k q X Q E P h hj kk
 unfold dm
 refine fe ?_
 rw[show au 3 [.tup (cs.map Cl.pv),.tup ((Fj cs.length X).map (cq q))]=[some (.tup (cs.map Cl.pv)),some (.tup ((Fj cs.length X).map (cq q))),none] from rfl]
 have n1:=P.n1;have n2:=P.n2;have k1:=P.k1
 obtain⟨c0,r0,JN⟩:=List.exists_cons_of_ne_nil (show cs≠[] from fun e=>by rw[e]at n1;simp at n1)
 have e0:FZ (cs.map Cl.pv) 0=some c0.pv:=by rw[JN,List.map_cons];exact gC
 have l0:c0.eff.length=k:=P.ef c0 (by rw[JN];simp)
 refine ay fun N hN=>?_
 simp only[bQ,bH,ah,af,ai,v3,lk,c3,ak,e0,Cl.pv,yg,aX,List.length_map,l0]
 refine⟨by omega,by omega,?_⟩
 rw[Int.toNat_natCast]
 refine bp (fun done σ S'=>Ext S S'/\∃x2,σ=[some (.tup (cs.map Cl.pv)),some (.tup ((Fj cs.length X).map (cq q))),x2]) ⟨.refl,_,rfl⟩ (fun _ _ _ _=>trivial) ?_ ?_
 ·rintro done x rest σ S' K e ⟨X1,x2,rfl⟩ hK
  obtain⟨rfl,hi⟩:=cA e
  simp only[Tg.put,List.set_cons_succ,List.set_cons_zero,cK,bg,ai,ac,af,ar,aL,v3,lk,b6]
  refine aO Cl.pv (fun c=>.int (c.eff.getD done.length 0)) trivial cs [] (fun c hc=>⟨_,rfl,fun Q' q'=>?_⟩) (aY (by simp;omega)) ?_
  ·simp only[bJ,List.reduceReplicate,List.map_cons,List.map_nil,List.cons_append,List.nil_append,List.set_cons_zero,ai,v3,lk,c3,ak,Cl.pv,yg]
   rw[(gN (row:=c.eff) (j:=done.length) (by rw[P.ef c hc];exact hi)).1]
   exact q'
  intro p hp
  rw[List.nil_append,pU (fun c:Cl=>c.eff.getD done.length 0)]
  obtain⟨a1,a2,a3⟩:=ql (f:=fun c=>c.eff.getD done.length 0) h n2 (CJ P hi)
  refine GT (.lst aa) h.q0 h.fq.1 a3 a1 a2 (h.fq.2 _) ?_
  have e1:cq q (cF (cs.map fun c=>c.eff.getD done.length 0) (Fj cs.length X)) = .tup [.int (M3.aF (ck cs (fun c=>c.eff.getD done.length 0) X) q),.int (M3.aG (ck cs (fun c=>c.eff.getD done.length 0) X) q)]:=rfl
  simp only[e1,c3,ak,gC,oK,bN]
  rw[decide_eq_false (fun hlt=>by have:=(gK (n:=ck cs (fun c=>c.eff.getD done.length 0) X) h.q0).1.mp hlt;have:=hj done.length hi;omega)]
  simp only[Bool.false_eq_true,if_false]
  exact hK _ _ ⟨X1.trans (.new hp),_,rfl⟩
 ·rintro σ S' ⟨X1,x2,rfl⟩
  refine hN _ _ ?_
  simp only[av,c3]
  exact kk S' X1
abbrev fM(w:aE):Prop:=∀{S:aw} {cs:List Cl} {mix:Vu} {k:Nat} {q:Int} {X:Nat->Int} {Q:bE} {E:ci},bB cs mix k->He q X->Q (cq (q * (cbO cs:Int)) (ck cs (Cn cs) X)) S->w [.tup (cs.map Cl.pv),.tup ((Fj cs.length X).map (cq q))] S Q E
def sO{x0:aE}(Ft:jF x0):fM (bc 5 (d4 x0)):=by
 intro S cs mix k q X Q E P h kk
 unfold d4
 refine fe ?_
 rw[show au 5 [.tup (cs.map Cl.pv),.tup ((Fj cs.length X).map (cq q))]=[some (.tup (cs.map Cl.pv)),some (.tup ((Fj cs.length X).map (cq q))),none,none,none] from rfl]
 obtain⟨NS,NT,N6⟩:=hJ P
 have B0:0 < q * (cbO cs:Int):=Int.mul_pos h.q0 (by omega)
 have B1:(q * (cbO cs:Int)).natAbs < dF:=aW (c:=2520) (by rw[Int.natAbs_mul];exact Nat.mul_le_mul h.q1 (by omega)) (by decide)
 have z0:PV.tup [.int 0,.int 1]=cq (q * (cbO cs:Int)) 0:=by rw[iq,fP (Q:=1) (R:=q * (cbO cs:Int)) (n:=0) (m:=0) (by decide) B0 (by simp)]
 obtain⟨a1,a2,a3⟩:=ql (f:=Cn cs) h P.n2 (fun c hc=>(mW P hc).1)
 refine ay fun N hN=>?_
 simp only[ap,aS,af,c3,List.set_cons_succ,List.set_cons_zero]
 rw[z0]
 refine hN _ _ (ay fun N hN=>?_)
 simp only[bQ,k5,v3,lk]
 refine bp (fun done σ S'=>S'=S/\done.length<=cs.length/\∃x3 x4,σ=[some (.tup (cs.map Cl.pv)),some (.tup ((Fj cs.length X).map (cq q))),some (cq (q * (cbO cs:Int)) ((aZ (cs.map (Cn cs)) (Fj cs.length X)).take done.length).sum),x3,x4]) ⟨rfl,Nat.zero_le _,_,_,rfl⟩ (fun _ _ _ _=>trivial) ?_ ?_
 ·rintro done x rest σ S' K e ⟨rfl,hd,x3,x4,rfl⟩ hK
  have hget:(aP (cs.map Cl.pv) ((Fj cs.length X).map (cq q)))[done.length]?=some x:=by rw[e];simp
  unfold aP at hget
  rw[List.getElem?_map]at hget
  obtain⟨⟨u,w⟩,hz,rfl⟩:=Option.map_eq_some_iff.mp hget
  obtain⟨h1,h2⟩:=List.getElem?_zip_eq_some.mp hz
  rw[List.getElem?_map]at h1 h2
  obtain⟨c,hc1,rfl⟩:=Option.map_eq_some_iff.mp h1
  obtain⟨n,hn1,rfl⟩:=Option.map_eq_some_iff.mp h2
  have hc:=List.mem_of_getElem? hc1
  have hlt:done.length < cs.length:=(List.getElem?_eq_some_iff.mp hc1).1
  have hp:(aZ (cs.map (Cn cs)) (Fj cs.length X))[done.length]?=some (Cn cs c * n):=by unfold aZ;rw[List.getElem?_zipWith,List.getElem?_map,hc1,hn1];rfl
  have t1:=iO ((aZ (cs.map (Cn cs)) (Fj cs.length X)).take done.length)
  have t2:=jf (aZ (cs.map (Cn cs)) (Fj cs.length X)) done.length
  have q0:=h.q0
  have hy:=P.yd c hc
  have y2:=ir hy.2
  have hx:=P.x0 c hc
  have nb:n.natAbs<=Kq * 17:=by obtain⟨i,_,rfl⟩:=List.mem_map.mp (List.mem_of_getElem? hn1);exact h.x1 i
  have L:=(M3.cz (t:=n) (b:=q) (by omega)).pos
  have ls:=M3.ga (t:=n) (b:=q) (T:=n.natAbs) (B:=q.natAbs) (by omega) (by omega) (by omega) (by omega) (by omega) (by omega) (by omega)
  have ln:(M3.aF n q).natAbs<=n.natAbs:=by omega
  have lq:(M3.aG n q).natAbs<=q.natAbs:=by omega
  have e0:cq q n = .tup [.int (M3.aF n q),.int (M3.aG n q)]:=rfl
  have c1:(c.x * M3.aF n q).natAbs<=Kq * (17 * 2 ^ 30):=by
   rw[Int.natAbs_mul]
   have:(M3.aF n q).natAbs<=Kq * 17:=Nat.le_trans ln nb
   have:=Nat.mul_le_mul (show c.x.natAbs<=2 ^ 30 by omega) this
   refine Nat.le_trans this ?_
   generalize Kq=z
   omega
  have d1:((c.y:Int) * M3.aG n q).natAbs<=Kq * 2520:=by
   rw[Int.natAbs_mul,Int.natAbs_natCast,Nat.mul_comm]
   exact Nat.mul_le_mul (Nat.le_trans lq h.q1) y2
  have c2:=aW c1 (by decide)
  have d2:=aW d1 (by decide)
  simp only[Tg.put,Tg.FH,List.set_cons_succ,List.set_cons_zero,ap,ac,af,aS,ai,v3,lk,c3,ak,e0,Cl.pv,gC,mH]
  have m1:IntMulOk c.x (M3.aF n q):=(show IP _ _ from .inl ⟨by omega,by omega⟩).ok
  have m2:IntMulOk (c.y:Int) (M3.aG n q):=(show IP _ _ from .inl ⟨by omega,by omega⟩).ok
  simp only[aU]
  refine⟨m1,m2,qZ Ft (m:=Cn cs c * n) ⟨B0,B1,Nat.lt_of_le_of_lt (Nat.le_trans t1 t2) a1⟩ (Int.mul_pos (by omega) L) (Nat.le_of_lt c2) d2 ?_ (hK _ _ ⟨rfl,by rw[List.length_append];exact hlt,some (.tup [mK c.who,.tup [.int c.x,.int (c.y:Int)],.tup (c.eff.map PV.int)]),some (.tup [.int (M3.aF n q),.int (M3.aG n q)]),?_⟩)⟩
  ·have w:=M3.a8 (t:=n) (b:=q) (by omega)
   unfold Cn
   obtain⟨z,hz⟩:=N6 c hc
   rw[hz,Nat.mul_div_cancel_left _ hy.1,Int.natCast_mul]
   calc c.x * M3.aF n q * (q * ((c.y:Int) * (z:Int)))=c.x * (c.y:Int) * (z:Int) * (M3.aF n q * q):=by grind
    _=_:=by rw[w];grind
  ·rw[List.length_append,List.length_singleton,List.take_succ,hp]
   simp
 ·rintro σ S' ⟨rfl,hd,x3,x4,rfl⟩
  refine hN _ _ ?_
  have lz:(aP (cs.map Cl.pv) ((Fj cs.length X).map (cq q))).length=(aZ (cs.map (Cn cs)) (Fj cs.length X)).length:=by unfold aP aZ;simp
  rw[lz,List.take_length,dR]
  simp only[av,v3,lk]
  exact kk
abbrev l8(w:aE):Prop:=∀{S:aw} {cs:List Cl} {mix:Vu} {k:Nat} {q:Int} {X:Nat->Int} {Q:bE} {E:ci},bB cs mix k->He q X->(∀d,d < mix.length->ck cs (w1 d) X=mix.getD d 0 * q)->(∀S',Ext S S'->Q (.bl true) S')->w [.tup (cs.map Cl.pv),.tup (mix.map PV.int),.tup ((Fj cs.length X).map (cq q))] S Q E
def Hv{x0:aE}(GT:e9 x0):l8 (bc 5 (cW x0)):=by
 intro S cs mix k q X Q E P h hd kk
 unfold cW
 refine fe ?_
 rw[show au 5 [.tup (cs.map Cl.pv),.tup (mix.map PV.int),.tup ((Fj cs.length X).map (cq q))]=[some (.tup (cs.map Cl.pv)),some (.tup (mix.map PV.int)),some (.tup ((Fj cs.length X).map (cq q))),none,none] from rfl]
 have n2:=P.n2
 refine ay fun N hN=>?_
 simp only[bQ,hG,v3,lk]
 refine bp (fun done σ S'=>Ext S S'/\∃x3 x4,σ=[some (.tup (cs.map Cl.pv)),some (.tup (mix.map PV.int)),some (.tup ((Fj cs.length X).map (cq q))),x3,x4]) ⟨.refl,_,_,rfl⟩ (fun _ _ _ _=>trivial) ?_ ?_
 ·rintro done x rest σ S' K e ⟨X1,x3,x4,rfl⟩ hK
  obtain⟨y,rfl,hy⟩:=n4 e
  rw[List.getElem?_map]at hy
  obtain⟨n,hn1,rfl⟩:=Option.map_eq_some_iff.mp hy
  have hlt:=(List.getElem?_eq_some_iff.mp hn1).1
  simp only[Tg.put,Tg.FH,List.set_cons_succ,List.set_cons_zero,cK,bg,ai,ac,af,ar,aL,v3,lk,b6]
  refine aO Cl.pv (fun c=>.int (w1 done.length c)) trivial cs [] (fun c hc=>⟨_,rfl,fun Q' q'=>?_⟩) (aY (by simp;omega)) ?_
  ·simp only[bJ,List.reduceReplicate,List.map_cons,List.map_nil,List.cons_append,List.nil_append,List.set_cons_zero,ah,af,ai,v3,lk,c3,ak,Cl.pv,gC]
   refine mL ?_
   unfold w1 at q'
   by_cases hw:c.who=some done.length
   ·simp only[hw,decide_true,if_true,g_]at q' ⊢;exact q'
   ·simp only[hw,decide_false,Bool.false_eq_true,if_false,g_]at q' ⊢;exact q'
  intro p hp
  rw[List.nil_append,pU (w1 done.length)]
  obtain⟨a1,a2,a3⟩:=ql (f:=w1 done.length) h n2 (fun c hc=>by unfold w1;split<;>decide)
  refine GT (.lst aa) h.q0 h.fq.1 a3 a1 a2 (h.fq.2 _) ?_
  simp only[aS,af,c3,v3,lk]
  rw[iq,show cF (cs.map (w1 done.length)) (Fj cs.length X)=ck cs (w1 done.length) X from rfl,hd _ hlt,aA hn1]
  refine qY (fP h.q0 (by decide) (by omega)) ?_
  simp only[Bool.not_true,Bool.false_eq_true,if_false]
  exact hK _ _ ⟨X1.trans (.new hp),_,_,rfl⟩
 ·rintro σ S' ⟨X1,x3,x4,rfl⟩
  refine hN _ _ ?_
  simp only[av,c3]
  exact kk S' X1
def CK{xp:aE}(Ft:jF xp){S:aw}{B f m:Int}{Q:bE}{E:ci}(hf:Fq B f)(hm:Fq B m)(k:Q (cq B (f+m)) S):xp [cq B f,cq B m] S Q E:=by
 have sz:=hm.sz
 have q0:=hm.q0
 exact qZ Ft hf sz.2.2 (Nat.le_trans sz.1 (Nat.le_of_lt hm.n1)) (Nat.lt_of_le_of_lt sz.2.1 hm.q1) (M3.a8 (by omega)) k
abbrev kP(w:aE):Prop:=∀{S:aw} {cs:List Cl} {mix:Vu} {k:Nat} {q:Int} {Y:Vu} {pr:Nat->Int} {Q:bE} {E:ci},bB cs mix k->Qy q Y k->(∀c∈cs,c.who=none->q * Cn cs c+cF c.eff Y<=0)->(∀c∈cs,∀d,c.who=some d->q * Cn cs c+cF c.eff Y<=pr d)->(∀d,d < mix.length->(pr d).natAbs<=Kq * 2 ^ 43)->Q (.bl true) S->
 w [.tup (cs.map Cl.pv),.tup ((List.range mix.length).map fun d=>cq (q * (cbO cs:Int)) (pr d)),.tup (Y.map (cq (q * (cbO cs:Int))))] S Q E
def AH:(2:Nat) ^ 43<=2 ^ 100:=Nat.pow_le_pow_right (by decide) (by decide)
def Hb{x0 x1:aE}(Ft:jF x0)(GT:e9 x1):kP (bc 7 (cG x0 x1)):=by
 intro S cs mix k q Y pr Q E P h hno hso Li kk
 unfold cG
 refine fe ?_
 rw[show au 7 [.tup (cs.map Cl.pv),.tup ((List.range mix.length).map fun d=>cq (q * (cbO cs:Int)) (pr d)),.tup (Y.map (cq (q * (cbO cs:Int))))]=[some (.tup (cs.map Cl.pv)),some (.tup ((List.range mix.length).map fun d=>cq (q * (cbO cs:Int)) (pr d))),some (.tup (Y.map (cq (q * (cbO cs:Int))))),none,none,none,none] from rfl]
 obtain⟨B0,B1⟩:=xA P h
 refine ay fun N hN=>?_
 simp only[bQ,aL,v3,lk,b6]
 refine bp (fun done σ S'=>S'=S/\∃x3 x4 x5 x6,σ=[some (.tup (cs.map Cl.pv)),some (.tup ((List.range mix.length).map fun d=>cq (q * (cbO cs:Int)) (pr d))),some (.tup (Y.map (cq (q * (cbO cs:Int))))),x3,x4,x5,x6]) ⟨rfl,_,_,_,_,rfl⟩ (fun _ _ _ _=>trivial) ?_ ?_
 ·rintro done x rest σ S' K e ⟨rfl,x3,x4,x5,x6,rfl⟩ hK
  have hget:(cs.map Cl.pv)[done.length]?=some x:=by rw[e];simp
  obtain⟨c,hc1,rfl⟩:∃c,cs[done.length]?=some c/\c.pv=x:=by rw[List.getElem?_map]at hget;exact Option.map_eq_some_iff.mp hget
  have hc:=List.mem_of_getElem? hc1
  obtain⟨b1,b2,b3,b4⟩:=jm P h hc
  simp only[Cl.pv,Tg.put,Tg.FH,List.set_cons_succ,List.set_cons_zero]
  refine ay fun N2 Hi=>?_
  simp only[ap,ac,af,v3,lk]
  refine GT .tup B0 B1 (by rw[P.ef c hc,h.l]) b2 (fun i hi=>Nat.lt_of_le_of_lt (P.eb c hc i hi) (Nat.lt_of_lt_of_le (show 2 ^ 30 < 2 ^ 2000 from Nat.pow_lt_pow_right (by decide) (by decide)) (Nat.le_refl _))) (fun n hn=>aW (c:=1) (by rw[Nat.mul_one];exact h.y n hn) (by decide)) ?_
  rw[show PV.tup [.int c.x,.int (c.y:Int)]=dX c from rfl,qU P hc h.q0]
  refine CK Ft ⟨B0,B1,b1⟩ ⟨B0,B1,b3⟩ ?_
  simp only[List.set_cons_succ,List.set_cons_zero]
  refine Hi _ _ (ay fun N2 Hi=>?_)
  -- what comes behind
  have last:∀(n:Int),n<=0->N2 [some (.tup (cs.map Cl.pv)),some (.tup ((List.range mix.length).map fun d=>cq (q * (cbO cs:Int)) (pr d))),some (.tup (Y.map (cq (q * (cbO cs:Int))))),some (mK c.who),some (cq (q * (cbO cs:Int)) (q * Cn cs c)),some (.tup (c.eff.map PV.int)),some (cq (q * (cbO cs:Int)) n)] S':=fun n hn=>by
   refine Hi _ _ ?_
   have e0:cq (q * (cbO cs:Int)) n = .tup [.int (M3.aF n (q * (cbO cs:Int))),.int (M3.aG n (q * (cbO cs:Int)))]:=rfl
   simp only[cK,bg,ai,v3,lk,c3,ak,e0,gC,kW,bN]
   rw[decide_eq_false (fun hlt=>by have:=(gK (n:=n) B0).2.1.mp hlt;omega)]
   simp only[Bool.false_eq_true,if_false]
   exact hK _ _ ⟨rfl,_,_,_,_,rfl⟩
  cases hw:c.who with
  |none=>
   simp only[cK,bg,ai,v3,lk,c3,mK,kU,bne_self_eq_false,Bool.false_eq_true,if_false]
   have:=last _ (hno c hc hw)
   rw[hw]at this
   exact this
  |some d=>
   have hd:=P.wd c hc d hw
   have ep:FZ ((List.range mix.length).map fun d=>cq (q * (cbO cs:Int)) (pr d)) (d:Int)=some (cq (q * (cbO cs:Int)) (pr d)):=bI (by rw[List.getElem?_map,List.getElem?_range hd];rfl)
   have e0:cq (q * (cbO cs:Int)) (pr d) = .tup [.int (M3.aF (pr d) (q * (cbO cs:Int))),.int (M3.aG (pr d) (q * (cbO cs:Int)))]:=rfl
   have pf:Fq (q * (cbO cs:Int)) (pr d):=⟨B0,B1,aW (Li d hd) AH⟩
   have sz:=pf.sz
   simp only[cK,bg,ai,v3,lk,c3,mK,kU,Bool.bne_false,if_true,ap,ac,af,aS,ak,ep,e0,gC,mH,bW,bN]
   refine qZ Ft (m:=- pr d) ⟨B0,B1,b4⟩ sz.2.2 (by
    have:(0 - M3.aF (pr d) (q * (cbO cs:Int))).natAbs=(M3.aF (pr d) (q * (cbO cs:Int))).natAbs:=by omega
    rw[this];exact Nat.le_trans sz.1 (Nat.le_of_lt pf.n1)) (Nat.lt_of_le_of_lt sz.2.1 B1) (by
    have w:=M3.a8 (t:=pr d) (b:=q * (cbO cs:Int)) (by omega)
    rw[Int.sub_mul,w];grind) ?_
   simp only[List.set_cons_succ,List.set_cons_zero]
   have:=last (q * Cn cs c+cF c.eff Y + - pr d) (by have:=hso c hc d hw;omega)
   rw[hw]at this
   exact this
 ·rintro σ S' ⟨rfl,x3,x4,x5,x6,rfl⟩
  refine hN _ _ ?_
  simp only[av,c3]
  exact kk
abbrev kQ(w:aE):Prop:=∀{S:aw} {cs:List Cl} {mix:Vu} {k:Nat} {q:Int} {y:Nat->Int} {v:PV} {Q:bE} {E:ci},bB cs mix k->xE cs k v q y->(∀S',Ext S S'->Q (.bl true) S')->w [.tup (cs.map Cl.pv),.tup ((Fj cs.length y).map (cq q))] S Q E
def sP{x0 x1 x2:aE}(Gq:iT x0)(G3:iZ x1)(FA:fM x2):kQ (bc 2 (b8 x0 x1 x2)):=by
 intro S cs mix k q y v Q E P h kk
 unfold b8
 refine fe ?_
 rw[show au 2 [.tup (cs.map Cl.pv),.tup ((Fj cs.length y).map (cq q))]=[some (.tup (cs.map Cl.pv)),some (.tup ((Fj cs.length y).map (cq q)))] from rfl]
 have n2:=P.n2
 have sh:He q y:=⟨h.q0,h.q1,h.y1⟩
 have ln:((Fj cs.length y).map (cq q)).length=cs.length:=by simp
 have fr:∀v∈(Fj cs.length y).map (cq q),∃B n,v=cq B n/\Fq B n/\0<=n:=fun v hv=>by
  obtain⟨n,hn,rfl⟩:=List.mem_map.mp hv
  obtain⟨i,_,rfl⟩:=List.mem_map.mp hn
  exact⟨q,y i,rfl,⟨h.q0,sh.fq.1,sh.fq.2 _ _ hn⟩,h.y0 i⟩
 refine ay fun N hN=>?_
 simp only[cK,jL,df,bg,ac,ah,af,v3,lk,aX,List.length_map]
 have e1:=@Gq S ((Fj cs.length y).map (cq q))
 rw[ln]at e1
 refine e1 (by omega) fr fun S1 X1=>?_
 simp only[Bool.not_true,Bool.false_eq_true,if_false]
 refine G3 P sh h.Jp fun S2 X2=>?_
 simp only[Bool.not_true,Bool.false_eq_true,if_false]
 refine hN _ _ (ay fun N hN=>?_)
 simp only[cK,bg,ah,af,ar,k5,v3,lk]
 have ez:aP (cs.map Cl.pv) ((Fj cs.length y).map (cq q))=cs.zipIdx.map fun p=>PV.tup [p.1.pv,cq q (y p.2)]:=by
  unfold aP
  refine List.ext_getElem? fun i=>?_
  rw[List.getElem?_map,List.getElem?_map,List.getElem?_zipIdx]
  by_cases hi:i < cs.length
  ·have hc:=List.getElem?_eq_getElem hi
   have z1:(cs.map Cl.pv)[i]?=some cs[i].pv:=by rw[List.getElem?_map,hc];rfl
   have z2:((Fj cs.length y).map (cq q))[i]?=some (cq q (y i)):=by
    unfold Fj
    rw[List.getElem?_map,List.getElem?_map,List.getElem?_range hi];rfl
   have z3:(List.zip (cs.map Cl.pv) ((Fj cs.length y).map (cq q)))[i]?=some (cs[i].pv,cq q (y i)):=List.getElem?_zip_eq_some.mpr ⟨z1,z2⟩
   rw[z3,hc]
   simp
  ·rw[List.getElem?_eq_none (by simp;omega),List.getElem?_eq_none (l:=cs) (by omega)];rfl
 rw[ez]
 refine aO (fun p:Cl×Nat=>PV.tup [p.1.pv,cq q (y p.2)]) (fun _=>.bl false) trivial cs.zipIdx [] (fun p hp=>⟨_,rfl,fun Q' q'=>?_⟩) (aY (by simp;omega)) ?_
 ·obtain⟨c,i⟩:=p
  rw[List.mem_zipIdx_iff_getElem?]at hp
  simp only[bJ,List.reduceReplicate,List.map_nil,List.append_nil,List.set_cons_zero,List.set_cons_succ,dv,ai,v3,lk,c3,ak,Cl.pv,gC]
  cases hw:c.who with
  |none=>
   simp only[mK,kU,bne_self_eq_false,Bool.false_eq_true,if_false]
   exact q'
  |some d=>
   have yz:=h.GQ i c hp (by rw[hw];simp)
   have e0:cq q (y i) = .tup [.int (M3.aF (y i) q),.int (M3.aG (y i) q)]:=rfl
   simp only[mK,kU,Bool.bne_false,if_true,ai,v3,lk,c3,ak,e0,gC,kW,bN]
   rw[decide_eq_false (fun hlt=>by have:=(gK (n:=y i) h.q0).2.1.mp hlt;omega)]
   exact q'
 intro p hp
 have ba:∀n:Nat,gc (List.replicate n (PV.bl false))=some (List.replicate n false):=fun n=>by
  induction n with
  |zero=>rfl
  |succ n ih=>rw[List.replicate_succ];unfold gc;rw[ih];rfl
 rw[List.nil_append,show(cs.zipIdx.map fun _=>PV.bl false)=List.replicate cs.length (.bl false) by rw[List.map_const'];simp]
 simp only[wN,aa,ba]
 rw[show(List.replicate cs.length false).any id=false by simp]
 simp only[Bool.false_eq_true,if_false]
 refine hN _ _ ?_
 simp only[av,ai,ac,af,v3,lk]
 refine FA P sh ?_
 have e0:cq (q * (cbO cs:Int)) (ck cs (Cn cs) y) = .tup [.int (M3.aF (ck cs (Cn cs) y) (q * (cbO cs:Int))),.int (M3.aG (ck cs (Cn cs) y) (q * (cbO cs:Int)))]:=rfl
 simp only[c3,ak,e0,gC,kW,bN]
 rw[decide_eq_true ((gK (n:=ck cs (Cn cs) y) (Int.mul_pos h.q0 (by have:=(hJ P).1;omega))).2.1.mpr h.cost)]
 exact kk _ (X1.trans (X2.trans (.new hp)))
def vq{n:Nat}{q:Int}{X:Nat->Int}:(List.range n).map (fun x=>cq q (X x))=(Fj n X).map (cq q):=by unfold Fj;rw[List.map_map];rfl
abbrev kR(w:aE):Prop:=∀{S:aw} {cs:List Cl} {mix:Vu} {k:Nat} {q g:Int} {X:Nat->Int} {Y:Vu} {pr:Nat->Int} {v:PV} {Q:bE} {E:ci},bB cs mix k->u_ cs mix k v q g X Y pr->(∀S',Ext S S'->Q (.bl true) S')->w [.tup (cs.map Cl.pv),.tup (mix.map PV.int),.tup [cq (q * (cbO cs:Int)) g,.tup ((Fj cs.length X).map (cq q)),.tup ((List.range mix.length).map fun d=>cq (q * (cbO cs:Int)) (pr d)),.tup (Y.map (cq (q * (cbO cs:Int))))]] S Q E
def sQ{x0 x1 x2 x3 x4 x5 x6:aE}(Gq:iT x0)(Hs:j0 x1)(Hv:l8 x2)(G3:iZ x3)(FA:fM x4)(GT:e9 x5)(Hb:kP x6):kR (bc 8 (cX x0 x1 x2 x3 x4 x5 x6)):=by
 intro S cs mix k q g X Y pr v Q E P h kk
 unfold cX
 refine fe ?_
 have n1:=P.n1;have n2:=P.n2;have k1:=P.k1;have d1:=P.d1
 have sh:He q X:=⟨h.qy.q0,h.qy.q1,fun x=>Nat.le_trans (h.x1 x) (Nat.mul_le_mul (Nat.le_refl _) (by decide))⟩
 obtain⟨B0,B1⟩:=xA P h.qy
 obtain⟨c0,r0,JN⟩:=List.exists_cons_of_ne_nil (show cs≠[] from fun e=>by rw[e]at n1;simp at n1)
 have e0:FZ (cs.map Cl.pv) 0=some c0.pv:=by rw[JN,List.map_cons];exact gC
 have l0:c0.eff.length=k:=P.ef c0 (by rw[JN];simp)
 have f1:=@Gq S ((Fj cs.length X).map (cq q))
 rw[show((Fj cs.length X).map (cq q)).length=cs.length by simp]at f1
 have f2:=fun S=>@Gq S ((List.range mix.length).map fun d=>cq (q * (cbO cs:Int)) (pr d))
 rw[show((List.range mix.length).map fun d=>cq (q * (cbO cs:Int)) (pr d)).length=mix.length by simp]at f2
 have f3:=fun S=>@Gq S (Y.map (cq (q * (cbO cs:Int))))
 rw[show(Y.map (cq (q * (cbO cs:Int)))).length=k by simp[h.qy.l]]at f3
 rw[show au 8 [.tup (cs.map Cl.pv),.tup (mix.map PV.int),.tup [cq (q * (cbO cs:Int)) g,.tup ((Fj cs.length X).map (cq q)),.tup ((List.range mix.length).map fun d=>cq (q * (cbO cs:Int)) (pr d)),.tup (Y.map (cq (q * (cbO cs:Int))))]]=[some (.tup (cs.map Cl.pv)),some (.tup (mix.map PV.int)),some (.tup [cq (q * (cbO cs:Int)) g,.tup ((Fj cs.length X).map (cq q)),.tup ((List.range mix.length).map fun d=>cq (q * (cbO cs:Int)) (pr d)),.tup (Y.map (cq (q * (cbO cs:Int))))]),none,none,none,none,none] from rfl]
 refine ay fun N hN=>?_
 simp only[jO,v3,lk,Tg.put,Tg.FH,List.set_cons_succ,List.set_cons_zero]
 refine hN _ _ (ay fun N hN=>?_)
 simp only[ap,ah,af,ai,v3,lk,c3,ak,e0,Cl.pv,yg,aX,List.length_map,l0,List.set_cons_succ,List.set_cons_zero]
 refine hN _ _ (ay fun N hN=>?_)
 simp only[cK,jL,df,bg,ac,ah,af,v3,lk,aX,List.length_map]
 refine f1 (by omega) (fun v hv=>by
  obtain⟨n,hn,rfl⟩:=List.mem_map.mp hv
  obtain⟨i,_,rfl⟩:=List.mem_map.mp hn
  exact⟨q,X i,rfl,⟨h.qy.q0,sh.fq.1,sh.fq.2 _ _ hn⟩,h.x0 i⟩) fun S1 X1=>?_
 simp only[Bool.not_true,Bool.false_eq_true,if_false]
 refine f2 S1 (by omega) (fun v hv=>by
  obtain⟨d,hd,rfl⟩:=List.mem_map.mp hv
  have hd':=List.mem_range.mp hd
  exact⟨_,pr d,rfl,⟨B0,B1,aW (h.Jq d hd') AH⟩,h.NY d hd'⟩) fun S2 X2=>?_
 simp only[Bool.not_true,Bool.false_eq_true,if_false]
 refine hN _ _ (ay fun N hN=>?_)
 simp only[cK,jL,df,bg,ac,ah,af,v3,lk]
 refine f3 S2 (by omega) (fun v hv=>by
  obtain⟨n,hn,rfl⟩:=List.mem_map.mp hv
  exact⟨_,n,rfl,⟨B0,B1,aW (c:=1) (by rw[Nat.mul_one];exact h.qy.y n hn) (by decide)⟩,h.y0 n hn⟩) fun S3 X3=>?_
 simp only[Bool.not_true,Bool.false_eq_true,if_false]
 refine Hs ⟨B0,B1,aW (c:=1) (by rw[Nat.mul_one];exact h.g1) (by decide)⟩ fun S4 X4=>?_
 simp only[Bool.not_true,Bool.false_eq_true,if_false]
 refine hN _ _ (ay fun N hN=>?_)
 simp only[cK,jL,df,bg,ac,ah,af,v3,lk]
 refine Hv P sh h.GQ fun S5 X5=>?_
 simp only[Bool.not_true,Bool.false_eq_true,if_false]
 refine G3 P sh h.Jp fun S6 X6=>?_
 simp only[Bool.not_true,Bool.false_eq_true,if_false]
 refine hN _ _ (ay fun N hN=>?_)
 simp only[cK,jL,bg,ai,ac,af,v3,lk]
 refine FA P sh ?_
 refine qY (by rw[h.cost]) ?_
 simp only[Bool.not_true,Bool.false_eq_true,if_false]
 have ep:(List.range mix.length).map (fun d=>cq (q * (cbO cs:Int)) (pr d))=((List.range mix.length).map pr).map (cq (q * (cbO cs:Int))):=by rw[List.map_map];rfl
 have mb:∀i∈mix,i.natAbs<=2 ^ 30:=fun i hi=>by have:=P.m0 i hi;omega
 have pb:∀n∈(List.range mix.length).map pr,n.natAbs<=Kq * 2 ^ 43:=fun n hn=>by
  obtain⟨d,hd,rfl⟩:=List.mem_map.mp hn
  exact h.Jq d (List.mem_range.mp hd)
 have ab:eM (aZ mix ((List.range mix.length).map pr)) < dF:=by
  have b:=Nat.le_trans (jZ mb pb) (Nat.mul_le_mul d1 (Nat.le_refl _))
  refine Nat.lt_of_le_of_lt b (Nat.lt_of_le_of_lt ?_ mU)
  generalize Kq=z
  omega
 have fin:∀S',Ext S S'->N [some (.tup (cs.map Cl.pv)),some (.tup (mix.map PV.int)),some (.tup [cq (q * (cbO cs:Int)) g,.tup ((Fj cs.length X).map (cq q)),.tup ((List.range mix.length).map fun d=>cq (q * (cbO cs:Int)) (pr d)),.tup (Y.map (cq (q * (cbO cs:Int))))]),some (cq (q * (cbO cs:Int)) g),some (.tup ((Fj cs.length X).map (cq q))),some (.tup ((List.range mix.length).map fun d=>cq (q * (cbO cs:Int)) (pr d))),some (.tup (Y.map (cq (q * (cbO cs:Int))))),some (.int (k:Int))] S':=fun S' XS=>by
  refine hN _ _ ?_
  simp only[av,ac,af,v3,lk]
  exact Hb P h.qy h.non h.Ke h.Jq (kk _ XS)
 have sm:=@GT S6 (.tup (mix.map PV.int)) (q * (cbO cs:Int)) mix ((List.range mix.length).map pr)
 rw[<-ep]at sm
 refine sm .tup B0 B1 (by simp) ab (fun i hi=>Nat.lt_of_le_of_lt (mb i hi) (Nat.lt_of_lt_of_le (show 2 ^ 30 < 2 ^ 2000 from Nat.pow_lt_pow_right (by decide) (by decide)) (Nat.le_refl _))) (fun n hn=>aW (pb n hn) AH) ?_
 refine qY (by rw[h.sum]) ?_
 simp only[Bool.not_true,Bool.false_eq_true,if_false]
 exact fin _ (X1.trans (X2.trans (X3.trans (X4.trans (X5.trans X6)))))
abbrev ju(w:aE):Prop:=∀{S:aw} {cs:List Cl} {mix:Vu} {k:Nat} {v:PV} {Q:bE} {E:ci},bB cs mix k->Out cs mix k v->(∀S',Ext S S'->Q (.bl true) S')->w [.tup (cs.map Cl.pv),.tup (mix.map PV.int),v] S Q E
def Hw{x0 x1:aE}(K0:kQ x0)(K1:kR x1):ju (bc 3 (fJ x0 x1)):=by
 intro S cs mix k v Q E P h kk
 unfold fJ
 refine fe ?_
 rcases h.right P with⟨q,g,X,Y,pr,m⟩|⟨q,y,m⟩
 ·obtain rfl:=m.v
  rw[vq]
  have mr:=@K1 S cs mix k q g X Y pr _ Q gf P m kk
  revert mr
  generalize cq (q * (cbO cs:Int)) g=a1
  generalize PV.tup ((Fj cs.length X).map (cq q))=a2
  generalize PV.tup ((List.range mix.length).map fun d=>cq (q * (cbO cs:Int)) (pr d))=a3
  generalize PV.tup (Y.map (cq (q * (cbO cs:Int))))=a4
  intro mr
  rw[show au 3 [.tup (cs.map Cl.pv),.tup (mix.map PV.int),.tup [.str "most",a1,a2,a3,a4]]=[some (.tup (cs.map Cl.pv)),some (.tup (mix.map PV.int)),some (.tup [.str "most",a1,a2,a3,a4])] from rfl]
  refine ay fun N hN=>?_
  simp only[cK,jL,df,bg,ah,ai,af,v3,lk,c3,mI,Bool.not_true,Bool.false_eq_true,if_false,aX,dU,List.length_cons,List.length_nil]
  simp
  refine hN _ _ (ay fun N hN=>?_)
  simp only[cK,jK,bg,ah,ai,af,v3,lk,c3,ak,gC,aX,dU,List.length_cons,List.length_nil]
  simp
  refine hN _ _ ?_
  simp only[av,dv,ah,ai,af,v3,lk,c3,ak,gC,aX,dU,List.length_cons,List.length_nil]
  simp
  simp only[ac,af,v3,lk,cP,oJ,uc,c3,km]
  rw[show eK [PV.str "most",a1,a2,a3,a4] (some 1) none=[a1,a2,a3,a4] from rfl]
  exact mr
 ·obtain rfl:=m.v
  rw[vq]
  have er:=@K0 S cs mix k q y _ Q gf P m kk
  revert er
  generalize PV.tup ((Fj cs.length y).map (cq q))=a2
  intro er
  rw[show au 3 [.tup (cs.map Cl.pv),.tup (mix.map PV.int),.tup [.str "endless",a2]]=[some (.tup (cs.map Cl.pv)),some (.tup (mix.map PV.int)),some (.tup [.str "endless",a2])] from rfl]
  refine ay fun N hN=>?_
  simp only[cK,jL,df,bg,ah,ai,af,v3,lk,c3,mI,Bool.not_true,Bool.false_eq_true,if_false,aX,dU,List.length_cons,List.length_nil]
  simp
  refine hN _ _ (ay fun N hN=>?_)
  simp only[cK,jK,bg,ah,ai,af,v3,lk,c3,ak,gC,aX,dU,List.length_cons,List.length_nil]
  simp
  simp only[av,ac,af,v3,lk,ai,c3,ak,mH]
  exact er
def vt:∀n,n < 10->1<=n->n ∣ 2520:=by decide
def AI{x y:Int}(h:BY x y):∃n:Int,PV.tup [.int x,.int y]=cq 2520 n/\0<=n/\n<=2 ^ 22:=by
 have y0:=h.low.pos;have y1:=h.y1;have x0:=h.x0;have x1:=h.x1
 obtain⟨z,hz⟩:=vt y.natAbs (by omega) (by omega)
 have e:2520=y * (z:Int):=by
  have:((y.natAbs:Nat):Int)=y:=by omega
  rw[<-this,<-Int.natCast_mul,<-hz];rfl
 have z0:0<=(z:Int):=Int.natCast_nonneg _
 have z1:(z:Int)<=2520:=by
  have:=Int.mul_le_mul_of_nonneg_right (show 1<=y by omega) z0
  omega
 refine⟨x * (z:Int),?_,Int.mul_nonneg x0 z0,?_⟩
 ·rw[mJ h.low]
  exact fP y0 (by decide) (by rw[e];grind)
 ·have:=Int.mul_le_mul x1 z1 z0 (by decide)
  omega
abbrev oE(w:aE):Prop:=∀{S:aw} {d l:Addr} {Q:bE} {E:ci},Deal S d l->(∀n S',0<=n->n<=2 ^ 22->Deal S' d l->Oth d l S S'->Q (cq 2520 n) S')->w [.ref d] S Q E
def vv{w:aE}(h:nZ w):oE w:=fun D k=>h D fun x y S' c D' O'=>by
 obtain⟨n,e,n0,n1⟩:=AI c
 rw[e];exact k n S' n0 n1 D' O'
def Ew:PV.tup [.int 0,.int 1]=cq 2520 0:=by rw[iq];exact fP (by decide) (by decide) (by decide)
def jv{d l p:Addr}{S S':aw}{o:SO}(h:Oth d l S S')(fp:S p=none):Oth d l S (Fc S' p o):=fun a x e h1 h2=>by rw[aq (fun q=>by rw[q,fp]at e;cases e)];exact h a x e h1 h2
noncomputable def nV(j:Nat):PV:=.int (j:Int)
def E9{r n:Nat}(h:r < n):seqIndex? (r:Int) n=some r:=by
 unfold seqIndex?
 simp
 omega
theorem kS{α β:Type}(f:α->β):∀(xs:List α) (i:Nat),(xs.map f).eraseIdx i=(xs.eraseIdx i).map f
 |[],_=>rfl
 |_::_,0=>rfl
 |a::r,i+1=>by simp[List.eraseIdx,kS f r i]
theorem kT{α:Type}:∀(rs:List α) (i:Nat) (hi:i < rs.length),(rs[i]::rs.eraseIdx i).Perm rs
 |_::_,0,_=>.refl _
 |a::r,i+1,hi=>(List.Perm.swap a _ _).trans ((kT r i (Nat.lt_of_succ_lt_succ hi)).cons a)
def vx{α:Type}{os rs L:List α}(h:(os++rs).Perm L){i:Nat}(hi:i < rs.length):((os++[rs[i]])++rs.eraseIdx i).Perm L:=by
 refine List.Perm.trans ?_ h
 rw[List.append_assoc]
 exact(kT rs i hi).append_left os
def xK(i:Nat)(te:aQ)(F:kf)(σ:cZ)(S:aw):ap i te F σ S=te σ S (fun v S1=>F.nx (σ.set i (some v)) S1) F.ex:=rfl
def oF(te:aQ)(F:kf)(σ:cZ)(S:aw):c_ te F σ S=te σ S (fun _ S1=>F.nx σ S1) F.ex:=rfl
abbrev C9(w:aE):Prop:=∀{S:aw} {pd:Addr} {kvs:List (b9×PV)} {k:Nat} {f:Nat->Int} {Q:bE} {E:ci},S pd=some (.dct kvs)->k<=8->(∀j:Nat,j < k->(d9 kvs (.inl (j:Int))).getD (.int 0) = .int (f j))->(∀S',Ext S S'->Q (.tup (((List.range k).map f).map PV.int)) S')->w [.int (k:Int),.ref pd] S Q E
def G4:C9 (bc 2 jt):=by
 intro S pd kvs k f Q E hd hk hf kk
 unfold jt
 refine fe ?_
 rw[show au 2 [PV.int (k:Int),.ref pd]=[some (.int (k:Int)),some (.ref pd)] from rfl]
 simp only[av,ah,af,ar,bH,v3,lk]
 refine⟨by omega,by omega,?_⟩
 rw[Int.toNat_natCast,show bP 0 k=(List.range k).map nV from List.map_congr_left fun i _=>by unfold nV;rw[Int.zero_add]]
 refine aO nV (fun j=>.int (f j)) trivial (List.range k) [] (fun i hi=>⟨_,rfl,fun Q' q=>?_⟩) (aY (by simp;omega)) ?_
 ·simp only[bJ,List.reduceReplicate,List.map_cons,List.map_nil,List.cons_append,List.nil_append,List.set_cons_zero,uv,v3,lk,c3,nV,hd,kl]
  rw[hf i (List.mem_range.mp hi)]
  exact q
 intro p hp
 simp only[List.nil_append,aR,iJ,aa]
 have:=kk _ (.new (o:=.lst ((List.range k).map fun j=>PV.int (f j))) hp)
 rw[List.map_map]at this
 exact this
section
variable {σ:cZ} {S:aw} {d l:Addr} {k x y z:Nat} {e1 e2:Int} {Q:bE} {E:ci} {xa xd:aE}
def m8{i j:Nat}(h:i≠j):(Sum.inl (i:Int):b9) ≠ .inl (j:Int):=fun e=>h (by have:=Sum.inl.inj e;omega)
def yB(G4:C9 xa){t1 t2:aQ}(D:Deal S d l)(hk:k<=8)(X:AY k x y z)(h1:lk σ 1=some (.int (k:Int)))(h7:lk σ 7=some (.int (x:Int)))(h8:lk σ 8=some (.int (y:Int)))(ht1:∀S Q,Q (.int e1) S->t1 σ S Q E)(MK:∀S Q,Q (.int e2) S->t2 σ S Q E)
  (kk:∀S',Ext S S'->Q (.tup ((Ge k x y z e1 e2 0).map PV.int)) S'):(ac xa [(v3 1),(fO [((v3 7),t1),((v3 8),t2)])]) σ S Q E:=by
 simp only[ac,af,v3,h1,fO]
 intro p hp
 simp only[gh,v3,h7,h8]
 refine ht1 _ _ (MK _ _ ⟨aa,?_⟩)
 simp only[ku,kl]
 have ne:=m8 X.xy
 have em:gi [] [(Sum.inl (x:Int),PV.int e1),(.inl (y:Int),.int e2)]=[(.inl (x:Int),.int e1),(.inl (y:Int),.int e2)]:=by
  simp only[gi,List.foldl,kq]
  simp[ne]
 rw[em]
 refine G4 (f:=fun j=>if j=x then e1 else if j=y then e2 else if j=z then 0 else 0) aa hk (fun j hj=>?_) fun S' X'=>?_
 ·unfold d9 d9 d9
  by_cases a:j=x
  ·subst a;simp
  ·by_cases b:j=y
   ·subst b;simp[ne];omega
   ·have a':¬((x:Int)=(j:Int)):=by omega
    have b':¬((y:Int)=(j:Int)):=by omega
    simp[a,b,a',b']
 ·refine kk S' (fun a o h=>X' a o ?_)
  have n:a≠p:=fun e=>by rw[e,hp]at h;cases h
  rw[aq n,aq n];exact h
def CL(G4:C9 xa)(Fe:cr xd){t:Int}(D:Deal S d l)(hk:k<=8)(X:AY k x y z)(h0:lk σ 0=some (.ref d))(h1:lk σ 1=some (.int (k:Int)))(h7:lk σ 7=some (.int (x:Int)))(h8:lk σ 8=some (.int (y:Int)))(h9:lk σ 9=some (.int (z:Int)))(N7:lk σ 13=some (.int t))
  (kk:∀e1 e2 S',0<=e1->e1<=9->0<=e2->e2<=9->Deal S' d l->Oth d l S S'->Q (.tup ((Ge k x y z e1 e2 t).map PV.int)) S'):(ac xa [(v3 1),(fO [((v3 7),(ac xd [(v3 0),(c3 (.int 9))])),((v3 8),(ac xd [(v3 0),(c3 (.int 9))])),((v3 9),(v3 13))])]) σ S Q E:=by
 simp only[ac,af,v3,h1,fO]
 intro p hp
 have np:=D.free hp
 simp only[gh,v3,c3,ac,af,h0,h7,h8,h9,N7]
 refine Fe (D.new hp) (by decide) (by decide) fun e1 S1 a0 a1 D1 O1=>Fe D1 (by decide) (by decide) fun e2 S2 b0 b1 D2 O2=>?_
 have f2:=O2 _ _ (O1 _ _ (aa (S:=S) (a:=p) (o:=.dct [])) np.1 np.2) np.1 np.2
 have N8:Oth d l S S2:=(Oth.new (o:=.dct []) hp).trans (O1.trans O2)
 refine⟨f2,?_⟩
 simp only[ku,kl]
 have n1:=m8 X.xy
 have n2:=m8 X.xz
 have n3:=m8 X.yz
 have em:gi [] [(Sum.inl (x:Int),PV.int e1),(.inl (y:Int),.int e2),(.inl (z:Int),.int t)]=[(.inl (x:Int),.int e1),(.inl (y:Int),.int e2),(.inl (z:Int),.int t)]:=by
  simp only[gi,List.foldl,kq]
  simp[n1,n2,n3]
 rw[em]
 refine G4 (f:=fun j=>if j=x then e1 else if j=y then e2 else if j=z then t else 0) aa hk (fun j hj=>?_) fun S' X'=>?_
 ·unfold d9 d9 d9 d9
  have q1:=X.xy;have q2:=X.xz;have q3:=X.yz
  by_cases a:j=x
  ·subst a;simp
  ·have a':¬((x:Int)=(j:Int)):=by omega
   by_cases b:j=y
   ·subst b;simp[a,a']
   ·have b':¬((y:Int)=(j:Int)):=by omega
    by_cases c:j=z
    ·subst c;simp[a,b,a',b']
    ·have c':¬((z:Int)=(j:Int)):=by omega
     simp[a,b,c,a',b',c']
 ·exact kk e1 e2 S' a0 (by omega) b0 (by omega) ((D2.upd np.1 np.2).ext X') ((jv N8 hp).trans X'.HP)
end
abbrev yC(w:aE):Prop:=∀{S:aw} {d l:Addr} {Q:bE} {E:ci},Deal S d l->(∀(a b c e:Int) S',1<=a->a<=200->1<=b->b<=200->1<=c->c<=200->1<=e->e<=200->Deal S' d l->Oth d l S S'->Q (.tup [.int a,.int b,.int c,.int e]) S')->w [.ref d] S Q E
def xL{es:Vu}(h:es.length=4):∃a b c e,es=[a,b,c,e]:=by
 match es,h with
 |[a,b,c,e],_=>exact⟨a,b,c,e,rfl⟩
def Ii{x0:aE}(Fe:cr x0):yC (bc 8 (gR x0)):=by
 intro S d l Q E DL kk
 unfold gR
 refine fe ?_
 rw[show au 8 [PV.ref d]=[some (.ref d),none,none,none,none,none,none,none] from rfl]
 refine ay fun N hN=>?_
 simp only[ap,ai,cO,ac,af,v3,lk,c3]
 intro pw Ms
 have nw:=DL.free Ms
 refine Fe (DL.new Ms) (by decide) (by decide) fun g S3 g0 g1 D3 O3=>?_
 have e3:=O3 _ _ (aa (S:=S) (o:=.lst [.int 3,.int 12,.int 200])) nw.1 nw.2
 have N9:Oth d l S S3:=(Oth.new Ms).trans O3
 simp only[ak,e3]
 obtain⟨v,hv,M5⟩:=wW (xs:=[PV.int 3,.int 12,.int 200]) g0 (by simpa using g1)
 rw[hv]
 obtain⟨wi,rfl,wi0,wi1⟩:∃g:Int,v = .int g/\1<=g/\g<=200:=by
  simp only[List.mem_cons,List.not_mem_nil,or_false]at M5
  rcases M5 with rfl|rfl|rfl
  ·exact⟨3,rfl,by omega,by omega⟩
  ·exact⟨12,rfl,by omega,by omega⟩
  ·exact⟨200,rfl,by omega,by omega⟩
 simp only[List.set_cons_succ,List.set_cons_zero]
 refine hN _ _ (ay fun N hN=>?_)
 simp only[oy,ar,bH,c3]
 refine⟨by decide,by decide,?_⟩
 refine cu (fun done ys S'=>∃es:List Int,ys=es.map PV.int/\es.length=done.length/\done.length<=4/\(∀e∈es,1<=e/\e<=200)/\Deal S' d l/\Oth d l S S') ⟨[],rfl,rfl,Nat.zero_le _,(fun z hz=>by cases hz),D3,N9⟩ ?_ ?_ ?_
 ·rintro done ys S' ⟨ws,rfl,e,hd,_⟩
  exact⟨trivial,aY (by rw[List.length_map,e];omega)⟩
 ·rintro done x rest ys S' K e ⟨es,rfl,e2,hd,he,D',O'⟩ hK
  obtain⟨rfl,hi⟩:=cA (n:=4) e
  simp only[Tg.put,bJ,List.reduceReplicate,List.map_cons,List.map_nil,List.cons_append,List.nil_append,List.set_cons_zero,bo,if_true,ai,ac,af,v3,lk,c3,List.getElem?_cons_zero,List.getElem?_cons_succ,Option.join]
  refine Fe D' (by omega) (by omega) fun a S1 a0 a1 D1 O1=>?_
  simp only[bv]
  refine hK _ _ ⟨es++[1+a],by simp,by simp[e2],by rw[List.length_append];exact hi,fun q hq=>?_,D1,O'.trans O1⟩
  rcases List.mem_append.mp hq with hq|hq
  ·exact he q hq
  ·rw[List.mem_singleton.mp hq];omega
 rintro ys S4 ⟨es,rfl,e2,_,he,D4,O4⟩ pe M6
 have e2:es.length=4:=e2
 obtain⟨a,b,c,e,rfl⟩:=xL e2
 have D5:=D4.new (o:=.lst ([a,b,c,e].map PV.int)) M6
 have O5:Oth d l S (Fc S4 pe (.lst ([a,b,c,e].map PV.int))):=O4.trans (.new M6)
 have f5:(Fc S4 pe (.lst ([a,b,c,e].map PV.int))) pe=some (.lst ([a,b,c,e].map PV.int)):=aa
 generalize Fc S4 pe (.lst ([a,b,c,e].map PV.int))=S5 at D5 O5 f5
 have ha:=he a (by simp);have hb:=he b (by simp);have hc:=he c (by simp);have hee:=he e (by simp)
 simp only[f5,List.map_cons,List.map_nil]
 refine⟨rfl,?_⟩
 simp only[Tg.put,Tg.FH,List.set_cons_succ,List.set_cons_zero]
 refine hN _ _ (ay fun N hN=>?_)
 have fin:∀(a b c e:Int) (o2 o7:Option PV) (S6:aw),1<=a->a<=200->1<=b->b<=200->1<=c->c<=200->1<=e->e<=200->Deal S6 d l->Oth d l S S6->N [some (.ref d),some (.int wi),o2,some (.int a),some (.int b),some (.int c),some (.int e),o7] S6:=by
  intro a b c e o2 o7 S6 h1 h2 h3 h4 h5 h6 h7 h8 D6 O6
  refine hN _ _ ?_
  simp only[av,aS,af,v3,lk]
  exact kk a b c e S6 h1 h2 h3 h4 h5 h6 h7 h8 D6 O6
 simp only[cK,bg,ai,ac,af,v3,lk,c3,bZ]
 refine Fe D5 (by decide) (by decide) fun q S6 q0 q1 D6 O6=>?_
 simp only[dU,Bool.false_bne,decide_eq_true_eq]
 split
 ·refine ay fun N2 Hi=>?_
  simp only[jN,ai,ac,af,v3,lk,c3]
  refine Fe D6 (by decide) (by decide) fun m S7 m0 m1 D7 O7=>?_
  simp only[bv]
  refine Fe D7 (by decide) (by decide) fun n S8 n0 n1 D8 O8=>?_
  have N_:=O5.trans (O6.trans (O7.trans O8))
  simp only[List.set_cons_succ,List.set_cons_zero]
  refine Hi _ _ (ay fun N2 Hi=>?_)
  simp only[oy,ar,aL,aS,af,v3,lk,b6]
  rw[show[PV.int a,.int a,.int c,.int c]=[a,a,c,c].map PV.int from rfl]
  refine aO PV.int (fun e=>.int ((e - 1).fmod 14+1)) trivial [a,a,c,c] [] (fun i hi=>⟨_,rfl,fun Q' q=>?_⟩) (aY (by simp)) ?_
  ·simp only[bJ,List.reduceReplicate,List.map_nil,List.append_nil,List.set_cons_zero,ai,c3,v3,lk,bW,bN,fy,d_,bv]
   exact⟨by decide,q⟩
  intro pk hpk
  simp only[List.nil_append,aa,List.map_cons,List.map_nil]
  refine⟨rfl,?_⟩
  have D9:=D8.new (o:=.lst [.int ((a - 1).fmod 14+1),.int ((a - 1).fmod 14+1),.int ((c - 1).fmod 14+1),.int ((c - 1).fmod 14+1)]) hpk
  have O9:Oth d l S (Fc S8 pk (.lst [.int ((a - 1).fmod 14+1),.int ((a - 1).fmod 14+1),.int ((c - 1).fmod 14+1),.int ((c - 1).fmod 14+1)])):=N_.trans (.new hpk)
  generalize Fc S8 pk (.lst [.int ((a - 1).fmod 14+1),.int ((a - 1).fmod 14+1),.int ((c - 1).fmod 14+1),.int ((c - 1).fmod 14+1)])=S9 at D9 O9
  have fm:∀u:Int,1<=(u - 1).fmod 14+1/\(u - 1).fmod 14+1<=14:=fun u=>by
   rw[Int.fmod_eq_emod_of_nonneg _ (by decide)]
   have:=Int.emod_nonneg (u - 1) (b:=14) (by decide)
   have:=Int.emod_lt_of_pos (u - 1) (b:=14) (by decide)
   omega
  have ra:=fm a
  have rc:=fm c
  generalize (a - 1).fmod 14+1=a' at ra
  generalize (c - 1).fmod 14+1=c' at rc
  simp only[Tg.put,Tg.FH,List.set_cons_succ,List.set_cons_zero]
  refine Hi _ _ ?_
  simp only[jO,aS,ai,af,v3,lk]
  have mb:∀(m u:Int),0<=m->m < 14->1<=u->u<=14->1<=(1+m) * u/\(1+m) * u<=200:=fun m u h1 h2 h3 h4=>by
   have p1:=Int.mul_le_mul (show 1<=1+m by omega) h3 (by decide) (by omega)
   have p2:=Int.mul_le_mul (show 1+m<=14 by omega) h4 (by omega) (by decide)
   omega
  simp only[aU]
  refine⟨nW (by omega) (by omega),nW (by omega) (by omega),nW (by omega) (by omega),nW (by omega) (by omega),?_⟩
  simp only[Tg.put,Tg.FH,List.set_cons_succ,List.set_cons_zero]
  have q1:=mb m a' m0 m1 ra.1 ra.2
  have q2:=mb n a' n0 n1 ra.1 ra.2
  have q3:=mb m c' m0 m1 rc.1 rc.2
  have q4:=mb n c' n0 n1 rc.1 rc.2
  exact fin _ _ _ _ _ _ S9 q1.1 q1.2 q2.1 q2.2 q3.1 q3.2 q4.1 q4.2 D9 O9
 ·exact fin a b c e _ _ S6 ha.1 ha.2 hb.1 hb.2 hc.1 hc.2 hee.1 hee.2 D6 (O5.trans O6)
def vy{te:aQ}{P:Int->Prop}{σ:cZ}{S:aw}{d l:Addr}{i k:Nat}{Q:bE}{E:ci}(Oa:∀(j:Nat) (S:aw) (Q:bE),Deal S d l->(∀e S',P e->Deal S' d l->Oth d l S S'->Q (.int e) S')->te [some (.int (j:Int)),some (.ref d)] S Q gf)(D:Deal S d l)(h0:lk σ 0=some (.ref d))(h1:lk σ i=some (.int (k:Int)))(hk:k<=8)
  (kk:∀(es:Vu) S',es.length=k->(∀e∈es,P e)->Deal S' d l->Oth d l S S'->Q (.tup (es.map PV.int)) S'):(ah aR [ar (bH (v3 i)) (.n 0) bo te 1 [0]]) σ S Q E:=by
 simp only[ah,af,ar,bH,v3,h1,aR,iJ,aa]
 refine⟨by omega,by omega,?_⟩
 rw[Int.toNat_natCast,show bJ 1 [0] σ=[none,some (.ref d)] by unfold bJ;rw[<-h0];rfl]
 refine cu (fun done ys S'=>∃es:List Int,ys=es.map PV.int/\es.length=done.length/\done.length<=k/\(∀e∈es,P e)/\Deal S' d l/\Oth d l S S') ⟨[],rfl,rfl,Nat.zero_le _,(fun e he=>by cases he),D,.refl⟩ ?_ ?_ ?_
 ·rintro done ys S' ⟨es,rfl,e,hd,_⟩
  exact⟨trivial,aY (by rw[List.length_map,e];omega)⟩
 ·rintro done x rest ys S' K e ⟨es,rfl,e2,hd,he,D',O'⟩ hK
  obtain⟨rfl,hi⟩:=cA e
  simp only[Tg.put,List.set_cons_zero,bo,if_true]
  refine Oa done.length S' _ D' fun a S1 pa D1 O1=>hK _ _ ⟨es++[a],by simp,by simp[e2],by rw[List.length_append];exact hi,fun y hy=>?_,D1,O'.trans O1⟩
  rcases List.mem_append.mp hy with hy|hy
  ·exact he y hy
  ·rw[List.mem_singleton.mp hy];exact pa
 ·rintro ys S1 ⟨es,rfl,e2,hd,he,D1,O1⟩ p hp
  rw[cv]at e2
  exact kk es _ e2 he (D1.new hp) (O1.trans (.new hp))
def CM{x0:aE}(Fe:cr x0){d l:Addr}{m:Int}(m0:0 < m)(m1:m<=1000):∀(j:Nat) (S:aw) (Q:bE),Deal S d l->(∀e S',(0<=e/\e < m)->Deal S' d l->Oth d l S S'->Q (.int e) S')->(ac x0 [(v3 1),(c3 (.int m))]) [some (.int (j:Int)),some (.ref d)] S Q gf:=fun j S Q D k=>by
 simp only[ac,af,v3,lk,c3]
 exact Fe D (by omega) (by omega) fun a S1 a0 a1 D1 O1=>k a S1 ⟨a0,a1⟩ D1 O1
def Ex{x0:aE}(Fe:cr x0){d l:Addr}:∀(j:Nat) (S:aw) (Q:bE),Deal S d l->(∀e S',e.natAbs<=4->Deal S' d l->Oth d l S S'->Q (.int e) S')->(ai bW (ac x0 [(v3 1),(c3 (.int 9))]) (c3 (.int 4))) [some (.int (j:Int)),some (.ref d)] S Q gf:=fun j S Q D k=>by
 simp only[ai,ac,af,v3,lk,c3]
 refine Fe D (by decide) (by decide) fun a S1 a0 a1 D1 O1=>?_
 simp only[bW,bN]
 exact k _ S1 (by omega) D1 O1
structure Dr (k D:Nat) (L:List Cc):Prop where
 ok:∀c∈L,kH k D c
 so:∀c∈L,c.who≠none
def Dr.add{k D:Nat}{L:List Cc}{c:Cc}(h:Dr k D L)(o:kH k D c)(s:c.who≠none):Dr k D (L++[c]):=⟨fun x hx=>by
 rcases List.mem_append.mp hx with hx|hx
 ·exact h.ok x hx
 ·rw[List.mem_singleton.mp hx];exact o,fun x hx=>by
 rcases List.mem_append.mp hx with hx|hx
 ·exact h.so x hx
 ·rw[List.mem_singleton.mp hx];exact s⟩
abbrev vz(w:aE):Prop:=∀{S:aw} {d l:Addr} {k D:Nat} {Q:bE} {E:ci},Deal S d l->k<=4->1<=D->D<=4->(∀(L:List Cc) pl S',Dr k D L->(∀e,e < D->∃c∈L,sM e c)->L.length<=8->S' pl=some (.lst (L.map Cc.v))->pl≠d/\pl≠l->Deal S' d l->Oth d l S S'->S pl=none->Q (.ref pl) S')->w [.ref d,.int (k:Int),.int (D:Int)] S Q E
def Hx{x0 x1:aE}(FA:oE x0)(Fe:cr x1):vz (bc 7 (fL x0 x1)):=by
 intro S d l k D Q E DL hk M7 hD kk
 unfold fL
 refine fe ?_
 rw[show au 7 [PV.ref d,.int (k:Int),.int (D:Int)]=[some (.ref d),some (.int (k:Int)),some (.int (D:Int)),none,none,none,none] from rfl]
 refine ay fun N hN=>?_
 simp only[ap,cO,af]
 intro pl hpl
 have nl:=DL.free hpl
 have D1:=DL.new (o:=.lst []) hpl
 have O1:Oth d l S (Fc S pl (.lst [])):=.new hpl
 have f1:(Fc S pl (.lst [])) pl=some (.lst (([]:List Cc).map Cc.v)):=aa
 generalize Fc S pl (.lst [])=S1 at D1 O1 f1
 simp only[List.set_cons_succ,List.set_cons_zero]
 refine hN _ _ (ay fun N hN=>?_)
 simp only[bQ,bH,v3,lk]
 refine⟨by omega,by omega,?_⟩
 rw[Int.toNat_natCast]
 refine bp (fun done σ S'=>∃(L:List Cc) (x4:Option PV),σ=[some (.ref d),some (.int (k:Int)),some (.int (D:Int)),some (.ref pl),x4,none,none]/\done.length<=D/\S' pl=some (.lst (L.map Cc.v))/\Dr k D L/\(∀e,e < done.length->∃c∈L,sM e c)/\L.length=done.length/\Deal S' d l/\Oth d l S S') ⟨[],_,rfl,Nat.zero_le _,f1,⟨(fun c hc=>by cases hc),fun c hc=>by cases hc⟩,(fun e he=>absurd he (Nat.not_lt_zero _)),rfl,D1,O1⟩ (fun _ _ _ _=>trivial) ?_ ?_
 ·rintro done x rest σ S2 K e ⟨L,x4,rfl,_,f2,R2,F2,l2,D2,O2⟩ hK
  obtain⟨rfl,hi⟩:=cA e
  simp only[Tg.put,List.set_cons_succ,List.set_cons_zero]
  rw[oF]
  simp only[ko,sd,aS,af,ac,v3,lk,f2,true_and]
  refine FA D2 fun n S3 n0 n1 D3 O3=>?_
  refine vy (CM Fe (m:=4) (by decide) (by decide)) D3 rfl rfl (by omega) fun es S4 el he D4 O4=>?_
  have f4:=O4 _ _ (O3 _ _ f2 nl.1 nl.2) nl.1 nl.2
  simp only[bD,f4,List.length_map]
  have co:kH k D ⟨some done.length,n,es⟩:=⟨el,fun e h=>by have:=he e h;omega,n0,by show n<=_;omega,fun e h=>by cases h;exact hi⟩
  refine⟨Nat.lt_of_lt_of_le (show L.length < 1000 by omega) (aY (Nat.le_refl _)),hK _ _ ⟨L++[⟨some done.length,n,es⟩],_,rfl,by rw[List.length_append,List.length_singleton];exact hi,by rw[aa,List.map_append];rfl,R2.add co (by simp),fun e h=>?_,by simp[l2],D4.upd nl.1 nl.2,jv (O2.trans (O3.trans O4)) hpl⟩⟩
  rw[List.length_append,List.length_singleton]at h
  by_cases hd:e < done.length
  ·obtain⟨c,h1,h2⟩:=F2 e hd
   exact⟨c,List.mem_append.mpr (.inl h1),h2⟩
  ·obtain rfl:e=done.length:=by omega
   exact⟨_,List.mem_append.mpr (.inr (List.mem_singleton.mpr rfl)),rfl,fun z hz=>(he z hz).1⟩
 rintro σ S2 ⟨L0,x4,rfl,_,f2,R2,F2,l2,D2,O2⟩
 rw[cv]at F2 l2
 refine hN _ _ (ay fun N hN=>?_)
 simp only[bQ,bH,ac,af,v3,lk,c3]
 refine Fe D2 (by decide) (by decide) fun g S3 g0 g1 D3 O3=>?_
 have f3:=O3 _ _ f2 nl.1 nl.2
 obtain⟨n,rfl⟩:∃n:Nat,g=(n:Int):=⟨g.toNat,by omega⟩
 refine⟨by omega,by omega,?_⟩
 rw[Int.toNat_natCast]
 refine bp (fun done σ S'=>∃(L:List Cc) (x5 x6:Option PV),σ=[some (.ref d),some (.int (k:Int)),some (.int (D:Int)),some (.ref pl),x4,x5,x6]/\done.length<=n/\S' pl=some (.lst (L.map Cc.v))/\Dr k D L/\(∀e,e < D->∃c∈L,sM e c)/\L.length=D+done.length/\Deal S' d l/\Oth d l S S') ⟨L0,_,_,rfl,Nat.zero_le _,f3,R2,F2,l2,D3,O2.trans O3⟩ (fun _ _ _ _=>trivial) ?_ ?_
 ·rintro done x rest σ S4 K e ⟨L,x5,x6,rfl,_,f4,R4,F4,l4,D4,O4⟩ hK
  obtain⟨rfl,hi⟩:=cA e
  simp only[Tg.put,List.set_cons_succ,List.set_cons_zero]
  refine ay fun N2 Hi=>?_
  rw[xK]
  refine vy (Ex Fe) D4 rfl rfl (by omega) fun es S5 el he D5 O5=>?_
  have f5:=O5 _ _ f4 nl.1 nl.2
  simp only[List.set_cons_succ,List.set_cons_zero]
  refine Hi _ _ ?_
  rw[oF]
  simp only[ko,sd,aS,af,ac,v3,lk,f5,true_and]
  refine Fe D5 (by omega) (by omega) fun w S6 w0 w1 D6 O6=>FA D6 fun n' S7 n0 n1 D7 O7=>?_
  have f7:=O7 _ _ (O6 _ _ f5 nl.1 nl.2) nl.1 nl.2
  obtain⟨w,rfl⟩:∃w':Nat,w=(w':Int):=⟨w.toNat,by omega⟩
  simp only[bD,f7,List.length_map]
  have co:kH k D ⟨some w,n',es⟩:=⟨el,fun e h=>by have:=he e h;omega,n0,by show n'<=_;omega,fun e h=>by cases h;omega⟩
  refine⟨Nat.lt_of_lt_of_le (show L.length < 1000 by omega) (aY (Nat.le_refl _)),hK _ _ ⟨L++[⟨some w,n',es⟩],_,_,rfl,by rw[List.length_append,List.length_singleton];exact hi,by rw[aa,List.map_append];rfl,R4.add co (by simp),fun e h=>?_,by simp;omega,D7.upd nl.1 nl.2,jv (O4.trans (O5.trans (O6.trans O7))) hpl⟩⟩
  obtain⟨c,h1,h2⟩:=F4 e h
  exact⟨c,List.mem_append.mpr (.inl h1),h2⟩
 ·rintro σ S4 ⟨L,x5,x6,rfl,_,f4,R4,F4,l4,D4,O4⟩
  rw[cv]at l4
  refine hN _ _ ?_
  simp only[av,v3,lk]
  exact kk L pl S4 R4 F4 (by omega) f4 nl D4 O4 hpl
structure Qp (S:aw) (d l pc pl:Addr) (L:List Cc) (n1 n2:Int):Prop where
 D:Deal S d l
 c:S pc=some (.lst [cq 2520 n1,cq 2520 n2])
 f:S pl=some (.lst (L.map Cc.v))
 nc:pc≠d/\pc≠l
 nl:pl≠d/\pl≠l
 n:pc≠pl
section
variable {S S':aw} {d l pc pl:Addr} {L L':List Cc} {n1 n2:Int}
def Qp.HP(h:Qp S d l pc pl L n1 n2)(D:Deal S' d l)(O:Oth d l S S'):Qp S' d l pc pl L n1 n2:=⟨D,O _ _ h.c h.nc.1 h.nc.2,O _ _ h.f h.nl.1 h.nl.2,h.nc,h.nl,h.n⟩
def Qp.set(h:Qp S d l pc pl L n1 n2)(L':List Cc):Qp (Fc S pl (.lst (L'.map Cc.v))) d l pc pl L' n1 n2:=⟨h.D.upd h.nl.1 h.nl.2,by rw[aq h.n];exact h.c,aa,h.nc,h.nl,h.n⟩
def vA(h:Qp S d l pc pl L n1 n2){c:Cc}(ll:L.length < 1000){Q:bE}(k:∀S',Qp S' d l pc pl (L++[c]) n1 n2->Q .non S'):bD (.ref pl) [c.v] S Q:=by
 simp only[bD,h.f,List.length_map]
 refine⟨Nat.lt_of_lt_of_le ll (aY (Nat.le_refl _)),?_⟩
 rw[show L.map Cc.v++[c.v]=(L++[c]).map Cc.v by rw[List.map_append];rfl]
 exact k _ (h.set _)
end
structure Bt (k D:Nat) (x y z:Nat) (a b c d n1 n2:Int) (L:List Cc):Prop where
 ok:∀q∈L,kH k D q
 fx:∀e,e < D->∃q∈L,sM e q
 m1:⟨none,n1,Ge k x y z a (0 - b) 0⟩∈L
 m2:⟨none,n2,Ge k x y z (0 - c) d 0⟩∈L
 non:∀q∈L,q.who=none->q=⟨none,n1,Ge k x y z a (0 - b) 0⟩\/q=⟨none,n2,Ge k x y z (0 - c) d 0⟩\/∃e1 e2 t,q.eff=Ge k x y z e1 e2 t/\0<=e1/\e1<=9/\0<=e2/\e2<=9/\t <= -1
def qm{k D x y z:Nat}{n e1 e2 e3:Int}(n0:0<=n)(n1:n<=2 ^ 22)(h1:e1.natAbs<=201)(h2:e2.natAbs<=201)(h3:e3.natAbs<=201):kH k D ⟨none,n,Ge k x y z e1 e2 e3⟩:=⟨fG ..,fun e he=>by
 unfold CW.Ge at he
 obtain⟨j,_,rfl⟩:=List.mem_map.mp he
 split
 ·omega
 ·split
  ·omega
  ·split
   ·omega
   ·decide,n0,by show n<=_;omega,fun d hd=>by cases hd⟩
def Bt.two{k D x y z:Nat}{a b c d n1 n2:Int}{L:List Cc}(R:Dr k D L)(F:∀e,e < D->∃q∈L,sM e q)(o1:kH k D ⟨none,n1,Ge k x y z a (0 - b) 0⟩)(o2:kH k D ⟨none,n2,Ge k x y z (0 - c) d 0⟩):Bt k D x y z a b c d n1 n2 (L++[⟨none,n1,Ge k x y z a (0 - b) 0⟩]++[⟨none,n2,Ge k x y z (0 - c) d 0⟩]):=by
 have mem:∀q∈L++[⟨none,n1,Ge k x y z a (0 - b) 0⟩]++[⟨none,n2,Ge k x y z (0 - c) d 0⟩],q∈L\/q=⟨none,n1,Ge k x y z a (0 - b) 0⟩\/q=⟨none,n2,Ge k x y z (0 - c) d 0⟩:=fun q hq=>by
  rcases List.mem_append.mp hq with hq|hq
  ·rcases List.mem_append.mp hq with hq|hq
   ·exact .inl hq
   ·exact .inr (.inl (List.mem_singleton.mp hq))
  ·exact .inr (.inr (List.mem_singleton.mp hq))
 refine⟨fun q hq=>?_,fun e he=>?_,by simp,by simp,fun q hq hw=>?_⟩
 ·rcases mem q hq with h|rfl|rfl
  ·exact R.ok q h
  ·exact o1
  ·exact o2
 ·obtain⟨q,hq,f⟩:=F e he
  exact⟨q,by simp[hq],f⟩
 ·rcases mem q hq with h|h|h
  ·exact(R.so q h hw).elim
  ·exact .inl h
  ·exact .inr (.inl h)
def Bt.add{k D x y z:Nat}{a b c d n1 n2:Int}{L:List Cc}(h:Bt k D x y z a b c d n1 n2 L){n e1 e2 t:Int}(o:kH k D ⟨none,n,Ge k x y z e1 e2 t⟩)(Lq:0<=e1)(KS:e1<=9)(Lr:0<=e2)(KU:e2<=9)(t1:t <= -1):Bt k D x y z a b c d n1 n2 (L++[⟨none,n,Ge k x y z e1 e2 t⟩]):=by
 refine⟨fun q hq=>?_,fun e he=>?_,List.mem_append.mpr (.inl h.m1),List.mem_append.mpr (.inl h.m2),fun q hq hw=>?_⟩
 ·rcases List.mem_append.mp hq with hq|hq
  ·exact h.ok q hq
  ·rw[List.mem_singleton.mp hq];exact o
 ·obtain⟨q,hq,f⟩:=h.fx e he
  exact⟨q,List.mem_append.mpr (.inl hq),f⟩
 ·rcases List.mem_append.mp hq with hq|hq
  ·exact h.non q hq hw
  ·rw[List.mem_singleton.mp hq];exact .inr (.inr ⟨e1,e2,t,rfl,Lq,KS,Lr,KU,t1⟩)
structure Pd where
 k:Nat
 mix:List Int
 L:List Cc
 x:Nat
 y:Nat
 z:Nat
 a:Int
 b:Int
 c:Int
 d:Int
 n1:Int
 n2:Int
 e:Bool
noncomputable def Pd.pv(p:Pd):PV:=.tup [.tup (p.L.map Cc.v),.tup (p.mix.map PV.int),.bl p.e]
structure Pd.Ok (p:Pd):Prop where
 en:En p.k p.mix p.L p.x p.y p.z p.a p.b p.c p.d p.n1 p.n2
 e:p.e=true↔p.b * p.c<=p.a * p.d/\(0 < p.n1\/0 < p.n2)
abbrev qo(w:aE):Prop:=∀{S:aw} {d l:Addr} {Q:bE} {E:ci},Deal S d l->(∀(p:Pd) S',p.Ok->Deal S' d l->Q p.pv S')->w [.ref d] S Q E
def xM{x0 x2:aE}(Fe:cr x0)(FA:oE x2){σ:cZ}{S:aw}{d l:Addr}{Q:bE}{E:ci}(D:Deal S d l)(h0:lk σ 0=some (.ref d))
  (kk:∀n1 n2 p S',0<=n1->n1<=2 ^ 22->0<=n2->n2<=2 ^ 22->S' p=some (.lst [cq 2520 n1,cq 2520 n2])->p≠d/\p≠l->Deal S' d l->Q (.ref p) S'):(ar (bH (c3 (.int 2))) (.n 0) bo (ai ak (cO [(aS [(c3 (.int 0)),(c3 (.int 1))]),(ac x2 [(v3 1)])]) (ac x0 [(v3 1),(c3 (.int 2))])) 1 [0]) σ S Q E:=by
 simp only[ar,bH,c3]
 refine⟨by decide,by decide,?_⟩
 rw[show bJ 1 [0] σ=[none,some (.ref d)] by unfold bJ;rw[<-h0];rfl]
 refine cu (fun done ys S'=>∃es:List Int,ys=es.map (cq 2520)/\es.length=done.length/\done.length<=2/\(∀e∈es,0<=e/\e<=2 ^ 22)/\Deal S' d l) ⟨[],rfl,rfl,Nat.zero_le _,(fun e he=>by cases he),D⟩ ?_ ?_ ?_
 ·rintro done ys S' ⟨es,rfl,e,hd,_⟩
  exact⟨trivial,aY (by rw[List.length_map,e];omega)⟩
 ·rintro done x rest ys S' K e ⟨es,rfl,e2,hd,he,D'⟩ hK
  obtain⟨rfl,hi⟩:=cA (n:=2) e
  simp only[Tg.put,List.set_cons_zero,bo,if_true]
  simp only[ai,cO,aS,ac,af,v3,lk,c3]
  refine FA D' fun n S1 n0 n1 D1 O1=>?_
  rw[Ew]
  intro pq hpq
  have nq:=D1.free hpq
  refine Fe (D1.new hpq) (by decide) (by decide) fun a S3 a0 a1 D3 O3=>?_
  have e3:=O3 _ _ (aa (S:=S1) (o:=.lst [cq 2520 0,cq 2520 n])) nq.1 nq.2
  simp only[ak,e3]
  obtain rfl|rfl:a=0\/a=1:=by omega
  ·rw[gC]
   refine hK _ _ ⟨es++[0],by simp,by simp[e2],by rw[List.length_append];exact hi,fun y hy=>?_,D3⟩
   rcases List.mem_append.mp hy with hy|hy
   ·exact he y hy
   ·rw[List.mem_singleton.mp hy];decide
  ·rw[mH]
   refine hK _ _ ⟨es++[n],by simp,by simp[e2],by rw[List.length_append];exact hi,fun y hy=>?_,D3⟩
   rcases List.mem_append.mp hy with hy|hy
   ·exact he y hy
   ·rw[List.mem_singleton.mp hy];exact⟨n0,n1⟩
 ·rintro ys S1 ⟨es,rfl,e2,hd,he,D1⟩ p hp
  match es,(show es.length=2 from e2),he with
  |[n1,n2],_,he=>exact kk n1 n2 p _ (he n1 (by simp)).1 (he n1 (by simp)).2 (he n2 (by simp)).1 (he n2 (by simp)).2 aa (D1.free hp) (D1.new hp)
def CN{σ:cZ}{S:aw}{pc:Addr}{n1 n2:Int}{Q:bE}{E:ci}(h11:lk σ 11=some (.ref pc))(hc:S pc=some (.lst [cq 2520 n1,cq 2520 n2]))
  (kk:∀(e:Bool) p o,S p=none->(e=true↔0 < n1\/0 < n2)->Q (.bl e) (Fc S p o)):(ai kW (ah n6 [(ar (aL (v3 11)) (.n 0) bo (ai ak (v3 0) (c3 (.int 0))) 1 [])]) (c3 (.int 0))) σ S Q E:=by
 simp only[ai,ah,af,ar,aL,v3,h11,b6,hc]
 rw[show[cq 2520 n1,cq 2520 n2]=[n1,n2].map (cq 2520)from rfl]at *
 refine aO (cq 2520) (fun n=>.int (M3.aF n 2520)) hc [n1,n2] [] (fun i hi=>⟨_,rfl,fun Q' q=>?_⟩) (aY (by simp)) ?_
 ·have e0:cq 2520 i = .tup [.int (M3.aF i 2520),.int (M3.aG i 2520)]:=rfl
  simp only[bJ,List.reduceReplicate,List.map_nil,List.append_nil,List.set_cons_zero,ai,c3,v3,lk,e0,ak,gC]
  exact q
 intro p hp
 simp only[List.nil_append,List.map_cons,List.map_nil,n6,aa]
 rw[show fz [PV.int (M3.aF n1 2520),.int (M3.aF n2 2520)]=some [M3.aF n1 2520,M3.aF n2 2520] from kz [M3.aF n1 2520,M3.aF n2 2520]]
 refine⟨by simp,fun M hM hb=>?_⟩
 simp only[c3,kW,bN]
 refine kk _ p _ hp ?_
 rw[decide_eq_true_eq]
 have c1:=(gK (n:=n1) (Q:=2520) (by decide)).2.1
 have c2:=(gK (n:=n2) (Q:=2520) (by decide)).2.1
 have b1:=hb (M3.aF n1 2520) (by simp)
 have b2:=hb (M3.aF n2 2520) (by simp)
 constructor
 ·intro h
  simp only[List.mem_cons,List.not_mem_nil,or_false]at hM
  rcases hM with rfl|rfl
  ·exact .inl (c1.mp h)
  ·exact .inr (c2.mp h)
 ·rintro(h|h)
  ·have:=c1.mpr h;omega
  ·have:=c2.mpr h;omega
def xN{k x:Nat}(hk:k=3\/k=4)(hx:x < k):AY k x ((x+1) % k) ((x+2) % k):=by
 rcases hk with rfl|rfl
 ·obtain rfl|rfl|rfl:x=0\/x=1\/x=2:=by omega
  all_goals exact⟨by decide,by decide,by decide,by decide,by decide,by decide⟩
 ·obtain rfl|rfl|rfl|rfl:x=0\/x=1\/x=2\/x=3:=by omega
  all_goals exact⟨by decide,by decide,by decide,by decide,by decide,by decide⟩
def oG{x k:Nat}(i:Nat):((x:Int)+(i:Int)).fmod (k:Int)=(((x+i) % k:Nat):Int):=by
 rw[Int.fmod_eq_emod_of_nonneg _ (by omega),<-Int.natCast_add,<-Int.natCast_emod]
def GU{x0 x1 x2 x3 x4:aE}(Fe:cr x0)(Ii:yC x1)(FA:oE x2)(Hx:vz x3)(G4:C9 x4):qo (bc 16 (d6 x0 x1 x2 x3 x4)):=by
 intro S d l Q E DL kk
 unfold d6
 refine fe ?_
 rw[show au 16 [PV.ref d]=[some (.ref d),none,none,none,none,none,none,none,none,none,none,none,none,none,none,none] from rfl]
 refine ay fun N hN=>?_
 simp only[jN,ac,af,ai,v3,lk,c3]
 refine Fe DL (by decide) (by decide) fun a' S1 a0 a1 D1 _=>?_
 simp only[bv]
 refine Fe D1 (by decide) (by decide) fun b' S2 b0 b1 D2 _=>?_
 obtain⟨k,ek⟩:∃k:Nat,3+a'=(k:Int):=⟨(3+a').toNat,by omega⟩
 obtain⟨D,eD⟩:∃D:Nat,1+b'=(D:Int):=⟨(1+b').toNat,by omega⟩
 have hk:k=3\/k=4:=by omega
 have Ob:k<=4:=by omega
 have M7:1<=D:=by omega
 have hD:D<=4:=by omega
 simp only[ek,eD,List.set_cons_succ,List.set_cons_zero]
 refine hN _ _ (ay fun N hN=>?_)
 simp only[jO,ac,af,v3,lk]
 refine Ii D2 fun a b c e S3 ha ha2 hb hb2 hc hc2 he he2 D3 _=>?_
 simp only[Tg.put,Tg.FH,List.set_cons_succ,List.set_cons_zero]
 refine hN _ _ (ay fun N hN=>?_)
 simp only[ap,ac,af,v3,lk]
 refine Fe D3 (by omega) (by omega) fun x' S4 x0' x1' D4 _=>?_
 obtain⟨x,rfl⟩:∃x:Nat,x'=(x:Int):=⟨x'.toNat,by omega⟩
 have X:=xN hk (show x < k by omega)
 simp only[List.set_cons_succ,List.set_cons_zero]
 refine hN _ _ (ay fun N hN=>?_)
 simp only[jN,ai,v3,lk,c3,bv,fy,d_]
 refine⟨by omega,by omega,?_⟩
 rw[show((x:Int)+1).fmod (k:Int)=(((x+1) % k:Nat):Int)from oG 1,show((x:Int)+2).fmod (k:Int)=(((x+2) % k:Nat):Int)from oG 2]
 generalize (x+1) % k=y at X
 generalize (x+2) % k=z at X
 simp only[List.set_cons_succ,List.set_cons_zero]
 refine hN _ _ (ay fun N hN=>?_)
 rw[xK]
 refine xM Fe FA D4 rfl fun n1 n2 pc S5 JD Oc JE Od fc nc D5=>?_
 simp only[List.set_cons_succ,List.set_cons_zero]
 refine hN _ _ (ay fun N hN=>?_)
 rw[xK]
 simp only[ac,af,v3,lk]
 refine Hx D5 Ob M7 hD fun L pl S6 R6 F6 l6 f6 nl D6 O6 Oe=>?_
 have H6:Qp S6 d l pc pl L n1 n2:=⟨D6,O6 _ _ fc nc.1 nc.2,f6,nc,nl,fun h=>by rw[h,Oe]at fc;cases fc⟩
 simp only[List.set_cons_succ,List.set_cons_zero]
 refine hN _ _ (ay fun N hN=>?_)
 rw[oF]
 simp only[ko,sd,aS,af,ai,v3,lk,c3,H6.f,true_and,ak,H6.c,gC]
 refine yB G4 (z:=z) (e1:=a) (e2:=0 - b) H6.D (by omega) X rfl rfl rfl (fun S Q q=>q) (fun S Q q=>by simp only[ai,c3,v3,lk,bW,bN];exact q) fun S7 X7=>?_
 have H7:=H6.HP (H6.D.ext X7) X7.HP
 refine vA (c:=⟨none,n1,Ge k x y z a (0 - b) 0⟩) H7 (by omega) fun S8 H8=>?_
 refine hN _ _ (ay fun N hN=>?_)
 rw[oF]
 simp only[ko,sd,aS,af,ai,v3,lk,c3,H8.f,true_and,ak,H8.c,mH]
 refine yB G4 (z:=z) (e1:=0 - c) (e2:=e) H8.D (by omega) X rfl rfl rfl (fun S Q q=>by simp only[ai,c3,v3,lk,bW,bN];exact q) (fun S Q q=>q) fun S9 X9=>?_
 have H9:=H8.HP (H8.D.ext X9) X9.HP
 refine vA (c:=⟨none,n2,Ge k x y z (0 - c) e 0⟩) H9 (by rw[List.length_append,List.length_singleton];omega) fun SA HA=>?_
 have BA:=Bt.two (x:=x) (y:=y) (z:=z) (a:=a) (b:=b) (c:=c) (d:=e) (n1:=n1) (n2:=n2) R6 F6 (qm JD Oc (by omega) (by omega) (by decide)) (qm JE Od (by omega) (by omega) (by decide))
 have lA:(L++[(⟨none,n1,Ge k x y z a (0 - b) 0⟩:Cc)]++[(⟨none,n2,Ge k x y z (0 - c) e 0⟩:Cc)]).length<=10:=by simp;omega
 generalize L++[(⟨none,n1,Ge k x y z a (0 - b) 0⟩:Cc)]++[⟨none,n2,Ge k x y z (0 - c) e 0⟩]=LA at HA BA lA
 refine hN _ _ (ay fun N hN=>?_)
 simp only[bQ,bH,ac,af,v3,lk,c3]
 refine Fe HA.D (by decide) (by decide) fun g SB g0 g1 DB OB=>?_
 obtain⟨n,rfl⟩:∃n:Nat,g=(n:Int):=⟨g.toNat,by omega⟩
 refine⟨by omega,by omega,?_⟩
 rw[Int.toNat_natCast]
 refine bp (fun done σ S'=>∃(L:List Cc) (K2 K3:Option PV),σ=[some (.ref d),some (.int (k:Int)),some (.int (D:Int)),some (.int a),some (.int b),some (.int c),some (.int e),some (.int (x:Int)),some (.int (y:Int)),some (.int (z:Int)),K2,some (.ref pc),some (.ref pl),K3,none,none]/\done.length<=n/\Qp S' d l pc pl L n1 n2/\Bt k D x y z a b c e n1 n2 L/\L.length<=10+done.length) ⟨LA,_,_,rfl,Nat.zero_le _,HA.HP DB OB,BA,lA⟩ (fun _ _ _ _=>trivial) ?_ ?_
 ·rintro done x' rest σ SC K e' ⟨L,K2,K3,rfl,_,HC,BC,lC⟩ hK
  obtain⟨rfl,hi⟩:=cA e'
  simp only[Tg.put,List.set_cons_succ,List.set_cons_zero]
  refine ay fun N2 Hi=>?_
  simp only[ap,ai,ac,af,v3,lk,c3,bW,bN]
  refine Fe HC.D (by decide) (by decide) fun t SD t0 t1 DD OD=>?_
  have HD:=HC.HP DD OD
  simp only[List.set_cons_succ,List.set_cons_zero]
  refine Hi _ _ ?_
  rw[oF]
  simp only[ko,sd,aS,af,v3,lk,c3,HD.f,true_and]
  rw[show ∀σ S Q E,ac x2 [v3 0] σ S Q E=v3 0 σ S (fun v S1=>x2 [v] S1 Q E) E from fun _ _ _ _=>rfl]
  simp only[v3,lk]
  refine FA HD.D fun n' SE Of Og DE OE=>?_
  have HE:=HD.HP DE OE
  refine CL G4 Fe (z:=z) (t:=0 - 1 - t) HE.D (by omega) X rfl rfl rfl rfl rfl rfl fun e1 e2 SF Lq KS Lr KU DF OF=>?_
  have HF:=HE.HP DF OF
  refine vA (c:=⟨none,n',Ge k x y z e1 e2 (0 - 1 - t)⟩) HF (by omega) fun SG HG=>?_
  exact hK _ _ ⟨_,_,_,rfl,by rw[List.length_append,List.length_singleton];exact hi,HG,BC.add (qm Of Og (by omega) (by omega) (by omega)) Lq KS Lr KU (by omega),by rw[List.length_append,List.length_append,List.length_singleton,List.length_singleton];omega⟩
 rintro σ SC ⟨L,K2,K3,rfl,_,HC,BC,lC⟩
 rw[cv]at lC
 refine hN _ _ (ay fun N hN=>?_)
 simp only[ap,cO,af]
 intro pn K4
 have nn:=HC.D.free K4
 have M8:pl≠pn:=fun h=>absurd HC.f (by rw[h,K4];simp)
 have Oh:pc≠pn:=fun h=>absurd HC.c (by rw[h,K4];simp)
 have HE:Qp (Fc SC pn (.lst [])) d l pc pl L n1 n2:=HC.HP (HC.D.new K4) (.new K4)
 have gE:(Fc SC pn (.lst [])) pn=some (.lst (([]:List Cc).map Cc.v)):=aa
 generalize Fc SC pn (.lst [])=SE at HE gE
 simp only[List.set_cons_succ,List.set_cons_zero]
 refine hN _ _ (ay fun N hN=>?_)
 refine⟨fun m σ S'=>∃rs os:List Cc,σ=[some (.ref d),some (.int (k:Int)),some (.int (D:Int)),some (.int a),some (.int b),some (.int c),some (.int e),some (.int (x:Int)),some (.int (y:Int)),some (.int (z:Int)),K2,some (.ref pc),some (.ref pl),K3,some (.ref pn),none]/\Qp S' d l pc pl rs n1 n2/\S' pn=some (.lst (os.map Cc.v))/\rs.length=m/\(os++rs).Perm L,⟨_,L,[],rfl,HE,gE,rfl,.refl _⟩,?_⟩
 rintro m2 σ SF ⟨rs,os,rfl,HF,gF,ln,hp⟩
 have Oi:=hp.length_eq
 rw[List.length_append]at Oi
 simp only[bg,ai,ah,af,v3,lk,c3,aX,HF.f,List.length_map,kW,bN,decide_eq_true_eq]
 split
 ·rename_i hp0
  refine⟨fun σ' S'=>∃rs os:List Cc,σ'=[some (.ref d),some (.int (k:Int)),some (.int (D:Int)),some (.int a),some (.int b),some (.int c),some (.int e),some (.int (x:Int)),some (.int (y:Int)),some (.int (z:Int)),K2,some (.ref pc),some (.ref pl),K3,some (.ref pn),none]/\Qp S' d l pc pl rs n1 n2/\S' pn=some (.lst (os.map Cc.v))/\rs.length < m2/\(os++rs).Perm L,?_,?_⟩
  ·rintro σ' S' ⟨rs,os,a,b,c,lt',r⟩
   exact⟨_,lt',rs,os,a,b,c,rfl,r⟩
  ·simp only[c_,ko,sd,af,ac,ah,v3,lk,gF,HF.f,aX,List.length_map,true_and]
   refine Fe HF.D (by omega) (by omega) fun r SG r0 r1 DG OG=>?_
   obtain⟨i,rfl⟩:∃i:Nat,r=(i:Int):=⟨r.toNat,by omega⟩
   have hi:i < rs.length:=by omega
   have HG:=HF.HP DG OG
   have gG:=OG _ _ gF nn.1 nn.2
   simp only[nP,HG.f,List.length_map,E9 hi,List.getElem?_map,List.getElem?_eq_getElem hi,Option.map_some]
   refine⟨by omega,by omega,?_⟩
   rw[kS]
   have HH:=HG.set (rs.eraseIdx i)
   have gH:(Fc SG pl (.lst ((rs.eraseIdx i).map Cc.v))) pn=some (.lst (os.map Cc.v)):=by rw[aq (Ne.symm M8)];exact gG
   generalize Fc SG pl (.lst ((rs.eraseIdx i).map Cc.v))=SH at HH gH
   simp only[bD,gH,List.length_map]
   refine⟨Nat.lt_of_lt_of_le (show os.length < 1000 by omega) (aY (Nat.le_refl _)),rs.eraseIdx i,os++[rs[i]],⟨HH.D.upd nn.1 nn.2,by rw[aq Oh];exact HH.c,by rw[aq M8];exact HH.f,HH.nc,HH.nl,HH.n⟩,by rw[aa,List.map_append];rfl,by rw[List.length_eraseIdx_of_lt hi];omega,vx hp hi⟩
 ·rename_i hp0
  obtain rfl:rs=[]:=List.length_eq_zero_iff.mp (by omega)
  rw[List.append_nil]at hp
  refine hN _ _ (ay fun N hN=>?_)
  rw[xK]
  refine vy (CM Fe (m:=10) (by decide) (by decide)) HF.D rfl rfl (by omega) fun mix SG ml hm DG OG=>?_
  have HG:=HF.HP DG OG
  have gG:=OG _ _ gF nn.1 nn.2
  simp only[List.set_cons_succ,List.set_cons_zero]
  refine hN _ _ ?_
  have en:En k mix os x y z a b c e n1 n2:=by
   refine En.perm (L:=L) ⟨⟨fun q hq=>by rw[ml];exact BC.ok q hq,fun i hi=>BC.fx i (by omega),by omega,by omega,List.length_pos_of_mem BC.m1,by omega,fun q hq=>by have:=hm q hq;omega⟩,X,ha,hb,hc,he,JD,JE,BC.m1,BC.m2,BC.non⟩ hp.symm
  simp only[av,aS,af,ah,v3,lk,aR,iJ,gG]
  rw[show ∀(t u:aQ) σ S Q E,dv t u σ S Q E=t σ S (fun v S1=>match v with | .bl c=>if c=true then u σ S1 Q E else Q (.bl false) S1|_=>False) E from fun _ _ _ _ _ _=>rfl]
  rw[show ∀(r:R3) (t u:aQ) σ S Q E,ai r t u σ S Q E=t σ S (fun v S1=>u σ S1 (fun w S2=>r v w S2 Q) E) E from fun _ _ _ _ _ _ _=>rfl]
  simp only[ai,v3,lk]
  simp only[aU]
  refine⟨nW (by omega) (by omega),nW (by omega) (by omega),?_⟩
  simp only[AT,bN]
  by_cases le:b * c<=a * e
  ·rw[decide_eq_true le]
   simp only[if_true]
   refine CN rfl HG.c fun f p o hpf hf=>?_
   exact kk ⟨k,mix,os,x,y,z,a,b,c,e,n1,n2,f⟩ _ ⟨en,⟨fun h=>⟨le,hf.mp h⟩,fun h=>hf.mpr h.2⟩⟩ (HG.D.new hpf)
  ·rw[decide_eq_false le]
   simp only[Bool.false_eq_true,if_false]
   exact kk ⟨k,mix,os,x,y,z,a,b,c,e,n1,n2,false⟩ _ ⟨en,⟨fun h=>(by cases h),fun h=>absurd h.1 le⟩⟩ HG.D
def ne_str{z:Str}{S:aw}{Q:bE}(q:Q (.bl false) S):dU true (.str z) (.str z) S Q:=by
 simp only[dU,decide_true,bne_self_eq_false];exact q
abbrev xO(w:aE):Prop:=∀{ns:Vu} {S:aw} {Q:bE} {E:ci},ns.length<=63->(∀S',Q (.bl true) S')->w [.cl (ns.map PV.int)] S Q E
def AJ{x0 x1 x2 x3:aE}(HU:nY x0)(GU:qo x1)(G0:jo x2)(Hw:ju x3):xO (bc 7 (vp x0 x1 x2 x3)):=by
 intro ns S Q E hl kk
 unfold vp
 refine fe ?_
 rw[show au 7 [PV.cl (ns.map PV.int)]=[some (.cl (ns.map PV.int)),none,none,none,none,none,none] from rfl]
 refine ay fun N hN=>?_
 simp only[ap,ac,af,v3,lk,c3]
 refine HU hl (by decide) (by decide) fun d l S1 _ _ D1 _=>?_
 simp only[List.set_cons_succ,List.set_cons_zero]
 refine hN _ _ (ay fun N hN=>?_)
 simp only[bQ,bH,c3]
 refine⟨by decide,by decide,?_⟩
 refine bp (fun done σ S'=>∃y2 y3 y4 y5 y6:Option PV,σ=[some (.cl (ns.map PV.int)),some (.ref d),y2,y3,y4,y5,y6]/\Deal S' d l) ⟨_,_,_,_,_,rfl,D1⟩ (fun _ _ _ _=>trivial) ?_ ?_
 ·rintro done x rest σ S2 K e ⟨y2,y3,y4,y5,y6,rfl,D2⟩ hK
  simp only[Tg.put,List.set_cons_succ,List.set_cons_zero]
  refine ay fun N2 Hi=>?_
  simp only[jO,ac,af,v3,lk]
  refine GU D2 fun p S3 P D3=>?_
  have Pr:=P.en.cp.Kh
  simp only[Pd.pv,Tg.put,Tg.FH,List.set_cons_succ,List.set_cons_zero]
  refine Hi _ _ (ay fun N2 Hi=>?_)
  simp only[ap,ac,af,v3,lk]
  rw[<-Cc.N0]
  refine G0 Pr fun v S4 X4 o4=>?_
  simp only[List.set_cons_succ,List.set_cons_zero]
  refine Hi _ _ (ay fun N2 Hi=>?_)
  obtain⟨r,ev⟩:=P.en.word o4 P.e
  simp only[cK,jL,df,bg,ac,af,v3,lk,bZ]
  refine Hw Pr o4 fun S5 X5=>?_
  simp only[Bool.not_true,Bool.false_eq_true,if_false]
  simp only[ai,cO,ah,af,v3,lk,c3,g_,ev,ak,gC]
  intro pq hpq
  simp only[aa]
  have D5:=(D3.ext (X4.trans X5)).new (o:=.lst [.str "most",.str "endless"]) hpq
  generalize Fc S5 pq (.lst [.str "most",.str "endless"])=S6 at D5
  have ea:FZ [PV.str "most",.str "endless"] (if p.e=true then (1:Int) else 0)=some (.str (if p.e then "endless" else "most")):=by
   cases p.e with
   |true=>exact mH
   |false=>exact gC
  rw[ea]
  dsimp only
  refine ne_str ?_
  simp only[Bool.false_eq_true,if_false]
  refine Hi _ _ ?_
  simp only[cK,bg,ai,ac,af,vi,v3,lk,c3,bZ]
  rw[List.length_map,List.length_map]
  refine⟨P.en.cp.n1,?_⟩
  have M9:=P.en.perm (List.reverse_perm p.L).symm
  rw[<-List.map_reverse,<-List.map_reverse]
  refine G0 M9.cp.Kh fun v' S7 X7 o7=>?_
  obtain⟨r',ev'⟩:=M9.word o7 P.e
  simp only[ev',ak,gC]
  refine ne_str ?_
  simp only[Bool.false_eq_true,if_false]
  exact hK _ _ ⟨_,_,_,_,_,rfl,D5.ext X7⟩
 ·rintro σ S2 ⟨y2,y3,y4,y5,y6,rfl,D2⟩
  refine hN _ _ ?_
  simp only[av,c3]
  exact kk S2
def m9:cr cJ:=Fe
def yD:jV dj:=Ho
def vB:w5 dj:=w9 yD
def m_:jF dA:=sC vB
def oH:jY iV:=pS
def ni:jE di:=uG oH
def vC:qN m5:=uI ni
def CO:mM cC:=Io oH
def vD:iR cU:=GY HZ
def vE:iS bX:=GZ ni
def CP:jl fI:=u7 CO HX HY Ic vD Hq
def xP:jn iy:=Hr (uN uK) vC (sD (w_ vC) (sB ni))
def xQ:jo js:=G0 CP H_ (Ib Ia) (IH vE) vD (Ie CO ni xP vE)
def yE:j0 bM:=Hs vB
def vF:iT bd:=Gq yE
def re:e9 dk:=xG m_
def vG:iZ cf:=G3 re
def vH:fM cV:=sO m_
def xR:ju fK:=Hw (sP vF vG vH) (sQ vF yE (Hv re) vG vH re (Hb m_ re))
def rg:oE eE:=vv (FA m9 yD)
def sR:qo d8:=GU m9 (Ii m9) rg (Hx rg m9) G4
def vI:∀ns:List Int,ns.length<=63->oC [.cl (ns.map PV.int)] (fun _=>none) (fun v _=>v = .bl true) gf:=fun ns h=>AJ HU sR xQ xR h fun _=>rfl
end G35
namespace L3
open PySem L2 Xc
def xS{P:List Value->Prop}(h:∀a,P [a])(us:Vv)(hl:us.length=1):P us:=match us,hl with|[_],_=>h _
def nj{P:List Value->Prop}(h:∀a b,P [a,b])(us:Vv)(hl:us.length=2):P us:=match us,hl with|[_,_],_=>h _ _
def sV{P:List Value->Prop}(h:∀a b c,P [a,b,c])(us:Vv)(hl:us.length=3):P us:=match us,hl with|[_,_,_],_=>h _ _ _
def C_{P:List Value->Prop}(h:∀a b c d,P [a,b,c,d])(us:Vv)(hl:us.length=4):P us:=match us,hl with|[_,_,_,_],_=>h _ _ _ _
section
variable {K:Vo} {h:Heap} {mg:Vr} {x c m q:Str} {st:Stmt} {ps fl:Vs}
noncomputable def sS:Option (Option Value)->Bool
 |some none=>true
 |_=>false
def rh{o:Option (Option Value)}(h:sS o=true):o=some none:=by
 unfold sS at h;split at h
 ·rfl
 ·cases h
def FnAt(K:Vo)(f:Addr)(m q:Str)(st:Stmt):Prop:=∃(oc kV doc pm cdv ct:Value) (od an:Option Addr) (osl:Array (Option Value)),
 K.lookup f=some ⟨oc,od,.func (PySem.W.fnOf m q (dL st) (bV st) (aN st) .none kV doc pm an cdv ct),osl⟩/\PySem.W.codeIn K cdv q=true/\PySem.W.keepIn K (.ref f)=true
abbrev rj(m q:Str)(st:Stmt)(ps:Vs):Prop:=∀(kV doc pm:Value) (an:Option Addr) (cdv ct:Value) (us:Vv),us.length=ps.length->bindArgs (PySem.W.fnOf m q (dL st) (bV st) (aN st) .none kV doc pm an cdv ct) ⟨us,[]⟩=pure (ps.zip us)
def FnAt.mk{f:Addr}(a:FnAt K f m q st)(hb:rj m q st ps):∃fd,Jt K m q st f fd/\Binds K fd ps []/\PySem.W.keepIn K (.ref f)=true:=by
 obtain⟨oc,kV,doc,pm,cdv,ct,od,an,osl,l,cc,k⟩:=a
 exact⟨_,mv l cc k,(mv l cc k).binds hb,k⟩
def Gh(K:Vo)(x:Str)(st:Stmt):Prop:=∃f,PySem.W.nsIn K mainGlobals x=some (some (.ref f))/\FnAt K f x x st
def Gh.own(X:K.In h)(G:h.Ns mainGlobals mg)(a:Gh K x st)(hb:rj x x st ps):bK K mg x st ps:=by
 obtain⟨f,n,a⟩:=a
 obtain⟨fd,F,b,k⟩:=a.mk hb
 exact⟨f,fd,F,b,k,PySem.W.mg_of X G n⟩
def Gh.law{fa:Addr}(X:K.In h)(G:h.Ns mainGlobals mg)(a:Gh K x st)(hfa:mg x=some (.ref fa))(hb:rj x x st ps):∃kV doc pm an cdv ct,C7 K mg x st ps fa (PySem.W.fnOf x x (dL st) (bV st) (aN st) .none kV doc pm an cdv ct):=by
 obtain⟨f,n,oc,kV,doc,pm,cdv,ct,od,an,osl,l,cc,k⟩:=a
 cases hfa.symm.trans (PySem.W.mg_of X G n)
 exact⟨kV,doc,pm,an,cdv,ct,mv l cc k,(mv l cc k).binds hb,k,hfa⟩
def Ls(K:Vo)(c:Str)(fl:Vs):Prop:=∃C,PySem.W.nsIn K mainGlobals c=some (some (.ref C))/\PySem.W.findIn K (.ref C) "__setattr__" = some (some (.builtin "object.__setattr__"))/\PySem.W.keepIn K (.ref C)=true/\
 (PySem.W.plainGet K C Str.empty&&PySem.W.hasDictIn K C&&PySem.W.plainOver K C&&PySem.W.makesIn K C&&fl.all fun f=>sS (PySem.W.findIn K (.ref C) f))=true
def Ls.cl(X:K.In h)(G:h.Ns mainGlobals mg)(a:Ls K c fl):AU K mg c fl:=by
 obtain⟨C,n,s,k,r⟩:=a
 simp only[Bool.and_eq_true,List.all_eq_true]at r
 obtain⟨⟨⟨⟨r1,r2⟩,r3⟩,r4⟩,r5⟩:=r
 exact⟨C,n,PySem.W.mg_of X G n,⟨r1,r2,r3,s⟩,r4,k,fun f hf=>rh (r5 f hf)⟩
def JF(K:Vo)(c m q:Str)(st:Stmt):Prop:=∃C f,PySem.W.nsIn K mainGlobals c=some (some (.ref C))/\PySem.W.findIn K (.ref C) m=some (some (.ref f))/\PySem.W.isFn K (.ref f)=true/\FnAt K f m q st
def JF.own(a:JF K c m q st)(k:AU K mg c fl)(hb:rj m q st ps):n5 K c m q st ps:=by
 obtain⟨C,f,n,e,i,a⟩:=a
 obtain⟨fd,F,b,kp⟩:=a.mk hb
 obtain⟨C',n',_,cl,_⟩:=k.ex
 cases Hg.inj (c:=c) n n'
 exact⟨C,f,fd,n,cl,⟨e,i,kp⟩,F,b⟩
def iC(X:K.In h)(G:h.Ns mainGlobals mg){l:Vs}(a:(l.all fun x=>sS (PySem.W.nsIn K mainGlobals x))=true)(hx:x∈l:=by decide):mg x=none:=PySem.W.mg_none_of X G (rh (List.all_eq_true.mp a x hx))
section
variable {f C:Addr} {oc kV doc pm cdv ct:Value} {od an:Option Addr} {osl:Array (Option Value)}
def E_(n:PySem.W.nsIn K mainGlobals x=some (some (.ref f)))(l:K.lookup f=some ⟨oc,od,.func (PySem.W.fnOf x x (dL st) (bV st) (aN st) .none kV doc pm an cdv ct),osl⟩)(cc:PySem.W.codeIn K cdv x=true)(k:PySem.W.keepIn K (.ref f)=true):Gh K x st:=⟨f,n,oc,kV,doc,pm,cdv,ct,od,an,osl,l,cc,k⟩
def Fa(n:PySem.W.nsIn K mainGlobals c=some (some (.ref C)))(e:PySem.W.findIn K (.ref C) m=some (some (.ref f)))(i:PySem.W.isFn K (.ref f)=true)(l:K.lookup f=some ⟨oc,od,.func (PySem.W.fnOf m q (dL st) (bV st) (aN st) .none kV doc pm an cdv ct),osl⟩)(cc:PySem.W.codeIn K cdv q=true)(k:PySem.W.keepIn K (.ref f)=true):JF K c m q st:=⟨C,f,n,e,i,oc,kV,doc,pm,cdv,ct,od,an,osl,l,cc,k⟩
def Fb(n:PySem.W.nsIn K mainGlobals c=some (some (.ref C)))(e:PySem.W.findIn K (.ref C) "__setattr__" = some (some (.builtin "object.__setattr__")))(k:PySem.W.keepIn K (.ref C)=true)
  (r:(PySem.W.plainGet K C Str.empty&&PySem.W.hasDictIn K C&&PySem.W.plainOver K C&&PySem.W.makesIn K C&&fl.all fun f=>sS (PySem.W.findIn K (.ref C) f))=true):Ls K c fl:=⟨C,n,e,k,r⟩
end
end
end L3
namespace G35
open PySem L2 L3
def AK{l:PySem.W.OpenLaw}{w:World}{K:Vo}{h:Heap}{mg:Vr}{fa:Addr}(X:K.In h)(G:h.Ns mainGlobals mg)(hfa:mg "law" = some (.ref fa))
  (GV:Gh K "common" (bR 1))
  (Gr:Gh K "fraction" (bR 2))
  (Hy:Gh K "plus" (bR 3))
  (Hc:Gh K "times" (bR 4))
  (Hz:Gh K "less" (bR 5))
  (GE:Gh K "highest" (bR 6))
  (Gs:Gh K "together" (bR 7))
  (Gu:Gh K "worth_of" (bR 8))
  (FS:Gh K "common_bottom" (bR 10))
  (F3:Gh K "row_of_deed" (bR 11))
  (Ga:Gh K "row_of_jar" (bR 12))
  (GF:Gh K "without" (bR 13))
  (Fw:JF K "Balance" "__init__" "Balance.__init__" (mt 14 0))
  (FV:JF K "Balance" "hold" "Balance.hold" (mt 14 1))
  (FC:JF K "Balance" "gaining" "Balance.gaining" (mt 14 2))
  (FM:JF K "Balance" "sooner" "Balance.sooner" (mt 14 3))
  (FD:JF K "Balance" "used_up" "Balance.used_up" (mt 14 4))
  (FE:JF K "Balance" "held_by" "Balance.held_by" (mt 14 5))
  (Gb:Gh K "balance_of" (bR 15))
  (Fi:Gh K "first_that_takes_nothing" (bR 16))
  (Gv:Gh K "price_of" (bR 17))
  (GG:Gh K "endless" (bR 18))
  (HB:Gh K "most" (bR 19))
  (GH:Gh K "weighed" (bR 20))
  (Gi:Gh K "_law_deal" (bR 22))
  (Gj:Gh K "_law_draw" (bR 23))
  (Gw:Gh K "_law_low" (bR 24))
  (Gk:Gh K "_law_plus" (bR 25))
  (Gm:Gh K "_law_cost" (bR 26))
  (Fx:Gh K "_law_is_fraction" (bR 27))
  (Fo:Gh K "_law_are_from_nought" (bR 28))
  (Gx:Gh K "_law_sum" (bR 29))
  (FW:Gh K "_law_cost_of" (bR 30))
  (FN:Gh K "_law_jars_hold" (bR 31))
  (FF:Gh K "_law_deeds_hold" (bR 32))
  (Fy:Gh K "_law_prices_hold" (bR 33))
  (Fr:Gh K "_law_endless_right" (bR 34))
  (FG:Gh K "_law_most_right" (bR 35))
  (Gc:Gh K "_law_right" (bR 36))
  (Gn:Gh K "_law_four" (bR 37))
  (Gd:Gh K "_law_drawn" (bR 38))
  (GI:Gh K "_law_at" (bR 39))
  (FX:Gh K "_law_planted" (bR 40))
  (Fn:Ls K "Balance" ["rows","held","bottom"])
  (Iw:((["abs","all","any","bool","enumerate","int","isinstance","len","list","max","min","range","reversed","tuple","zip"]:Vs).all fun x=>sS (PySem.W.nsIn K mainGlobals x))=true)
  (Jl:Gh K "law" (bR 41))
  : ∃fd:FuncData,(∀(s:Shared) (v:Value),BindsTo s fd ⟨[v],[]⟩ [("_law_script",v)])/\∀base:Heap,K.In base->base.Ns mainGlobals mg->i4 l.prog w K mg base xZ 9 fa fd ["_law_script"] (BV K 1 oC):=by
 obtain⟨kV,doc,pm,an,cdv,ct,O⟩:=Jl.law X G hfa (ps:=["_law_script"]) (fun _ _ _ _ _ _=>xS fun _=>rfl)
 exact⟨_,fun s v=>.of_eq rfl,fun base _ _=>(AG (P:=l.prog) (w:=w) (base:=base) ⟨GV.own X G (fun _ _ _ _ _ _=>nj fun _ _=>rfl),
  Gr.own X G (fun _ _ _ _ _ _=>nj fun _ _=>rfl),
  Hy.own X G (fun _ _ _ _ _ _=>nj fun _ _=>rfl),
  Hc.own X G (fun _ _ _ _ _ _=>nj fun _ _=>rfl),
  Hz.own X G (fun _ _ _ _ _ _=>nj fun _ _=>rfl),
  GE.own X G (fun _ _ _ _ _ _=>xS fun _=>rfl),
  Gs.own X G (fun _ _ _ _ _ _=>xS fun _=>rfl),
  Gu.own X G (fun _ _ _ _ _ _=>nj fun _ _=>rfl),
  FS.own X G (fun _ _ _ _ _ _=>xS fun _=>rfl),
  F3.own X G (fun _ _ _ _ _ _=>C_ fun _ _ _ _=>rfl),
  Ga.own X G (fun _ _ _ _ _ _=>sV fun _ _ _=>rfl),
  GF.own X G (fun _ _ _ _ _ _=>C_ fun _ _ _ _=>rfl),
  Fw.own (mg:=mg) (Fn.cl X G) (fun _ _ _ _ _ _=>sV fun _ _ _=>rfl),
  FV.own (mg:=mg) (Fn.cl X G) (fun _ _ _ _ _ _=>sV fun _ _ _=>rfl),
  FC.own (mg:=mg) (Fn.cl X G) (fun _ _ _ _ _ _=>xS fun _=>rfl),
  FM.own (mg:=mg) (Fn.cl X G) (fun _ _ _ _ _ _=>C_ fun _ _ _ _=>rfl),
  FD.own (mg:=mg) (Fn.cl X G) (fun _ _ _ _ _ _=>nj fun _ _=>rfl),
  FE.own (mg:=mg) (Fn.cl X G) (fun _ _ _ _ _ _=>C_ fun _ _ _ _=>rfl),
  Gb.own X G (fun _ _ _ _ _ _=>sV fun _ _ _=>rfl),
  Fi.own X G (fun _ _ _ _ _ _=>nj fun _ _=>rfl),
  Gv.own X G (fun _ _ _ _ _ _=>sV fun _ _ _=>rfl),
  GG.own X G (fun _ _ _ _ _ _=>sV fun _ _ _=>rfl),
  HB.own X G (fun _ _ _ _ _ _=>sV fun _ _ _=>rfl),
  GH.own X G (fun _ _ _ _ _ _=>nj fun _ _=>rfl),
  Gi.own X G (fun _ _ _ _ _ _=>nj fun _ _=>rfl),
  Gj.own X G (fun _ _ _ _ _ _=>nj fun _ _=>rfl),
  Gw.own X G (fun _ _ _ _ _ _=>nj fun _ _=>rfl),
  Gk.own X G (fun _ _ _ _ _ _=>nj fun _ _=>rfl),
  Gm.own X G (fun _ _ _ _ _ _=>xS fun _=>rfl),
  Fx.own X G (fun _ _ _ _ _ _=>xS fun _=>rfl),
  Fo.own X G (fun _ _ _ _ _ _=>nj fun _ _=>rfl),
  Gx.own X G (fun _ _ _ _ _ _=>nj fun _ _=>rfl),
  FW.own X G (fun _ _ _ _ _ _=>nj fun _ _=>rfl),
  FN.own X G (fun _ _ _ _ _ _=>nj fun _ _=>rfl),
  FF.own X G (fun _ _ _ _ _ _=>sV fun _ _ _=>rfl),
  Fy.own X G (fun _ _ _ _ _ _=>sV fun _ _ _=>rfl),
  Fr.own X G (fun _ _ _ _ _ _=>nj fun _ _=>rfl),
  FG.own X G (fun _ _ _ _ _ _=>sV fun _ _ _=>rfl),
  Gc.own X G (fun _ _ _ _ _ _=>sV fun _ _ _=>rfl),
  Gn.own X G (fun _ _ _ _ _ _=>xS fun _=>rfl),
  Gd.own X G (fun _ _ _ _ _ _=>sV fun _ _ _=>rfl),
  GI.own X G (fun _ _ _ _ _ _=>nj fun _ _=>rfl),
  FX.own X G (fun _ _ _ _ _ _=>xS fun _=>rfl),
  Fn.cl X G,
  iC (x:="abs") X G Iw,
  iC (x:="all") X G Iw,
  iC (x:="any") X G Iw,
  iC (x:="bool") X G Iw,
  iC (x:="enumerate") X G Iw,
  iC (x:="int") X G Iw,
  iC (x:="isinstance") X G Iw,
  iC (x:="len") X G Iw,
  iC (x:="list") X G Iw,
  iC (x:="max") X G Iw,
  iC (x:="min") X G Iw,
  iC (x:="range") X G Iw,
  iC (x:="reversed") X G Iw,
  iC (x:="tuple") X G Iw,
  iC (x:="zip") X G Iw⟩ O).ok⟩
def walk{l:PySem.W.OpenLaw}{q:Program}{loose:Vs}{XP:(Vr)->Heap->Prop}{YP:World->Heap->Prop}{d:DefRec}{K:Params->PySem.W.Frag}(hn:l.most=some 63)(hdf:d.params.defaults=[])
  (hY:∀(w:World) (h:Heap),YP w h->(K w.params).In h)
  (F:∀(w:World) (mg:Vr) (fa:Addr) (h:Heap),(K w.params).In h->h.Ns mainGlobals mg->mg d.name=some (.ref fa)->
   ∃fd:FuncData,(∀(s:Shared) (u:Value),BindsTo s fd ⟨[u],[]⟩ [("_law_script",u)])/\∀base:Heap,(K w.params).In base->base.Ns mainGlobals mg->i4 l.prog w (K w.params) mg base xZ 9 fa fd ["_law_script"] (BV (K w.params) 1 oC)) :
  PySem.W.WalkO q loose XP YP l.row.toRowW d [] (fun f vs=>PySem.call f vs):=
 L2.wz (n:=63) (k:=9) (x:="_law_script") (CX:=fun _=>xZ) (sp:=fun w=>BV (K w.params) 1 oC) hn (by decide) hdf ⟨rfl,by decide,by decide,rfl⟩ hY F (fun _ _ a ns hl hO hS=>Ea hO hS (vI ns hl)) fun _ _ _ _ _ z=>z
end G35
local macro_rules | `(tactic| walk_at "k")=>`(tactic| (apply L3.E_; k_is; k_is; k_is; k_is))
local macro_rules | `(tactic| walk_at "m")=>`(tactic| (apply L3.Fa; k_is; k_is; k_is; k_is; k_is; k_is))
local macro_rules | `(tactic| walk_at "c")=>`(tactic| (apply L3.Fb; k_is; k_is; k_is; kernel_rfl))
open PySem PySem.W PyProof.Rows
set_option maxRecDepth 100000 in
set_option maxHeartbeats 0 in
theorem PySem.Challenge.cw_dueworth_k35_whole_endless_or_not_holds : PySem.Challenge.rw_dueworth_k35_whole_endless_or_not.Holds := by
 w_on; refine holds_law E35.said fun said => ?_
 refine holds_open (q := E35.vw) (loose := []) (Xt := fun s => (xlAt E35.vw [] s && recOk (RowW.records E35.rr) s)) (XP := XL E35.vw []) (N := 3180)
  (Yf := Hook.obs E35.hk) (Ya := Hook.val E35.hk) (YP := Hook.says (kHook E35.early.heap_1 E35.as E35.Ey)) E35.left (Hook.of E35.hk) (Hook.keeps E35.hk) (fun s e => xl_of s (Bool.and_eq_true_iff.mp e).1)
  XL.keeps rfl rfl rfl (fun s e => recFacts_of (Bool.and_eq_true_iff.mp e).2) rfl (by assumption)
  (by decide +kernel) ⟨rfl, rfl, rfl, rfl, rfl, by decide +kernel⟩ ?hw ?hc
 (case hw => w_witness2)
 k_fill
 refine G35.walk (l := PySem.Challenge.rw_dueworth_k35_whole_endless_or_not) rfl rfl (fun w h Y => PySem.W.kIn_of Y) ?F
 case F =>
  intro w mg fa h KX G hmg
  refine' G35.AK KX G hmg ?GV ?Gr ?Hy ?Hc ?Hz ?GE ?Gs ?Gu ?FS ?F3 ?Ga ?GF ?Fw ?FV ?FC ?FM ?FD ?FE ?Gb ?Fi ?Gv ?GG ?HB ?GH ?Gi ?Gj ?Gw ?Gk ?Gm ?Fx ?Fo ?Gx ?FW ?FN ?FF ?Fy ?Fr ?FG ?Gc ?Gn ?Gd ?GI ?FX ?Fn ?Iw ?Jl
  (case GV => walk_at "k")
  (case Gr => walk_at "k")
  (case Hy => walk_at "k")
  (case Hc => walk_at "k")
  (case Hz => walk_at "k")
  (case GE => walk_at "k")
  (case Gs => walk_at "k")
  (case Gu => walk_at "k")
  (case FS => walk_at "k")
  (case F3 => walk_at "k")
  (case Ga => walk_at "k")
  (case GF => walk_at "k")
  (case Fw => walk_at "m")
  (case FV => walk_at "m")
  (case FC => walk_at "m")
  (case FM => walk_at "m")
  (case FD => walk_at "m")
  (case FE => walk_at "m")
  (case Gb => walk_at "k")
  (case Fi => walk_at "k")
  (case Gv => walk_at "k")
  (case GG => walk_at "k")
  (case HB => walk_at "k")
  (case GH => walk_at "k")
  (case Gi => walk_at "k")
  (case Gj => walk_at "k")
  (case Gw => walk_at "k")
  (case Gk => walk_at "k")
  (case Gm => walk_at "k")
  (case Fx => walk_at "k")
  (case Fo => walk_at "k")
  (case Gx => walk_at "k")
  (case FW => walk_at "k")
  (case FN => walk_at "k")
  (case FF => walk_at "k")
  (case Fy => walk_at "k")
  (case Fr => walk_at "k")
  (case FG => walk_at "k")
  (case Gc => walk_at "k")
  (case Gn => walk_at "k")
  (case Gd => walk_at "k")
  (case GI => walk_at "k")
  (case FX => walk_at "k")
  (case Fn => walk_at "c")
  (case Iw => kernel_rfl)
  (case Jl => walk_at "k")
#print axioms PySem.Challenge.cw_dueworth_k35_whole_endless_or_not_holds
