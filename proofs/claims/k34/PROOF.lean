import PyProof.Rows.All
import Wide.All
import OpenK.AllK
import Wide.FinOn
import Lean
import PyProof.EqAt
import PyProof.EqKinds
import PyProof.TupleCall
import PySem.Challenge.RW_dueworth_k34_columns_weighed
import Open.Tree
import Open.Head
section
set_option Elab.async false
set_option linter.all false
set_option maxRecDepth 100000
set_option maxHeartbeats 0
namespace ET
open PySem PySem.W PyProof.Rows
def gZ(tb:String→Option Builtin)(p:Program)(w:World)(n₀:Nat)(ann:Option Value):Nat→SharedT→Thread→Option SharedT
 |0,_,_=>none
 |n+1,s,t=>match through t with
  |true=>some s
  |false=>match stepOk n₀ ann t with
   |false=>none
   |true=>match stepT (denote tb) p w s t with
    |some x=>gZ tb p w n₀ ann n x.1 x.2
    |none=>none
theorem kA{tb:String→Option Builtin}{p:Program}{w:World}{n₀:Nat}{ann:Option Value}:∀{n:Nat} {s s':SharedT} {t:Thread},gZ tb p w n₀ ann n s t=some s'→topRun tb p w n₀ ann n s.abs t=some s'.abs
 |0,_,_,_,h=>by cases h
 |n+1,s,s',t,h=>by
  unfold gZ at h
  unfold topRun
  cases he:through t with
  |true=>rw[he]at h;cases h;rfl
  |false=>
   rw[he]at h
   cases hk:stepOk n₀ ann t with
   |false=>rw[hk]at h;cases h
   |true=>
    rw[hk]at h
    cases hs:stepT (denote tb) p w s t with
    |none=>rw[hs]at h;cases h
    |some r=>rw[hs]at h;rw[stepT_spec hs];exact kA h
def zu:List Obj→BT→Nat→Option (BT×Nat)
 |[],t,n=>some (t,n)
 |o::os,t,n=>match ((t.ins n o).get n).isSome with
  |true=>zu os (t.ins n o) (n+1)
  |false=>none
theorem oS{life:Life}:∀{os:List Obj} {t t':BT} {n n':Nat},zu os t n=some (t',n')→absHeap t' n' life=⟨(absHeap t n life).objs++os.toArray,life⟩
 |[],t,t',n,n',h=>by cases h;simp[absHeap]
 |o::os,t,t',n,n',h=>by
  unfold zu at h
  cases g:((t.ins n o).get n).isSome with
  |false=>rw[g]at h;cases h
  |true=>
   rw[g]at h
   rw[oS h,absHeap_ins g]
   simp[Heap.push]
def g6(tb:String→Option Builtin)(p:Program)(w:World)(N:Nat)(s₀:Shared):Option Shared:=
 match s₀.heap.isNs mainGlobals&&s₀.gens.size == 0 with
 |true=>match zu s₀.heap.objs.toList .nil 0 with
  |some x=>match gZ tb p w x.2 (s₀.heap.nsMap mainGlobals "__annotations__") N ⟨x.1,x.2,s₀.heap.life,s₀.gens,s₀.drawn,s₀.toks,s₀.os⟩ (topStub p)with
   |some s=>match staticsOk (importedModules p.main.body) s₀.heap s.abs.heap&&namesBound p s.abs.heap&&gensDone s.abs&&laidKept s₀.heap s.abs.heap with
    |true=>some s.abs
    |false=>none
   |none=>none
  |none=>none
 |false=>none
theorem nC{tb:String→Option Builtin}{p:Program}{w:World}{N:Nat}{s₀ s:Shared}(h:g6 tb p w N s₀=some s):topFrom tb p w N s₀=some s:=by
 unfold g6 at h
 unfold topFrom
 cases h1:s₀.heap.isNs mainGlobals&&s₀.gens.size == 0 with
 |false=>rw[h1]at h;cases h
 |true=>
  rw[h1]at h
  dsimp only at h ⊢
  cases h2:zu s₀.heap.objs.toList .nil 0 with
  |none=>rw[h2]at h;cases h
  |some x=>
   rw[h2]at h
   dsimp only at h
   have e:=oS (life:=s₀.heap.life) h2
   have e':absHeap x.1 x.2 s₀.heap.life=s₀.heap:=by
    rw[e]
    simp[absHeap,BT.list]
   have n':x.2=s₀.heap.objs.size:=by rw[←e',absHeap_size]
   cases h3:gZ tb p w x.2 (s₀.heap.nsMap mainGlobals "__annotations__") N ⟨x.1,x.2,s₀.heap.life,s₀.gens,s₀.drawn,s₀.toks,s₀.os⟩ (topStub p)with
   |none=>rw[h3]at h;cases h
   |some r=>
    rw[h3]at h
    dsimp only at h
    have ea:SharedT.abs ⟨x.1,x.2,s₀.heap.life,s₀.gens,s₀.drawn,s₀.toks,s₀.os⟩=s₀:=by
     unfold SharedT.abs
     rw[e']
    have:=kA h3
    rw[ea,n']at this
    rw[this]
    exact h
theorem nE{tb:String→Option Builtin}{p:Program}{w:World}{N:Nat}{s₀:Shared}{α:Type}{f:Shared→α}{a:α}(h:Option.map f (g6 tb p w N s₀)=some a):Option.map f (topFrom tb p w N s₀)=some a:=by
 obtain⟨s,h1,h2⟩:=Option.map_eq_some_iff.mp h
 rw[nC h1]
 exact congrArg some h2
def seenT(p q:Program)(loose:List Str)(Xt:Shared→Bool){α:Type}(Yf:Shared→α)(N:Nat)(u u':World):=
 Option.map (fun c=>Option.map (fun s=>(openSeen q loose (importedModules p.main.body) Xt true s,Yf s)) (g6 treeTable p u' N c)) (fencedOpening treeTable p u N)
lay_quick seenT
theorem uI{p q:Program}{loose:List Str}{Xt:Shared→Bool}{α:Type}{Yf:Shared→α}{N:Nat}{u u':World}{r}(h:PySem.W.Fast.tw2787559817927863336 p q loose Xt Yf N u u'=r):seenT p q loose Xt Yf N u u'=r:=by
 rw[PySem.W.Fast.te2787559817927863336]
 exact h
theorem uJ{p q:Program}{loose:List Str}{Xt:Shared→Bool}{α:Type}{Yf:Shared→α}{Ya:World→α}{N:Nat}
  (h:∀u:World,seenT p q loose Xt Yf N u u=some (some (openGood q loose,Ya u))):LeftO p q loose Xt Yf Ya N:=fun u=>by
 obtain⟨c,a,b⟩:=Option.map_eq_some_iff.mp (h u)
 unfold openEnds
 rw[a]
 exact nE b
theorem zv{p q:Program}{loose:List Str}{Xt:Shared→Bool}{α:Type}{Yf:Shared→α}{Ya:World→α}{N:Nat}(row:String)
  (h0:∀u:World,seenT p q loose Xt Yf N u (u.withFollow row false)=some (some (openGood q loose,Ya (u.withFollow row false))))
  (h1:∀u:World,seenT p q loose Xt Yf N u (u.withFollow row true)=some (some (openGood q loose,Ya (u.withFollow row true)))):LeftO p q loose Xt Yf Ya N:=fun u=>by
 obtain⟨c,a,b⟩:=Option.map_eq_some_iff.mp (h0 u)
 obtain⟨c',a',b'⟩:=Option.map_eq_some_iff.mp (h1 u)
 have hc:c'=c:=by rw[a]at a';cases a';rfl
 subst hc
 have b:=nE b
 have b':=nE b'
 have hu:=World.withFollow_self u row
 unfold openEnds
 rw[a]
 cases hb:u.params.followText row<;>rw[hb]at hu
 ·rw[hu]at b
  exact b
 ·rw[hu]at b'
  exact b'
end ET
namespace E34
open PySem PySem.W PyProof.Rows
abbrev tp(i:Nat):Stmt:=PySem.Challenge.pw_dueworth_k34_columns_weighed.main.body.getD i (.Pass ⟨0,0,0,0⟩)
/-- the text without what says nothing -/
def vw:Program:={ PySem.Challenge.pw_dueworth_k34_columns_weighed with main:={ PySem.Challenge.pw_dueworth_k34_columns_weighed.main with body:=[tp 1,tp 2,tp 3,tp 4,tp 5,tp 6,tp 7,tp 8,tp 10,tp 11,tp 12,tp 13,tp 14,tp 15,tp 16,tp 17,tp 18,tp 19,tp 20,tp 22,tp 23,tp 24,tp 25,tp 26,tp 27,tp 28,tp 29,tp 30,tp 31,tp 32,tp 33,tp 34,tp 35,tp 36,tp 37,tp 38,tp 39,tp 40] } }
abbrev rr:RowW:=OpenRow.toRowW (OpenLaw.row PySem.Challenge.rw_dueworth_k34_columns_weighed)
local macro_rules | `(tactic| o_head $H)=>`(tactic|
 refine holds_open (q:=vw) (loose:=[]) (Xt:=fun s=>(xlAt vw [] s&&recOk (RowW.records rr) s)) (XP:=XL vw []) (N:=3130)
  (Yf:=Hook.obs $H) (Ya:=Hook.val $H) (YP:=Hook.says $H) ?hl (Hook.of $H) (Hook.keeps $H) (fun s e=>xl_of s (Bool.and_eq_true_iff.mp e).1)
  XL.keeps rfl rfl rfl (fun s e=>recFacts_of (Bool.and_eq_true_iff.mp e).2) rfl (by assumption)
  (by decide +kernel) ⟨rfl,rfl,rfl,rfl,rfl,by decide +kernel⟩ ?hw ?hc)
/-- the law is well said: by the quick twin of the look,with no twin of the program -/
theorem said:OpenLaw.wellSaid PySem.Challenge.rw_dueworth_k34_columns_weighed=true:=(congrFun PySem.W.Fast.te9446332074065402090 _).trans (by kernel_rfl)
/-- says nothing; what lies in the heap is written down by the way -/
theorem early(h:∀P:Prop,P):PySem.Challenge.rw_dueworth_k34_columns_weighed.Holds:=by
 w_on;refine holds_law said fun said=>?_;k_head
 all_goals exact h _
abbrev as:List Addr:=[2,3,15,17,18,20,21,22,24,25,27,28,29,31,32,34,35,36,38,39,41,42,43,45,46,48,49,50,52,53,55,56,57,59,60,62,63,64,67,68,69,71,72,74,75,76,79,80,81,84,85,86,89,90,98,100,101,103,104,105,108,109,110,112,113,115,116,117,119,120,122,123,124,126,127,129,130,131,133,134,136,137,138,139,140,141,142,145,148,149,150,153,154,155,158,159,160,162,163,165,166,167,170,171,172,174,175,177,178,179,182,183,184,186,187,189,190,191,193,194,196,197,198,200,201,203,204,205,207,208,210,211,212,215,216,217,219,220,222,223,224,227,228,229,232,233,234,237,238,239,241,242,244,245,246,248,249,251,252,253,256,257,258,261,262,263,265,266,268,269,270,273,274,275,277,278,280,281,282,284,285,287,288,289,292,293]
theorem Cv(P:Params):as=(early.heap_1 P).map (·.1):=by kernel_rfl
noncomputable abbrev hk:Hook:=kHook early.heap_1 as Cv
theorem zw(u:World):ET.seenT (OpenLaw.row PySem.Challenge.rw_dueworth_k34_columns_weighed).prog vw [] (fun s=>(xlAt vw [] s&&recOk (RowW.records rr) s)) (Hook.obs hk) 3130 u u=some (some (openGood vw [],Hook.val hk u)):=ET.uI (by kernel_rfl)
theorem left:LeftO (OpenLaw.row PySem.Challenge.rw_dueworth_k34_columns_weighed).prog vw [] (fun s=>(xlAt vw [] s&&recOk (RowW.records rr) s)) (Hook.obs hk) (Hook.val hk) 3130:=ET.uJ zw
end E34
end
open PySem in
abbrev Vq:=Value->Shared->Prop
open PySem in
abbrev Va:=List (Addr×Obj)
open PySem in
abbrev Vo:=PySem.W.Frag
open PySem in
abbrev Vr:=Str->Option Value
open PySem in
abbrev Vs:=List Str
open PySem in
abbrev Vu:=List Int
open PySem in
abbrev Vv:=List Value
open PySem in
abbrev Vw:=Array Value
set_option Elab.async false
set_option linter.all false
set_option maxRecDepth 100000
namespace L2
open PySem PySem.Spec PyProof.Rows
abbrev b8:=Sum Int Str
noncomputable def kB:b8->Value->Bool
 | .inl k,v=>Value.isInt k v
 | .inr x,v=>Value.isStrOf x v
noncomputable def Bm(w:World):b8->Int
 | .inl k=>hashInt k
 | .inr x=>hashStr w x
theorem bj:∀{k:b8} {v:Value},kB k v=true->(∃i t,k=Sum.inl i/\v=Value.int i t)\/(∃x t,k=Sum.inr x/\v=Value.str x t)
 | .inl i,v,h=>by
  obtain⟨t,e⟩:=Value.isInt_shape (k:=i) (v:=v) h
  exact .inl ⟨i,t,rfl,e⟩
 | .inr x,v,h=>by
  obtain⟨t,e⟩:=Value.isStrOf_shape (x:=x) (v:=v) h
  exact .inr ⟨x,t,rfl,e⟩
def qe(i:Int)(t:Tok):kB (.inl i) (.int i t)=true:=by simp[kB,Value.isInt]
def qf(x:Str)(t:Tok):kB (.inr x) (.str x t)=true:=by simp[kB,Value.isStrOf]
def w4(a b:Int):decide ((Sum.inl a:b8)=Sum.inl b)=(a == b):=by
 by_cases e:a=b
 ·subst e;simp
 ·have h:¬(Sum.inl a:b8)=Sum.inl b:=fun q=>e (Sum.inl.inj q)
  rw[decide_eq_false h]
  exact(beq_eq_false_iff_ne.mpr e).symm
def w5(a b:Str):decide ((Sum.inr a:b8)=Sum.inr b)=decide (a=b):=by
 by_cases e:a=b
 ·subst e;simp
 ·have h:¬(Sum.inr a:b8)=Sum.inr b:=fun q=>e (Sum.inr.inj q)
  rw[decide_eq_false h,decide_eq_false e]
def w9(a:Int)(b:Str):decide ((Sum.inl a:b8)=Sum.inr b)=false:=decide_eq_false (fun q=>nomatch q)
def w_(a:Str)(b:Int):decide ((Sum.inr a:b8)=Sum.inl b)=false:=decide_eq_false (fun q=>nomatch q)
noncomputable def bC(prog:Program)(w:World):PySem.KeyKind prog w b8 where
 is:=kB
 hash:=Bm w
 inj:=fun v a b ha hb=>by
  rcases bj ha with⟨i,t,rfl,rfl⟩|⟨x,t,rfl,rfl⟩
  ·rcases bj hb with⟨j,u,rfl,e⟩|⟨y,u,rfl,e⟩
   ·injection e with e1 _;rw[e1]
   ·exact nomatch e
  ·rcases bj hb with⟨j,u,rfl,e⟩|⟨y,u,rfl,e⟩
   ·exact nomatch e
   ·injection e with e1 _;rw[e1]
 byValue:=fun k v h=>by
  rcases bj h with⟨i,t,rfl,rfl⟩|⟨x,t,rfl,rfl⟩<;>rfl
 pyHash:=fun hv h=>by
  rcases bj hv with⟨i,t,rfl,rfl⟩|⟨x,t,rfl,rfl⟩
  ·exact wpAny_pyHash_int h
  ·exact wpAny_pyHash_str h
 eqBool:=fun hu hv h=>by
  rcases bj hu with⟨i,t,rfl,rfl⟩|⟨x,t,rfl,rfl⟩
  ·rcases bj hv with⟨j,u,rfl,rfl⟩|⟨y,u,rfl,rfl⟩
   ·rw[w4]at h;exact wpAny_eqBool_int h
   ·rw[w9]at h;exact SeqAt.EqAt.int_str i t y u _ _ _ _ h
  ·rcases bj hv with⟨j,u,rfl,rfl⟩|⟨y,u,rfl,rfl⟩
   ·rw[w_]at h;exact SeqAt.EqAt.str_int x t j u _ _ _ _ h
   ·rw[w5]at h;exact wpAny_eqBool_str h
 «strs»:=fun k x t v h=>by
  rcases bj h with⟨i,u,rfl,e⟩|⟨y,u,rfl,e⟩
  ·exact nomatch e
  ·injection e with e1 _
   subst e1
   cases v<;>rfl
def mq(prog:Program)(w:World)(i:Int)(t:Tok):(bC prog w).is (.inl i) (.int i t)=true:=qe i t
def mv(prog:Program)(w:World)(x:Str)(t:Tok):(bC prog w).is (.inr x) (.str x t)=true:=qf x t
inductive V where
 |non|bl (b:Bool)|int (i:Int)|str (x:Str)|GJ (b:Array UInt8)|ID (b:UInt64)|ref (a:Addr)|ty (n:String)
 deriving DecidableEq
noncomputable def RelV:V->Value->Prop
 | .non,u=>u=Value.none
 | .bl b,u=>u=Value.bool b
 | .int i,u=>∃t,u=Value.int i t
 | .str x,u=>∃t,u=Value.str x t
 | .GJ b,u=>∃t,u=Value.bytes b t
 | .ID b,u=>∃t,u=Value.float b t
 | .ref a,u=>u=Value.ref a
 | .ty n,u=>u=Value.type n
noncomputable abbrev Vals:List V->List Value->Prop:=Paired RelV
theorem Vals.length{xs:List V}{us:Vv}(r:Vals xs us):xs.length=us.length:=Paired.length r
theorem Vals.get:∀{xs:List V} {us:Vv} {i:Nat} {x:V},Vals xs us->xs[i]?=some x->∃u,us[i]?=some u/\RelV x u
 |_,_,_,_,.nil,e=>by simp at e
 |_,_,0,_,.cons r _,e=>by simp at e;subst e;exact⟨_,rfl,r⟩
 |_,_,i+1,x,.cons _ t,e=>by
  obtain⟨u,h1,h2⟩:=Vals.get (i:=i) (x:=x) t (by simpa using e)
  exact⟨u,by simpa using h1,h2⟩
theorem Vals.set{x:V}{u:Value}(r:RelV x u):∀{xs:List V} {us:Vv} (i:Nat),Vals xs us->Vals (xs.set i x) (us.set i u)
 |_,_,_,.nil=>.nil
 |_,_,0,.cons _ t=>.cons r t
 |_,_,i+1,.cons q t=>.cons q (Vals.set r i t)
theorem Vals.append:∀{xs ys:List V} {us ws:Vv},Vals xs us->Vals ys ws->Vals (xs++ys) (us++ws)
 |_,_,_,_,.nil,s=>s
 |_,_,_,_,.cons r t,s=>.cons r (Vals.append t s)
theorem Vals.take:∀{xs:List V} {us:Vv} (n:Nat),Vals xs us->Vals (xs.take n) (us.take n)
 |_,_,0,_=>.nil
 |_,_,_+1,.nil=>.nil
 |_,_,n+1,.cons r t=>.cons r (Vals.take n t)
theorem Vals.drop:∀{xs:List V} {us:Vv} (n:Nat),Vals xs us->Vals (xs.drop n) (us.drop n)
 |_,_,0,r=>r
 |_,_,_+1,.nil=>.nil
 |_,_,n+1,.cons _ t=>Vals.drop n t
noncomputable def RelO:Option V->Option Value->Prop
 |some v,some u=>RelV v u
 |none,none=>True
 |_,_=>False
noncomputable def KV{κ:Type}:List (κ×V)->List (κ×Value)->Prop:=Paired fun(p:κ×V) (q:κ×Value)=>p.1=q.1/\RelV p.2 q.2
noncomputable def kV:b8->V
 | .inl i=>.int i
 | .inr x=>.str x
inductive HO where
 /-- a list -/
 |lst (xs:List V)
 /-- a tuple (never changes) -/
 |tup (xs:List V)
 /-- a dict whose keys are ints and texts; one whose keys are tuples of ints and texts (the empty one is both) -/
 |dK (kvs:List (b8×V))|dT (kvs:List (List b8×V))
 /-- a set of ints: its members,its size -/
 |set (S:Int->Bool) (n:Nat)
 /-- an instance of the class at C,its dict at dx,its attributes -/
 |ins (C dx:Addr) (fs:List (Str×V))
 /-- the dict of the instance at x -/
 |own (x:Addr)
 /-- the dict of an exception -/
 |xd (fs:List (Str×V))
 /-- a bound method,f of x -/
 |met (f x:Addr)
 /-- a range object lo,lo + 1,.. below hi -/
 |Jb (lo hi:Int)
 /-- a thing that is known to the object (the script; a dict while a loop walks it): read,never written while it is so -/
 |frz (o:Obj) (u:HO)
 /-- a code object's table -/
 |Ho (ps:Vw)
 /-- any other thing,by what is true of its one object (a def of JY own: KD a S n:=HO.ext fun h=>..) -/
 |ext (φ:Heap->Prop)
abbrev Hp:=Addr->Option HO
noncomputable def upd(H:Hp)(a:Addr)(o:HO):Hp:=fun b=>if b=a then some o else H b
def ay{H:Hp}{a:Addr}{o:HO}:upd H a o a=some o:=by unfold upd;rw[if_pos rfl]
def az{H:Hp}{a b:Addr}{o:HO}(h:b≠a):upd H a o b=H b:=by unfold upd;rw[if_neg h]
def zx{H:Hp}{a b:Addr}{o u:HO}(h:H a=some o)(h':H b=some u)(d:o≠u):a≠b:=by
 intro e;subst e;rw[h]at h';exact d (Option.some.inj h')
def bd{H:Hp}{a b:Addr}{o:HO}(h:H a=some o)(h':H b=none):a≠b:=by
 intro e;subst e;rw[h]at h';cases h'
def Ea(h:Heap)(a:Addr)(its:Vw):Prop:=∃o,h.get? a=some o/\o.dict=none/\o.cls = .type "tuple"/\∃n,o.data = .seq its n
def Ea.tup{h:Heap}{a:Addr}{its:Vw}(x:Ea h a its):IsTup h a its:=let ⟨o,e,_,c,d⟩:=x;⟨o,e,c,d⟩
def Ea.new(h:Heap)(its:Vw):Ea (h.push { cls:=.type "tuple",data:=.seq its }) h.objs.size its:=⟨_,Heap.get?_push_size _ rfl,rfl,rfl,_,rfl⟩
section
variable (P:Program) (w:World)
noncomputable def ObjOk(H:Hp)(h:Heap)(a:Addr):HO->Prop
 | .lst xs=>xs.length<=sizeLine/\∃(its:Vv) (n:Nat),Vals xs its/\h.get? a=some { cls:=.type "list",data:=.seq its.toArray n }
 | .tup xs=>xs.length<=sizeLine/\∃its:List Value,Vals xs its/\Ea h a its.toArray
 | .dK kvs=>kvs.length<=sizeLine/\(a == sysModules)=false/\∃vs,KV kvs vs/\h.DictOf (bC P w) a vs
 | .dT kvs=>kvs.length<=sizeLine/\(a == sysModules)=false/\∃xs:List (List b8×Addr×Value),
   Paired (fun(p:List b8×V) (q:List b8×Addr×Value)=>p.1=q.1/\H q.2.1=some (.tup (p.1.map kV))/\RelV p.2 q.2.2) kvs xs/\
   ∃o es ep,h.get? a=some o/\o.ExactDict/\o.data = .dict es ep/\es.toList=xs.map (entryOfKey (tupleKind (bC P w)))/\(xs.map (·.1)).Nodup
 | .set S n=>h.SetOf (intKind P w) a S n
 | .ins C dx fs=>H dx=some (.own a)/\fs.length<=1000/\dx≠a/\h.get? a=some (PySem.W.instObj C dx)/\
   ∃mA,h.Ns1 dx mA/\(∀f,RelO (fs.lookup f) (mA f))/\PySem.Within mA (fs.map (·.1))
 | .own _=>∃o,h.get? a=some o
 | .xd fs=>∃mA,h.Ns1 a mA/\∀f,RelO (fs.lookup f) (mA f)
 | .Jb lo hi=>∃t u v,h.get? a=some { cls:=.type "range",data:=.fields #[.int lo t,.int hi u,.int 1 v] }
 | .frz o u=>h.get? a=some o/\ObjOk H h a u
 | .Ho ps=>h.get? a=some { cls:=.none,data:=.fields ps }
 | .met f x=>h.get? a=some (PySem.W.methodObj (.ref f) (.ref x))
 | .ext φ=>φ h/\(∃o,h.get? a=some o)/\∀h1 h2:Heap,φ h1->(∀o,h1.get? a=some o->h2.get? a=some o)->φ h2
def ES(H:Hp)(h:Heap):Prop:=∀a o,H a=some o->ObjOk P w H h a o
end
section
variable {P:Program} {w:World} {H H':Hp} {h h':Heap} {a:Addr} {o:HO}
theorem ObjOk.lt(x:ObjOk P w H h a o):a < h.objs.size:=by
 cases o with
 |lst xs=>obtain⟨_,_,_,_,e⟩:=x;exact Heap.lt_size e
 |tup xs=>obtain⟨_,_,_,p⟩:=x;exact p.tup.lt
 |dK kvs=>obtain⟨_,_,_,_,o,_,_,e,_⟩:=x;exact Heap.lt_size e
 |dT kvs=>obtain⟨_,_,_,_,o,_,_,e,_⟩:=x;exact Heap.lt_size e
 |set S n=>obtain⟨o,_,_,_,e,_⟩:=x;exact Heap.lt_size e
 |ins C dx fs=>obtain⟨_,_,_,e,_⟩:=x;exact Heap.lt_size e
 |own y=>obtain⟨_,e⟩:=x;exact Heap.lt_size e
 |xd fs=>obtain⟨_,⟨_,_,_,e,_⟩,_⟩:=x;exact Heap.lt_size e
 |Jb lo hi=>obtain⟨_,_,_,e⟩:=x;exact Heap.lt_size e
 |frz ob u=>obtain⟨e,_⟩:=x;exact Heap.lt_size e
 |Ho ps=>exact Heap.lt_size (show h.get? a=some _ from x)
 |met f y=>exact Heap.lt_size (show h.get? a=some _ from x)
 |ext φ=>obtain⟨_,⟨_,e⟩,_⟩:=x;exact Heap.lt_size e
theorem Paired.Hq{α β:Type}{F G:α->β->Prop}:∀{l₁:List α} {l₂:List β},Paired F l₁ l₂->(∀a b,F a b->G a b)->Paired G l₁ l₂
 |_,_,.nil,_=>.nil
 |_,_,.cons r t,f=>.cons (f _ _ r) (Paired.Hq t f)
def ObjOk.stay(x:ObjOk P w H h a o)(k:∀b u,(b=a\/H b=some (.own a))->h.get? b=some u->h'.get? b=some u)
  (ho:∀b,H b=some (.own a)->H' b=some (.own a)) (ht:∀b xs,H b=some (.tup xs)->H' b=some (.tup xs)):ObjOk P w H' h' a o:=by
 induction o with
 |lst xs=>obtain⟨z,its,n,r,e⟩:=x;exact⟨z,its,n,r,k _ _ (.inl rfl) e⟩
 |tup xs=>obtain⟨z,its,r,ob,e,c⟩:=x;exact⟨z,its,r,ob,k _ _ (.inl rfl) e,c⟩
 |dK kvs=>obtain⟨z,y,vs,r,ob,es,ep,e,c⟩:=x;exact⟨z,y,vs,r,ob,es,ep,k _ _ (.inl rfl) e,c⟩
 |dT kvs=>
  obtain⟨z,y,xs,r,ob,es,ep,e,c⟩:=x
  exact⟨z,y,xs,Paired.Hq r fun p q z=>⟨z.1,ht _ _ z.2.1,z.2.2⟩,ob,es,ep,k _ _ (.inl rfl) e,c⟩
 |set S n=>obtain⟨ob,es,ep,t,e,c⟩:=x;exact⟨ob,es,ep,t,k _ _ (.inl rfl) e,c⟩
 |ins C dx fs=>
  obtain⟨d,z,ne,e,mA,⟨od,es,ep,e2,c⟩,r⟩:=x
  exact⟨ho _ d,z,ne,k _ _ (.inl rfl) e,mA,⟨od,es,ep,k _ _ (.inr d) e2,c⟩,r⟩
 |own y=>obtain⟨ob,e⟩:=x;exact⟨ob,k _ _ (.inl rfl) e⟩
 |xd fs=>obtain⟨mA,⟨od,es,ep,e,c⟩,r⟩:=x;exact⟨mA,⟨od,es,ep,k _ _ (.inl rfl) e,c⟩,r⟩
 |Jb lo hi=>obtain⟨t,u,v,e⟩:=x;exact⟨t,u,v,k _ _ (.inl rfl) e⟩
 |frz ob u ih=>obtain⟨e,q⟩:=x;exact⟨k _ _ (.inl rfl) e,ih q⟩
 |Ho ps=>
  have e:h.get? a=some { cls:=.none,data:=.fields ps }:=x
  show h'.get? a=some { cls:=.none,data:=.fields ps }
  exact k a _ (.inl rfl) e
 |met f y=>
  have e:h.get? a=some (PySem.W.methodObj (.ref f) (.ref y)):=x
  show h'.get? a=some (PySem.W.methodObj (.ref f) (.ref y))
  exact k a _ (.inl rfl) e
 |ext φ=>obtain⟨p,⟨o,e⟩,st⟩:=x;exact⟨st _ _ p fun o q=>k _ _ (.inl rfl) q,⟨o,k _ _ (.inl rfl) e⟩,st⟩
theorem ES.lt(x:ES P w H h)(e:H a=some o):a < h.objs.size:=(x a o e).lt
def ES.fresh(x:ES P w H h)(e:h.objs.size<=a):H a=none:=by
 cases q:H a with
 |none=>rfl
 |some u=>exact absurd (Nat.lt_of_lt_of_le (x.lt q) e) (Nat.lt_irrefl _)
def ES.kept(x:ES P w H h)(k:∀b u,h.get? b=some u->h'.get? b=some u):ES P w H h':=fun a o e=>
 (x a o e).stay (fun b u _ q=>k b u q) (fun _ q=>q) fun _ _ q=>q
def ES.laid(x:ES P w H h)(k:∀b u,h.get? b=some u->h'.get? b=some u)(hp:h.objs.size<=a)(new:ObjOk P w (upd H a o) h' a o):ES P w (upd H a o) h':=fun b u e=>by
 have hn:=x.fresh hp
 by_cases hb:b=a
 ·subst hb;rw[ay]at e;cases e;exact new
 ·rw[az hb]at e
  exact(x b u e).stay (fun c v _ q=>k c v q) (fun c q=>by rw[az (bd q hn)];exact q) fun c xs q=>by rw[az (bd q hn)];exact q
end
def Rd(H:Hp)(a:Addr)(u:HO):Prop:=H a=some u\/∃o,H a=some (.frz o u)
def Rd.ok{P:Program}{w:World}{H:Hp}{h:Heap}{a:Addr}{u:HO}(r:Rd H a u)(x:ES P w H h):ObjOk P w H h a u:=by
 rcases r with r|⟨o,r⟩
 ·exact x a u r
 ·obtain⟨_,q⟩:=x a _ r
  exact q
noncomputable def zy:Option HO->Prop
 |some (.lst _)=>True
 |some (.dK _)=>True
 |some (.dT _)=>True
 |some (.set _ _)=>True
 |some (.ins _ _ _)=>True
 |some (.ext _)=>True
 |_=>False
section
variable {P:Program} {w:World} {H:Hp} {h h':Heap} {x e:Addr} {o':HO}
def ES.write(ok:ES P w H h)(mu:zy (H x))(he:e=x\/H e=some (.own x))(k:∀b u,b≠e->h.get? b=some u->h'.get? b=some u)(HK:∃u,h'.get? e=some u)
  (new:ObjOk P w (upd H x o') h' x o'):ES P w (upd H x o') h':=fun b u q=>by
 have HS:∀c y,H c=some (.own y)->c≠x:=fun c y r z=>by subst z;rw[r]at mu;exact mu
 have Jc:∀c xs,H c=some (.tup xs)->c≠x:=fun c xs r z=>by subst z;rw[r]at mu;exact mu
 by_cases hb:b=x
 ·subst hb;rw[ay]at q;cases q;exact new
 ·rw[az hb]at q
  by_cases Hr:b=e
  ·have q':H b=some (.own x):=by
    rcases he with z|z
    ·exact absurd (Hr.trans z) hb
    ·rw[Hr];exact z
   rw[q]at q';cases q'
   obtain⟨v,hv⟩:=HK
   exact⟨v,by rw[Hr];exact hv⟩
  ·refine(ok b u q).stay (fun c v hc r=>k c v ?_ r) (fun c r=>by rw[az (HS c b r)];exact r) fun c xs r=>by rw[az (Jc c xs r)];exact r
   rcases hc with rfl|hc
   ·exact Hr
   ·rintro rfl
    rcases he with z|z
    ·exact HS c b hc z
    ·rw[hc]at z;cases z;exact hb rfl
end
structure Un (fs ex:List Addr) (H H':Hp) (h h':Heap):Prop where
 keep:∀b o,h.get? b=some o->H b=none->b ∉ fs->b ∉ ex->h'.get? b=some o
 slot:∀b o,h.get? b=some o->H b=none->b∈fs->b ∉ ex->∃sl,h'.get? b=some { o with slots:=sl }
 free:∀b o,h.get? b=some o->H b=none->b ∉ ex->H' b=none
 there:∀b o,h.get? b=some o->b ∉ ex->∃o',h'.get? b=some o'
 tups:∀b xs,H b=some (.tup xs)->H' b=some (.tup xs)
 FN:∀b o u,H b=some (.frz o u)->H' b=some (.frz o u)
 F5:∀b ps,H b=some (.Ho ps)->∃more,H' b=some (.Ho (ps++more))
section
variable {fs fs' ex ex':List Addr} {H H1 H2:Hp} {h h1 h2 h':Heap} {a x e:Addr} {o:HO}
def Un.any(u:Un fs ex H H1 h h1){b:Addr}{ob:Obj}(q:h.get? b=some ob)(n:H b=none)(hx:b ∉ ex):∃sl,h1.get? b=some { ob with slots:=sl }:=by
 by_cases hb:b∈fs
 ·exact u.slot b ob q n hb hx
 ·exact⟨ob.slots,u.keep b ob q n hb hx⟩
def Un.kept(k:∀b u,h.get? b=some u->h'.get? b=some u):Un fs ex H H h h':=
 ⟨fun b ob q _ _ _=>k b ob q,fun b ob q _ _ _=>⟨ob.slots,k b ob q⟩,fun _ _ _ n _=>n,fun b ob q _=>⟨ob,k b ob q⟩,fun _ _ q=>q,fun _ _ _ q=>q,fun _ ps q=>⟨#[],by rw[q];simp⟩⟩
def Un.refl:Un fs ex H H h h:=Un.kept fun _ _ q=>q
def Un.laid(k:∀b u,h.get? b=some u->h'.get? b=some u)(hp:h.objs.size<=a)(hn:H a=none):Un fs ex H (upd H a o) h h' where
 keep:=fun b u q _ _ _=>k b u q
 slot:=fun b u q _ _ _=>⟨u.slots,k b u q⟩
 free:=fun b u q n _=>by rw[az (Nat.ne_of_lt (Nat.lt_of_lt_of_le (Heap.lt_size q) hp))];exact n
 there:=fun b u q _=>⟨u,k b u q⟩
 tups:=fun b xs q=>by rw[az (bd q hn)];exact q
 FN:=fun b u xs q=>by rw[az (bd q hn)];exact q
 F5:=fun b ps q=>⟨#[],by rw[az (bd q hn),q];simp⟩
def Un.write(mu:zy (H x))(he:e=x\/H e=some (.own x))(k:∀b u,b≠e->h.get? b=some u->h'.get? b=some u)(HK:∃u,h'.get? e=some u):Un fs ex H (upd H x o) h h':=by
 have hx:∀b,H b=none->b≠x:=fun b n z=>by subst z;rw[n]at mu;exact mu
 have hb:∀b,H b=none->b≠e:=fun b n z=>by
  subst z
  rcases he with r|r
  ·exact hx b n r
  ·rw[n]at r;cases r
 have hm:∀b u,H b=some u->¬zy (some u)->b≠x:=fun b u q nm z=>by subst z;rw[q]at mu;exact nm mu
 refine⟨fun b u q n _ _=>k b u (hb b n) q,fun b u q n _ _=>⟨u.slots,k b u (hb b n) q⟩,fun b u q n _=>by rw[az (hx b n)];exact n,fun b u q _=>?_,
  fun b xs q=>by rw[az (hm b _ q fun z=>z)];exact q,fun b u xs q=>by rw[az (hm b _ q fun z=>z)];exact q,fun b ps q=>⟨#[],by rw[az (hm b _ q fun z=>z),q];simp⟩⟩
 by_cases Hr:b=e
 ·subst Hr;exact HK
 ·exact⟨u,k b u Hr q⟩
end
noncomputable def A7(h:Heap)(H:Hp):List Addr:=(List.range h.objs.size).filter fun a=>(H a).isSome
noncomputable def lg(h:Heap)(H:Hp):Heap:=PySem.W.hideAll h (A7 h H)
def qg(h:Heap)(H:Hp):(lg h H).objs.size=h.objs.size:=PySem.W.hideAll_size _ _
def rF{h:Heap}{H:Hp}{b:Addr}{o:Obj}(e:h.get? b=some o)(n:H b=none):(lg h H).get? b=some o:=
 PySem.W.hideAll_get _ e fun hm=>by
  have q:(H b).isSome=true:=(List.mem_filter.mp hm).2
  rw[n]at q;simp at q
def uK{h:Heap}{H:Hp}{b:Addr}{o:Obj}(e:(lg h H).get? b=some o):h.get? b=some o/\H b=none:=by
 have e':h.get? b=some o:=PySem.W.of_hideAll (A7 h H) e
 refine⟨e',?_⟩
 cases q:H b with
 |none=>rfl
 |some x=>
  have hm:b∈A7 h H:=List.mem_filter.mpr ⟨List.mem_range.mpr (Heap.lt_size e'),by simp[q]⟩
  have z:(lg h H).get? b=none:=PySem.W.hideAll_none (A7 h H) hm
  rw[z]at e;cases e
structure Mod (K:Vo) (mg:Vr) (base:Heap):Prop where
 HU:K.In base
 glob:base.Ns mainGlobals mg
 blt:∃mb,base.Ns builtinsNs mb/\∀x:Str,x ≠ "__name__"->mb x=bootBuiltins x
 nolimit:base.NoLimit
structure Cx where
 prog:Program
 w:World
 K:Vo
 mg:Vr
 base:Heap
 A:Around
 N:List Str
 s₀:Shared
 H₀:Hp
 env:Env
 outer:List Env
 stack:List Env
 ex:List Addr
 fn:Str->Bool
 calm:Bool
 pn:Va
 xe:Value->Shared->Prop
noncomputable def frs(l:List Env):List Addr:=l.filterMap (·.frame)
noncomputable abbrev Cx.fs(X:Cx):List Addr:=frs X.outer
def A8(sc:Scope)(x:Str):Prop:=sc.names.lookup x=some .local\/sc.names.lookup x=some .cell\/sc.names.lookup x=some .free
def wo(sc:Scope)(x:Str):Prop:=sc.names.lookup x=some .local\/sc.names.lookup x=some .cell
def Bn(env:Env)(h:Heap)(m:Vr)(x:Str)(u:Value):Prop:=
 (env.kindOf x=some .local/\m x=some u)\/((env.kindOf x=some .cell\/env.kindOf x=some .free)/\∃c,env.cells.lookup x=some c/\h.IsCell c (some u))
structure Cx.Ok (X:Cx):Prop where
 mod:Mod X.K X.mg X.base
 kind:X.env.scope.kind = .function
 glob:X.env.globals=mainGlobals
 blt:X.env.builtins=builtinsNs
 above:X.s₀.heap.objs.size<=X.env.locals
 inj:∀x y c,X.env.cells.lookup x=some c->X.env.cells.lookup y=some c->x=y
 has:∀x,(X.env.kindOf x=some .cell\/X.env.kindOf x=some .free)->∃c,X.env.cells.lookup x=some c
 HL:∀x c,X.fn x=true->X.env.cells.lookup x=some c->X.s₀.heap.objs.size<=c
 hd:X.calm=true->X.A.handled=none
 frames:X.A.frames=some X.stack
 stk:X.stack=X.outer\/(X.stack=X.env::X.outer/\X.env.frame=some X.env.locals)
 Jd:∀b∈X.ex,b≠X.env.locals/\∀x c,X.env.cells.lookup x=some c->c≠b
 bs:∀b o,X.base.get? b=some o->X.s₀.heap.get? b=some o/\X.H₀ b=none
 GX:X.base.objs.size<=X.s₀.heap.objs.size
 GA:∀b o,X.base.get? b=some o->b ∉ X.ex
 GM:∀b∈X.ex,b ∉ X.fs
 Fd:X.s₀.heap.FunFrames X.base X.outer
 Hd:∀b∈X.fs,X.H₀ b=none
structure Inv (X:Cx) (pins:Va) (σ:List (Option V)) (H:Hp) (s:Shared):Prop where
 ok:X.Ok
 os:s.os=X.s₀.os
 bare:AllBare s.gens
 base:Un X.fs X.ex X.H₀ H X.s₀.heap s.heap
 loc:∃m,s.heap.Ns X.env.locals m/\∀(i:Nat) (x:Str) (v:V),X.N[i]?=some x->σ[i]?=some (some v)->A8 X.env.scope x->∃u,RelV v u/\Bn X.env s.heap m x u
 cell:∀x c,X.env.cells.lookup x=some c->∃v,s.heap.IsCell c v
 free:H X.env.locals=none
 ED:∀x c,X.env.cells.lookup x=some c->H c=none
 pin:∀p∈X.pn++pins,s.heap.get? p.1=some p.2/\H p.1=none/\p.1≠X.env.locals/\p.1 ∉ X.fs/\∀v,p.2.data ≠ .cell v
 hok:ES X.prog X.w H s.heap
 len:σ.length=X.N.length
section
variable {X:Cx} {pins:Va} {σ:List (Option V)} {H H':Hp} {s:Shared} {h':Heap}
def Cx.Ok.Je(ok:X.Ok){b:Addr}{o:Obj}(e:X.base.get? b=some o):b ∉ X.fs:=fun hb=>by
 have:=(ok.Fd.mem hb).1
 rw[e]at this;cases this
theorem Inv.bs(I:Inv X pins σ H s):∀b o,X.base.get? b=some o->s.heap.get? b=some o/\H b=none:=fun b o e=>
 ⟨I.base.keep b o (I.ok.bs b o e).1 (I.ok.bs b o e).2 (I.ok.Je e) (I.ok.GA b o e),I.base.free b o (I.ok.bs b o e).1 (I.ok.bs b o e).2 (I.ok.GA b o e)⟩
def Inv.bk(I:Inv X pins σ H s):∀b o,X.base.get? b=some o->s.heap.get? b=some o:=fun b o e=>(I.bs b o e).1
theorem Inv.mod(I:Inv X pins σ H s):Mod X.K X.mg X.base:=I.ok.mod
def Inv.Gd(I:Inv X pins σ H s):X.K.In s.heap:=I.ok.mod.HU.keeps I.bk
theorem Inv.lt(I:Inv X pins σ H s):X.env.locals < s.heap.objs.size:=let ⟨_,hn,_⟩:=I.loc;hn.lt
def Inv.sz(I:Inv X pins σ H s):X.s₀.heap.objs.size<=s.heap.objs.size:=Nat.le_trans I.ok.above (Nat.le_of_lt I.lt)
def Inv.HV(I:Inv X pins σ H s){a:Addr}(h:s.heap.objs.size<=a):a ∉ X.fs:=fun hb=>by
 obtain⟨_,o,ho,_⟩:=I.ok.Fd.mem hb
 exact absurd (Nat.lt_of_lt_of_le (Heap.lt_size ho) (Nat.le_trans I.sz h)) (Nat.lt_irrefl _)
def Inv.Hs(I:Inv X pins σ H s):∀x c,X.env.cells.lookup x=some c->c≠X.env.locals:=fun x c e z=>by
 obtain⟨v,o,ho,hd⟩:=I.cell x c e
 obtain⟨m,⟨o',es,ep,ho',hd',_⟩,_⟩:=I.loc
 rw[z,ho']at ho;cases ho;rw[hd']at hd;cases hd
theorem Inv.Fd(I:Inv X pins σ H s):s.heap.FunFrames X.base X.outer:=by
 have all:∀(l:List Env),(∀b∈frs l,b∈X.fs)->X.s₀.heap.FunFrames X.base l->s.heap.FunFrames X.base l:=by
  intro l
  induction l with
  |nil=>intro _ _;trivial
  |cons env r ih=>
   intro hs hl
   obtain⟨hk,⟨L,o,hf,hn,ho,hd⟩,hr⟩:=hl
   have hL:L∈X.fs:=hs L (by unfold frs;rw[List.filterMap_cons,hf];exact List.mem_cons_self)
   obtain⟨sl,e⟩:=I.base.slot L o ho (I.ok.Hd L hL) hL fun z=>I.ok.GM L z hL
   exact⟨hk,⟨L,_,hf,hn,e,hd⟩,ih (fun b hb=>hs b (by unfold frs;rw[List.filterMap_cons,hf];exact List.mem_cons_of_mem _ hb)) hr⟩
 exact all X.outer (fun _ hb=>hb) I.ok.Fd
theorem Inv.stack(I:Inv X pins σ H s):s.heap.FunFrames X.base X.stack:=by
 rcases I.ok.stk with e|⟨e,hf⟩
 ·rw[e];exact I.Fd
 ·rw[e]
  obtain⟨m,hn,_⟩:=I.loc
  refine .cons (by rw[I.ok.kind];decide) hf hn ?_ I.Fd
  exact Heap.get?_none_of_le (Nat.le_trans I.ok.GX I.ok.above)
def Inv.Fe(I:Inv X pins σ H s):∀b∈frs X.stack,b∈X.env.locals::X.fs:=fun b hb=>by
 rcases I.ok.stk with e|⟨e,hf⟩
 ·rw[e]at hb;exact List.mem_cons_of_mem _ hb
 ·rw[e]at hb
  unfold frs at hb
  rw[List.filterMap_cons,hf]at hb
  exact hb
def Inv.Gs(I:Inv X pins σ H s):∀b∈frs X.stack,H b=none:=fun b hb=>by
 rcases List.mem_cons.mp (I.Fe b hb)with e|hb
 ·rw[e];exact I.free
 ·obtain⟨_,o,ho,_⟩:=I.ok.Fd.mem hb
  exact I.base.free b o ho (I.ok.Hd b hb) fun z=>I.ok.GM b z hb
def Inv.step{g':Array GenState}{t':Nat}{d':Drawn}{ch:List Addr}(I:Inv X pins σ H s)
  (hch:∀b∈ch,(b∈X.ex\/X.s₀.heap.objs.size<=b)/\b≠X.env.locals/\(∀x c,X.env.cells.lookup x=some c->c≠b)/\∀p∈X.pn++pins,p.1≠b)
  (keep:∀b o,b≠X.env.locals->b ∉ X.fs->b ∉ ch->s.heap.get? b=some o->H b=none->h'.get? b=some o)
  (slot:∀b o,b≠X.env.locals->b∈X.fs->b ∉ ch->s.heap.get? b=some o->H b=none->∃sl,h'.get? b=some { o with slots:=sl }) (free:∀b o,b ∉ ch->s.heap.get? b=some o->H b=none->H' b=none)
  (there:∀b o,b ∉ ch->s.heap.get? b=some o->∃o',h'.get? b=some o')
  (tups:∀b xs,H b=some (.tup xs)->H' b=some (.tup xs)) (FN:∀b o u,H b=some (.frz o u)->H' b=some (.frz o u)) (F5:∀b ps,H b=some (.Ho ps)->∃more,H' b=some (.Ho (ps++more)))
  (ns:∀m,s.heap.Ns X.env.locals m->h'.Ns X.env.locals m) (hok:ES X.prog X.w H' h') (hg:AllBare g') :
  Inv X pins σ H' { s with heap:=h',gens:=g',drawn:=d',toks:=t' }:=by
 have JZ:∀b o,X.s₀.heap.get? b=some o->b≠X.env.locals:=fun b o e=>Nat.ne_of_lt (Nat.lt_of_lt_of_le (Heap.lt_size e) I.ok.above)
 have IE:∀b o,X.s₀.heap.get? b=some o->b ∉ X.ex->b ∉ ch:=fun b o e hx hb=>by
  rcases(hch b hb).1 with z|z
  ·exact hx z
  ·exact absurd (Nat.lt_of_lt_of_le (Heap.lt_size e) z) (Nat.lt_irrefl _)
 have cellK:∀x c,X.env.cells.lookup x=some c->∀v,s.heap.IsCell c v->h'.IsCell c v:=fun x c e v ⟨o,ho,hd⟩=>by
  have HW:c ∉ ch:=fun z=>(hch c z).2.2.1 x c e rfl
  by_cases hc:c∈X.fs
  ·obtain⟨sl,q⟩:=slot c o (I.Hs x c e) hc HW ho (I.ED x c e)
   exact⟨_,q,hd⟩
  ·exact⟨o,keep c o (I.Hs x c e) hc HW ho (I.ED x c e),hd⟩
 refine⟨I.ok,I.os,hg,⟨fun b o e n hb hx=>?_,fun b o e n hb hx=>?_,fun b o e n hx=>?_,fun b o e hx=>?_,fun b xs e=>tups b xs (I.base.tups b xs e),fun b o xs e=>FN b o xs (I.base.FN b o xs e),fun b ps e=>?_⟩,?_,fun x c e=>?_,?_,fun x c e=>?_,fun p hp=>?_,hok,I.len⟩
 ·exact keep b o (JZ b o e) hb (IE b o e hx) (I.base.keep b o e n hb hx) (I.base.free b o e n hx)
 ·obtain⟨sl,e1⟩:=I.base.slot b o e n hb hx
  obtain⟨sl',e2⟩:=slot b _ (JZ b o e) hb (IE b o e hx) e1 (I.base.free b o e n hx)
  exact⟨sl',e2⟩
 ·obtain⟨o',e1⟩:=I.base.there b o e hx
  exact free b o' (IE b o e hx) e1 (I.base.free b o e n hx)
 ·obtain⟨o',e1⟩:=I.base.there b o e hx
  exact there b o' (IE b o e hx) e1
 ·obtain⟨m1,e1⟩:=I.base.F5 b ps e
  obtain⟨m2,e2⟩:=F5 b _ e1
  exact⟨m1++m2,by rw[e2,Array.append_assoc]⟩
 ·obtain⟨m,hn,hl⟩:=I.loc
  refine⟨m,ns m hn,fun i x v e1 e2 e3=>?_⟩
  obtain⟨u,r,l⟩:=hl i x v e1 e2 e3
  refine⟨u,r,?_⟩
  rcases l with l|⟨k,c,e,z⟩
  ·exact .inl l
  ·exact .inr ⟨k,c,e,cellK x c e _ z⟩
 ·obtain⟨v,z⟩:=I.cell x c e
  exact⟨v,cellK x c e v z⟩
 ·obtain⟨m,⟨o,_,_,ho,_⟩,_⟩:=I.loc
  exact free _ o (fun z=>(hch _ z).2.1 rfl) ho I.free
 ·obtain⟨v,o,ho,hd⟩:=I.cell x c e
  exact free c o (fun z=>(hch c z).2.2.1 x c e rfl) ho (I.ED x c e)
 ·obtain⟨e,n,ne,nf,d⟩:=I.pin p hp
  have HW:p.1 ∉ ch:=fun z=>(hch p.1 z).2.2.2 p hp rfl
  exact⟨keep p.1 p.2 ne nf HW e n,free p.1 p.2 HW e n,ne,nf,d⟩
def Inv.un{t':Nat}(I:Inv X pins σ H s)(u:Un X.fs [] H H' s.heap h')(hok:ES X.prog X.w H' h'):Inv X pins σ H' { s with heap:=h',toks:=t' }:=by
 obtain⟨m,⟨o,es,ep,ho,r⟩,_⟩:=id I.loc
 obtain⟨sl,hL⟩:=u.any ho I.free (by simp)
 exact I.step (g':=s.gens) (d':=s.drawn) (ch:=[]) (fun _ z=>nomatch z) (fun b o _ hb _ e n=>u.keep b o e n hb (by simp)) (fun b o _ hb _ e n=>u.slot b o e n hb (by simp)) (fun b o _ e n=>u.free b o e n (by simp)) (fun b o _ e=>u.there b o e (by simp)) u.tups u.FN u.F5 (fun m' hm=>by
  obtain⟨o',es',Jf,ho',r'⟩:=hm
  rw[ho]at ho';cases ho'
  exact⟨_,es',Jf,hL,r'⟩) hok I.bare
def Inv.call{g':Array GenState}{t':Nat}{d':Drawn}{ch:List Addr}(I:Inv X pins σ H s)(u:Un (frs X.stack) ch H H' s.heap h')(hok:ES X.prog X.w H' h')(hg:AllBare g')
  (hch:∀b∈ch,(b∈X.ex\/X.s₀.heap.objs.size<=b)/\b≠X.env.locals/\(∀x c,X.env.cells.lookup x=some c->c≠b)/\∀p∈X.pn++pins,p.1≠b) :
  Inv X pins σ H' { s with heap:=h',gens:=g',drawn:=d',toks:=t' }:=by
 obtain⟨m,⟨o,es,ep,ho,r⟩,_⟩:=id I.loc
 obtain⟨sl,hL⟩:=u.any ho I.free fun z=>(hch _ z).2.1 rfl
 exact I.step (ch:=ch) hch (fun b o hL hb hc e n=>u.keep b o e n (fun z=>(List.mem_cons.mp (I.Fe b z)).elim hL hb) hc) (fun b o _ _ hc e n=>u.any e n hc) (fun b o hc e n=>u.free b o e n hc) (fun b o hc e=>u.there b o e hc) u.tups u.FN u.F5 (fun m' hm=>by
  obtain⟨o',es',Jf,ho',r'⟩:=hm
  rw[ho]at ho';cases ho'
  exact⟨_,es',Jf,hL,r'⟩) hok hg
def Inv.turned{t':Nat}{it:Addr}(I:Inv X pins σ H s)(k:∀b o,b≠it->s.heap.get? b=some o->h'.get? b=some o)(hn:H it=none)(hL:it≠X.env.locals)
  (h1:it∈X.ex\/X.s₀.heap.objs.size<=it) (h2:∀x c,X.env.cells.lookup x=some c->c≠it) (h3:∀p∈X.pn++pins,p.1≠it):Inv X pins σ H { s with heap:=h',toks:=t' }:=by
 have HX:∀b u,H b=some u->b≠it:=fun b u e z=>by rw[z,hn]at e;cases e
 refine I.step (g':=s.gens) (d':=s.drawn) (ch:=[it]) (fun b hb=>?_) (fun b o _ _ hc e _=>k b o (fun z=>hc (by simp[z])) e) (fun b o _ _ hc e _=>⟨o.slots,k b o (fun z=>hc (by simp[z])) e⟩) (fun _ _ _ _ n=>n)
  (fun b o hc e=>⟨o,k b o (fun z=>hc (by simp[z])) e⟩) (fun _ _ e=>e) (fun _ _ _ e=>e) (fun b ps e=>⟨#[],by rw[e];simp⟩) (fun m hm=>?_) (fun b u e=>?_) I.bare
 ·have e:b=it:=by simpa using hb
  subst e
  exact⟨h1,hL,h2,h3⟩
 ·obtain⟨o,es,ep,ho,r⟩:=hm
  exact⟨o,es,ep,k _ o (Ne.symm hL) ho,r⟩
 ·refine(I.hok b u e).stay (fun c v hc q=>k c v ?_ q) (fun _ q=>q) fun _ _ q=>q
  rcases hc with z|z
  ·rw[z];exact HX b u e
  ·exact HX c _ z
def Inv.tok(I:Inv X pins σ H s)(t:Nat):Inv X pins σ H { s with toks:=t }:=I.un (h':=s.heap) (t':=t) Un.refl I.hok
theorem Inv.kept{t':Nat}(I:Inv X pins σ H s)(k:∀b u,s.heap.get? b=some u->h'.get? b=some u):Inv X pins σ H { s with heap:=h',toks:=t' }:=I.un (Un.kept k) (I.hok.kept k)
theorem Inv.laid{a:Addr}{o:HO}{t':Nat}(I:Inv X pins σ H s)(k:∀b u,s.heap.get? b=some u->h'.get? b=some u)(hp:s.heap.objs.size<=a)(new:ObjOk X.prog X.w (upd H a o) h' a o) :
  Inv X pins σ (upd H a o) { s with heap:=h',toks:=t' }:=I.un (Un.laid k hp (I.hok.fresh hp)) (I.hok.laid k hp new)
theorem Inv.write{x e:Addr}{o:HO}{t':Nat}(I:Inv X pins σ H s)(mu:zy (H x))(he:e=x\/H e=some (.own x))(k:∀b u,b≠e->s.heap.get? b=some u->h'.get? b=some u)(HK:∃u,h'.get? e=some u)
  (new:ObjOk X.prog X.w (upd H x o) h' x o):Inv X pins σ (upd H x o) { s with heap:=h',toks:=t' }:=I.un (Un.write mu he k HK) (I.hok.write mu he k HK new)
def Inv.weak{σ':List (Option V)}(I:Inv X pins σ H s)(hl:σ'.length=σ.length)(w:∀(i:Nat) v,σ'[i]?=some (some v)->σ[i]?=some (some v)):Inv X pins σ' H s:=
 ⟨I.ok,I.os,I.bare,I.base,let ⟨m,hn,hl'⟩:=I.loc;⟨m,hn,fun i x v e1 e2 e3=>hl' i x v e1 (w i v e2) e3⟩,I.cell,I.free,I.ED,I.pin,I.hok,hl.trans I.len⟩
def Inv.Fs{Gu:Va}(I:Inv X pins σ H s)(h:∀p∈Gu,s.heap.get? p.1=some p.2/\H p.1=none/\p.1≠X.env.locals/\p.1 ∉ X.fs/\∀v,p.2.data ≠ .cell v):Inv X Gu σ H s:=
 ⟨I.ok,I.os,I.bare,I.base,I.loc,I.cell,I.free,I.ED,fun p hp=>(List.mem_append.mp hp).elim (fun z=>I.pin p (List.mem_append_left _ z)) (h p),I.hok,I.len⟩
def mx{N:Vs}(hN:N.Nodup){i j:Nat}{x:Str}(a:N[i]?=some x)(b:N[j]?=some x):i=j:=by
 obtain⟨h1,e1⟩:=List.getElem?_eq_some_iff.mp a
 obtain⟨h2,e2⟩:=List.getElem?_eq_some_iff.mp b
 exact(List.getElem_inj hN).mp (e1.trans e2.symm)
def kC {M : Model} {A : Around} {E : Value -> Shared -> Prop} {i : Nat} {x : Str} {v : V} {u : Value} {Q : Unit -> Shared -> Prop} (I : Inv X pins σ H s) (hN : X.N.Nodup) (hi : X.N[i]? = some x) (hx : wo X.env.scope x) (r : RelV v u)
  (h : ∀ s', Inv X pins (σ.set i (some v)) H s' -> (∃ a, Heap.SameBut a s.heap s'.heap /\ (a = X.env.locals \/ X.env.cells.lookup x = some a)) -> Q () s') (hf : X.fn x = true \/ X.env.scope.names.lookup x = some .local := by first | exact .inl rfl | exact .inr rfl | assumption) : wpAny M A (storeName X.env x u) Q E s := by
 obtain ⟨m, hn, hl⟩ := id I.loc
 have hcls : (X.env.scope.kind == .class || (X.env.scope.kind == .module && X.env.locals != X.env.globals)) = false := by rw [I.ok.kind]; rfl
 have J3 : i < σ.length := by rw [I.len]; exact (List.getElem?_eq_some_iff.mp hi).1
 have Hs := I.Hs
 have tracked : ∀ {a : Addr} {h' : Heap}, (∃ o, s.heap.get? a = some o /\ H a = none) -> Heap.SameBut a s.heap h' -> ES X.prog X.w H h' := fun {a h'} ha hs b ob e => by
  obtain ⟨_, _, hfree⟩ := ha
  refine (I.hok b ob e).stay (fun c w' hc q => (hs.2 c ?_).trans q) (fun _ q => q) fun _ _ q => q
  rintro rfl
  rcases hc with rfl | hc
  ·rw [hfree] at e; cases e
  ·rw [hfree] at hc; cases hc
 rcases hx with hk | hk
 ·refine wpAny_storeName_local hk hn (fun h' hn' hs => ?_) hcls
  obtain ⟨oL, _, _, KE, _⟩ := id hn
  refine h _ ⟨I.ok, I.os, I.bare, ⟨fun b o e n hb hx => ?_, fun b o e n hb hx => ?_, I.base.free, fun b o e hx => ?_, I.base.tups, I.base.FN, I.base.F5⟩, ⟨_, hn', fun j y v' e1 e2 e3 => ?_⟩, fun y c e => ?_, I.free, I.ED, fun p hp => ?_, tracked ⟨oL, KE, I.free⟩ hs, by simpa using I.len⟩ ⟨_, hs, .inl rfl⟩
  ·exact (hs.2 b (Nat.ne_of_lt (Nat.lt_of_lt_of_le (Heap.lt_size e) I.ok.above))).trans (I.base.keep b o e n hb hx)
  ·obtain ⟨sl, e1⟩ := I.base.slot b o e n hb hx
   exact ⟨sl, (hs.2 b (Nat.ne_of_lt (Nat.lt_of_lt_of_le (Heap.lt_size e) I.ok.above))).trans e1⟩
  ·obtain ⟨o', e1⟩ := I.base.there b o e hx
   exact ⟨o', (hs.2 b (Nat.ne_of_lt (Nat.lt_of_lt_of_le (Heap.lt_size e) I.ok.above))).trans e1⟩
  ·by_cases hj : j = i
   ·subst hj
    rw [hi] at e1; cases e1
    rw [List.getElem?_set_self J3] at e2
    cases e2
    exact ⟨u, r, .inl ⟨hk, by simp⟩⟩
   ·rw [List.getElem?_set_ne (Ne.symm hj)] at e2
    obtain ⟨u', r', q⟩ := hl j y v' e1 e2 e3
    refine ⟨u', r', ?_⟩
    rcases q with ⟨k, e⟩ | ⟨k, c, e, z⟩
    ·refine .inl ⟨k, ?_⟩
     have : y ≠ x := fun e => hj (mx hN e1 (e ▸ hi))
     simp [this, e]
    ·exact .inr ⟨k, c, e, z.sameBut hs (Hs y c e)⟩
  ·obtain ⟨w', z⟩ := I.cell y c e
   exact ⟨w', z.sameBut hs (Hs y c e)⟩
  ·obtain ⟨e, n, ne, nf, d⟩ := I.pin p hp
   exact ⟨(hs.2 p.1 ne).trans e, n, ne, nf, d⟩
 ·have hfn : X.fn x = true := by
   rcases hf with z | z
   ·exact z
   ·rw [z] at hk; cases hk
  obtain ⟨c, hc⟩ := I.ok.has x (.inl hk)
  obtain ⟨w', z⟩ := I.cell x c hc
  refine wpAny_storeName_cell I.ok.kind hk hc z (fun h' hc' hs => ?_)
  obtain ⟨oc, hoc, Jg⟩ := id z
  refine h { s with heap := h' } ⟨I.ok, I.os, I.bare, ⟨fun b o e n hb hx => ?_, fun b o e n hb hx => ?_, I.base.free, fun b o e hx => ?_, I.base.tups, I.base.FN, I.base.F5⟩, ⟨m, hn.sameBut hs (Ne.symm (Hs x c hc)), fun j y v' e1 e2 e3 => ?_⟩, fun y c' e => ?_, I.free, I.ED, fun p hp => ?_, tracked ⟨oc, hoc, I.ED x c hc⟩ hs, by simpa using I.len⟩ ⟨c, hs, .inr hc⟩
  ·exact (hs.2 b (Nat.ne_of_lt (Nat.lt_of_lt_of_le (Heap.lt_size e) (I.ok.HL x c hfn hc)))).trans (I.base.keep b o e n hb hx)
  ·obtain ⟨sl, e1⟩ := I.base.slot b o e n hb hx
   exact ⟨sl, (hs.2 b (Nat.ne_of_lt (Nat.lt_of_lt_of_le (Heap.lt_size e) (I.ok.HL x c hfn hc)))).trans e1⟩
  ·obtain ⟨o', e1⟩ := I.base.there b o e hx
   exact ⟨o', (hs.2 b (Nat.ne_of_lt (Nat.lt_of_lt_of_le (Heap.lt_size e) (I.ok.HL x c hfn hc)))).trans e1⟩
  ·by_cases hj : j = i
   ·subst hj
    rw [hi] at e1; cases e1
    rw [List.getElem?_set_self J3] at e2
    cases e2
    exact ⟨u, r, .inr ⟨.inl hk, c, hc, hc'⟩⟩
   ·rw [List.getElem?_set_ne (Ne.symm hj)] at e2
    obtain ⟨u', r', q⟩ := hl j y v' e1 e2 e3
    refine ⟨u', r', ?_⟩
    rcases q with q | ⟨k, c', e, z'⟩
    ·exact .inl q
    ·refine .inr ⟨k, c', e, z'.sameBut hs ?_⟩
     rintro rfl
     exact hj (mx hN e1 (I.ok.inj _ _ _ e hc ▸ hi))
  ·by_cases hcc : c' = c
   ·subst hcc; exact ⟨_, hc'⟩
   ·obtain ⟨w2, z2⟩ := I.cell y c' e
    exact ⟨w2, z2.sameBut hs hcc⟩
  ·obtain ⟨e, n, ne, nf, d⟩ := I.pin p hp
   refine ⟨(hs.2 p.1 ?_).trans e, n, ne, nf, d⟩
   intro q
   rw [q, hoc] at e
   have q' : oc = p.2 := Option.some.inj e
   exact d w' (by rw [<- q']; exact Jg)
def g_{M:Model}{A:Around}{E:Vq}{i:Nat}{x:Str}{v:V}{u:Value}{Q:Unit->Shared->Prop}(I:Inv X pins σ H s)(hN:X.N.Nodup)(hi:X.N[i]?=some x)(hx:wo X.env.scope x)(r:RelV v u)
  (h:∀s',Inv X pins (σ.set i (some v)) H s'->Q () s') (hf:X.fn x=true\/X.env.scope.names.lookup x=some .local:=by first|exact .inl rfl|exact .inr rfl|assumption):wpAny M A (storeName X.env x u) Q E s:=
 kC I hN hi hx r (fun s' I' _=>h s' I') hf
def Inv.HY{s':Shared}{ch:List Addr}(I:Inv X pins σ H s)(ho:s'.os=s.os)(u:Un (frs X.stack) ch H H' s.heap s'.heap)(hok:ES X.prog X.w H' s'.heap)(hg:AllBare s'.gens)
  (hch:∀b∈ch,(b∈X.ex\/X.s₀.heap.objs.size<=b)/\b≠X.env.locals/\(∀x c,X.env.cells.lookup x=some c->c≠b)/\∀p∈X.pn++pins,p.1≠b):Inv X pins σ H' s':=by
 obtain⟨h',g',d',t',o'⟩:=s'
 have e:o'=s.os:=ho
 subst e
 exact I.call (g':=g') (t':=t') (d':=d') u hok hg hch
end
abbrev XK:=Value->Option Addr->Hp->Prop
abbrev St:=List (Option V)
abbrev VK:=V->Hp->Prop
abbrev TE:=St->Hp->VK->Prop
abbrev TT:=St->Hp->(Bool->Hp->Prop)->Prop
abbrev TA:=St->Hp->(List V->Hp->Prop)->Prop
structure kj where
 nx:St->Hp->Prop
 rt:VK
 bk:St->Hp->Prop:=fun _ _=>False
 ct:St->Hp->Prop:=fun _ _=>False
abbrev TS:=kj->St->Hp->Prop
def EP(X:Cx)(pins:Va)(σ:St)(Q:VK)(u:Value)(s':Shared):Prop:=∃v H',Inv X pins σ H' s'/\RelV v u/\Q v H'
def TP(X:Cx)(pins:Va)(σ:St)(Q:Bool->Hp->Prop)(b:Bool)(s':Shared):Prop:=∃H',Inv X pins σ H' s'/\Q b H'
def AP(X:Cx)(pins:Va)(σ:St)(Q:List V->Hp->Prop)(us:Vv)(s':Shared):Prop:=∃vs H',Inv X pins σ H' s'/\Vals vs us/\Q vs H'
def SP(X:Cx)(pins:Va)(D:kj)(f:Flow)(s':Shared):Prop:=
 match f with
 | .next=>∃σ' H',Inv X pins σ' H' s'/\D.nx σ' H'
 | .brk=>∃σ' H',Inv X pins σ' H' s'/\D.bk σ' H'
 | .cont=>∃σ' H',Inv X pins σ' H' s'/\D.ct σ' H'
 | .ret u=>∃v σ' H',Inv X pins σ' H' s'/\RelV v u/\D.rt v H'
def PE(X:Cx)(e:Expr)(t:TE):Prop:=
 ∀(pins:Va) (s:Shared) (σ:St) (H:Hp) (Q:VK),Inv X pins σ H s->t σ H Q->wpAny (model X.prog X.w) X.A (eval e X.env) (EP X pins σ Q) X.xe s
def PT(X:Cx)(e:Expr)(t:TT):Prop:=
 ∀(pins:Va) (s:Shared) (σ:St) (H:Hp) (Q:Bool->Hp->Prop),Inv X pins σ H s->t σ H Q->wpAny (model X.prog X.w) X.A (isTrue e X.env (eval e X.env)) (TP X pins σ Q) X.xe s
def PW(X:Cx)(e:Expr)(t:TT):Prop:=
 ∀(whole:Sem Value) (pins:Va) (s:Shared) (σ:St) (H:Hp) (Q:Bool->Hp->Prop),Inv X pins σ H s->t σ H Q->wpAny (model X.prog X.w) X.A (isTrue e X.env whole) (TP X pins σ Q) X.xe s
def PW.pt{X:Cx}{e:Expr}{t:TT}(h:PW X e t):PT X e t:=h _
def PA(X:Cx)(es:List Expr)(t:TA):Prop:=
 ∀(pos:Pos) (pins:Va) (s:Shared) (σ:St) (H:Hp) (Q:List V->Hp->Prop),Inv X pins σ H s->t σ H Q->wpAny (model X.prog X.w) X.A (spliced (backTo pos (starEach es X.env))) (AP X pins σ Q) X.xe s
def PS(X:Cx)(st:Stmt)(t:TS):Prop:=
 ∀(pins:Va) (s:Shared) (σ:St) (H:Hp) (D:kj),Inv X pins σ H s->t D σ H->wpAny (model X.prog X.w) X.A (exec st X.env) (SP X pins D) X.xe s
def Ge(X:Cx)(st:List Stmt)(t:TS):Prop:=
 ∀(pins:Va) (s:Shared) (σ:St) (H:Hp) (D:kj),Inv X pins σ H s->t D σ H->wpAny (model X.prog X.w) X.A (execs st X.env) (SP X pins D) X.xe s
def bA{α:Type}{t:Sem α}{Q Q':α->Shared->Prop}{M:Model}{A:Around}{E:Vq}{s:Shared}(h:wpAny M A t Q E s)(hQ:∀a s,Q a s->Q' a s):wpAny M A t Q' E s:=wpAny_mono h hQ fun _ _ x=>x
section
variable {X:Cx}
def Bo(i:Nat):TE:=fun σ H Q=>∃v,σ[i]?=some (some v)/\Q v H
def tC(v:V):TE:=fun _ H Q=>Q v H
def xa{i:Nat}{x:Str}{pos:Pos}(hN:X.N[i]?=some x)(hv:A8 X.env.scope x)(hd:(x == ("__debug__":Str))=false:=by decide)(hcd:(x == ("__classdict__":Str))=false:=by decide):PE X (.Name x pos) (Bo i):=by
 intro pins s σ H Q I h
 obtain⟨v,e,h⟩:=h
 obtain⟨m,hn,hl⟩:=I.loc
 obtain⟨u,r,l⟩:=hl i x v hN e hv
 have fin:EP X pins σ Q u s:=⟨v,H,I,r,h⟩
 rcases l with⟨hk,hm⟩|⟨hk,c,hc,hcell⟩
 ·exact wpAny_Name (wpAny_loadName_local I.ok.kind hk hn hm fin) hd
 ·rcases hk with hk|hk
  ·exact wpAny_Name (wpAny_loadName_cell I.ok.kind hk hc hcell fin) hd
  ·exact wpAny_Name (wpAny_loadName_free I.ok.kind hk hc hcell fin hcd) hd
def xb{i j pos}:PE X (.Constant (.int i) j pos) (tC (.int i)):=fun _ _ _ H _ I h=>wpAny_Constant_int ⟨.int i,H,I.tok _,⟨_,rfl⟩,h⟩
def zz{b j pos}:PE X (.Constant (.bool b) j pos) (tC (.bl b)):=fun _ _ _ H _ I h=>Constant_bool ⟨.bl b,H,I,rfl,h⟩
def xg{j pos}:PE X (.Constant .none j pos) (tC .non):=fun _ _ _ H _ I h=>Constant_none ⟨.non,H,I,rfl,h⟩
def xi{x j pos}:PE X (.Constant (.str x) j pos) (tC (.str x)):=fun _ _ _ H _ I h=>Calls.Constant_str ⟨.str x,H,I.tok _,⟨_,rfl⟩,h⟩
def Gl(X:Cx)(x:Str):Prop:=X.env.kindOf x=some .globalImplicit
def oU{E:Vq}{pins:Va}{s:Shared}{σ:St}{H:Hp}{x:Str}{u:Value}{pos:Pos}{Q:Vq}(I:Inv X pins σ H s)(hg:Gl X x)(hm:X.mg x=some u)(h:Q u s)
  (hd:(x == ("__debug__":Str))=false:=by decide):wpAny (model X.prog X.w) X.A (eval (.Name x pos) X.env) Q E s:=
 Calls.Name_function_global I.ok.kind hg (Calls.loadGlobal_global (by rw[I.ok.glob];exact I.mod.glob.keeps I.bk) hm h) hd
def eX{E:Vq}{pins:Va}{s:Shared}{σ:St}{H:Hp}{x:Str}{u:Value}{pos:Pos}{Q:Vq}(I:Inv X pins σ H s)(hg:Gl X x)(hm:X.mg x=none)(hv:bootBuiltins x=some u)(h:Q u s)
  (hn:x ≠ "__name__":=by decide) (hd:(x == ("__debug__":Str))=false:=by decide):wpAny (model X.prog X.w) X.A (eval (.Name x pos) X.env) Q E s:=by
 obtain⟨mb,h1,h2⟩:=I.mod.blt
 exact Calls.Name_function_global I.ok.kind hg (Calls.loadGlobal_builtin (by rw[I.ok.glob];exact I.mod.glob.keeps I.bk) hm (by rw[I.ok.blt];exact h1.keeps I.bk) ((h2 x hn).trans hv) h) hd
def uL{x:Str}{v:V}{u:Value}{pos:Pos}(hg:Gl X x)(hm:X.mg x=none)(hv:bootBuiltins x=some u)(r:RelV v u)(hn:x ≠ "__name__":=by decide)(hd:(x == ("__debug__":Str))=false:=by decide):PE X (.Name x pos) (tC v):=
 fun _ _ _ H _ I h=>eX I hg hm hv ⟨v,H,I,r,h⟩ hn hd
variable {a b:Expr} {ta tb:TE} {pos:Pos}
def tB(t:TE):TT:=fun σ H Q=>t σ H fun x H1=>∃c,x = .bl c/\Q c H1
def xj{e:Expr}{t:TE}(h:PE X e t)(he:∀whole,isTrue e X.env whole=(do let v <-whole;standAt e.pos;holding [v] (truthy v)):=by intro _;rfl):PT X e (tB t):=by
 intro pins s σ H Q I hw
 refine isTrue_plain (bA (h pins s σ H _ I hw) fun v s1 ⟨x,H1,I1,r1,q1⟩=>?_) (he _)
 obtain⟨d,rfl,q⟩:=q1
 cases r1
 exact wpAny_truthy_bool ⟨H1,I1,q⟩
variable {tA IF:TT} {rest:List Expr}
def Bp(t u:TT):TT:=fun σ H Q=>t σ H fun c H1=>if c=true then u σ H1 Q else Q false H1
def CG(t u:TT):TT:=fun σ H Q=>t σ H fun c H1=>if c=true then Q true H1 else u σ H1 Q
def Bq(t:TT):TT:=fun σ H Q=>t σ H fun c H1=>Q (!c) H1
def uM(ha:PT X a tA):PW X (.BoolOp .And [a] pos) tA:=by
 intro wh pins s σ H Q I h
 refine isTrue_and (bA (ha pins s σ H Q I h) fun c s1 e=>?_)
 cases c with
 |true=>exact isTrue_and_nil e
 |false=>exact e
def xk(ha:PT X a tA):PW X (.BoolOp .Or [a] pos) tA:=by
 intro wh pins s σ H Q I h
 refine isTrue_or (bA (ha pins s σ H Q I h) fun c s1 e=>?_)
 cases c with
 |false=>exact isTrue_or_nil e
 |true=>exact e
def xn(ha:PT X a tA)(hb:PW X (.BoolOp .And (b::rest) pos) IF):PW X (.BoolOp .And (a::b::rest) pos) (Bp tA IF):=by
 intro wh pins s σ H Q I h
 refine isTrue_and (bA (ha pins s σ H _ I h) fun c s1 ⟨H1,I1,q1⟩=>?_)
 cases c with
 |true=>exact hb wh pins s1 σ H1 Q I1 q1
 |false=>exact⟨H1,I1,q1⟩
def zA(ha:PT X a tA)(hb:PW X (.BoolOp .Or (b::rest) pos) IF):PW X (.BoolOp .Or (a::b::rest) pos) (CG tA IF):=by
 intro wh pins s σ H Q I h
 refine isTrue_or (bA (ha pins s σ H _ I h) fun c s1 ⟨H1,I1,q1⟩=>?_)
 cases c with
 |true=>exact⟨H1,I1,q1⟩
 |false=>exact hb wh pins s1 σ H1 Q I1 q1
def xq(ha:PT X a tA):PT X (.UnaryOp .Not a pos) (Bq tA):=by
 intro pins s σ H Q I h
 exact isTrue_not (ha pins s σ H (fun c H1=>Q (!c) H1) I h)
def zB(ta tb:TE):TE:=fun σ H Q=>ta σ H fun x H1=>∃c,x = .bl c/\if c=true then tb σ H1 Q else Q (.bl false) H1
def zC(ta:TE):TE:=fun σ H Q=>ta σ H fun x H1=>∃c,x = .bl c/\Q (.bl (!c)) H1
def xr{op}{t:TE}(h:PE X a t):PE X (.BoolOp op [a] pos) t:=fun pins s σ H Q I hw=>BoolOp_one (h pins s σ H Q I hw)
def xu(ha:PE X a ta)(hb:PE X (.BoolOp .And (b::rest) pos) tb):PE X (.BoolOp .And (a::b::rest) pos) (zB ta tb):=by
 intro pins s σ H Q I h
 refine BoolOp_and (bA (ha pins s σ H _ I h) fun v s1 ⟨x,H1,I1,r1,q1⟩=>?_)
 obtain⟨c,rfl,q1⟩:=q1
 cases r1
 refine wpAny_truthy_bool ?_
 cases c with
 |true=>exact hb pins s1 σ H1 Q I1 q1
 |false=>exact⟨.bl false,H1,I1,rfl,q1⟩
def xv(ha:PE X a ta):PE X (.UnaryOp .Not a pos) (zC ta):=by
 intro pins s σ H Q I h
 refine UnaryOp_ (bA (ha pins s σ H _ I h) fun v s1 ⟨x,H1,I1,r1,q1⟩=>?_)
 obtain⟨c,rfl,q1⟩:=q1
 cases r1
 exact not_of (wpAny_truthy_bool ⟨.bl (!c),H1,I1,rfl,q1⟩)
def CH(t:TT)(ta tb:TE):TE:=fun σ H Q=>t σ H fun c H1=>if c=true then ta σ H1 Q else tb σ H1 Q
def rG{c:Expr}(hc:PT X c tA)(ha:PE X a ta)(hb:PE X b tb):PE X (.IfExp c a b pos) (CH tA ta tb):=by
 intro pins s σ H Q I h
 refine wpAny_IfExp (bA (hc pins s σ H _ I h) fun d s1 ⟨H1,I1,q1⟩=>?_)
 cases d with
 |true=>exact ha pins s1 σ H1 Q I1 q1
 |false=>exact hb pins s1 σ H1 Q I1 q1
end
def SqL(K:Vo)(H:Hp)(a:Addr)(xs:List V):Prop:=
 Rd H a (.lst xs) \/
  ∃(o:Obj) (its:Vw) (n:Nat),K.lookup a=some o/\o.cls = .type "list"/\o.dict=none/\o.data = .seq its n/\its.size<=sizeLine/\Vals xs its.toList
def SqT(K:Vo)(H:Hp)(a:Addr)(xs:List V):Prop:=
 Rd H a (.tup xs) \/
  ∃(o:Obj) (its:Vw) (n:Nat),K.lookup a=some o/\o.cls = .type "tuple"/\o.dict=none/\o.data = .seq its n/\its.size<=sizeLine/\Vals xs its.toList
noncomputable def Br:Value->Option V
 | .none=>some .non
 | .bool b=>some (.bl b)
 | .int i _=>some (.int i)
 | .str x _=>some (.str x)
 | .bytes b _=>some (.GJ b)
 | .float b _=>some (.ID b)
 | .ref a=>some (.ref a)
 | .type n=>some (.ty n)
 |_=>none
def RelV.abs{x:V}{u:Value}(r:RelV x u):Br u=some x:=by
 cases x with
 |non=>cases r;rfl
 |bl _=>cases r;rfl
 |int _=>obtain⟨t,rfl⟩:=r;rfl
 |str _=>obtain⟨t,rfl⟩:=r;rfl
 |GJ _=>obtain⟨t,rfl⟩:=r;rfl
 |ID _=>obtain⟨t,rfl⟩:=r;rfl
 |ref _=>cases r;rfl
 |ty _=>cases r;rfl
theorem RelV.inj{x y:V}{u:Value}(r:RelV x u)(q:RelV y u):x=y:=Option.some.inj (r.abs.symm.trans q.abs)
theorem Vals.inj:∀{xs ys:List V} {us:Vv},Vals xs us->Vals ys us->xs=ys
 |_,_,_,.nil,.nil=>rfl
 |_,_,_,.cons r t,.cons r' t'=>by rw[r.inj r',Vals.inj t t']
section
variable {X:Cx} {pins:Va} {σ:St} {H:Hp} {s:Shared} {a:Addr} {xs ys:List V}
def SqL.of{K:Vo}(h:H a=some (.lst xs)):SqL K H a xs:=.inl (.inl h)
def SqT.of{K:Vo}(h:H a=some (.tup xs)):SqT K H a xs:=.inl (.inl h)
def Inv.list(I:Inv X pins σ H s)(h:SqL X.K H a xs):∃its:List Value,Vals xs its/\PlainL s.heap a its.toArray/\xs.length<=sizeLine:=by
 rcases h with h|⟨o,its,n,hk,hc,hd,hs,hz,r⟩
 ·obtain⟨z,its,n,r,e⟩:=h.ok I.hok
  exact⟨its,r,⟨_,n,e,rfl,rfl,rfl⟩,z⟩
 ·refine⟨its.toList,r,⟨o,n,I.Gd a o hk,hc,hd,by simpa using hs⟩,?_⟩
  have e:=r.length
  simp only[Array.length_toList]at e
  omega
def Inv.tuple(I:Inv X pins σ H s)(h:SqT X.K H a xs):∃its:List Value,Vals xs its/\IsTup s.heap a its.toArray/\xs.length<=sizeLine:=by
 rcases h with h|⟨o,its,n,hk,hc,_,hs,hz,r⟩
 ·obtain⟨z,its,r,p⟩:=h.ok I.hok
  exact⟨its,r,p.tup,z⟩
 ·refine⟨its.toList,r,⟨o,I.Gd a o hk,hc,n,by simpa using hs⟩,?_⟩
  have e:=r.length
  simp only[Array.length_toList]at e
  omega
def Inv.Fu(I:Inv X pins σ H s)(h:SqL X.K H a xs)(h':SqL X.K H a ys):xs=ys:=by
 obtain⟨its,r,⟨o,n,e,_,_,d⟩,_⟩:=I.list h
 obtain⟨its',r',⟨o',n',e',_,_,d'⟩,_⟩:=I.list h'
 rw[e]at e';cases e'
 rw[d]at d'
 injection d' with d1 _
 have:its=its':=by simpa using congrArg Array.toList d1
 subst this
 exact r.inj r'
def Inv.Ff(I:Inv X pins σ H s)(h:SqT X.K H a xs)(h':SqT X.K H a ys):xs=ys:=by
 obtain⟨its,r,⟨o,e,_,n,d⟩,_⟩:=I.tuple h
 obtain⟨its',r',⟨o',e',_,n',d'⟩,_⟩:=I.tuple h'
 rw[e]at e';cases e'
 rw[d]at d'
 injection d' with d1 _
 have:its=its':=by simpa using congrArg Array.toList d1
 subst this
 exact r.inj r'
end
noncomputable abbrev Cx.wish(X:Cx)(E:Vq):Cx:={ X with xe:=E }
noncomputable abbrev Cx.HZ(X:Cx):Cx:=X.wish fun _ _=>False
theorem Cx.Ok.wish{X:Cx}(ok:X.Ok)(E:Vq):(X.wish E).Ok:=
 ⟨ok.mod,ok.kind,ok.glob,ok.blt,ok.above,ok.inj,ok.has,ok.HL,ok.hd,ok.frames,ok.stk,ok.Jd,ok.bs,ok.GX,ok.GA,ok.GM,ok.Fd,ok.Hd⟩
def Cx.Ok.EE{X:Cx}{E:Vq}(ok:(X.wish E).Ok):X.Ok:=
 ⟨ok.mod,ok.kind,ok.glob,ok.blt,ok.above,ok.inj,ok.has,ok.HL,ok.hd,ok.frames,ok.stk,ok.Jd,ok.bs,ok.GX,ok.GA,ok.GM,ok.Fd,ok.Hd⟩
section
variable {X:Cx} {pins:Va} {σ:St} {H:Hp} {s:Shared} {E:Vq}
theorem Inv.wish(I:Inv X pins σ H s)(E:Vq):Inv (X.wish E) pins σ H s:=⟨I.ok.wish E,I.os,I.bare,I.base,I.loc,I.cell,I.free,I.ED,I.pin,I.hok,I.len⟩
theorem Inv.EE(I:Inv (X.wish E) pins σ H s):Inv X pins σ H s:=⟨I.ok.EE,I.os,I.bare,I.base,I.loc,I.cell,I.free,I.ED,I.pin,I.hok,I.len⟩
theorem SP.EE{D:kj}{f:Flow}{s':Shared}(h:SP (X.wish E) pins D f s'):SP X pins D f s':=by
 cases f with
 |next=>obtain⟨σ',H',I,q⟩:=h;exact⟨σ',H',I.EE,q⟩
 |brk=>obtain⟨σ',H',I,q⟩:=h;exact⟨σ',H',I.EE,q⟩
 |cont=>obtain⟨σ',H',I,q⟩:=h;exact⟨σ',H',I.EE,q⟩
 |ret u=>obtain⟨v,σ',H',I,r,q⟩:=h;exact⟨v,σ',H',I.EE,r,q⟩
theorem Ge.HZ{st:List Stmt}{t:TS}(h:Ge X.HZ st t):Ge X st t:=fun pins s σ H D I hw=>
 wpAny_mono (h pins s σ H D (I.wish _) hw) (fun _ _ q=>q.EE) fun _ _ z=>False.elim z
end
section
variable {X:Cx} {st:Stmt} {rest:List Stmt} {t u:TS} {e:Expr} {te:TE} {pos:Pos}
def zD:TS:=fun D σ H=>D.nx σ H
def Bt(t u:TS):TS:=fun D σ H=>t { D with nx:=u D } σ H
def uN:Ge X [] zD:=fun _ _ σ H _ I h=>wpAny_execs_nil ⟨σ,H,I,h⟩
def rH(h1:PS X st t)(h2:Ge X rest u):Ge X (st::rest) (Bt t u):=by
 intro pins s σ H D I h
 refine wpAny_execs_cons (bA (h1 pins s σ H { D with nx:=u D } I h) fun f s1 q=>?_)
 cases f with
 |next=>
  obtain⟨σ',H',I',q⟩:=q
  exact h2 pins s1 σ' H' D I' q
 |ret v=>exact q
 |brk=>exact q
 |cont=>exact q
def uO(h1:PS X st t):Ge X [st] t:=by
 intro pins s σ H D I h
 refine wpAny_execs_cons (bA (h1 pins s σ H D I h) fun f s1 q=>?_)
 cases f with
 |next=>exact wpAny_execs_nil q
 |ret v=>exact q
 |brk=>exact q
 |cont=>exact q
def Inv.quiet{pins:Va}{σ:St}{H:Hp}{s:Shared}(I:Inv X pins σ H s):interactive X.env=false:=by simp[interactive,I.ok.kind]
def zE(te:TE):TS:=fun D σ H=>te σ H fun _ H1=>D.nx σ H1
def uP(he:PE X e te)(hs:swapsWith e none pos.line X.env=pure false:=by rfl):PS X (.Expr e pos) (zE te):=by
 intro pins s σ H D I h
 exact wpAny_Expr_any (bA (he pins s σ H _ I h) fun v s1 ⟨x,H1,I1,r1,q1⟩=>⟨σ,H1,I1,q1⟩) I.quiet hs
def Bu(te:TE):TS:=fun D σ H=>te σ H D.rt
def xx(he:PE X e te):PS X (.Return (some e) pos) (Bu te):=by
 intro pins s σ H D I h
 exact wpAny_Return_some (bA (he pins s σ H _ I h) fun v s1 ⟨x,H1,I1,r1,q1⟩=>⟨x,σ,H1,I1,r1,q1⟩)
def Bv(c:TT)(t u:TS):TS:=fun D σ H=>c σ H fun b H1=>if b=true then t D σ H1 else u D σ H1
def zF{c:Expr}{a b:List Stmt}{tc:TT}(hc:PT X c tc)(ha:Ge X a t)(hb:Ge X b u):PS X (.If c a b pos) (Bv tc t u):=by
 intro pins s σ H D I h
 refine wpAny_If (bA (hc pins s σ H _ I h) fun d s1 ⟨H1,I1,q1⟩=>?_)
 cases d with
 |true=>exact ha pins s1 σ H1 D I1 q1
 |false=>exact hb pins s1 σ H1 D I1 q1
end
abbrev TG:=V->St->Hp->(St->Hp->Prop)->Prop
abbrev wq:=List V->St->Hp->(St->Hp->Prop)->Prop
def PG(X:Cx)(target:Expr)(t:TG):Prop:=
 ∀(pins:Va) (s:Shared) (σ:St) (H:Hp) (v:V) (u:Value) (Q:St->Hp->Prop),Inv X pins σ H s->RelV v u->t v σ H Q->
  wpAny (model X.prog X.w) X.A (assign target X.env u) (fun _ s'=>∃σ' H',Inv X pins σ' H' s'/\Q σ' H') X.xe s
def zG(X:Cx)(ts:List Expr)(t:wq):Prop:=
 ∀(pins:Va) (s:Shared) (σ:St) (H:Hp) (vs:List V) (us:Vv) (Q:St->Hp->Prop),Inv X pins σ H s->Vals vs us->t vs σ H Q->
  wpAny (model X.prog X.w) X.A (assignInOrder ((assignEach ts X.env).map (·.2)) us) (fun _ s'=>∃σ' H',Inv X pins σ' H' s'/\Q σ' H') X.xe s
abbrev xy:=V->V->V->Hp->(Hp->Prop)->Prop
def uQ(X:Cx)(t:xy):Prop:=
 ∀(pins:Va) (s:Shared) (σ:St) (H:Hp) (o i v:V) (ov iv u:Value) (Q:Hp->Prop),Inv X pins σ H s->RelV o ov->RelV i iv->RelV v u->t o i v H Q->
  wpAny (model X.prog X.w) X.A (setItem ov iv u) (fun _ s'=>∃H',Inv X pins σ H' s'/\Q H') X.xe s
section
variable {X:Cx} {pos:Pos}
def my(i:Nat):TG:=fun v σ H Q=>Q (σ.set i (some v)) H
def uR{i:Nat}{x:Str}(hN:X.N.Nodup)(hi:X.N[i]?=some x)(hx:wo X.env.scope x)(hf:X.fn x=true\/X.env.scope.names.lookup x=some .local:=by first|exact .inl rfl|exact .inr rfl|assumption):PG X (.Name x pos) (my i):=by
 intro pins s σ H v u Q I r h
 exact wpAny_assign_Name (g_ I hN hi hx r (fun s' I'=>⟨_,H,I',h⟩) hf)
noncomputable def zH:wq:=fun vs σ H Q=>vs=[]/\Q σ H
noncomputable def wt(t:TG)(u:wq):wq:=fun vs σ H Q=>∃v r,vs=v::r/\t v σ H fun σ' H'=>u r σ' H' Q
def uS:zG X [] zH:=by
 intro pins s σ H vs us Q I r h
 obtain⟨e,h⟩:=h
 subst e
 cases r
 exact assignInOrder_nil ⟨σ,H,I,h⟩
def rJ{e:Expr}{es:List Expr}{t:TG}{u:wq}(h1:PG X e t)(h2:zG X es u)
  (hs:(assignEach (e::es) X.env).map (·.2)=assign e X.env::(assignEach es X.env).map (·.2):=by rfl):zG X (e::es) (wt t u):=by
 intro pins s σ H vs us Q I r h
 obtain⟨v,vr,e1,h⟩:=h
 subst e1
 cases r with
 |cons r rr=>
  rw[hs]
  refine assignInOrder_cons (bA (h1 pins s σ H _ _ _ I r h) fun _ s1 ⟨σ1,H1,I1,q1⟩=>?_)
  exact h2 pins s1 σ1 H1 _ _ Q I1 rr q1
def zI(K:Vo)(n:Nat)(t:wq):TG:=fun v σ H Q=>∃a xs,v = .ref a/\SqT K H a xs/\xs.length=n/\t xs σ H Q
def xz{es:List Expr}{k:Nat}{t:wq}{n:Nat}(hc:X.calm=true)(h:zG X es t)
  (hn:(assignEach es X.env).length=n:=by rfl) (hst:(assignEach es X.env).findIdx? (·.1)=none:=by rfl):PG X (.Tuple es k pos) (zI X.K n t):=by
 intro pins s σ H v u Q I r hw
 obtain⟨a,xs,e1,hq,hl,hw⟩:=hw
 subst e1
 cases r
 obtain⟨its,rv,ht,hz⟩:=I.tuple hq
 refine assign_Tuple_tuple (I.ok.hd hc) ht (by simp[hn,<-hl,rv.length]) hst fun h' hx=>?_
 have I1:Inv X pins σ H { s with heap:=h' }:=I.kept (t':=s.toks) fun b o e=>hx b o (Nat.ne_of_lt (Heap.lt_size e)) e
 exact h pins _ σ H xs _ Q I1 (by simpa using rv) hw
def Bw(to ti:TE)(t:xy):TG:=fun v σ H Q=>to σ H fun o H1=>ti σ H1 fun i H2=>t o i v H2 fun H3=>Q σ H3
def xA{o i:Expr}{to ti:TE}{t:xy}(ho:PE X o to)(hi:PE X i ti)(hs:uQ X t)
  (ha:∀v,assign (.Subscript o i pos) X.env v=(do
   let ov <-holding [v] (eval o X.env)
   let iv <-holding [v,ov] (eval i X.env)
   standAt pos
   holding [v,ov,iv] (setItem ov iv v)
   release [v,ov,iv] []):=by intro _;rfl):PG X (.Subscript o i pos) (Bw to ti t):=by
 intro pins s σ H v u Q I r h
 rw[ha]
 refine wpAny_bind (wpAny_holding (bA (ho pins s σ H _ I h) fun ov s1 ⟨x,H1,I1,r1,q1⟩=>?_))
 refine wpAny_bind (wpAny_holding (bA (hi pins s1 σ H1 _ I1 q1) fun iv s2 ⟨y,H2,I2,r2,q2⟩=>?_))
 refine wpAny_bind (wpAny_standAt (wpAny_bind (wpAny_holding (bA (hs pins s2 σ H2 x y v ov iv u _ I2 r1 r2 r q2) fun _ s3 ⟨H3,I3,q3⟩=>?_))))
 exact wpAny_release ⟨σ,H3,I3,q3⟩
def uT(te:TE)(g:TG):TS:=fun D σ H=>te σ H fun x H1=>g x σ H1 D.nx
def rK{tg e:Expr}{te:TE}{g:TG}(he:PE X e te)(hg:PG X tg g)(hs:swapsWithSole [tg] e pos.line X.env=pure false:=by rfl)(hw:swappedStores [tg] e X.env=pure none:=by rfl)
  (h1:(assignEach [tg] X.env).map (·.2)=[assign tg X.env]:=by rfl):PS X (.Assign [tg] e pos) (uT te g):=by
 intro pins s σ H D I h
 refine wpAny_Assign_stores (bA (he pins s σ H _ I h) fun v s1 ⟨x,H1,I1,r1,q1⟩=>?_) hs hw
 rw[h1]
 exact bA (hg pins s1 σ H1 x v _ I1 r1 q1) fun _ s2 q=>q
def xB{i:Nat}{x:Str}{e:Expr}{te:TE}{pos':Pos}(hN:X.N.Nodup)(hi:X.N[i]?=some x)(hx:wo X.env.scope x)(he:PE X e te)(hs:swapsWith e (some (.Name x pos')) pos.line X.env=pure false:=by rfl)(hf:X.fn x=true\/X.env.scope.names.lookup x=some .local:=by first|exact .inl rfl|exact .inr rfl|assumption) :
  PS X (.Assign [.Name x pos'] e pos) (uT te (my i)):=by
 intro pins s σ H D I h
 refine wpAny_Assign_Name (bA (he pins s σ H _ I h) fun v s1 ⟨y,H1,I1,r1,q1⟩=>?_) hs
 exact g_ I1 hN hi hx r1 (fun s2 I2=>⟨_,H1,I2,q1⟩) hf
def Bx(i j:Nat)(ta:TA):TS:=fun D σ H=>ta σ H fun vs H1=>∃v w,vs=[v,w]/\D.nx ((σ.set i (some v)).set j (some w)) H1
def xC{i j:Nat}{x y:Str}{a b:Expr}{ta:TA}{px py pt:Pos}{kt k2 Ht}(hc:X.calm=true)(hN:X.N.Nodup)(hi:X.N[i]?=some x)(hj:X.N[j]?=some y)(hij:i≠j)
  (hx:X.env.scope.names.lookup x=some .local) (hy:X.env.scope.names.lookup y=some .local) (ha:PA X [a,b] ta)
  (hw:swappedStores [.Tuple [.Name x px,.Name y py] kt pt] (.Tuple [a,b] k2 Ht) X.env=pure (some [x,y]))
  (hs:swapsWithSole [.Tuple [.Name x px,.Name y py] kt pt] (.Tuple [a,b] k2 Ht) pos.line X.env=pure false:=by rfl) :
  PS X (.Assign [.Tuple [.Name x px,.Name y py] kt pt] (.Tuple [a,b] k2 Ht) pos) (Bx i j ta):=by
 intro pins s σ H D I h
 rw[exec_Assign_arm]
 refine wpAny_bind (wpAny_standAt ?_)
 rw[hs]
 refine wpAny_bind (wpAny_pure ?_)
 rw[if_neg (by decide)]
 refine wpAny_bind (Tuple_ (bA (ha _ pins s σ H _ I h) fun us s1 ⟨vs,H1,I1,r1,q1⟩=>?_))
 obtain⟨v,w,e1,q1⟩:=q1
 subst e1
 obtain⟨u1,u2,rfl,rv,rw'⟩:∃u1 u2,us=[u1,u2]/\RelV v u1/\RelV w u2:=by
  cases r1 with
  |cons p q=>
   cases q with
   |cons p' q'=>
    cases q'
    exact⟨_,_,rfl,p,p'⟩
 refine wpAny_newObj_type ?_ (by show 2<=sizeLine;decide)
 have I2:Inv X pins σ H1 { s1 with heap:=s1.heap.push { cls:=.type "tuple",data:=.seq [u1,u2].toArray } }:=I1.kept (t':=s1.toks) fun b o e=>Heap.get?_push_of_some _ e
 rw[hw]
 refine wpAny_bind (wpAny_pure ?_)
 show wpAny (model X.prog X.w) X.A (do rule "assign.swapped-stores"; let items <-unpackItems (.ref s1.heap.objs.size) 2 none;assignInOrder [fun v=>bindName X.env y v,fun v=>bindName X.env x v] items.reverse;pure Flow.next) _ _ _
 refine wpAny_bind (wpAny_rule (wpAny_bind (unpackItems_tuple (items:=#[u1,u2]) (I.ok.hd hc) (IsTup.new s1.heap _) fun h' hx'=>?_)))
 have I3:=I2.kept (h':=h') (t':=s1.toks) fun b o e=>hx' b o (Nat.ne_of_lt (Heap.lt_size e)) e
 show wpAny _ _ (assignInOrder [fun v=>bindName X.env y v,fun v=>bindName X.env x v] [u2,u1] >>= fun _=>pure Flow.next) _ _ _
 refine wpAny_bind (assignInOrder_cons (wpAny_bindName (g_ I3 hN hj (.inl hy) rw' (fun s2 I4=>?_) (.inr hy))))
 refine assignInOrder_cons (wpAny_bindName (g_ I4 hN hi (.inl hx) rv (fun s3 I5=>assignInOrder_nil (wpAny_pure ?_)) (.inr hx)))
 rw[List.set_comm _ _ (Ne.symm hij)]at I5
 exact⟨_,H1,I5,q1⟩
end
section
variable {X:Cx} {pos:Pos}
def xD(c:TT)(tb:TS):TS:=fun D σ H=>∃W:Nat->St->Hp->Prop,(∃m,W m σ H)/\∀m σ H,W m σ H->
 c σ H fun b H1=>if b=true then ∃N:St->Hp->Prop,(∀σ' H',N σ' H'->∃m',m' < m/\W m' σ' H')/\tb { D with nx:=N,ct:=N,bk:=D.nx } σ H1 else D.nx σ H1
def rL{c:Expr}{body:List Stmt}{tc:TT}{tb:TS}(hp:PassesOwn (model X.prog X.w) X.A X.env X.xe)(hc:PT X c tc)(hb:Ge X body tb):PS X (.While c body [] pos) (xD tc tb):=by
 intro pins s σ H D I h
 obtain⟨W,⟨m0,w0⟩,turn⟩:=h
 refine wpAny_While (codeAny_whileLoop (fun n s'=>∃σ' H',Inv X pins σ' H' s'/\W n σ' H') ?_ m0 ⟨σ,H,I,w0⟩)
 rintro n s1 ⟨σ1,H1,I1,w1⟩
 refine wpAny_passesOwn hp (bA (hc pins s1 σ1 H1 _ I1 (turn n σ1 H1 w1)) fun b s2 ⟨H2,I2,q2⟩=>?_)
 cases b with
 |true=>
  obtain⟨N,hN,q2⟩:=q2
  rw[if_pos rfl]
  refine wpAny_passesOwn hp (bA (hb pins s2 σ1 H2 _ I2 q2) fun f s3 q3=>?_)
  cases f with
  |next=>
   obtain⟨σ3,H3,I3,n3⟩:=q3
   obtain⟨m',hm,w3⟩:=hN σ3 H3 n3
   exact⟨m',hm,σ3,H3,I3,w3⟩
  |cont=>
   obtain⟨σ3,H3,I3,n3⟩:=q3
   obtain⟨m',hm,w3⟩:=hN σ3 H3 n3
   exact⟨m',hm,σ3,H3,I3,w3⟩
  |brk=>exact q3
  |ret v=>exact q3
 |false=>
  rw[if_neg Bool.false_ne_true]
  exact wpAny_execs_nil ⟨σ1,H2,I2,q2⟩
end
structure It where
 go:Nat->Hp->Prop
 IG:Nat->Hp->V->Hp->Prop
 stop:Nat->Hp->Prop
def fB(X:Cx)(pins:Va)(H:Hp)(b:Addr):Prop:=
 H b=none/\b≠X.env.locals/\b ∉ X.fs/\(b∈X.ex\/X.s₀.heap.objs.size<=b)/\(∀x c,X.env.cells.lookup x=some c->c≠b)/\∀p∈X.pn++pins,p.1≠b
def Inv.Fr{X:Cx}{pins:Va}{σ:St}{H H':Hp}{s:Shared}{b:Addr}(I:Inv X pins σ H s)(hb:s.heap.objs.size<=b)(hn:H' b=none):fB X pins H' b:=by
 refine⟨hn,Nat.ne_of_gt (Nat.lt_of_lt_of_le I.lt hb),I.HV hb,.inr (Nat.le_trans I.sz hb),fun x c e z=>?_,fun p hp z=>?_⟩
 ·obtain⟨v,q⟩:=I.cell x c e
  exact absurd (Nat.lt_of_lt_of_le q.lt (by rw[z];exact hb)) (Nat.lt_irrefl _)
 ·exact absurd (Nat.lt_of_lt_of_le (Heap.lt_size (I.pin p hp).1) (by rw[z];exact hb)) (Nat.lt_irrefl _)
structure lh (P:Program) (w:World) (K:Vo) (tg:Expr) (J:It) (fp:List Addr) (it:Addr) (tn:Nat->Heap->Prop):Prop where
 mem:it∈fp
 obj:∀i h,tn i h->∀b∈fp,∃o,h.get? b=some o/\∀v,o.data ≠ .cell v
 keep:∀i h h',tn i h->(∀b∈fp,∀o,h.get? b=some o->h'.get? b=some o)->tn i h'
 item:∀(X:Cx),X.prog=P->X.w=w->X.K=K->X.calm=true->∀(i:Nat) (pins:Va) (s:Shared) (σ:St) (H:Hp) (E:Vq),Inv X pins σ H s->(∀b∈fp,fB X pins H b)->tn i s.heap->J.go i H->
  wpAny (model P w) X.A (pyNext (.ref it)) (fun r s1=>∃u,r=some u/\
   wpAny (model P w) X.A (letOwnedTupleGo tg (.ref it) u) (fun _ s2=>∃x H',Inv X pins σ H' s2/\RelV x u/\J.IG i H x H'/\tn (i+1) s2.heap/\∀b∈fp,H' b=none) E s1) E s
 done:∀(X:Cx),X.prog=P->X.w=w->X.K=K->X.calm=true->∀(i:Nat) (pins:Va) (s:Shared) (σ:St) (H:Hp) (E:Vq),Inv X pins σ H s->(∀b∈fp,fB X pins H b)->tn i s.heap->J.stop i H->
  wpAny (model P w) X.A (pyNext (.ref it)) (fun r s1=>r=none/\Inv X pins σ H s1) E s
 self:∀(A:Around) (i:Nat) (s:Shared) (Q:Vq) (E:Vq),tn i s.heap->Q (.ref it) s->wpAny (model P w) A (pyIter (.ref it)) Q E s
abbrev TI:=St->Hp->(It->Hp->Prop)->Prop
def By(X:Cx)(pins:Va)(σ:St)(tg:Expr)(R:It->Hp->Prop)(itv:Value)(s2:Shared):Prop:=
 ∃(it:Addr) (fp:List Addr) (tn:Nat->Heap->Prop) (J:It) (H':Hp),itv = .ref it/\Inv X pins σ H' s2/\lh X.prog X.w X.K tg J fp it tn/\tn 0 s2.heap/\(∀b∈fp,fB X pins H' b)/\R J H'
def PI(X:Cx)(tg iter:Expr)(wi:TI):Prop:=
 ∀(pins:Va) (s:Shared) (σ:St) (H:Hp) (R:It->Hp->Prop),Inv X pins σ H s->wi σ H R->
  wpAny (model X.prog X.w) X.A (eval iter X.env) (fun v s1=>wpAny (model X.prog X.w) X.A (pyIter v) (By X pins σ tg R) X.xe s1) X.xe s
def oV {M : Model} {A : Around} {E : Value -> Shared -> Prop} {s : Shared} {tg : Expr} {it : Addr} {u : Value} {o : Obj} {n : String} {vs : Array Value} {Q : Unit -> Shared -> Prop} (ho : s.heap.get? it = some o) (hc : o.cls = .type n) (hd : o.data = .fields vs)
    (hn : ["enumerate", "zip", "dict_itemiterator", "dict_reverseitemiterator", "odict_iterator", "itertools.zip_longest", "itertools.pairwise"].contains n = false) (hQ : Q () s) : wpAny M A (letOwnedTupleGo tg (.ref it) u) Q E s := by
  unfold letOwnedTupleGo
  cases tg <;> first
    | exact wpAny_pure hQ
    | (cases u <;> first
        | exact wpAny_pure hQ
        | (refine wpAny_bind (wpAny_load ho ?_)
           rw [hc, hd]
           show wpAny M A (if (["enumerate", "zip", "dict_itemiterator", "dict_reverseitemiterator", "odict_iterator", "itertools.zip_longest", "itertools.pairwise"].contains n && vs[0]? == some (rawInt _)) = true then _ else _) Q E s
           rw [if_neg (by intro h; rw [hn, Bool.false_and] at h; cases h)]
           exact wpAny_pure hQ))
noncomputable def A9(K:Vo)(a:Addr):It:=
 ⟨fun i H=>∃xs x,SqL K H a xs/\xs[i]?=some x,fun i H x H'=>H'=H/\∀xs,SqL K H a xs->xs[i]?=some x,fun i H=>∃xs,SqL K H a xs/\xs.length<=i⟩
noncomputable def Bz(K:Vo)(a:Addr):It:=
 ⟨fun i H=>∃xs x,SqT K H a xs/\xs[i]?=some x,fun i H x H'=>H'=H/\∀xs,SqT K H a xs->xs[i]?=some x,fun i H=>∃xs,SqT K H a xs/\xs.length<=i⟩
noncomputable def A_(lo:Int)(n:Nat):It:=⟨fun i _=>i < n,fun i H x H'=>H'=H/\x = .int (lo+i),fun i _=>n<=i⟩
def qh{P:Program}{w:World}{K:Vo}{tg:Expr}(a it:Addr):lh P w K tg (A9 K a) [it] it (fun i h=>h.IsListIter it a i) where
 mem:=by simp
 obj:=fun i h st b hb=>by
  have e:b=it:=by simpa using hb
  subst e
  obtain⟨o,e,c,d⟩:=st
  exact⟨o,e,fun v z=>by rw[d]at z;cases z⟩
 keep:=fun i h h' st k=>st.at fun o e=>k it (by simp) o e
 item:=by
  intro X hP hw hK hc i pins s σ H E I hf st hg
  subst hP hw hK
  obtain⟨xs,x,hq,hx⟩:=hg
  obtain⟨its,rv,p,hz⟩:=I.list hq
  obtain⟨u,hu,ru⟩:=rv.get hx
  obtain⟨f0,f1,f2,f3,f4,f5⟩:=hf it (by simp)
  refine wpAny_pyNext_list_item st p.isList (x:=u) (by simpa using hu) fun h' st' sb=>?_
  have I1:Inv X pins σ H { s with heap:=h' }:=I.turned (t':=s.toks) (fun b o hb e=>(sb.2 b hb).trans e) f0 f1 f3 f4 f5
  obtain⟨o,e,c,d⟩:=id st'
  exact⟨u,rfl,oV (s:={ s with heap:=h' }) e c d (by decide) ⟨x,H,I1,ru,⟨rfl,fun ys hy=>by rw[I.Fu hy hq];exact hx⟩,st',fun b hb=>(hf b hb).1⟩⟩
 done:=by
  intro X hP hw hK hc i pins s σ H E I hf st hg
  subst hP hw hK
  obtain⟨xs,hq,hx⟩:=hg
  obtain⟨its,rv,p,hz⟩:=I.list hq
  obtain⟨f0,f1,f2,f3,f4,f5⟩:=hf it (by simp)
  have hl:=rv.length
  exact wpAny_pyNext_list_end (I.ok.hd hc) st p.isList (by simp;omega) fun h' eb=>⟨rfl,I.turned (t':=s.toks) (fun b o hb e=>eb b o hb e) f0 f1 f3 f4 f5⟩
 self:=fun _ _ _ _ _ st h=>wpAny_pyIter_listiter st h
def nF{P:Program}{w:World}{K:Vo}{tg:Expr}(a it:Addr):lh P w K tg (Bz K a) [it] it (fun i h=>h.IsTupleIter it a i) where
 mem:=by simp
 obj:=fun i h st b hb=>by
  have e:b=it:=by simpa using hb
  subst e
  obtain⟨o,e,c,d⟩:=st
  exact⟨o,e,fun v z=>by rw[d]at z;cases z⟩
 keep:=fun i h h' st k=>st.at fun o e=>k it (by simp) o e
 item:=by
  intro X hP hw hK hc i pins s σ H E I hf st hg
  subst hP hw hK
  obtain⟨xs,x,hq,hx⟩:=hg
  obtain⟨its,rv,p,hz⟩:=I.tuple hq
  obtain⟨u,hu,ru⟩:=rv.get hx
  obtain⟨f0,f1,f2,f3,f4,f5⟩:=hf it (by simp)
  refine wpAny_pyNext_tuple_item st (show s.heap.IsTuple a its.toArray from p) (x:=u) (by simpa using hu) fun h' st' sb=>?_
  have I1:Inv X pins σ H { s with heap:=h' }:=I.turned (t':=s.toks) (fun b o hb e=>(sb.2 b hb).trans e) f0 f1 f3 f4 f5
  obtain⟨o,e,c,d⟩:=id st'
  exact⟨u,rfl,oV (s:={ s with heap:=h' }) e c d (by decide) ⟨x,H,I1,ru,⟨rfl,fun ys hy=>by rw[I.Ff hy hq];exact hx⟩,st',fun b hb=>(hf b hb).1⟩⟩
 done:=by
  intro X hP hw hK hc i pins s σ H E I hf st hg
  subst hP hw hK
  obtain⟨xs,hq,hx⟩:=hg
  obtain⟨its,rv,p,hz⟩:=I.tuple hq
  obtain⟨f0,f1,f2,f3,f4,f5⟩:=hf it (by simp)
  have hl:=rv.length
  exact wpAny_pyNext_tuple_end (I.ok.hd hc) st (show s.heap.IsTuple a its.toArray from p) (by simp;omega) fun h' eb=>⟨rfl,I.turned (t':=s.toks) (fun b o hb e=>eb b o hb e) f0 f1 f3 f4 f5⟩
 self:=fun _ _ _ _ _ st h=>wpAny_pyIter_tupleiter st h
def nG{P:Program}{w:World}{K:Vo}{tg:Expr}(it:Addr)(lo:Int)(n:Nat):lh P w K tg (A_ lo n) [it] it (fun i h=>IsRangeIter h it (lo+(i:Nat) * 1) ((n:Int) - (i:Nat)) 1) where
 mem:=by simp
 obj:=fun i h st b hb=>by
  have e:b=it:=by simpa using hb
  subst e
  exact⟨_,st,fun v z=>by
   have z':Data.fields _=Data.cell v:=z
   cases z'⟩
 keep:=fun i h h' st k=>k it (by simp) _ st
 item:=by
  intro X hP hw hK hc i pins s σ H E I hf st hg
  subst hP hw hK
  obtain⟨f0,f1,f2,f3,f4,f5⟩:=hf it (by simp)
  have W:=Walks.range (prog:=X.prog) (w:=X.w) (I.ok.hd hc) it lo 1 n
  refine W.item i s _ _ hg st fun v h' tk hv st' kk=>?_
  obtain⟨t,rfl⟩:=hv
  have I1:Inv X pins σ H { s with heap:=h',toks:=tk }:=I.turned (fun b o hb e=>kk b o (by simpa using hb) e) f0 f1 f3 f4 f5
  refine⟨_,rfl,oV (s:={ s with heap:=h',toks:=tk }) (n:="range_iterator") st' rfl rfl (by decide) ⟨.int (lo+i),H,I1,⟨t,?_⟩,⟨rfl,rfl⟩,st',fun b hb=>(hf b hb).1⟩⟩
  rw[Int.mul_one]
 done:=by
  intro X hP hw hK hc i pins s σ H E I hf st hg
  subst hP hw hK
  obtain⟨f0,f1,f2,f3,f4,f5⟩:=hf it (by simp)
  exact wpAny_pyNext_range_end (I.ok.hd hc) st (by have:n<=i:=hg;omega) fun h' eb=>⟨rfl,I.turned (t':=s.toks) (fun b o hb e=>eb b o hb e) f0 f1 f3 f4 f5⟩
 self:=fun _ _ _ _ _ st h=>wpAny_pyIter_rangeiter st h
section
variable {X:Cx} {tg:Expr}
def rM{pins:Va}{σ:St}{H:Hp}{s:Shared}{R:It->Hp->Prop}{E:Vq}{lo hi:Int}{t u v:Tok}{tk:Nat}(I:Inv X pins σ H s)(h1:-(2 ^ 62)<=lo)(h2:lo < 2 ^ 62)(h3:-(2 ^ 62)<=hi)(h4:hi < 2 ^ 62)
  (q:R (A_ lo (hi - lo).toNat) H):wpAny (model X.prog X.w) X.A (pyIter (.ref s.heap.objs.size)) (By X pins σ tg R) E { s with heap:=s.heap.push { cls:=.type "range",data:=.fields #[.int lo t,.int hi u,.int 1 v] },toks:=tk }:=by
 refine wpAny_pyIter_range (IsRange.new ..) (small_one h1 h2 h3 h4) ?_
 have I1:Inv X pins σ H { s with heap:=s.heap.push { cls:=.type "range",data:=.fields #[.int lo t,.int hi u,.int 1 v] },toks:=tk }:=I.kept fun b o e=>Heap.get?_push_of_some _ e
 refine⟨(s.heap.push { cls:=.type "range",data:=.fields #[.int lo t,.int hi u,.int 1 v] }).objs.size,[(s.heap.push { cls:=.type "range",data:=.fields #[.int lo t,.int hi u,.int 1 v] }).objs.size],_,_,H,rfl,
  I1.kept (t':=tk) fun b o e=>Heap.get?_push_of_some _ e,nG _ lo (hi - lo).toNat,?_,fun b hb=>?_,q⟩
 ·have e1:lo+((0:Nat):Int) * 1=lo:=by simp
  have e2:(((hi - lo).toNat:Nat):Int) - ((0:Nat):Int)=Builtin.Range.rangeSize lo hi 1:=by rw[rangeSize_one];split<;>omega
  show IsRangeIter _ _ (lo+((0:Nat):Int) * 1) ((((hi - lo).toNat:Nat):Int) - ((0:Nat):Int)) 1
  rw[e1,e2]
  exact Heap.get?_push_size _ rfl
 ·have e:b=(s.heap.push { cls:=.type "range",data:=.fields #[.int lo t,.int hi u,.int 1 v] }).objs.size:=by simpa using hb
  subst e
  exact I1.Fr (Nat.le_refl _) (I1.hok.fresh (Nat.le_refl _))
def zJ(ta:TA):TI:=fun σ H R=>ta σ H fun vs H1=>∃j:Int,vs=[.int j]/\-(2 ^ 62)<=j/\j < 2 ^ 62/\R (A_ 0 j.toNat) H1
def qi{a:Expr}{ta:TA}{p pos:Pos}(hg:Gl X "range")(hm:X.mg "range" = none)(ha:PA X [a] ta)(hs:starEach [a] X.env=[(false,eval a X.env)]:=by rfl):PI X tg (.Call (.Name "range" p) [a] [] pos) (zJ ta):=by
 intro pins s σ H R I h
 refine Call_ (eX I hg hm boot_range (PyProof.Rows.callWith_type1 (bA (ha pos pins s σ H _ I h) fun us s1 ⟨vs,H1,I1,r1,q1⟩=>?_) hs rfl))
 obtain⟨j,e,q1,q2,q⟩:=q1
 subst e
 cases r1 with
 |cons r rr=>
  cases rr
  obtain⟨t,rfl⟩:=r
  exact call_range_1 (rM I1 (by omega) (by omega) q1 q2 (by simpa using q))
def BA(wi:TI)(g:TG)(tb:TS):TS:=fun D σ H=>wi σ H fun J H1=>∃W:Nat->Nat->St->Hp->Prop,(∃m,W 0 m σ H1)/\∀i m σ H,W i m σ H->
 (J.stop i H/\D.nx σ H)\/(J.go i H/\∃N:St->Hp->Prop,(∀σ' H',N σ' H'->∃m',m' < m/\W (i+1) m' σ' H')/\∀x H',J.IG i H x H'->g x σ H' fun σ2 H2=>tb { D with nx:=N,ct:=N,bk:=D.nx } σ2 H2)
noncomputable def jE(fp:List Addr)(h:Heap):List (Addr×Obj):=fp.filterMap fun b=>(h.get? b).map fun o=>(b,o)
def gD{fp:List Addr}{h:Heap}{b:Addr}{o:Obj}(hb:b∈fp)(e:h.get? b=some o):(b,o)∈jE fp h:=List.mem_filterMap.mpr ⟨b,hb,by rw[e];rfl⟩
def qj{fp:List Addr}{h:Heap}{p:Addr×Obj}(hp:p∈jE fp h):p.1∈fp/\h.get? p.1=some p.2:=by
 obtain⟨b,hb,e⟩:=List.mem_filterMap.mp hp
 cases q:h.get? b with
 |none=>rw[q]at e;cases e
 |some o=>
  rw[q]at e
  have e':(b,o)=p:=Option.some.inj e
  subst e'
  exact⟨hb,q⟩
def Inv.pinned{pins:Va}{σ:St}{H:Hp}{s:Shared}{fp:List Addr}(I:Inv X pins σ H s)(hf:∀b∈fp,fB X pins H b)(ho:∀b∈fp,∃o,s.heap.get? b=some o/\∀v,o.data ≠ .cell v):Inv X (pins++jE fp s.heap) σ H s:=
 I.Fs fun p hp=>(List.mem_append.mp hp).elim (fun z=>I.pin p (List.mem_append_right _ z)) fun z=>by
  obtain⟨hb,e⟩:=qj z
  obtain⟨f0,f1,f2,_⟩:=hf p.1 hb
  obtain⟨o,e',d⟩:=ho p.1 hb
  rw[e]at e';cases e'
  exact⟨e,f0,f1,f2,d⟩
def Inv.E4{pins pl:Va}{σ:St}{H:Hp}{s:Shared}(I:Inv X (pins++pl) σ H s):Inv X pins σ H s:=I.Fs fun p hp=>I.pin p (List.mem_append_right _ (List.mem_append_left _ hp))
def xE{iter:Expr}{body:List Stmt}{wi:TI}{g:TG}{tb:TS}{pos:Pos}(hp:PassesOwn (model X.prog X.w) X.A X.env X.xe)(hc:X.calm=true)(hi:PI X tg iter wi)(hg:PG X tg g)(hb:Ge X body tb)
  (hs:∀x,foldedSetIterable iter X.env x=pure x:=by intro _;rfl):PS X (.For tg iter body [] pos) (BA wi g tb):=by
 intro pins s σ H D I h
 refine wpAny_For (bA (hi pins s σ H _ I h) fun v s1 h1=>bA h1 fun itv s2 h2=>?_) hs
 obtain⟨it,fp,tn,J,H2,e,I2,T,st2,f2,W,⟨m0,w0⟩,turn⟩:=h2
 subst e
 -- what stays true of the iterator's objects through the loop
 have stat:∀{H':Hp},(∀b∈fp,H' b=none)->∀b∈fp,fB X pins H' b:=fun hn b hb=>⟨hn b hb,(f2 b hb).2⟩
 refine codeAny_forLoop_any (fun n s'=>∃i σ' H',Inv X pins σ' H' s'/\tn i s'.heap/\(∀b∈fp,H' b=none)/\W i n σ' H') ?_ m0 ⟨0,σ,H2,I2,st2,fun b hb=>(f2 b hb).1,w0⟩
 rintro n s3 ⟨i,σ3,H3,I3,st3,J4,w3⟩
 rcases turn i n σ3 H3 w3 with⟨stop,qn⟩|⟨go,N,hN,step⟩
 ·refine wpAny_passesOwn hp (bA (T.done X rfl rfl rfl hc i pins s3 σ3 H3 X.xe I3 (stat J4) st3 stop) fun r s4 ⟨hr,I4⟩=>?_)
  subst hr
  exact wpAny_execs_nil ⟨σ3,H3,I4,qn⟩
 ·refine wpAny_passesOwn hp (bA (T.item X rfl rfl rfl hc i pins s3 σ3 H3 X.xe I3 (stat J4) st3 go) fun r s4 ⟨u,hr,h4⟩=>?_)
  subst hr
  refine wpAny_passesOwn hp (bA h4 fun _ s5 ⟨x,H5,I5,r5,y5,G1,Jh⟩=>?_)
  have Ji:=I5.pinned (stat Jh) (T.obj _ _ G1)
  refine wpAny_passesOwn hp (bA (hg _ s5 σ3 H5 x u _ Ji r5 (step x H5 y5)) fun _ s6 ⟨σ6,H6,I6,q6⟩=>?_)
  refine wpAny_passesOwn hp (bA (hb _ s6 σ6 H6 _ I6 q6) fun f s7 q7=>?_)
  have again:∀{σ7:St} {H7:Hp},Inv X (pins++jE fp s5.heap) σ7 H7 s7->N σ7 H7->∃m,m < n/\∃i σ' H',Inv X pins σ' H' s7/\tn i s7.heap/\(∀b∈fp,H' b=none)/\W i m σ' H':=fun{σ7 H7} I7 n7=>by
   obtain⟨m',hm,w7⟩:=hN σ7 H7 n7
   refine⟨m',hm,i+1,σ7,H7,I7.E4,T.keep _ _ _ G1 fun b hb o e=>(I7.pin (b,o) (List.mem_append_right _ (List.mem_append_right _ (gD hb e)))).1,fun b hb=>?_,w7⟩
   obtain⟨o,e,d⟩:=T.obj _ _ G1 b hb
   exact(I7.pin (b,o) (List.mem_append_right _ (List.mem_append_right _ (gD hb e)))).2.1
  cases f with
  |next=>obtain⟨σ7,H7,I7,n7⟩:=q7;exact again I7 n7
  |cont=>obtain⟨σ7,H7,I7,n7⟩:=q7;exact again I7 n7
  |brk=>obtain⟨σ7,H7,I7,q7⟩:=q7;exact⟨σ7,H7,I7.E4,q7⟩
  |ret v=>obtain⟨x7,σ7,H7,I7,r7,q7⟩:=q7;exact⟨x7,σ7,H7,I7.E4,r7,q7⟩
end
abbrev R2:=V->V->Hp->VK->Prop
def gf(X:Cx)(f:Value->Value->Sem Value)(r:R2):Prop:=
 ∀(pins:Va) (s:Shared) (σ:St) (H:Hp) (x y:V) (v u:Value) (Q:VK),Inv X pins σ H s->RelV x v->RelV y u->r x y H Q->
  wpAny (model X.prog X.w) X.A (f v u) (EP X pins σ Q) X.xe s
def Bb(X:Cx)(f:Value->Sem Value)(r:V->Hp->VK->Prop):Prop:=
 ∀(pins:Va) (s:Shared) (σ:St) (H:Hp) (x:V) (v:Value) (Q:VK),Inv X pins σ H s->RelV x v->r x H Q->
  wpAny (model X.prog X.w) X.A (f v) (EP X pins σ Q) X.xe s
def dW(X:Cx)(f:Value)(r:List V->Hp->VK->Prop):Prop:=
 ∀(pins:Va) (s:Shared) (σ:St) (H:Hp) (xs:List V) (us:Vv) (Q:VK),Inv X pins σ H s->Vals xs us->r xs H Q->
  wpAny (model X.prog X.w) X.A (call f us) (EP X pins σ Q) X.xe s
def zh(r:R2)(ta tb:TE):TE:=fun σ H Q=>ta σ H fun x H1=>tb σ H1 fun y H2=>r x y H2 Q
def CI(r:V->Hp->VK->Prop)(ta:TE):TE:=fun σ H Q=>ta σ H fun x H1=>r x H1 Q
def rI(C:Int->Int->Prop)(g:Int->Int->V):R2:=fun x y H Q=>∃i j,x = .int i/\y = .int j/\C i j/\Q (g i j) H
def uU(g:Int->Int->V):R2:=fun x y H Q=>∃i j,x = .int i/\y = .int j/\Q (g i j) H
noncomputable def rU(g:Int->V):V->Hp->VK->Prop:=fun x H Q=>∃i,x = .int i/\Q (g i) H
section
variable {X:Cx} {a b c:Expr} {ta tb tc:TE} {pos:Pos}
def xF(ha:PE X a ta)(hb:PE X b tb){pins:Va}{s:Shared}{σ:St}{H:Hp}{R:V->V->Hp->Prop}(I:Inv X pins σ H s)
  (h:ta σ H fun x H1=>tb σ H1 fun y H2=>R x y H2) {Q:Vq} {f:Value->Value->Sem Value}
  (hf:∀v u s2 x y H2,Inv X pins σ H2 s2->RelV x v->RelV y u->R x y H2->wpAny (model X.prog X.w) X.A (f v u) Q X.xe s2) :
  wpAny (model X.prog X.w) X.A (eval a X.env) (fun v s₁=>wpAny (model X.prog X.w) X.A (eval b X.env) (fun u s₂=>wpAny (model X.prog X.w) X.A (f v u) Q X.xe s₂) X.xe s₁) X.xe s:=by
 refine bA (ha pins s σ H _ I h) fun v s1 ⟨x,H1,I1,r1,q1⟩=>?_
 refine bA (hb pins s1 σ H1 _ I1 q1) fun u s2 ⟨y,H2,I2,r2,q2⟩=>?_
 exact hf v u s2 x y H2 I2 r1 r2 q2
def zK{op:Operator}{r:R2}(ho:gf X (binaryOp op) r)(ha:PE X a ta)(hb:PE X b tb):PE X (.BinOp a op b pos) (zh r ta tb):=by
 intro pins s σ H Q I h
 exact wpAny_BinOp (xF ha hb I h fun v u s2 x y H2 I2 rx ry q=>ho pins s2 σ H2 x y v u Q I2 rx ry q)
def zL{op:UnaryOp}{r:V->Hp->VK->Prop}(ho:Bb X (unaryOp op) r)(ha:PE X a ta):PE X (.UnaryOp op a pos) (CI r ta):=by
 intro pins s σ H Q I h
 exact UnaryOp_ (bA (ha pins s σ H _ I h) fun v s1 ⟨x,H1,I1,r1,q1⟩=>ho pins s1 σ H1 x v Q I1 r1 q1)
def Bc{f:Value->Value->Sem Value}{C:Int->Int->Prop}{g:Int->Int->Int}
  (rule:∀(i j:Int) (t u:Tok) (s:Shared) (Q:Vq) (E:Vq),C i j->Q (.int (g i j) s.toks) { s with toks:=s.toks+1 }->wpAny (model X.prog X.w) X.A (f (.int i t) (.int j u)) Q E s) :
  gf X f (rI C fun i j=>.int (g i j)):=by
 intro pins s σ H x y v u Q I rx ry h
 obtain⟨i,j,rfl,rfl,hc,q⟩:=h
 obtain⟨t,rfl⟩:=rx
 obtain⟨t',rfl⟩:=ry
 exact rule i j t t' s _ _ hc ⟨.int (g i j),H,I.tok _,⟨_,rfl⟩,q⟩
def zM{f:Value->Value->Sem Value}{g:Int->Int->Int}
  (rule:∀(i j:Int) (t u:Tok) (s:Shared) (Q:Vq) (E:Vq),Q (.int (g i j) s.toks) { s with toks:=s.toks+1 }->wpAny (model X.prog X.w) X.A (f (.int i t) (.int j u)) Q E s) :
  gf X f (uU fun i j=>.int (g i j)):=by
 intro pins s σ H x y v u Q I rx ry h
 obtain⟨i,j,rfl,rfl,q⟩:=h
 obtain⟨t,rfl⟩:=rx
 obtain⟨t',rfl⟩:=ry
 exact rule i j t t' s _ _ ⟨.int (g i j),H,I.tok _,⟨_,rfl⟩,q⟩
def xG{f:Value->Value->Sem Value}{g:Int->Int->Bool}
  (rule:∀(i j:Int) (t u:Tok) (s:Shared) (Q:Vq) (E:Vq),Q (.bool (g i j)) s->wpAny (model X.prog X.w) X.A (f (.int i t) (.int j u)) Q E s) :
  gf X f (uU fun i j=>.bl (g i j)):=by
 intro pins s σ H x y v u Q I rx ry h
 obtain⟨i,j,rfl,rfl,q⟩:=h
 obtain⟨t,rfl⟩:=rx
 obtain⟨t',rfl⟩:=ry
 exact rule i j t t' s _ _ ⟨.bl (g i j),H,I,rfl,q⟩
def xH(i j:Int):Prop:=0<=j/\j<=1000000/\i.natAbs < 2 ^ 64
def GB(i j:Int):Prop:=(-(2 ^ 64) < i/\i < 2 ^ 64)\/(-(2 ^ 64) < j/\j < 2 ^ 64)
def GB.ok{i j:Int}(h:GB i j):IntMulOk i j:=by
 rcases h with⟨h1,h2⟩|⟨h1,h2⟩
 ·exact .of_left (intBits_le_64 h1 h2)
 ·exact .of_right (intBits_le_64 h1 h2)
def xI:gf X (binaryOp .Add) (uU fun i j=>.int (i+j)):=zM fun _ _ _ _ _ _ _ q=>add_int q
def xJ:gf X (binaryOp .Sub) (uU fun i j=>.int (i - j)):=zM fun _ _ _ _ _ _ _ q=>sub_int q
def uV:gf X (binaryOp .Mod) (rI (fun _ j=>j≠0) fun i j=>.int (i.fmod j)):=Bc fun _ _ _ _ _ _ _ hc q=>mod_int' hc q
def xK:gf X (binaryOp .Pow) (rI xH fun i j=>.int (i ^ j.toNat)):=Bc fun _ _ _ _ _ _ _ hc q=>pow_int_small hc.1 hc.2.1 hc.2.2 q
def CJ{f:Value->Sem Value}{g:Int->Int}
  (rule:∀(i:Int) (t:Tok) (s:Shared) (Q:Vq) (E:Vq),Q (.int (g i) s.toks) { s with toks:=s.toks+1 }->wpAny (model X.prog X.w) X.A (f (.int i t)) Q E s) :
  Bb X f (rU fun i=>.int (g i)):=by
 intro pins s σ H x v Q I rx h
 obtain⟨i,rfl,q⟩:=h
 obtain⟨t,rfl⟩:=rx
 exact rule i t s _ _ ⟨.int (g i),H,I.tok _,⟨_,rfl⟩,q⟩
def xL:Bb X (unaryOp .USub) (rU fun i=>.int (-i)):=CJ fun _ _ _ _ _ q=>neg_int q
end
noncomputable def zN:V->V->Bool
 | .non,.non=>true | .non,.int _=>true | .int _,.non=>true | .non,.bl _=>true | .bl _,.non=>true | .non,.str _=>true | .str _,.non=>true
 | .int _,.int _=>true | .bl _,.bl _=>true | .str _,.str _=>true | .GJ _,.GJ _=>true
 | .int _,.str _=>true | .str _,.int _=>true | .bl _,.str _=>true | .str _,.bl _=>true
 |_,_=>false
def CK:R2:=fun x y H Q=>zN x y=true/\Q (.bl (decide (x=y))) H
def CL:R2:=fun x y H Q=>zN x y=true/\Q (.bl (!decide (x=y))) H
def oW{i j:Int}:decide (V.int i=V.int j)=(i == j):=by
 rw[Bool.eq_iff_iff]
 simp
def rN{i j:Bool}:decide (V.bl i=V.bl j)=(i == j):=by
 rw[Bool.eq_iff_iff]
 simp
def oX{i j:Str}:decide (V.str i=V.str j)=(i == j):=by
 rw[Bool.eq_iff_iff]
 simp
def oY{i j:Array UInt8}:decide (V.GJ i=V.GJ j)=(i.toList == j.toList):=by
 rw[Bool.eq_iff_iff]
 cases i
 cases j
 simp
section
variable {X:Cx} {a b c:Expr} {ta tb tc:TE} {pos:Pos}
def aJ{pins:Va}{σ:St}{H:Hp}{s:Shared}{Q:VK}{k k':Bool}(I:Inv X pins σ H s)(q:Q (.bl k) H)(e:k=k'):EP X pins σ Q (.bool k') s:=by
 subst e
 exact⟨.bl k,H,I,rfl,q⟩
def rO:gf X (compareOp .Eq) CK:=by
 intro pins s σ H x y v u Q I rx ry h
 obtain⟨hs,q⟩:=h
 cases x with
 |non=>
  cases rx
  cases y with
  |non=>cases ry;exact PySem.EqNone.eq_none_none (aJ I q (by simp))
  |bl j=>cases ry;exact PySem.EqNone.eq_none_bool (aJ I q (by simp))
  |int j=>obtain⟨t',rfl⟩:=ry;exact PySem.EqNone.eq_none_int (aJ I q (by simp))
  |str j=>obtain⟨t',rfl⟩:=ry;exact PySem.EqNone.eq_none_str (aJ I q (by simp))
  |_=>exact absurd (show false=true from hs) Bool.false_ne_true
 |bl i=>
  cases rx
  cases y with
  |non=>cases ry;exact PySem.EqNone.eq_bool_none (aJ I q (by simp))
  |bl j=>cases ry;exact eq_bool (aJ I q rN)
  |str j=>obtain⟨t',rfl⟩:=ry;exact PySem.EqMixed.eq_bool_str (aJ I q (by simp))
  |_=>exact absurd (show false=true from hs) Bool.false_ne_true
 |int i=>
  obtain⟨t,rfl⟩:=rx
  cases y with
  |non=>cases ry;exact PySem.EqNone.eq_int_none (aJ I q (by simp))
  |int j=>obtain⟨t',rfl⟩:=ry;exact eq_int (aJ I q oW)
  |str j=>obtain⟨t',rfl⟩:=ry;exact PySem.EqMixed.eq_int_str (aJ I q (by simp))
  |_=>exact absurd (show false=true from hs) Bool.false_ne_true
 |str i=>
  obtain⟨t,rfl⟩:=rx
  cases y with
  |non=>cases ry;exact PySem.EqNone.eq_str_none (aJ I q (by simp))
  |bl j=>cases ry;exact PySem.EqMixed.eq_str_bool (aJ I q (by simp))
  |int j=>obtain⟨t',rfl⟩:=ry;exact PySem.EqMixed.eq_str_int (aJ I q (by simp))
  |str j=>obtain⟨t',rfl⟩:=ry;exact eq_str (aJ I q oX)
  |_=>exact absurd (show false=true from hs) Bool.false_ne_true
 |GJ i=>
  obtain⟨t,rfl⟩:=rx
  cases y with
  |GJ j=>obtain⟨t',rfl⟩:=ry;exact PySem.W.eq_bytes (aJ I q oY)
  |_=>exact absurd (show false=true from hs) Bool.false_ne_true
 |_=>cases y<;>exact absurd (show false=true from hs) Bool.false_ne_true
def rP:gf X (compareOp .NotEq) CL:=by
 intro pins s σ H x y v u Q I rx ry h
 obtain⟨hs,q⟩:=h
 cases x with
 |non=>
  cases rx
  cases y with
  |non=>cases ry;exact PySem.EqNone.ne_none_none (aJ I q (by simp))
  |bl j=>cases ry;exact PySem.EqNone.ne_none_bool (aJ I q (by simp))
  |int j=>obtain⟨t',rfl⟩:=ry;exact PySem.EqNone.ne_none_int (aJ I q (by simp))
  |str j=>obtain⟨t',rfl⟩:=ry;exact PySem.EqNone.ne_none_str (aJ I q (by simp))
  |_=>exact absurd (show false=true from hs) Bool.false_ne_true
 |bl i=>
  cases rx
  cases y with
  |non=>cases ry;exact PySem.EqNone.ne_bool_none (aJ I q (by simp))
  |bl j=>cases ry;exact ne_bool (aJ I q (congrArg not rN))
  |str j=>obtain⟨t',rfl⟩:=ry;exact PySem.EqMixed.ne_bool_str (aJ I q (by simp))
  |_=>exact absurd (show false=true from hs) Bool.false_ne_true
 |int i=>
  obtain⟨t,rfl⟩:=rx
  cases y with
  |non=>cases ry;exact PySem.EqNone.ne_int_none (aJ I q (by simp))
  |int j=>obtain⟨t',rfl⟩:=ry;exact ne_int (aJ I q (congrArg not oW))
  |str j=>obtain⟨t',rfl⟩:=ry;exact PySem.EqMixed.ne_int_str (aJ I q (by simp))
  |_=>exact absurd (show false=true from hs) Bool.false_ne_true
 |str i=>
  obtain⟨t,rfl⟩:=rx
  cases y with
  |non=>cases ry;exact PySem.EqNone.ne_str_none (aJ I q (by simp))
  |bl j=>cases ry;exact PySem.EqMixed.ne_str_bool (aJ I q (by simp))
  |int j=>obtain⟨t',rfl⟩:=ry;exact PySem.EqMixed.ne_str_int (aJ I q (by simp))
  |str j=>obtain⟨t',rfl⟩:=ry;exact ne_str (aJ I q (congrArg not oX))
  |_=>exact absurd (show false=true from hs) Bool.false_ne_true
 |GJ i=>
  obtain⟨t,rfl⟩:=rx
  cases y with
  |GJ j=>obtain⟨t',rfl⟩:=ry;exact PySem.W.ne_bytes (aJ I q (congrArg not oY))
  |_=>exact absurd (show false=true from hs) Bool.false_ne_true
 |_=>cases y<;>exact absurd (show false=true from hs) Bool.false_ne_true
def zO:gf X (compareOp .Lt) (uU fun i j=>.bl (decide (i < j))):=xG fun _ _ _ _ _ _ _ q=>lt_int q
def zP:gf X (compareOp .Gt) (uU fun i j=>.bl (decide (j < i))):=xG fun _ _ _ _ _ _ _ q=>gt_int q
def zQ:gf X (compareOp .GtE) (uU fun i j=>.bl (decide (j<=i))):=xG fun _ _ _ _ _ _ _ q=>ge_int q
def xM:gf X (compareOp .Is) (fun x y H Q=>y = .non/\Q (.bl (decide (x = .non))) H):=by
 intro pins s σ H x y v u Q I rx ry h
 obtain⟨rfl,q⟩:=h
 cases ry
 refine is_none_gen (aJ I q ?_)
 cases x<;>first
  |(cases rx;rfl)
  |(obtain⟨t,rfl⟩:=rx;rfl)
def uW:gf X (compareOp .IsNot) (fun x y H Q=>y = .non/\Q (.bl (!decide (x = .non))) H):=by
 intro pins s σ H x y v u Q I rx ry h
 obtain⟨rfl,q⟩:=h
 cases ry
 refine isnot_none_gen (aJ I q ?_)
 cases x<;>first
  |(cases rx;rfl)
  |(obtain⟨t,rfl⟩:=rx;rfl)
def aF(b:Expr){op:CmpOp}(h:op ≠ .In:=by decide)(h2:op ≠ .NotIn:=by decide):behindInMarks op b=false:=by
 have e1:(op == CmpOp.In)=false:=by cases op<;>first|rfl|exact absurd rfl h
 have e2:(op == CmpOp.NotIn)=false:=by cases op<;>first|rfl|exact absurd rfl h2
 cases b<;>simp[behindInMarks,e1,e2]
def uX{op:CmpOp}{r:R2}(ho:gf X (compareOp op) r)(ha:PE X a ta)(hb:PE X b tb)(hm:behindInMarks op b=false):PE X (.Compare a [op] [b] pos) (zh r ta tb):=by
 intro pins s σ H Q I h
 exact wpAny_Compare1 (xF ha hb I h fun v u s2 x y H2 I2 rx ry q=>ho pins s2 σ H2 x y v u Q I2 rx ry q) hm
def zR(t:TE):TT:=fun σ H Q=>t σ H fun x H'=>∃k,x = .bl k/\Q k H'
def uY{op:CmpOp}{r:R2}(ho:gf X (compareOp op) r)(ha:PE X a ta)(hb:PE X b tb)(hm:behindInMarks op b=false):PT X (.Compare a [op] [b] pos) (zR (zh r ta tb)):=by
 intro pins s σ H Q I h
 refine wpAny_isTrue_Compare1 (bA (ha pins s σ H _ I h) fun v s1 ⟨x,H1,I1,r1,q1⟩=>bA (hb pins s1 σ H1 _ I1 q1) fun u s2 ⟨y,H2,I2,r2,q2⟩=>
  bA (ho pins s2 σ H2 x y v u _ I2 r1 r2 q2) fun c s3 ⟨z,H3,I3,r3,k,e,q3⟩=>?_) hm
 subst e
 cases r3
 exact wpAny_truthy_bool ⟨H3,I3,q3⟩
def iA:(sizeLine:Nat) < 2 ^ 63:=by rw[sizeLine_eq];decide
def nH:gf X (binaryOp .Add) (fun x y H Q=>∃i j,x = .str i/\y = .str j/\i.length+j.length<=sizeLine/\Q (.str (i++j)) H):=by
 intro pins s σ H x y v u Q I rx ry h
 obtain⟨i,j,rfl,rfl,hz,q⟩:=h
 obtain⟨t,rfl⟩:=rx
 obtain⟨t',rfl⟩:=ry
 exact add_str (fun t' tk=>⟨.str (i++j),H,I.tok _,⟨_,rfl⟩,q⟩) hz
def fu{x:V}{us:Vv}(r:Vals [x] us):∃u,us=[u]/\RelV x u:=by
 cases r with
 |cons r1 r2=>cases r2;exact⟨_,rfl,r1⟩
def wu{x y:V}{us:Vv}(r:Vals [x,y] us):∃u w',us=[u,w']/\RelV x u/\RelV y w':=by
 cases r with
 |cons r1 r2=>
  cases r2 with
  |cons r3 r4=>cases r4;exact⟨_,_,rfl,r1,r3⟩
def rQ:dW X (.builtin "abs") (fun xs H Q=>∃i,xs=[.int i]/\Q (.int (if i < 0 then -i else i)) H):=by
 intro pins s σ H xs us Q I r h
 obtain⟨i,rfl,q⟩:=h
 obtain⟨u,rfl,t,rfl⟩:=fu r
 exact call_abs_int fun u tk=>⟨.int (if i < 0 then -i else i),H,I.tok _,⟨_,rfl⟩,q⟩
def qk(hc:X.calm=true):dW X (.builtin "max") (fun xs H Q=>∃i j,xs=[.int i,.int j]/\Q (.int (if j > i then j else i)) H):=by
 intro pins s σ H xs us Q I r h
 obtain⟨i,j,rfl,q⟩:=h
 obtain⟨u,w',rfl,⟨t,rfl⟩,⟨t',rfl⟩⟩:=wu r
 refine max_two_ints (I.ok.hd hc) fun h' tk k=>⟨_,H,I.kept k,?_,q⟩
 by_cases hj:j > i
 ·rw[if_pos hj,if_pos hj];exact⟨_,rfl⟩
 ·rw[if_neg hj,if_neg hj];exact⟨_,rfl⟩
def kD:dW X (.type "int") (fun xs H Q=>(∃i,xs=[.int i]/\Q (.int i) H)\/∃k,xs=[.bl k]/\Q (.int (if k then 1 else 0)) H):=by
 intro pins s σ H xs us Q I r h
 rcases h with⟨i,rfl,q⟩|⟨k,rfl,q⟩
 ·obtain⟨u,rfl,t,rfl⟩:=fu r
  exact call_int_int ⟨.int i,H,I,⟨_,rfl⟩,q⟩
 ·obtain⟨u,rfl,r1⟩:=fu r
  cases r1
  exact call_int_bool ⟨.int (if k then 1 else 0),H,I.tok _,⟨_,rfl⟩,q⟩
end
structure ObjM (h:Heap) (x dx C:Addr) (mA:Vr):Prop where
 obj:h.get? x=some (PySem.W.instObj C dx)
 ns:h.Ns1 dx mA
 ne:dx≠x
def ql{h:Heap}{dx:Addr}{mA:Vr}(n:h.Ns1 dx mA):∃od,h.get? dx=some od/\∀name,PySem.W.lookIn name od=some (mA name):=by
 obtain⟨o,es,ep,ho,hd,hk,_,hm⟩:=n
 refine⟨o,ho,fun name=>?_⟩
 have e:=hm name
 unfold nsFind findBy at e
 rw[<-Array.find?_toList]at e
 unfold PySem.W.lookIn
 rw[hd]
 dsimp only
 split
 ·rename_i y q
  rw[q]at e
  exact congrArg some e
 ·rename_i q
  rw[q]at e
  have a:es.toList.any (·.refKey)=false:=by
   rw[List.any_eq_false]
   intro y hy
   obtain⟨z,t,hkey⟩:=hk y (Array.mem_toList_iff.mp hy)
   simp[DictEntry.refKey,hkey]
  have a':¬es.toList.any (·.refKey)=true:=by rw[a];exact Bool.false_ne_true
  rw[if_neg a']
  exact congrArg some e
def ObjM.look{h:Heap}{x dx C:Addr}{mA:Vr}(I:ObjM h x dx C mA):∃od,PySem.W.InstAt h x (PySem.W.instObj C dx) C (some od)/\∀name,PySem.W.lookIn name od=some (mA name):=
 let ⟨od,ho,hl⟩:=ql I.ns
 ⟨od,⟨I.obj,rfl,rfl,ho⟩,hl⟩
section
variable {prog:Program} {w:World} {A:Around} {E:Vq} {s:Shared} {K:Vo} {x dx C f:Addr} {mA:Vr} {name:Str} {v:Value}
def uZ{expr:Bool}{Q:Vq}(X:K.In s.heap)(I:ObjM s.heap x dx C mA)(hg:PySem.W.plainGet K C name=true)(hh:PySem.W.hasDictIn K C=true)
  (ha:PySem.W.findIn K (.ref C) name=some none) (hv:mA name=some v) (hv':PySem.W.handedIn v=true) (h:Q v { s with toks:=s.toks+1 }) :
  wpAny (model prog w) A (getAttr (.ref x) name expr) Q E s:=by
 obtain⟨od,J,hl⟩:=I.look
 exact PySem.W.get_value X J (PySem.W.plainGet_of hg).1 (PySem.W.findObj_own hh ha rfl (by rw[hl,hv])) hv' h
def rR{pl:Sem Bool}{Q:Value×List Value->Shared->Prop}(X:K.In s.heap)(I:ObjM s.heap x dx C mA)(hg:PySem.W.plainGet K C name=true)
  (hf:PySem.W.findIn K (.ref C) name=some (some (.ref f))) (ht:PySem.W.isFn K (.ref f)=true) (hv:mA name=none) (h:Q (.ref f,[.ref x]) s) :
  wpAny (model prog w) A (getMethod (.ref x) name pl) Q E s:=by
 obtain⟨od,J,hl⟩:=I.look
 exact PySem.W.method_fn X J (PySem.W.plainGet_of hg).1 (PySem.W.plainGet_of hg).2 hf (beq_iff_eq.mp ht) (by show(PySem.W.lookIn name od).map (·.isSome)=some false;rw[hl,hv];rfl) h
def u3{ns:Vs}{Q:Unit->Shared->Prop}(X:K.In s.heap)(I:ObjM s.heap x dx C mA)
  (hs:PySem.W.findIn K (.ref C) "__setattr__" = some (some (.builtin "object.__setattr__"))) (hp:PySem.W.plainOver K C=true) (ht:PySem.W.takerIn K C name=some none) (hh:PySem.W.hasDictIn K C=true)
  (hw:PySem.Within mA ns) (hsz:ns.length<=sizeLine)
  (h:∀h',ObjM h' x dx C (fun y=>if y=name then some v else mA y)->Heap.SameBut dx s.heap h'->Q () { s with heap:=h',toks:=s.toks+2 }) :
  wpAny (model prog w) A (setAttr (.ref x) name v) Q E s:=by
 obtain⟨od,J,hl⟩:=I.look
 refine PySem.W.set_plain X J hs (PySem.W.osa_open (s:={ s with toks:=s.toks+1 }) (r:=none) X J hp ht fun b=>?_)
 obtain⟨cd,hc,hd'⟩:=PySem.W.any_some hh
 have hx:s.heap.get? x=some ⟨.ref C,some dx,.plain,#[]⟩:=I.obj
 refine wpAny_bind (wpAny_pure (wpAny_bind (wpAny_bind (wpAny_loadPart hx (wpAny_bind (PySem.W.Looks.here (s:={ s with toks:=s.toks+1 }) (PySem.W.looks_clsIn X hc) ?_))))))
 rw[hd']
 refine wpAny_pure (a:=some dx) (wpAny_bind (wpAny_pure (wpAny_bind ?_)))
 refine wpAny_nsSet1 (s:={ s with toks:=s.toks+1 }) I.ns fun h' hn2 hs2=>?_
 obtain⟨oD,esD,epD,KF,KG,KH⟩:=hn2.count (PySem.Within.cons name v hw)
 refine wpAny_bind (wpAny_lookBehind KF (by rw[KG];exact pastItsLine_dict (Nat.le_trans KH (by rw[List.length_cons];omega))) ?_)
 exact wpAny_pure (h _ ⟨(hs2.2 _ (Ne.symm I.ne)).trans I.obj,hn2,I.ne⟩ hs2)
def rT{R:Result->Shared->Prop}{vs:Vv}{kw:List (Str×Value)}(X:K.In s.heap)(hm:PySem.W.makesIn K C=true)
  (hi:PySem.W.findIn K (.ref C) "__init__" = some (some (.ref f))) (hf:PySem.W.typeIn K (.ref f)=some (.type "function"))
  (h:codeAny (model prog w) (A.under (.builtin "type.__call__" ⟨.ref C::vs,kw⟩)) (.call (.ref f) ⟨.ref (s.heap.objs.size+1)::vs,kw⟩) (PySem.W.InitBack (s.heap.objs.size+1) R)
   { s with heap:=(s.heap.push PySem.W.emptyDict).push (PySem.W.instObj C s.heap.objs.size) }) :
  codeAny (model prog w) A (.call (.ref C) ⟨vs,kw⟩) R s:=by
 obtain⟨hh,g,d,t,os⟩:=s
 exact PySem.W.make_core (PySem.W.makes_of X hm) (PySem.W.looks_findIn X hi) (fun self=>PySem.W.bind_fn X self hf) (.inl rfl) h
end
noncomputable def putF(f:Str)(v:V):List (Str×V)->List (Str×V)
 |[]=>[(f,v)]
 |(g,x)::r=>if g=f then (g,v)::r else (g,x)::putF f v r
theorem jd(f g:Str)(v:V):∀fs:List (Str×V),(putF f v fs).lookup g=if g=f then some v else fs.lookup g
 |[]=>by
  show List.lookup g [(f,v)]=_
  by_cases h:g=f
  ·have hb:(g == f)=true:=beq_iff_eq.mpr h
   simp only[List.lookup,hb,if_pos h]
  ·have hb:(g == f)=false:=beq_eq_false_iff_ne.mpr h
   simp only[List.lookup,hb,if_neg h]
 |(k,x)::r=>by
  have ih:=jd f g v r
  rw[show putF f v ((k,x)::r)=(if k=f then (k,v)::r else (k,x)::putF f v r)from rfl]
  by_cases hk:k=f
  ·rw[if_pos hk]
   by_cases h:g=k
   ·have hb:(g == k)=true:=beq_iff_eq.mpr h
    simp only[List.lookup,hb,if_pos (h.trans hk)]
   ·have hb:(g == k)=false:=beq_eq_false_iff_ne.mpr h
    simp only[List.lookup,hb,if_neg (fun e:g=f=>h (e.trans hk.symm))]
  ·rw[if_neg hk]
   by_cases h:g=k
   ·have hb:(g == k)=true:=beq_iff_eq.mpr h
    simp only[List.lookup,hb,if_neg (fun e:g=f=>hk (h.symm.trans e))]
   ·have hb:(g == k)=false:=beq_eq_false_iff_ne.mpr h
    simp only[List.lookup,hb]
    exact ih
theorem iB(f:Str)(v:V):∀fs:List (Str×V),f∈(putF f v fs).map (·.1)/\∀g,g∈fs.map (·.1)->g∈(putF f v fs).map (·.1)
 |[]=>⟨by simp[putF],fun g h=>by simp at h⟩
 |(k,x)::r=>by
  obtain⟨i1,i2⟩:=iB f v r
  rw[show putF f v ((k,x)::r)=(if k=f then (k,v)::r else (k,x)::putF f v r)from rfl]
  by_cases hk:k=f
  ·rw[if_pos hk]
   subst hk
   exact⟨by simp,fun g h=>by simpa using h⟩
  ·rw[if_neg hk]
   refine⟨?_,fun g h=>?_⟩
   ·rw[List.map_cons]
    exact List.mem_cons_of_mem _ i1
   ·rw[List.map_cons]at h ⊢
    rcases List.mem_cons.mp h with e|e
    ·exact List.mem_cons.mpr (.inl e)
    ·exact List.mem_cons_of_mem _ (i2 g e)
theorem je(f:Str)(v:V):∀fs:List (Str×V),(putF f v fs).length<=fs.length+1
 |[]=>by simp[putF]
 |(k,x)::r=>by
  have ih:=je f v r
  rw[show putF f v ((k,x)::r)=(if k=f then (k,v)::r else (k,x)::putF f v r)from rfl]
  by_cases hk:k=f
  ·rw[if_pos hk,List.length_cons,List.length_cons];omega
  ·rw[if_neg hk,List.length_cons,List.length_cons];omega
def RelO.some_of{v:V}{o:Option Value}(r:RelO (some v) o):∃u,o=some u/\RelV v u:=by
 cases o with
 |none=>exact(show False from r).elim
 |some u=>exact⟨u,rfl,r⟩
def RelO.none_of{o:Option Value}(r:RelO none o):o=none:=by
 cases o with
 |none=>rfl
 |some u=>exact(show False from r).elim
def qm{v:V}{u:Value}(r:RelV v u):PySem.W.handedIn u=true:=by
 cases v with
 |non=>cases (show u=Value.none from r);rfl
 |bl b=>cases (show u=Value.bool b from r);rfl
 |int i=>obtain⟨t,e⟩:=(show ∃t,u=Value.int i t from r);cases e;rfl
 |str x=>obtain⟨t,e⟩:=(show ∃t,u=Value.str x t from r);cases e;rfl
 |GJ b=>obtain⟨t,e⟩:=(show ∃t,u=Value.bytes b t from r);cases e;rfl
 |ID b=>obtain⟨t,e⟩:=(show ∃t,u=Value.float b t from r);cases e;rfl
 |ref a=>cases (show u=Value.ref a from r);rfl
 |ty n=>cases (show u=Value.type n from r);rfl
section
variable {P:Program} {w:World} {H H':Hp} {h h':Heap} {a C dx:Addr} {fs fs':List (Str×V)}
def li(hok:ES P w H h)(e:H a=some (.ins C dx fs)):∃mA,ObjM h a dx C mA/\(∀f,RelO (fs.lookup f) (mA f))/\PySem.Within mA (fs.map (·.1))/\fs.length<=1000/\H dx=some (.own a):=by
 obtain⟨d,z,ne,ob,mA,n,r,q⟩:=(show ObjOk P w H h a (.ins C dx fs)from hok a _ e)
 exact⟨mA,⟨ob,n,ne⟩,r,q,z,d⟩
end
structure Cls (K:Vo) (C:Addr):Prop where
 pg:PySem.W.plainGet K C Str.empty=true
 hd:PySem.W.hasDictIn K C=true
 po:PySem.W.plainOver K C=true
 sa:PySem.W.findIn K (.ref C) "__setattr__" = some (some (.builtin "object.__setattr__"))
def Cls.get{K:Vo}{C:Addr}(c:Cls K C)(f:Str):PySem.W.plainGet K C f=true:=c.pg
def NoAttr(K:Vo)(C:Addr)(f:Str):Prop:=PySem.W.findIn K (.ref C) f=some none
def NoAttr.H_{K:Vo}{C:Addr}{f:Str}(n:NoAttr K C f):PySem.W.takerIn K C f=some none:=by
 unfold PySem.W.takerIn
 rw[show PySem.W.findIn K (.ref C) f=some none from n]
 rfl
structure rV (K:Vo) (C:Addr) (m:Str) (f:Addr):Prop where
 at_:PySem.W.findIn K (.ref C) m=some (some (.ref f))
 fn:PySem.W.isFn K (.ref f)=true
 kp:PySem.W.keepIn K (.ref f)=true
section
variable {X:Cx} {pins:Va} {σ:St} {H:Hp} {s:Shared} {a C dx:Addr} {fs:List (Str×V)} {f:Str} {v:V} {A:Around} {E:Vq}
def nI{b:Bool}{Q:Vq}(I:Inv X pins σ H s)(e:H a=some (.ins C dx fs))(c:Cls X.K C)(n:NoAttr X.K C f)(l:fs.lookup f=some v)
  (h:∀u s',Inv X pins σ H s'->RelV v u->Q u s'):wpAny (model X.prog X.w) A (getAttr (.ref a) f b) Q E s:=by
 obtain⟨mA,O,r,_,_,_⟩:=li I.hok e
 obtain⟨u,hu,ru⟩:=RelO.some_of (v:=v) (o:=mA f) (by rw[<-l];exact r f)
 exact uZ I.Gd O (c.get f) c.hd n hu (qm ru) (h u _ (I.tok _) ru)
def jF{m:Str}{g:Addr}{pl:Sem Bool}{Q:Value×List Value->Shared->Prop}(I:Inv X pins σ H s)(e:H a=some (.ins C dx fs))(c:Cls X.K C)(k:rV X.K C m g)(l:fs.lookup m=none)
  (h:Q (.ref g,[.ref a]) s):wpAny (model X.prog X.w) A (getMethod (.ref a) m pl) Q E s:=by
 obtain⟨mA,O,r,_,_,_⟩:=li I.hok e
 have hn:mA m=none:=RelO.none_of (by rw[<-l];exact r m)
 exact rR I.Gd O (c.get m) k.at_ k.fn hn h
def nJ{y:V}{u:Value}{Q:Unit->Shared->Prop}(I:Inv X pins σ H s)(e:H a=some (.ins C dx fs))(c:Cls X.K C)(n:NoAttr X.K C f)(hl:fs.length < 1000)(ry:RelV y u)
  (h:∀s',Inv X pins σ (upd H a (.ins C dx (putF f y fs))) s'->Q () s'):wpAny (model X.prog X.w) A (setAttr (.ref a) f u) Q E s:=by
 obtain⟨mA,O,r,wi,_,ho⟩:=li I.hok e
 have hz:(fs.map (·.1)).length<=sizeLine:=by rw[List.length_map,sizeLine_eq];omega
 refine u3 I.Gd O c.sa c.po n.H_ c.hd wi hz fun h' O' sb=>h _ ?_
 have hd:∃o,h'.get? dx=some o:=let ⟨o,_,_,e',_⟩:=O'.ns;⟨o,e'⟩
 refine I.write (x:=a) (e:=dx) (by rw[e];exact True.intro) (.inr ho) (fun b q hb z=>(sb.2 b hb).trans z) hd ?_
 refine⟨by rw[az O.ne];exact ho,?_,O.ne,O'.obj,_,O'.ns,fun g=>?_,fun g hg=>?_⟩
 ·have:=je f y fs;omega
 ·show RelO ((putF f y fs).lookup g) (if g=f then some u else mA g)
  rw[jd]
  by_cases q:g=f
  ·rw[if_pos q,if_pos q];exact ry
  ·rw[if_neg q,if_neg q];exact r g
 ·by_cases q:g=f
  ·rw[q];exact(iB f y fs).1
  ·refine(iB f y fs).2 g (wi g fun z=>hg ?_)
   show(if g=f then some u else mA g)=none
   rw[if_neg q];exact z
def Inv.made(I:Inv X pins σ H s):Inv X pins σ (upd (upd H s.heap.objs.size (.own (s.heap.objs.size+1))) (s.heap.objs.size+1) (.ins C s.heap.objs.size []))
  { s with heap:=(s.heap.push PySem.W.emptyDict).push (PySem.W.instObj C s.heap.objs.size) }:=by
 have e1:(s.heap.push PySem.W.emptyDict).get? s.heap.objs.size=some PySem.W.emptyDict:=Heap.get?_push_size s.heap rfl
 have e2:((s.heap.push PySem.W.emptyDict).push (PySem.W.instObj C s.heap.objs.size)).get? (s.heap.objs.size+1)=some (PySem.W.instObj C s.heap.objs.size):=by
  have:=Heap.get?_push_size (s.heap.push PySem.W.emptyDict) (o:=PySem.W.instObj C s.heap.objs.size) rfl
  rwa [Heap.size_push]at this
 have e3:(s.heap.push PySem.W.emptyDict).Ns s.heap.objs.size (fun _=>none):=⟨PySem.W.emptyDict,#[],_,e1,rfl,(fun e he=>absurd he (by simp)),fun _=>rfl⟩
 have I1:=I.laid (a:=s.heap.objs.size) (o:=.own (s.heap.objs.size+1)) (h':=s.heap.push PySem.W.emptyDict) (t':=s.toks) (fun b u q=>Heap.get?_push_of_some _ q) (Nat.le_refl _) ⟨_,e1⟩
 refine I1.laid (a:=s.heap.objs.size+1) (o:=.ins C s.heap.objs.size []) (t':=s.toks) (fun b u q=>Heap.get?_push_of_some _ q) (Nat.le_of_eq (Heap.size_push _ _)) ?_
 have ne:s.heap.objs.size≠s.heap.objs.size+1:=Nat.ne_of_lt (Nat.lt_succ_self _)
 refine⟨by rw[az ne,ay],Nat.zero_le _,ne,e2,fun _=>none,(Heap.Ns1.of_empty e3).at fun o q=>Heap.get?_push_of_some _ q,fun _=>True.intro,fun y hy=>absurd rfl hy⟩
def u4{prog:Program}{w:World}{env:Env}{e:Expr}{f:Str}{pos:Pos}{s:Shared}{Q:Vq}(hb:attributeBase e f env (eval e env)=eval e env)
  (h:wpAny (model prog w) A (eval e env) (fun o s₁=>wpAny (model prog w) A (getAttr o f true) Q E s₁) E s):wpAny (model prog w) A (eval (.Attribute e f pos) env) Q E s:=
 Attribute_any_ h (by rw[arm_eval_Attribute,hb])
end
def BB(K:Vo)(ta:TE)(f:Str):TE:=fun σ H Q=>ta σ H fun x H1=>∃a C dx fs v,x = .ref a/\H1 a=some (.ins C dx fs)/\Cls K C/\NoAttr K C f/\fs.lookup f=some v/\Q v H1
def BC(K:Vo)(ta tv:TE)(f:Str):TS:=fun D σ H=>tv σ H fun y H1=>ta σ H1 fun x H2=>∃a C dx fs,x = .ref a/\H2 a=some (.ins C dx fs)/\Cls K C/\NoAttr K C f/\fs.length < 1000/\
 D.nx σ (upd H2 a (.ins C dx (putF f y fs)))
section
variable {X:Cx} {o e value:Expr} {f:Str} {pos pos' tpos:Pos} {ta tv:TE}
def xN(he:PE X e ta)(hb:attributeBase e f X.env (eval e X.env)=eval e X.env):PE X (.Attribute e f pos) (BB X.K ta f):=by
 intro pins s σ H Q I h
 refine u4 hb (bA (he pins s σ H _ I h) fun u s1 ⟨x,H1,I1,rx,a,C,dx,fs,v,ex,ea,c,n,l,q⟩=>?_)
 subst ex
 obtain rfl:u=Value.ref a:=rx
 exact nI I1 ea c n l fun u' s2 I2 ru=>⟨v,H1,I2,ru,q⟩
def xO(ha:PE X o ta)(hv:PE X value tv)(hs:swapsWith value (some (.Attribute o f pos')) pos.line X.env=pure false):PS X (.Assign [.Attribute o f pos'] value pos) (BC X.K ta tv f):=by
 intro pins s σ H D I h
 refine plainObj_wpAny_Assign_Attribute (bA (hv pins s σ H _ I h) fun u s1 ⟨y,H1,I1,ry,q⟩=>bA (ha pins s1 σ H1 _ I1 q) fun ov s2 ⟨x,H2,I2,rx,a,C,dx,fs,ex,ea,c,n,l,q2⟩=>?_) hs
 subst ex
 obtain rfl:ov=Value.ref a:=rx
 exact nJ I2 ea c n l ry fun s3 I3=>⟨σ,_,I3,q2⟩
end
section
variable {X:Cx} {pins:Va} {σ:St} {H:Hp} {s:Shared} {A:Around} {E:Vq} {Q:Vq} {c:Value} {b:Bool}
end
structure Room (k:Nat) (A:Around):Prop where
 hd:A.handled=none
 dp:A.depth+3 * k+5 < recursionLimit
 un:A.units+16 * k+200 < cLine
 gd:A.guards=some []
def Room.mono{j k:Nat}{A:Around}(r:Room k A)(h:j<=k):Room j A:=⟨r.hd,by have:=r.dp;omega,by have:=r.un;omega,r.gd⟩
theorem Room.deeper{k:Nat}{A:Around}(r:Room (k+1) A)(env:Env):Room k (A.deeper env):=
 ⟨r.hd,by have:=r.dp;show A.depth+1+3 * k+5 < _;omega,by have:=r.un;show A.units+3+16 * k+200 < _;omega,r.gd⟩
def nK{A:Around}{C:Addr}{us:Vv}{kw:List (Str×Value)}:(A.under (.builtin "type.__call__" ⟨.ref C::us,kw⟩)).depth=A.depth+1:=by
 first|rfl|simp[Around.under,Code.weight,Code.isCreation,Code.isGuard,Code.isCaller,Code.frames,Code.isFrame,guardIds]
def nL{A:Around}{C:Addr}{us:Vv}{kw:List (Str×Value)}:(A.under (.builtin "type.__call__" ⟨.ref C::us,kw⟩)).units=A.units+1:=by
 first|rfl|simp[Around.under,Code.cUnits,Code.frames,Code.isFrame]
def mz{A:Around}{C:Addr}{us:Vv}{kw:List (Str×Value)}:(A.under (.builtin "type.__call__" ⟨.ref C::us,kw⟩)).guards=A.guards:=by
 first|rfl|(cases h:A.guards<;>simp[Around.under,Code.guards,Code.isGuard,guardIds,pushGuards,h])
def Room.make{k:Nat}{A:Around}(r:Room (k+1) A)(C:Addr)(us:Vv)(kw:List (Str×Value)):Room k (A.under (.builtin "type.__call__" ⟨.ref C::us,kw⟩)):=
 ⟨r.hd,by have:=r.dp;rw[nK];omega,by have:=r.un;rw[nL];omega,by rw[mz];exact r.gd⟩
theorem Room.depth{k:Nat}{A:Around}(r:Room k A):A.depth < recursionLimit:=by have:=r.dp;omega
def u5:TA:=fun _ H Q=>Q [] H
def rW(ta:TE)(tr:TA):TA:=fun σ H Q=>ta σ H fun x H1=>tr σ H1 fun xs H2=>Q (x::xs) H2
section
variable {X:Cx} {e:Expr} {es:List Expr} {te:TE} {t:TA} {pos:Pos}
def xP:PA X [] u5:=fun _ _ _ _ H Q I h=>Calls.spliced_nil ⟨[],H,I,.nil,h⟩
def u6(ha:PE X e te)(hr:PA X es t)(hs:starEach (e::es) X.env=(false,eval e X.env)::starEach es X.env:=by rfl):PA X (e::es) (rW te t):=by
 intro pos pins s σ H Q I h
 rw[hs]
 show wpAny _ _ (spliced ((false,eval e X.env)::backTo pos (starEach es X.env))) _ _ s
 refine Calls.spliced_cons (bA (ha pins s σ H _ I h) fun u s1 ⟨x,H1,I1,r1,q1⟩=>?_)
 exact bA (hr pos pins s1 σ H1 _ I1 q1) fun us s2 ⟨xs,H2,I2,r2,q2⟩=>⟨x::xs,H2,I2,.cons r1 r2,q2⟩
def BD(t:TA):TE:=fun σ H Q=>t σ H fun xs H1=>xs.length<=sizeLine/\∀p,H1 p=none->Q (.ref p) (upd H1 p (.tup xs))
def BE(t:TA):TE:=fun σ H Q=>t σ H fun xs H1=>xs.length<=sizeLine/\∀p,H1 p=none->Q (.ref p) (upd H1 p (.lst xs))
def xQ{x1}(h:PA X es t):PE X (.Tuple es x1 pos) (BD t):=by
 intro pins s σ H Q I hq
 refine wpAny_Tuple_spliced (bA (h pos pins s σ H _ I hq) fun us s1 ⟨xs,H1,I1,r,z,q⟩=>⟨by rw[<-r.length];exact z,?_⟩)
 have hf:H1 s1.heap.objs.size=none:=I1.hok.fresh (Nat.le_refl _)
 refine⟨.ref s1.heap.objs.size,upd H1 s1.heap.objs.size (.tup xs),I1.laid (t':=s1.toks) (fun b u e=>Heap.get?_push_of_some _ e) (Nat.le_refl _) ?_,rfl,q _ hf⟩
 exact⟨z,us,r,⟨_,Heap.get?_push_size _ rfl,rfl,rfl,_,rfl⟩⟩
def xR(h:PA X es t):PE X (.List es pos) (BE t):=by
 intro pins s σ H Q I hq
 refine wpAny_List_spliced (bA (h pos pins s σ H _ I hq) fun us s1 ⟨xs,H1,I1,r,z,q⟩=>⟨by rw[<-r.length];exact z,?_⟩)
 have hf:H1 s1.heap.objs.size=none:=I1.hok.fresh (Nat.le_refl _)
 refine⟨.ref s1.heap.objs.size,upd H1 s1.heap.objs.size (.lst xs),I1.laid (t':=s1.toks) (fun b u e=>Heap.get?_push_of_some _ e) (Nat.le_refl _) ?_,rfl,q _ hf⟩
 exact⟨z,us,0,r,Heap.get?_push_size _ rfl⟩
end
abbrev Sp:=List V->Hp->VK->XK->Prop
abbrev rX:=List Env->Hp->Shared->XK->Value->Shared->Prop
structure Gg (P:Program) (w:World) (K:Vo) (mg:Vr) (base:Heap) (A:Around) (outer:List Env) (s:Shared) (H:Hp):Prop where
 frames:A.frames=some outer
 mod:Mod K mg base
 bs:∀b o,base.get? b=some o->s.heap.get? b=some o/\H b=none
 GX:base.objs.size<=s.heap.objs.size
 Fd:s.heap.FunFrames base outer
 Hd:∀b∈frs outer,H b=none
 hok:ES P w H s.heap
 bare:AllBare s.gens
def CE(outer:List Env)(P:Program)(w:World)(H:Hp)(s:Shared)(Q:VK)(u:Value)(s':Shared):Prop:=
 ∃v H',s'.os=s.os/\AllBare s'.gens/\Un (frs outer) [] H H' s.heap s'.heap/\ES P w H' s'.heap/\RelV v u/\Q v H'
def CR(CX:rX)(outer:List Env)(P:Program)(w:World)(H:Hp)(s:Shared)(Q:VK)(E:XK)(r:Result)(s':Shared):Prop:=
 match r with
 | .ok (.ret u)=>CE outer P w H s Q u s'
 | .ok _=>False
 | .error e=>CX outer H s E e s'
structure iC (P:Program) (w:World) (K:Vo) (mg:Vr) (base:Heap) (CX:rX) (k:Nat) (f:Addr) (fd:FuncData) (ps:Vs) (sp:Sp):Prop where
 len:∀vs H Q E,sp vs H Q E->vs.length=ps.length
 run:∀(A:Around) (outer:List Env) (s:Shared) (H:Hp) (args:Args) (us:Vv) (vs:List V) (Q:VK) (E:XK),Room k A->Gg P w K mg base A outer s H->BindsTo s fd args (ps.zip us)->Vals vs us->sp vs H Q E->
  codeAny (model P w) A (.call (.ref f) args) (CR CX outer P w H s Q E) s
def Gg.make{P:Program}{w:World}{K:Vo}{mg:Vr}{base:Heap}{A:Around}{outer:List Env}{s:Shared}{H:Hp}(e:Gg P w K mg base A outer s H)(C:Addr)(us:Vv)(kw:List (Str×Value)) :
  Gg P w K mg base (A.under (.builtin "type.__call__" ⟨.ref C::us,kw⟩)) outer s H:=⟨by first|exact e.frames|(simpa [Around.under,Code.envs,Code.isFrame,pushEnvs]using e.frames),e.mod,e.bs,e.GX,e.Fd,e.Hd,e.hok,e.bare⟩
section
variable {X:Cx} {pins:Va} {σ:St} {H:Hp} {s s':Shared}
def Inv.Ia(I:Inv X pins σ H s):Gg X.prog X.w X.K X.mg X.base X.A X.stack s H:=
 ⟨I.ok.frames,I.ok.mod,I.bs,Nat.le_trans I.ok.GX I.sz,I.stack,I.Gs,I.hok,I.bare⟩
def Inv.after{Q:VK}{u:Value}(I:Inv X pins σ H s)(h:CE X.stack X.prog X.w H s Q u s'):EP X pins σ Q u s':=by
 obtain⟨v,H',os,bare,un,hok,r,q⟩:=h
 obtain⟨hh,g,d,t,os'⟩:=s'
 obtain rfl:os'=s.os:=os
 exact⟨v,H',I.call (h':=hh) (g':=g) (d':=d) (t':=t) (ch:=[]) un hok bare (fun b z=>absurd z (by simp)),r,q⟩
end
def zS(sp:Sp)(dvs:List V)(E:XK)(t:TA):TE:=fun σ H Q=>t σ H fun vs H1=>sp (vs++dvs) H1 Q E
def wv(C:Addr)(m:Str)(sp:Sp)(dvs:List V)(E:XK)(ta:TE)(t:TA):TE:=fun σ H Q=>ta σ H fun x H1=>∃a dx fs,x = .ref a/\H1 a=some (.ins C dx fs)/\fs.lookup m=none/\
 t σ H1 fun vs H2=>sp (x::(vs++dvs)) H2 Q E
def zT(C:Addr)(sp:Sp)(dvs:List V)(E:XK)(t:TA):TE:=fun σ H Q=>t σ H fun vs H1=>∀x dx,H1 x=none->H1 dx=none->dx≠x->
 sp (.ref x::(vs++dvs)) (upd (upd H1 dx (.own x)) x (.ins C dx [])) (fun v H2=>v = .non/\Q (.ref x) H2) E
def Binds(K:Vo)(fd:FuncData)(ps:Vs)(ds:Vv):Prop:=
 ∀(s:Shared) (us:Vv),K.In s.heap->(us++ds).length=ps.length->BindsTo s fd ⟨us,[]⟩ (ps.zip (us++ds))
def Binds.all{K:Vo}{fd:FuncData}{ps:Vs}(h:∀us:List Value,us.length=ps.length->bindArgs fd ⟨us,[]⟩=pure (ps.zip us)):Binds K fd ps []:=fun s us _ hl=>by
 rw[List.append_nil]at hl ⊢
 exact .of_eq (h us hl)
def gE(CX:rX)(X:Cx)(E:XK):Prop:=∀(pins:Va) (σ:St) (H:Hp) (s:Shared) (e:Value) (s':Shared),Inv X pins σ H s->CX X.stack H s E e s'->X.xe e s'
section
variable {X:Cx} {CX:rX} {k:Nat} {f C:Addr} {fd:FuncData} {ps:Vs} {sp:Sp} {dvs:List V} {ds:Vv} {E:XK} {x m:Str} {p pos apos:Pos} {e o:Expr} {es:List Expr} {ta:TE} {t:TA}
def nM{pins:Va}{σ:St}{H:Hp}{s:Shared}{Q:VK}{us:Vv}{vs:List V}(F:iC X.prog X.w X.K X.mg X.base CX k f fd ps sp)(hr:Room k X.A)(hb:Binds X.K fd ps ds)(hd:Vals dvs ds)(hx:gE CX X E)
  (I:Inv X pins σ H s) (r:Vals vs us) (h:sp (vs++dvs) H Q E):wpAny (model X.prog X.w) X.A (call (.ref f) us) (EP X pins σ Q) X.xe s:=by
 have r2:Vals (vs++dvs) (us++ds):=r.append hd
 have hl:(us++ds).length=ps.length:=by rw[<-r2.length];exact F.len _ _ _ _ h
 refine wpAny_call (codeAny_mono (F.run X.A X.stack s H ⟨us,[]⟩ (us++ds) (vs++dvs) Q E hr I.Ia (hb s us I.Gd hl) r2 h) fun r s' hq=>?_)
 cases r with
 |error e=>exact hx pins σ H s e s' I hq
 |ok fl=>
  cases fl with
  |ret u=>exact I.after hq
  |next=>exact False.elim hq
  |brk=>exact False.elim hq
  |cont=>exact False.elim hq
def u7(F:iC X.prog X.w X.K X.mg X.base CX k f fd ps sp)(hr:Room k X.A)(hg:Gl X x)(hm:X.mg x=some (.ref f))(hk:PySem.W.keepIn X.K (.ref f)=true)(hb:Binds X.K fd ps ds)(hd:Vals dvs ds)(hx:gE CX X E)
  (ha:PA X (e::es) t) (hdb:(x == ("__debug__":Str))=false:=by decide) (he:starEach (e::es) X.env=(false,eval e X.env)::starEach es X.env:=by rfl) (hpl:(backTo pos (starEach es X.env)).any (·.1)=false:=by rfl) :
  PE X (.Call (.Name x p) (e::es) [] pos) (zS sp dvs E t):=by
 intro pins s σ H Q I h
 refine wpAny_Call_Name_kw (oU I hg hm ?_ hdb)
 refine PySem.W.callWith_K (h₀:=X.base) I.ok.mod.HU hk (bA (ha pos pins s σ H _ I h) fun us s1 ⟨vs,H1,I1,r,q⟩=>⟨I1.Gd,?_⟩) he hpl
 exact nM F hr hb hd hx I1 r q
def u8{pl:Sem Bool}(he:PE X o ta)(c:Cls X.K C)(hm:rV X.K C m f)(F:iC X.prog X.w X.K X.mg X.base CX k f fd ps sp)(hr:Room k X.A)(hb:Binds X.K fd ps ds)(hd:Vals dvs ds)(hx:gE CX X E)(ha:PA X (e::es) t)
  (hst:starEach (e::es) X.env=(false,eval e X.env)::starEach es X.env:=by rfl) (hpl:(backTo pos (starEach es X.env)).any (·.1)=false:=by rfl)
  (ht:eval (.Call (.Attribute o m apos) (e::es) [] pos) X.env=(do
   let ov <-eval o X.env
   standAt apos.atName
   let (f,first) <-holding [ov] (getMethod ov m pl)
   callWith pos f first (backTo pos (starEach (e::es) X.env)) (backToKw pos (keywordEach [] X.env))):=by rfl) :
  PE X (.Call (.Attribute o m apos) (e::es) [] pos) (wv C m sp dvs E ta t):=by
 intro pins s σ H Q I h
 refine PySem.W.methodCall_KW (pl:=pl) (bA (he pins s σ H _ I h) fun u s1 ⟨x,H1,I1,rx,a,dx,fs,ex,ea,l,q⟩=>?_) ht
 subst ex
 obtain rfl:u=Value.ref a:=rx
 refine jF I1 ea c hm l ?_
 refine PySem.W.callWith_K (first:=[.ref a]) (h₀:=X.base) I.ok.mod.HU hm.kp (bA (ha pos pins s1 σ H1 _ I1 q) fun us s2 ⟨vs,H2,I2,r,q2⟩=>⟨I2.Gd,?_⟩) hst hpl
 exact nM (us:=.ref a::us) (vs:=.ref a::vs) F hr hb hd hx I2 (.cons rfl r) q2
def rY{pl:Sem Bool}(he:PE X o ta)(c:Cls X.K C)(hm:rV X.K C m f)(F:iC X.prog X.w X.K X.mg X.base CX k f fd ps sp)(hr:Room k X.A)(hb:Binds X.K fd ps ds)(hd:Vals dvs ds)(hx:gE CX X E)
  (ht:eval (.Call (.Attribute o m apos) [] [] pos) X.env=(do
   let ov <-eval o X.env
   standAt apos.atName
   let (f,first) <-holding [ov] (getMethod ov m pl)
   callWith pos f first (backTo pos (starEach [] X.env)) (backToKw pos (keywordEach [] X.env))):=by rfl) :
  PE X (.Call (.Attribute o m apos) [] [] pos) (wv C m sp dvs E ta u5):=by
 intro pins s σ H Q I h
 refine PySem.W.methodCall_KW (pl:=pl) (bA (he pins s σ H _ I h) fun u s1 ⟨x,H1,I1,rx,a,dx,fs,ex,ea,l,q⟩=>?_) ht
 subst ex
 obtain rfl:u=Value.ref a:=rx
 refine jF I1 ea c hm l ?_
 exact PySem.W.callWith_K0 (first:=[.ref a]) I1.Gd hm.kp (nM (us:=[.ref a]) (vs:=[.ref a]) F hr hb hd hx I1 (.cons rfl .nil) q)
structure Mk (K:Vo) (C f:Addr):Prop where
 makes:PySem.W.makesIn K C=true
 init:PySem.W.findIn K (.ref C) "__init__" = some (some (.ref f))
 fn:PySem.W.isFn K (.ref f)=true
 kp:PySem.W.keepIn K (.ref C)=true
def rZ{pins:Va}{σ:St}{H:Hp}{s:Shared}{Q:VK}{us:Vv}{vs:List V}(M:Mk X.K C f)(F:iC X.prog X.w X.K X.mg X.base CX k f fd ps sp)(hr:Room (k+1) X.A)(hb:Binds X.K fd ps ds)(hd:Vals dvs ds)
  (hx:gE CX X E) (I:Inv X pins σ H s) (r:Vals vs us)
  (h:∀x dx,H x=none->H dx=none->dx≠x->sp (.ref x::(vs++dvs)) (upd (upd H dx (.own x)) x (.ins C dx [])) (fun v H2=>v = .non/\Q (.ref x) H2) E) :
  wpAny (model X.prog X.w) X.A (call (.ref C) us) (EP X pins σ Q) X.xe s:=by
 have hq:=h (s.heap.objs.size+1) s.heap.objs.size (I.hok.fresh (Nat.le_succ _)) (I.hok.fresh (Nat.le_refl _)) (Nat.ne_of_lt (Nat.lt_succ_self _))
 have I2:=Inv.made (C:=C) I
 have r2:Vals (V.ref (s.heap.objs.size+1)::(vs++dvs)) (Value.ref (s.heap.objs.size+1)::(us++ds)):=.cons rfl (r.append hd)
 have hl:(Value.ref (s.heap.objs.size+1)::us++ds).length=ps.length:=by
  have e:=r2.length
  rw[F.len _ _ _ _ hq]at e
  exact e.symm
 refine wpAny_call (rT (f:=f) I.Gd M.makes M.init (beq_iff_eq.mp M.fn) (codeAny_mono (F.run _ X.stack _ _ ⟨Value.ref (s.heap.objs.size+1)::us,[]⟩ (Value.ref (s.heap.objs.size+1)::(us++ds)) _ _ E (hr.make C us [])
  (I2.Ia.make C us []) (hb _ (Value.ref (s.heap.objs.size+1)::us) I2.Gd hl) r2 hq) fun r s' hq'=>?_))
 cases r with
 |error e=>exact hx pins σ _ _ e s' I2 hq'
 |ok fl=>
  cases fl with
  |ret u=>
   obtain⟨v,H',I3,rv,ev,q3⟩:=I2.after hq'
   subst ev
   exact⟨rv,⟨V.ref (s.heap.objs.size+1),H',I3,rfl,q3⟩⟩
  |next=>exact False.elim hq'
  |brk=>exact False.elim hq'
  |cont=>exact False.elim hq'
def u9(M:Mk X.K C f)(F:iC X.prog X.w X.K X.mg X.base CX k f fd ps sp)(hr:Room (k+1) X.A)(hg:Gl X x)(hm:X.mg x=some (.ref C))(hb:Binds X.K fd ps ds)(hd:Vals dvs ds)(hx:gE CX X E)
  (ha:PA X (e::es) t) (hdb:(x == ("__debug__":Str))=false:=by decide) (he:starEach (e::es) X.env=(false,eval e X.env)::starEach es X.env:=by rfl) (hpl:(backTo pos (starEach es X.env)).any (·.1)=false:=by rfl) :
  PE X (.Call (.Name x p) (e::es) [] pos) (zT C sp dvs E t):=by
 intro pins s σ H Q I h
 refine wpAny_Call_Name_kw (oU I hg hm ?_ hdb)
 refine PySem.W.callWith_K (h₀:=X.base) I.ok.mod.HU M.kp (bA (ha pos pins s σ H _ I h) fun us s1 ⟨vs,H1,I1,r,q⟩=>⟨I1.Gd,?_⟩) he hpl
 exact rZ M F hr hb hd hx I1 r q
end
def PK(X:Cx)(kws:List Keyword)(t:TA):Prop:=
 ∀(pos:Pos) (pins:Va) (s:Shared) (σ:St) (H:Hp) (Q:List V->Hp->Prop),Inv X pins σ H s->t σ H Q->wpAny (model X.prog X.w) X.A (evalAll ((backToKw pos (keywordEach kws X.env)).map (·.2))) (AP X pins σ Q) X.xe s
section
variable {X:Cx} {CX:rX} {k:Nat} {f C:Addr} {fd:FuncData} {ps ks:Vs} {sp:Sp} {E:XK} {x m:Str} {p pos apos kpos:Pos} {e o:Expr} {es:List Expr} {kws:List Keyword} {te ta:TE} {t tk:TA} {nm:Option Str}
def xS:PK X [] u5:=fun _ _ _ _ H Q I h=>wpAny_evalAll_nil ⟨[],H,I,.nil,h⟩
def u_(ha:PE X e te)(hr:PK X kws t):PK X (⟨nm,e,kpos⟩::kws) (rW te t):=by
 intro pos pins s σ H Q I h
 show wpAny _ _ (evalAll ((do let v <-eval e X.env;standAt pos;pure v)::(backToKw pos (keywordEach kws X.env)).map (·.2))) _ _ s
 refine wpAny_evalAll_cons (wpAny_bind (bA (ha pins s σ H _ I h) fun u s1 ⟨x,H1,I1,r1,q1⟩=>wpAny_bind (wpAny_standAt (wpAny_pure ?_))))
 exact bA (hr pos pins s1 σ H1 _ I1 q1) fun us s2 ⟨xs,H2,I2,r2,q2⟩=>⟨x::xs,H2,I2,.cons r1 r2,q2⟩
variable {g:List Value->List Value->List Value} {gV:List V->List V->List V}
end
structure eZ (N P:Vs) (sc:Scope):Prop where
 kind:sc.kind = .function
 co:sc.isCoroutine=false
 gen:sc.isGenerator=false
 nd:N.Nodup
 pre:N.take P.length=P
 par:∀x∈P,sc.names.lookup x=some .local\/sc.names.lookup x=some .cell
 Hu:∀y∈sc.names,y.2 ≠ .free
theorem kE{kindOf:Str->Option NameKind}{x:Str}:∀{binds:List (Str×Value)} {m:Vr},(∀v,(x,v) ∉ binds)->bindL kindOf binds m x=m x
 |[],_,_=>rfl
 |(n,v)::r,m,h=>by
  unfold bindL
  rw[kE fun w hw=>h w (List.mem_cons_of_mem _ hw)]
  split
  ·have:x≠n:=by rintro rfl;exact h v List.mem_cons_self
   simp[this]
  ·rfl
theorem kF{kindOf:Str->Option NameKind}{x:Str}:∀{binds:List (Str×Value)} {m:Vr},(∀v,(x,v) ∉ binds)->bindC kindOf binds m x=m x
 |[],_,_=>rfl
 |(n,v)::r,m,h=>by
  unfold bindC
  rw[kF fun w hw=>h w (List.mem_cons_of_mem _ hw)]
  split
  ·rfl
  ·have:x≠n:=by rintro rfl;exact h v List.mem_cons_self
   simp[this]
theorem kG{kindOf:Str->Option NameKind}{x:Str}{v:Value}:∀{P:Vs} {vs:Vv} {i:Nat} {m:Vr},P.Nodup->P[i]?=some x->vs[i]?=some v->kindOf x=some .local->
  bindL kindOf (P.zip vs) m x=some v
 |[],_,_,_,_,h,_,_=>by simp at h
 |_::_,[],_,_,_,_,h,_=>by simp at h
 |p::P,w::vs,0,m,nd,h1,h2,hk=>by
  simp at h1 h2;subst h1;subst h2
  show bindL kindOf ((p,w)::P.zip vs) m p=_
  unfold bindL
  rw[kE fun v hv=>(List.nodup_cons.mp nd).1 (List.of_mem_zip hv).1,if_pos hk]
  simp
 |p::P,w::vs,i+1,m,nd,h1,h2,hk=>by
  show bindL kindOf ((p,w)::P.zip vs) m x=_
  unfold bindL
  exact kG (i:=i) (List.nodup_cons.mp nd).2 (by simpa using h1) (by simpa using h2) hk
theorem kH{kindOf:Str->Option NameKind}{x:Str}{v:Value}:∀{P:Vs} {vs:Vv} {i:Nat} {m:Vr},P.Nodup->P[i]?=some x->vs[i]?=some v->kindOf x≠some .local->
  bindC kindOf (P.zip vs) m x=some v
 |[],_,_,_,_,h,_,_=>by simp at h
 |_::_,[],_,_,_,_,h,_=>by simp at h
 |p::P,w::vs,0,m,nd,h1,h2,hk=>by
  simp at h1 h2;subst h1;subst h2
  show bindC kindOf ((p,w)::P.zip vs) m p=_
  unfold bindC
  rw[kF fun v hv=>(List.nodup_cons.mp nd).1 (List.of_mem_zip hv).1,if_neg hk]
  simp
 |p::P,w::vs,i+1,m,nd,h1,h2,hk=>by
  show bindC kindOf ((p,w)::P.zip vs) m x=_
  unfold bindC
  exact kH (i:=i) (List.nodup_cons.mp nd).2 (by simpa using h1) (by simpa using h2) hk
noncomputable def fG(N:Vs)(vs:List V):St:=vs.map some++List.replicate (N.length - vs.length) none
noncomputable def nN(CX:rX)(P:Program)(w:World)(K:Vo)(mg:Vr)(base:Heap)(N:Vs)(qual:Str)(scope:Scope)(f:Addr)(cd:Value)(A:Around)(outer:List Env)(s:Shared)(H:Hp)(E:XK):Cx where
 prog:=P
 w:=w
 K:=K
 mg:=mg
 base:=base
 A:=A.deeper (envOfC qual scope s.heap.objs.size f cd)
 N:=N
 s₀:=s
 H₀:=H
 env:=envOfC qual scope s.heap.objs.size f cd
 outer:=outer
 stack:=envOfC qual scope s.heap.objs.size f cd::outer
 ex:=[]
 calm:=true
 fn:=fun _=>true
 pn:=[]
 xe:=fun e s'=>wpAny (model P w) (A.deeper (envOfC qual scope s.heap.objs.size f cd)) (leaving (envOfC qual scope s.heap.objs.size f cd) e) (fun _ s''=>CX outer H s E e s'') (fun e' s''=>CX outer H s E e' s'') s'
def mB{sc:Scope}{n:Nat}{x:Str}(h:sc.names.lookup x=some .cell):∃c,(cellsFrom n sc.names []).lookup x=some c:=by
 have q:=PySem.W.cellsFrom_some sc.names n [] (.inl h)
 exact Option.isSome_iff_exists.mp q
def qo{CX:rX}{P:Program}{w:World}{K:Vo}{mg:Vr}{base:Heap}{N ps:Vs}{qual:Str}{scope:Scope}{f:Addr}{cd:Value}{A:Around}{outer:List Env}{s s1:Shared}{H:Hp}{E:XK}{us:Vv}{vs:List V}
  (S:eZ N ps scope) (hd:A.handled=none) (e0:Gg P w K mg base A outer s H) (hl:vs.length=ps.length) (r:Vals vs us)
  (x:InCallC s s.heap.objs.size (bindL (envOfC qual scope s.heap.objs.size f cd).kindOf (ps.zip us) fun _=>none) (cellsFrom (s.heap.objs.size+1) scope.names []) (bindC (envOfC qual scope s.heap.objs.size f cd).kindOf (ps.zip us) fun _=>none) s1) :
  Inv (nN CX P w K mg base N qual scope f cd A outer s H E) [] (fG N vs) H s1:=by
 have hpl:ps.length<=N.length:=by have:=congrArg List.length S.pre;rw[List.length_take]at this;omega
 obtain⟨h1,tk,rfl,hk⟩:=x.done
 have Ib:∀b:Addr,b ∉ (nN CX P w K mg base N qual scope f cd A outer s H E).ex:=fun b z=>absurd (show b∈([]:List Addr)from z) (by simp)
 refine⟨⟨e0.mod,S.kind,rfl,rfl,Nat.le_refl _,fun y z c h1 h2=>?_,fun y hy=>?_,fun y c _ h=>?_,fun _=>hd,Around.frames_deeper e0.frames,.inr ⟨rfl,rfl⟩,fun b z=>absurd z (Ib b),e0.bs,e0.GX,fun b _ _=>Ib b,fun b z=>absurd z (Ib b),e0.Fd,e0.Hd⟩,
  rfl,e0.bare,Un.kept hk,⟨_,x.toInCall.ns,fun i y v h1 h2 h3=>?_⟩,fun y c h=>⟨_,x.cell y c h⟩,e0.hok.fresh (Nat.le_refl _),fun y c h=>?_,fun p hp=>absurd (show p∈([]:Va)from hp) (by simp),e0.hok.kept hk,?_⟩
 ·exact name_of_addr x.apart (PySem.mem_of_lookup h1) (PySem.mem_of_lookup h2)
 ·have hy:scope.names.lookup y=some .cell\/scope.names.lookup y=some .free:=hy
  rcases hy with hy|hy
  ·exact mB hy
  ·exact absurd rfl (S.Hu _ (PySem.mem_of_lookup hy))
 ·exact Nat.le_of_lt (x.above y c (PySem.mem_of_lookup h))
 ·have hi:i < vs.length:=by
   unfold fG at h2
   by_cases hi:i < vs.length
   ·exact hi
   ·rw[List.getElem?_append_right (by simpa using hi)]at h2
    rw[List.getElem?_replicate]at h2
    split at h2<;>cases h2
  have ha:vs[i]?=some v:=by
   unfold fG at h2
   rw[List.getElem?_append_left (by simpa using hi),List.getElem?_map]at h2
   cases e:vs[i]? with
   |none=>rw[e]at h2;cases h2
   |some a=>rw[e]at h2;cases h2;rfl
  obtain⟨u,hu,rv⟩:=r.get ha
  have hp:ps[i]?=some y:=by
   rw[<-S.pre,List.getElem?_take_of_lt (by omega)];exact h1
  have J5:ps.Nodup:=by rw[<-S.pre];exact S.nd.sublist (List.take_sublist _ _)
  refine⟨u,rv,?_⟩
  rcases S.par y (List.mem_of_getElem? hp)with k|k
  ·exact .inl ⟨k,kG J5 hp hu k⟩
  ·obtain⟨c,e⟩:=mB (n:=s.heap.objs.size+1) k
   refine .inr ⟨.inl k,c,e,?_⟩
   have q:=x.cell y c e
   rw[kH J5 hp hu (by show scope.names.lookup y≠_;rw[k];decide)]at q
   exact q
 ·exact e0.hok.fresh (Nat.le_of_lt (x.above y c (PySem.mem_of_lookup h)))
 ·unfold fG
  show _=N.length
  rw[List.length_append,List.length_map,List.length_replicate]
  omega
def zU{CX:rX}{P:Program}{w:World}{K:Vo}{mg:Vr}{base:Heap}{k:Nat}{f:Addr}{name qual:Str}{params:Arguments}{body:List Stmt}{scope:Scope}{dV kV doc pm cdv ct oc:Value}{an od:Option Addr}
  {osl:Array (Option Value)} {N ps:Vs} {sp:Sp} (lk:K.lookup f=some ⟨oc,od,.func (PySem.W.fnOf name qual params body scope dV kV doc pm an cdv ct),osl⟩) (hcd:PySem.W.codeIn K cdv qual=true) (S:eZ N ps scope)
  (len:∀vs H Q E,sp vs H Q E->vs.length=ps.length)
  (hbody:∀(A:Around) (outer:List Env) (s:Shared) (H:Hp) (vs:List V) (Q:VK) (E:XK),Room k (A.deeper (envOfC qual scope s.heap.objs.size f cdv))->sp vs H Q E->
   ∃t,Ge (nN CX P w K mg base N qual scope f cdv A outer s H E) body t/\t { nx:=fun _ H'=>Q .non H',rt:=Q } (fG N vs) H) :
  iC P w K mg base CX (k+1) f (PySem.W.fnOf name qual params body scope dV kV doc pm an cdv ct) ps sp:=by
 refine⟨len,fun A outer s H args us vs Q E hr e0 hb r He=>?_⟩
 have hl:=len _ _ _ _ He
 have KX:K.In s.heap:=e0.mod.HU.keeps fun b o e=>(e0.bs b o e).1
 have lim:s.heap.NoLimit:=e0.mod.nolimit.keeps fun b o e=>(e0.bs b o e).1
 have hkind:∀y∈ps.zip us,scope.names.lookup y.1=some .local\/(scope.names.lookup y.1=some .cell/\((cellsFrom (s.heap.objs.size+1) scope.names []).lookup y.1).isSome=true):=fun⟨n,v⟩ hy=>by
  rcases S.par n (List.of_mem_zip hy).1 with q|q
  ·exact .inl q
  ·exact .inr ⟨q,PySem.W.cellsFrom_some _ _ _ (.inl q)⟩
 refine codeAny_call_function hr.depth (KX _ _ lk) rfl S.co S.gen rfl (PySem.W.codeRec_of KX hcd) (hb _ _ _ _ ?_)
 refine wpAny_newFunctionEnv_cells S.kind hkind fun env he s1 x=>?_
 subst he
 refine⟨lim.keeps x.toInCall.keep,codeAny_func ?_⟩
 obtain⟨t,ht,hq⟩:=hbody A outer s H vs Q E (hr.deeper _) He
 have I:Inv (nN CX P w K mg base N qual scope f cdv A outer s H E) [] (fG N vs) H s1:=qo S hr.hd e0 hl r x
 refine wpAny_mono (ht [] s1 (fG N vs) H _ I hq) (fun fl s' hs=>?_) fun e s' hs=>hs
 have fin:∀{σ':St} {H':Hp} {v:V} {u:Value},Inv (nN CX P w K mg base N qual scope f cdv A outer s H E) [] σ' H' s'->RelV v u->Q v H'->CE outer P w H s Q u s':=
  fun{σ' H' v u} J rv q=>⟨v,H',J.os,J.bare,J.base,J.hok,rv,q⟩
 cases fl with
 |ret u=>
  obtain⟨v,σ',H',J,rv,q⟩:=hs
  exact fin J rv q
 |next=>
  obtain⟨σ',H',J,q⟩:=hs
  exact fin (v:=V.non) (u:=Value.none) J rfl q
 |brk=>
  obtain⟨_,_,_,q⟩:=hs
  exact False.elim q
 |cont=>
  obtain⟨_,_,_,q⟩:=hs
  exact False.elim q
section
variable {X:Cx} {x:Str} {p pos:Pos} {e:Expr} {es:List Expr} {t:TA} {id T:String} {r:List V->Hp->VK->Prop}
def Cw(r:List V->Hp->VK->Prop)(t:TA):TE:=fun σ H Q=>t σ H fun vs H1=>r vs H1 Q
def r6(hc:dW X (.builtin id) r)(hg:Gl X x)(hm:X.mg x=none)(hv:bootBuiltins x=some (.builtin id))(ha:PA X (e::es) t)(hn:x ≠ "__name__":=by decide)(hdb:(x == ("__debug__":Str))=false:=by decide)
  (he:starEach (e::es) X.env=(false,eval e X.env)::starEach es X.env:=by rfl) (hpl:(backTo pos (starEach es X.env)).any (·.1)=false:=by rfl):PE X (.Call (.Name x p) (e::es) [] pos) (Cw r t):=by
 intro pins s σ H Q I h
 refine wpAny_Call_Name_kw (eX I hg hm hv ?_ hn hdb)
 exact PyProof.Rows.callWith_builtin1 (bA (ha pos pins s σ H _ I h) fun us s1 ⟨vs,H1,I1,r1,q1⟩=>hc pins s1 σ H1 vs us Q I1 r1 q1) he hpl
def qp(hc:dW X (.type T) r)(hg:Gl X x)(hm:X.mg x=none)(hv:bootBuiltins x=some (.type T))(ha:PA X (e::es) t)(hn:x ≠ "__name__":=by decide)(hdb:(x == ("__debug__":Str))=false:=by decide)
  (he:starEach (e::es) X.env=(false,eval e X.env)::starEach es X.env:=by rfl) (hpl:(backTo pos (starEach es X.env)).any (·.1)=false:=by rfl):PE X (.Call (.Name x p) (e::es) [] pos) (Cw r t):=by
 intro pins s σ H Q I h
 refine wpAny_Call_Name_kw (eX I hg hm hv ?_ hn hdb)
 exact PyProof.Rows.callWith_type1 (bA (ha pos pins s σ H _ I h) fun us s1 ⟨vs,H1,I1,r1,q1⟩=>hc pins s1 σ H1 vs us Q I1 r1 q1) he hpl
end
end L2
namespace HT
open PySem PyProof.Rows
section
open PySem.SeqAt
open PySem.AutoSeq1 (wpAny_loadPart')
open PySem.MeetsSeq PySem.MeetsSeq2 PySem.MeetsSeq3
end
section
variable {prog:Program} {w:World} {A:Around} {E:Vq} {s:Shared}
def va{t b:Addr}{vs ws:Vv}{Q:Vq}(ht:IsTup s.heap t vs.toArray)(hb:IsTup s.heap b ws.toArray)(hv:vs≠[])
  (h1:ws=[]->Q (.ref t) s) (h2:ws≠[]->Q (.ref s.heap.objs.size) { s with heap:=s.heap.push { cls:=.type "tuple",data:=.seq (vs++ws).toArray } })
  (hsz:vs.length+ws.length<=sizeLine):wpAny (model prog w) A (binaryOp .Add (.ref t) (.ref b)) Q E s:=by
 obtain⟨⟨cls,dd,data,sl⟩,ho,hc,n,hd⟩:=id ht
 obtain⟨⟨Jj,dd2,data2,sl2⟩,ho2,hc2,n2,hd2⟩:=id hb
 simp only at hc hd hc2 hd2
 subst hc hd hc2 hd2
 have e:vs.toArray++ws.toArray=(vs++ws).toArray:=by simp
 by_cases hw:ws=[]
 ·exact concat_meets ⟨_,ho,rfl⟩ ⟨_,ho2,rfl⟩ noFill_tuple_add seq_tuple_add PySem.F.slot_tuple_add PySem.F.entry_tuple_add (PySem.F.args_tuple_add_2 _ _)
   (tuple_addW1 t b vs.toArray ws.toArray n n2 dd dd2 sl sl2 (by simpa using hv) (by simp[hw])) ⟨ho,ho2,h1 hw⟩
 ·refine concat_meets ⟨_,ho,rfl⟩ ⟨_,ho2,rfl⟩ noFill_tuple_add seq_tuple_add PySem.F.slot_tuple_add PySem.F.entry_tuple_add (PySem.F.args_tuple_add_2 _ _)
   (tuple_addW2 t b vs.toArray ws.toArray n n2 dd dd2 sl sl2 (by simpa using hv) (by simpa using hw) (by rw[List.size_toArray,List.size_toArray];exact hsz)) ⟨ho,ho2,?_⟩
  rw[e]
  exact h2 hw
noncomputable def Dz(n d:Nat):Option Int->Nat
 |none=>d
 |some v=>if v < 0 then (v+(n:Int)).toNat else min v.toNat n
def jG(n d:Nat):Dz n d none=d:=rfl
def lj(n d k:Nat):Dz n d (some (k:Int))=min k n:=by
 show(if (k:Int) < 0 then ((k:Int)+(n:Int)).toNat else min (k:Int).toNat n)=min k n
 rw[if_neg (by omega),Int.toNat_natCast]
def xT(n d:Nat)(hd:d<=n)(o:Option Int):Dz n d o<=n:=by
 cases o with
 |none=>exact hd
 |some v=>
  show(if v < 0 then (v+(n:Int)).toNat else min v.toNat n)<=n
  by_cases hv:v < 0
  ·rw[if_pos hv];omega
  ·rw[if_neg hv];exact Nat.min_le_right _ _
def oZ(v:Int)(n d:Nat):(if v < 0 then max (v+(n:Int)) 0 else min v (n:Int))=((Dz n d (some v):Nat):Int):=by
 show(if v < 0 then max (v+(n:Int)) 0 else min v (n:Int))=(((if v < 0 then (v+(n:Int)).toNat else min v.toNat n):Nat):Int)
 by_cases hv:v < 0
 ·simp only[if_pos hv];omega
 ·simp only[if_neg hv];omega
def nO(lo hi:Option Int)(n:Nat):Builtin.Slice.sliceAdjust lo hi 1 (n:Int)=(((Dz n 0 lo:Nat):Int),((Dz n n hi:Nat):Int)):=by
 have h1:¬((1:Int) < 0):=by omega
 unfold Builtin.Slice.sliceAdjust
 simp only[h1,if_false]
 refine Prod.ext ?_ ?_
 ·cases lo with
  |none=>rfl
  |some v=>exact oZ v n 0
 ·cases hi with
  |none=>rfl
  |some v=>exact oZ v n n
def nP(i j:Nat):Builtin.Slice.slicePlaces (i:Int) (j:Int) 1=j - i:=by
 unfold Builtin.Slice.slicePlaces
 have h1:(1:Int) > 0:=by omega
 simp only[h1,if_true,Int.ediv_one]
 split<;>omega
def jH{v:Value}{o:Option Int}{Q:Option Int->Shared->Prop}(p:IsPart v o)(h:Q o s):wpAny (model prog w) A (Builtin.Slice.slicePartIndex v) Q E s:=by
 cases p with
 |none=>exact slicePart_none h
 |int i t=>exact slicePart_int h
def eI{sl:Addr}{vl vu:Value}{lo hi:Option Int}{n:Nat}{Q:Int×Int×Nat->Shared->Prop}(hs:s.heap.IsSliceOf sl vl vu .none)(pl:IsPart vl lo)(pu:IsPart vu hi)
  (h:Q (((Dz n 0 lo:Nat):Int),1,Dz n n hi - Dz n 0 lo) s):wpAny (model prog w) A (Builtin.Slice.sliceApplied (.ref sl) (pure (n:Int))) Q E s:=by
 obtain⟨os,hos,hcs,hds⟩:=id hs
 unfold Builtin.Slice.sliceApplied Builtin.Slice.sliceFields
 refine wpAny_bind (wpAny_bind (wpAny_field hos hds (x:=vl) rfl (wpAny_bind (wpAny_field hos hds (x:=vu) rfl (wpAny_bind (wpAny_field hos hds (x:=.none) rfl (wpAny_pure ?_)))))))
 refine wpAny_bind (slicePart_none ?_)
 show wpAny _ _ (if ((1:Int) == 0)=true then _ else _) _ _ s
 rw[if_neg (by decide)]
 refine wpAny_bind (jH pl (wpAny_bind (jH pu (wpAny_bind (wpAny_pure ?_)))))
 show wpAny _ _ (match Builtin.Slice.sliceAdjust lo hi 1 (n:Int)with|(lo,hi)=>pure (lo,(1:Int),Builtin.Slice.slicePlaces lo hi 1)) _ _ s
 rw[nO lo hi n]
 show wpAny _ _ (pure (((Dz n 0 lo:Nat):Int),(1:Int),Builtin.Slice.slicePlaces ((Dz n 0 lo:Nat):Int) ((Dz n n hi:Nat):Int) 1)) _ _ s
 rw[nP]
 exact wpAny_pure h
def r9(xs:Vw)(i k:Nat):((List.range k).filterMap fun(m:Nat)=>xs[((i:Int)+(m:Int) * 1).toNat]?).toArray=((xs.toList.drop i).take k).toArray:=by
 have e:(fun(m:Nat)=>xs[((i:Int)+(m:Int) * 1).toNat]?)=fun m=>xs[i+m]?:=by
  funext m
  have:((i:Int)+(m:Int) * 1).toNat=i+m:=by omega
  rw[this]
 rw[e]
 have:=pick_run xs i k
 rw[List.filterMap_map]at this
 have e2:((fun x=>xs[x]?) ∘ fun x=>i+x)=fun m=>xs[i+m]?:=rfl
 rw[e2]at this
 rw[this]
def hG{t sl:Addr}{items:Vw}{vl vu:Value}{lo hi:Option Int}{Q:Vq}(ht:IsTup s.heap t items)(hs:s.heap.IsSliceOf sl vl vu .none)(pl:IsPart vl lo)(pu:IsPart vu hi)
  (hw:¬(Dz items.size 0 lo=0/\Dz items.size items.size hi=items.size))
  (h:Q (.ref s.heap.objs.size) { s with heap:=s.heap.push { cls:=.type "tuple",data:=.seq ((items.toList.drop (Dz items.size 0 lo)).take (Dz items.size items.size hi - Dz items.size 0 lo)).toArray } })
  (hsz:items.size<=sizeLine):wpAny (model prog w) A (getItem (.ref t) (.ref sl)) Q E s:=by
 have Gv:sizeOk (.seq ((items.toList.drop (Dz items.size 0 lo)).take (Dz items.size items.size hi - Dz items.size 0 lo)).toArray):=by
  show((items.toList.drop (Dz items.size 0 lo)).take (Dz items.size items.size hi - Dz items.size 0 lo)).toArray.size<=sizeLine
  rw[List.size_toArray,List.length_take,List.length_drop,Array.length_toList]
  omega
 have hj:Dz items.size items.size hi<=items.size:=xT _ _ (Nat.le_refl _) hi
 obtain⟨os,hos,hcs,hds⟩:=id hs
 have Jk:s.TypeIs (.ref sl) "slice":=⟨os,hos,hcs⟩
 unfold getItem
 try with_reducible refine wpAny_holding ?_
 first|refine wpAny_bind (wpAny_pure ?_)|skip
 refine wpAny_bind (wpAny_sequenceKey ht.typeIs (by decide) ?_)
 refine wpAny_bind (wpAny_callSpecial?_slot (name:=Str.ofString "__getitem__") ht.typeIs PyProof.Rows.slot_tuple_getitem
  (wpAny_call_entry PyProof.Rows.slot_tuple_getitem ht.typeIs entry_tuple_getitem ?_ (args_tuple_getitem _ _)))
 show wpAny _ _ (Builtin.Tuple.tupleItemsOf (.ref t) >>= _) _ _ s
 refine wpAny_bind (tupleItemsOf_ ht ?_)
 refine wpAny_bind (wpAny_typeOf Jk ?_)
 rw[if_pos (by decide)]
 refine wpAny_bind (eI hs pl pu ?_)
 have hno:¬((((Dz items.size 0 lo:Nat):Int) == 0&&(1:Int) == 1&&(Dz items.size items.size hi - Dz items.size 0 lo) == items.size)=true):=by
  intro q
  rw[Bool.and_eq_true,Bool.and_eq_true]at q
  have q1:((Dz items.size 0 lo:Nat):Int)=0:=eq_of_beq q.1.1
  have q2:Dz items.size items.size hi - Dz items.size 0 lo=items.size:=eq_of_beq q.2
  exact hw ⟨by omega,by omega⟩
 show wpAny _ _ (if (((Dz items.size 0 lo:Nat):Int) == 0&&(1:Int) == 1&&(Dz items.size items.size hi - Dz items.size 0 lo) == items.size)=true then _ else _) _ _ s
 rw[if_neg hno,r9]
 first
  |exact wpAny_bind (m:=Builtin.Tuple.tupleExact _) (wpAny_newObj_type (wpAny_pure ⟨_,rfl,wpAny_pure h⟩) Gv)
  |exact wpAny_bind (m:=Builtin.Tuple.tupleExact _) (wpAny_newObj_type (wpAny_bind (wpAny_pure (wpAny_pure ⟨_,rfl,wpAny_pure h⟩))) Gv)
  |exact wpAny_bind (wpAny_bind (m:=Builtin.Tuple.tupleExact _) (wpAny_newObj_type (wpAny_pure (wpAny_pure ⟨_,rfl,wpAny_pure h⟩)) Gv))
  |exact wpAny_bind (wpAny_bind (m:=Builtin.Tuple.tupleExact _) (wpAny_newObj_type (wpAny_pure ⟨_,rfl,wpAny_pure h⟩) Gv))
end
end HT
namespace L2
open PySem PySem.Spec PyProof.Rows
abbrev TO:=St->Hp->(Option Int->Hp->Prop)->Prop
def PO(X:Cx)(e:Option Expr)(t:TO):Prop:=
 ∀(pins:Va) (s:Shared) (σ:St) (H:Hp) (Q:Option Int->Hp->Prop),Inv X pins σ H s->t σ H Q->
  wpAny (model X.prog X.w) X.A (evalPart e X.env) (fun u s'=>∃o H',Inv X pins σ H' s'/\IsPart u o/\Q o H') X.xe s
noncomputable def vb:TO:=fun _ H Q=>Q none H
noncomputable def zV(t:TE):TO:=fun σ H Q=>t σ H fun x H1=>∃i,x = .int i/\Q (some i) H1
def gF{ns:Vu}:∀{us:Vv},Vals (ns.map V.int) us->IntsAre us ns:=by
 induction ns with
 |nil=>intro us r;rw[List.map_nil]at r;cases r;exact .nil
 |cons n ns ih=>
  intro us r
  rw[List.map_cons]at r
  cases r with
  |cons r1 r2=>
   obtain⟨t,e⟩:=r1
   subst e
   exact .cons n t (ih r2)
section
variable {X:Cx} {e:Expr} {te:TE} {lo hi:Option Expr} {tl th:TO} {pos p2:Pos}
def vc:PO X none vb:=by
 intro pins s σ H Q I h
 rw[evalPart_none]
 exact wpAny_pure ⟨none,H,I,.none,h⟩
def vd(h:PE X e te):PO X (some e) (zV te):=by
 intro pins s σ H Q I hw
 rw[evalPart_some]
 refine bA (h pins s σ H _ I hw) fun u s1 ⟨x,H1,I1,r1,q1⟩=>?_
 obtain⟨i,rfl,q⟩:=q1
 obtain⟨t,rfl⟩:=r1
 exact⟨some i,H1,I1,.int i t,q⟩
def zi(X:Cx)(r:V->Option Int->Option Int->Hp->VK->Prop):Prop:=
 ∀(pins:Va) (s:Shared) (σ:St) (H:Hp) (x:V) (v vl vu:Value) (lo hi:Option Int) (sl:Addr) (Q:VK),Inv X pins σ H s->RelV x v->s.heap.IsSliceOf sl vl vu .none->IsPart vl lo->IsPart vu hi->r x lo hi H Q->
  ∃T id,typeLookup (.type T) "__getitem__" = pure (some (.builtin id))/\s.TypeIs v T/\wpAny (model X.prog X.w) X.A (getItem v (.ref sl)) (EP X pins σ Q) X.xe s
def CM(r:V->Option Int->Option Int->Hp->VK->Prop)(te:TE)(tl th:TO):TE:=fun σ H Q=>te σ H fun x H1=>tl σ H1 fun l H2=>th σ H2 fun u H3=>r x l u H3 Q
def r_{r:V->Option Int->Option Int->Hp->VK->Prop}(hr:zi X r)(he:PE X e te)(hl:PO X lo tl)(hu:PO X hi th):PE X (.Subscript e (.Slice lo hi none p2) pos) (CM r te tl th):=by
 intro pins s σ H Q I h
 refine Subscript_ (bA (he pins s σ H _ I h) fun v s1 ⟨x,H1,I1,r1,q1⟩=>?_)
 refine wpAny_Slice (bA (hl pins s1 σ H1 _ I1 q1) fun vl s2 ⟨l,H2,I2,pl,q2⟩=>bA (hu pins s2 σ H2 _ I2 q2) fun vu s3 ⟨u,H3,I3,pu,q3⟩=>?_)
 rw[evalPart_none]
 refine wpAny_pure ?_
 have I4:Inv X pins σ H3 { s3 with heap:=s3.heap.push { cls:=.type "slice",data:=.fields #[vl,vu,.none] } }:=I3.kept (t':=s3.toks) fun b ob q=>Heap.get?_push_of_some _ q
 obtain⟨T,id,hT,ht,hg⟩:=hr pins { s3 with heap:=s3.heap.push { cls:=.type "slice",data:=.fields #[vl,vu,.none] } } σ H3 x v vl vu l u s3.heap.objs.size Q I4 r1 (Heap.IsSliceOf.new ..) pl pu q3
 show wpAny (model X.prog X.w) X.A (subscriptTail e (.Slice lo hi none p2) v (.ref s3.heap.objs.size)) (EP X pins σ Q) X.xe { s3 with heap:=s3.heap.push { cls:=.type "slice",data:=.fields #[vl,vu,.none] } }
 exact tail_any (ops:=[.ref s3.heap.objs.size,v]) ht hT hg (by with_unfolding_all rfl)
noncomputable def jI(xs:List V)(lo hi:Option Int):List V:=(xs.drop (HT.Dz xs.length 0 lo)).take (HT.Dz xs.length xs.length hi - HT.Dz xs.length 0 lo)
def jf(xs:List V)(lo hi:Option Int):(jI xs lo hi).length<=xs.length:=by
 unfold jI
 rw[List.length_take,List.length_drop]
 omega
noncomputable def BF(K:Vo):V->Option Int->Option Int->Hp->VK->Prop:=fun x lo hi H Q=>∃a xs,x = .ref a/\SqT K H a xs/\
 ¬(HT.Dz xs.length 0 lo=0/\HT.Dz xs.length xs.length hi=xs.length)/\∀p,H p=none->Q (.ref p) (upd H p (.tup (jI xs lo hi)))
def xU:zi X (BF X.K):=by
 intro pins s σ H x v vl vu lo hi sl Q I rx hs pl pu h
 obtain⟨a,xs,rfl,hx,hw,q⟩:=h
 cases rx
 obtain⟨its,r,ht,hz⟩:=I.tuple hx
 have hlen:its.toArray.size=xs.length:=by rw[List.size_toArray];exact r.length.symm
 refine⟨"tuple",_,PyProof.Rows.slot_tuple_getitem.lookup,ht.typeIs,?_⟩
 refine HT.hG ht hs pl pu (by rw[hlen];exact hw) ?_ (by rw[hlen];exact hz)
 rw[hlen]
 refine⟨.ref s.heap.objs.size,_,I.laid (t':=s.toks) (o:=.tup (jI xs lo hi)) (fun b ob q=>Heap.get?_push_of_some _ q) (Nat.le_refl _) ?_,rfl,q _ (I.hok.fresh (Nat.le_refl _))⟩
 exact⟨Nat.le_trans (jf xs lo hi) hz,_,(r.drop (HT.Dz xs.length 0 lo)).take (HT.Dz xs.length xs.length hi - HT.Dz xs.length 0 lo),Ea.new _ _⟩
def zW(K:Vo):R2:=fun x y H Q=>∃a b xs ys,x = .ref a/\y = .ref b/\SqT K H a xs/\SqT K H b ys/\xs≠[]/\xs.length+ys.length<=sizeLine/\
 (ys=[]->Q (.ref a) H)/\(ys≠[]->∀p,H p=none->Q (.ref p) (upd H p (.tup (xs++ys))))
def Vals.FO{xs:List V}{us:Vv}(r:Vals xs us):us=[]↔xs=[]:=by
 cases r with
 |nil=>simp
 |cons _ _=>simp
def ve:gf X (binaryOp .Add) (zW X.K):=by
 intro pins s σ H x y v u Q I rx ry h
 obtain⟨a,b,xs,ys,rfl,rfl,ha,hb,hx,hz,q1,q2⟩:=h
 cases rx
 cases ry
 obtain⟨its,r1,p1,_⟩:=I.tuple ha
 obtain⟨its2,r2,p2,_⟩:=I.tuple hb
 refine HT.va p1 p2 (fun z=>hx (r1.FO.mp z)) (fun z=>⟨.ref a,H,I,rfl,q1 (r2.FO.mp z)⟩) (fun z=>?_) (by rw[<-r1.length,<-r2.length];exact hz)
 refine⟨.ref s.heap.objs.size,_,I.laid (t':=s.toks) (o:=.tup (xs++ys)) (fun b ob q=>Heap.get?_push_of_some _ q) (Nat.le_refl _) ?_,rfl,q2 (fun w=>z (r2.FO.mpr w)) _ (I.hok.fresh (Nat.le_refl _))⟩
 exact⟨by rw[List.length_append];exact hz,_,r1.append r2,Ea.new _ _⟩
end
noncomputable def o6(n:Nat)(i:Int):Option Nat:=if 0<=i then (if i < n then some i.toNat else none) else if -(n:Int)<=i then some (i+n).toNat else none
noncomputable def Eh{α:Type}(xs:List α)(i:Int):Option α:=(o6 xs.length i).bind fun j=>xs[j]?
def o_{n:Nat}{i:Int}{j:Nat}(h:o6 n i=some j):seqIndex? i n=some j/\j < n/\-(n:Int)<=i/\i < n:=by
 unfold o6 at h
 by_cases h0:0<=i
 ·rw[if_pos h0]at h
  by_cases h1:i < n
  ·rw[if_pos h1]at h
   have e:i.toNat=j:=Option.some.inj h
   exact⟨by rw[seqIndex_of h0 h1,e],by omega,by omega,h1⟩
  ·rw[if_neg h1]at h;cases h
 ·rw[if_neg h0]at h
  by_cases h1:-(n:Int)<=i
  ·rw[if_pos h1]at h
   have e:(i+n).toNat=j:=Option.some.inj h
   exact⟨by rw[seqIndex_neg (by omega) h1,e],by omega,h1,by omega⟩
  ·rw[if_neg h1]at h;cases h
def lm{α:Type}{xs:List α}{i:Int}{v:α}(h:Eh xs i=some v):∃j,seqIndex? i xs.length=some j/\xs[j]?=some v/\j < xs.length/\-(xs.length:Int)<=i/\i < xs.length:=by
 unfold Eh at h
 cases e:o6 xs.length i with
 |none=>rw[e]at h;cases h
 |some j=>
  rw[e]at h
  obtain⟨h1,h2,h3,h4⟩:=o_ e
  exact⟨j,h1,h,h2,h3,h4⟩
def bD{α:Type}{xs:List α}{j:Nat}{v:α}(h:xs[j]?=some v):Eh xs (j:Int)=some v:=by
 have hj:j < xs.length:=(List.getElem?_eq_some_iff.mp h).1
 have e:o6 xs.length (j:Int)=some j:=by
  unfold o6
  rw[if_pos (by omega),if_pos (by omega)];simp
 unfold Eh;rw[e];exact h
def jw(b:Expr):Prop:=∀o i,subscripted b false o i=operate [o,i] (getItem o i)
def zj(X:Cx)(r:R2):Prop:=
 ∀(value slice:Expr) (pins:Va) (s:Shared) (σ:St) (H:Hp) (x y:V) (v u:Value) (Q:VK),Inv X pins σ H s->RelV x v->RelV y u->r x y H Q->
  subscripted slice false v u=operate [v,u] (getItem v u)->wpAny (model X.prog X.w) X.A (subscriptTail value slice v u) (EP X pins σ Q) X.xe s
def BG(X:Cx)(id:String)(r:V->List V->Hp->VK->Prop):Prop:=
 ∀(pins:Va) (s:Shared) (σ:St) (H:Hp) (x:V) (xs:List V) (v:Value) (us:Vv) (Q:VK),Inv X pins σ H s->RelV x v->Vals xs us->r x xs H Q->
  wpAny (model X.prog X.w) X.A (call (.builtin id) (v::us)) (EP X pins σ Q) X.xe s
section
variable {X:Cx} {a b:Expr} {ta tb:TE} {pos:Pos}
def zX{r:R2}(hr:zj X r)(ha:PE X a ta)(hb:PE X b tb)(hs:jw b):PE X (.Subscript a b pos) (zh r ta tb):=by
 intro pins s σ H Q I h
 exact Subscript_ (xF ha hb I h fun v u s2 x y H2 I2 rx ry q=>hr a b pins s2 σ H2 x y v u Q I2 rx ry q (hs _ _))
def BH(K:Vo):R2:=fun x y H Q=>∃p xs i v,x = .ref p/\y = .int i/\SqL K H p xs/\Eh xs i=some v/\Q v H
def BI(K:Vo):R2:=fun x y H Q=>∃p xs i v,x = .ref p/\y = .int i/\SqT K H p xs/\Eh xs i=some v/\Q v H
def BJ:R2:=fun x y H Q=>∃z i c,x = .str z/\y = .int i/\z.length<=sizeLine/\Eh z.cps.toList i=some c/\Q (.str ⟨#[c]⟩) H
def pd:zj X (BH X.K):=by
 intro value slice pins s σ H x y v u Q I rx ry h hs
 obtain⟨p,xs,i,z,rfl,rfl,hq,he,q⟩:=h
 cases rx
 obtain⟨t,rfl⟩:=ry
 obtain⟨its,r,pl,hz⟩:=I.list hq
 obtain⟨j,h1,h2,h3,h4,h5⟩:=lm he
 obtain⟨w,ew,rw'⟩:=r.get h2
 have hl:=r.length
 have hn:=iA
 have fin:EP X pins σ Q w s:=⟨z,H,I,rw',q⟩
 by_cases h0:0<=i
 ·have hj:i.toNat=j:=by
   rw[seqIndex_of h0 h5]at h1
   exact Option.some.inj h1
  exact item_listR pl.isList h0 (by omega) (by rw[hj];simpa using ew) fin hs
 ·have hj:(i+(its.toArray.size:Int)).toNat=j:=by
   rw[seqIndex_neg (by omega) h4]at h1
   rw[List.size_toArray,<-hl]
   exact Option.some.inj h1
  exact subscriptTail_builtinR (x:=w) pl.isList.typeIs slot_list_getitem.lookup
   (wpAny_getItem_list_neg (Q:=fun r s'=>r=w/\EP X pins σ Q r s') pl.isList (by omega) (by rw[List.size_toArray]<;>omega) (by omega) (by rw[hj];simpa using ew) ⟨rfl,fin⟩) hs
def xV:zj X (BI X.K):=by
 intro value slice pins s σ H x y v u Q I rx ry h hs
 obtain⟨p,xs,i,z,rfl,rfl,hq,he,q⟩:=h
 cases rx
 obtain⟨t,rfl⟩:=ry
 obtain⟨its,r,pl,hz⟩:=I.tuple hq
 obtain⟨j,h1,h2,h3,h4,h5⟩:=lm he
 obtain⟨w,ew,rw'⟩:=r.get h2
 have hl:=r.length
 have hn:=iA
 have fin:EP X pins σ Q w s:=⟨z,H,I,rw',q⟩
 exact subscriptTail_builtinR (x:=w) pl.typeIs slot_tuple_getitem.lookup
  (getItem_tuple (j:=j) (Q:=fun r s'=>r=w/\EP X pins σ Q r s') pl (by omega) (by omega) (by rw[List.size_toArray,<-hl];exact h1) (by simpa using ew) ⟨rfl,fin⟩) hs
def xW:zj X BJ:=by
 intro value slice pins s σ H x y v u Q I rx ry h hs
 obtain⟨z,i,c,rfl,rfl,hz,he,q⟩:=h
 obtain⟨t,rfl⟩:=rx
 obtain⟨t',rfl⟩:=ry
 obtain⟨j,h1,h2,h3,h4,h5⟩:=lm he
 have hl:z.cps.toList.length=z.length:=by simp[Str.length]
 rw[hl]at h1 h4 h5
 have hn:=iA
 exact tail_any (typeIs_str s z t) slot_str_getitem.lookup (getItem_str (c:=c) (by
  have e1:decide (i < -(2 ^ 63:Int))=false:=decide_eq_false (by omega)
  have e2:decide (i>=2 ^ 63)=false:=decide_eq_false (by omega)
  rw[e1,e2,Bool.or_false]) (by rw[h1];simpa using h2) ⟨.str ⟨#[c]⟩,H,I.tok _,⟨_,rfl⟩,q⟩) hs
def nQ(its:Vv)(n j:Nat)(u:Value):Obj.mapSeq (·.setIfInBounds j u) { cls:=.type "list",data:=.seq its.toArray n }={ cls:=.type "list",data:=.seq (its.set j u).toArray n }:=by
 simp[Obj.mapSeq]
theorem Inv.lst{pins:Va}{σ:St}{H:Hp}{s:Shared}{p:Addr}{xs:List V}(I:Inv X pins σ H s)(h:H p=some (.lst xs)) :
  ∃(its:Vv) (n:Nat),Vals xs its/\s.heap.get? p=some { cls:=.type "list",data:=.seq its.toArray n }/\xs.length<=sizeLine:=by
 obtain⟨z,its,n,r,e⟩:=I.hok p _ h
 exact⟨its,n,r,e,z⟩
def Inv.Hv{pins:Va}{σ:St}{H:Hp}{s:Shared}{p:Addr}{xs ys:List V}{its its':Vv}{n n':Nat}{f:Obj->Obj}(I:Inv X pins σ H s)(h:H p=some (.lst xs))
  (ho:s.heap.get? p=some { cls:=.type "list",data:=.seq its.toArray n }) (hf:f { cls:=.type "list",data:=.seq its.toArray n }={ cls:=.type "list",data:=.seq its'.toArray n' }) (r:Vals ys its') (hz:ys.length<=sizeLine) (t:Nat) :
  Inv X pins σ (upd H p (.lst ys)) { s with heap:=s.heap.update p f,toks:=t }:=by
 have e:(s.heap.update p f).get? p=some { cls:=.type "list",data:=.seq its'.toArray n' }:=by
  rw[Heap.get?_update_self f ho (by rw[hf]<;>rfl),hf]
 refine I.write (x:=p) (e:=p) (by rw[h];trivial) (.inl rfl) (fun b u hb q=>(Heap.get?_update_other _ _ (Ne.symm hb)).trans q) ⟨_,e⟩ ?_
 exact⟨hz,its',n',r,e⟩
noncomputable def zY:V->V->V->Hp->(Hp->Prop)->Prop:=fun o i v H Q=>∃p xs k j,o = .ref p/\i = .int k/\H p=some (.lst xs)/\o6 xs.length k=some j/\Q (upd H p (.lst (xs.set j v)))
def sd:uQ X zY:=by
 intro pins s σ H o i v ov iv u Q I ro ri rv h
 obtain⟨p,xs,k,j,rfl,rfl,hp,hj,q⟩:=h
 cases ro
 obtain⟨t,rfl⟩:=ri
 obtain⟨its,n,r,ho,hz⟩:=I.lst hp
 obtain⟨h1,h2,h3,h4⟩:=o_ hj
 have hl:=r.length
 have hn:=iA
 have I':Inv X pins σ (upd H p (.lst (xs.set j v))) { s with heap:=s.heap.update p (Obj.mapSeq (·.setIfInBounds j u)) }:=
  I.Hv hp ho (nQ its n j u) (r.set rv j) (by rw[List.length_set];exact hz) s.toks
 by_cases h0:0<=k
 ·have hk:k.toNat=j:=by
   rw[seqIndex_of h0 h4]at h1
   exact Option.some.inj h1
  exact PySem.W.ki_setAt ho h0 (by omega) (by rw[List.size_toArray,<-hl];exact h4) (by rw[hk];exact⟨_,I',q⟩)
 ·have hk:(k+(its.toArray.size:Int)).toNat=j:=by
   rw[seqIndex_neg (by omega) h3]at h1
   rw[List.size_toArray,<-hl]
   exact Option.some.inj h1
  exact PySem.W.ki_setBack ho (by omega) (by rw[List.size_toArray,<-hl];exact h3) (by omega) (by rw[hk];exact⟨_,I',q⟩)
def lu(lo hi:Option Int)(n:Nat):(sliceBounds lo hi none n).1=((HT.Dz n 0 lo:Nat):Int)/\(sliceBounds lo hi none n).2.1=((HT.Dz n n hi:Nat):Int)/\(sliceBounds lo hi none n).2.2=1:=by
 refine⟨?_,?_,rfl⟩
 ·cases lo with
  |none=>simp[sliceBounds,HT.Dz]
  |some i=>
   simp only[sliceBounds,HT.Dz,Option.getD_none,show(1:Int) > 0 by decide,if_true]
   by_cases h:i < 0
   ·simp only[h,if_true]<;>omega
   ·simp only[h,if_false]<;>omega
 ·cases hi with
  |none=>simp[sliceBounds,HT.Dz]
  |some i=>
   simp only[sliceBounds,HT.Dz,Option.getD_none,show(1:Int) > 0 by decide,if_true]
   by_cases h:i < 0
   ·simp only[h,if_true]<;>omega
   ·simp only[h,if_false]<;>omega
def kl(its:Vv)(lo hi:Option Int):slicePick its.toArray lo hi none=((its.drop (HT.Dz its.length 0 lo)).take (HT.Dz its.length its.length hi - HT.Dz its.length 0 lo)).toArray:=by
 obtain⟨h1,h2,h3⟩:=lu lo hi its.toArray.size
 unfold slicePick
 rw[h1,h2,h3]
 simp only[sliceRange_one,pick_run,List.size_toArray]<;>rfl
noncomputable def BK(K:Vo):V->Option Int->Option Int->Hp->VK->Prop:=fun x lo hi H Q=>∃a xs,x = .ref a/\SqL K H a xs/\∀p,H p=none->Q (.ref p) (upd H p (.lst (jI xs lo hi)))
def pe:zi X (BK X.K):=by
 intro pins s σ H x v vl vu lo hi sl Q I rx hs pl pu h
 obtain⟨a,xs,rfl,hx,q⟩:=h
 cases rx
 obtain⟨its,r,ht,hz⟩:=I.list hx
 have hlen:=r.length
 refine⟨"list",_,slot_list_getitem.lookup,ht.isList.typeIs,?_⟩
 refine wpAny_getItem_list_slice ht.isList hs pl pu .none (by simp) ?_ (by rw[List.size_toArray]<;>omega)
 rw[kl,<-hlen]
 refine⟨.ref s.heap.objs.size,_,I.laid (t':=s.toks) (o:=.lst (jI xs lo hi)) (fun b ob q=>Heap.get?_push_of_some _ q) (Nat.le_refl _) ?_,rfl,q _ (I.hok.fresh (Nat.le_refl _))⟩
 exact⟨Nat.le_trans (jf xs lo hi) hz,_,0,(r.drop (HT.Dz xs.length 0 lo)).take (HT.Dz xs.length xs.length hi - HT.Dz xs.length 0 lo),Heap.get?_push_size _ rfl⟩
def e7:dW X (.builtin "len") (fun xs H Q=>∃p ys,xs=[.ref p]/\(SqL X.K H p ys\/SqT X.K H p ys)/\Q (.int ys.length) H):=by
 intro pins s σ H xs us Q I r h
 obtain⟨p,ys,rfl,hq,q⟩:=h
 obtain⟨u,rfl,rx⟩:=fu r
 cases rx
 have hn:=iA
 rcases hq with hq|hq
 ·obtain⟨its,r',pl,hz⟩:=I.list hq
  have hlen:=r'.length
  exact Calls.call_len_list pl.isList (by simp only[List.size_toArray]<;>omega) ⟨.int ys.length,H,I.tok _,⟨s.toks+1,by rw[List.size_toArray,hlen]⟩,q⟩
 ·obtain⟨its,r',pl,hz⟩:=I.tuple hq
  have hlen:=r'.length
  exact len_tuple pl (by simp only[List.size_toArray]<;>omega) ⟨.int ys.length,H,I.tok _,⟨s.toks+1,by rw[List.size_toArray,hlen]⟩,q⟩
def lw:dW X (.builtin "len") (fun xs H Q=>∃z,xs=[.str z]/\z.length<=sizeLine/\Q (.int z.length) H):=by
 intro pins s σ H xs us Q I r h
 obtain⟨z,rfl,hz,q⟩:=h
 obtain⟨u,rfl,t,rfl⟩:=fu r
 have hn:=iA
 exact len_str (by omega) ⟨.int z.length,H,I.tok _,⟨_,rfl⟩,q⟩
def gh:dW X (.type "tuple") (fun xs H Q=>∃p ys,xs=[.ref p]/\((SqL X.K H p ys/\∀l,H l=none->Q (.ref l) (upd H l (.tup ys)))\/(SqT X.K H p ys/\Q (.ref p) H))):=by
 intro pins s σ H xs us Q I r h
 obtain⟨p,ys,rfl,h⟩:=h
 obtain⟨u,rfl,rx⟩:=fu r
 cases rx
 rcases h with⟨hq,q⟩|⟨hq,q⟩
 ·obtain⟨its,r',pl,hz⟩:=I.list hq
  have hlen:=r'.length
  refine call_tuple_list pl.isList (fun h' kp=>?_) (by simp only[List.size_toArray]<;>omega)
  have I1:Inv X pins σ H { s with heap:=h' }:=I.kept (t':=s.toks) kp
  have I2:Inv X pins σ (upd H h'.objs.size (.tup ys)) { s with heap:=h'.push { cls:=.type "tuple",data:=.seq its.toArray } }:=
   I1.laid (t':=s.toks) (fun b o e=>Heap.get?_push_of_some _ e) (Nat.le_refl _) (show ObjOk X.prog X.w _ _ _ (.tup ys)from ⟨hz,its,r',Ea.new _ _⟩)
  exact⟨.ref h'.objs.size,_,I2,rfl,q _ (I1.hok.fresh (Nat.le_refl _))⟩
 ·obtain⟨its,r',pl,hz⟩:=I.tuple hq
  exact call_tuple_same pl ⟨.ref p,H,I,rfl,q⟩
def Bd(K:Vo)(T:String)(x:V)(H:Hp):Prop:=match x with
 | .str _=>T = "str"
 | .int _=>T = "int"
 | .ref p=>(T = "list"/\∃xs,SqL K H p xs)\/(T = "tuple"/\∃o,K.lookup p=some o/\o.cls = .type "tuple"/\o.dict=none) \/
   (T = "dict"/\((∃kvs,H p=some (.dK kvs))\/∃kvs,H p=some (.dT kvs)))\/(T = "set"/\∃S n,H p=some (.set S n))
 |_=>False
def se{pins:Va}{σ:St}{H:Hp}{s:Shared}{T:String}{x:V}{v:Value}(I:Inv X pins σ H s)(r:RelV x v)(ty:Bd X.K T x H) :
  s.TypeIs v T/\∀a,v = .ref a->∃ob,s.heap.get? a=some ob/\ob.dict=none:=by
 cases x with
 |str z=>
  obtain⟨t,rfl⟩:=r
  cases (show T = "str" from ty)
  exact⟨typeIs_str s z t,fun _ e=>nomatch e⟩
 |int i=>
  obtain⟨t,rfl⟩:=r
  cases (show T = "int" from ty)
  exact⟨typeIs_int s i t,fun _ e=>nomatch e⟩
 |ref p=>
  cases r
  rcases ty with⟨rfl,xs,hq⟩|⟨rfl,o,hk,hc,hd⟩|⟨rfl,hk⟩|⟨rfl,S,n,hk⟩
  ·obtain⟨its,_,pl,_⟩:=I.list hq
   refine⟨pl.isList.typeIs,fun a e=>?_⟩
   cases e
   obtain⟨o,n,e,c,hd,_⟩:=pl
   exact⟨o,e,hd⟩
  ·refine⟨⟨o,I.Gd p o hk,hc⟩,fun a e=>?_⟩
   cases e
   exact⟨o,I.Gd _ o hk,hd⟩
  ·have z:∃o,s.heap.get? p=some o/\o.ExactDict:=by
    rcases hk with⟨kvs,hk⟩|⟨kvs,hk⟩
    ·obtain⟨_,_,_,_,o,_,_,e,ex,_⟩:=I.hok p _ hk
     exact⟨o,e,ex⟩
    ·obtain⟨_,_,_,_,o,_,_,e,ex,_⟩:=I.hok p _ hk
     exact⟨o,e,ex⟩
   obtain⟨o,e,ex⟩:=z
   refine⟨⟨o,e,ex.1⟩,fun a e2=>?_⟩
   cases e2
   exact⟨o,e,ex.2.1⟩
  ·obtain⟨o,_,_,_,e,ex,_⟩:=I.hok p _ hk
   refine⟨⟨o,e,ex.1⟩,fun a e2=>?_⟩
   cases e2
   exact⟨o,e,ex.2.1⟩
 |_=>exact False.elim ty
def BL(K:Vo)(T:String)(r:V->List V->Hp->VK->Prop)(to:TE):TE:=fun σ H Q=>to σ H fun x H1=>Bd K T x H1/\r x [] H1 Q
def CN(K:Vo)(T:String)(r:V->List V->Hp->VK->Prop)(to:TE)(t:TA):TE:=fun σ H Q=>to σ H fun x H1=>Bd K T x H1/\t σ H1 fun xs H2=>r x xs H2 Q
variable {o e:Expr} {es:List Expr} {to:TE} {t:TA} {name:Str} {apos cpos:Pos} {T id:String} {r:V->List V->Hp->VK->Prop}
def xX(pa:PlainAttrs T)(slot:Slot T name id)(hty:typeOf (.builtin id)=pure (.type "method_descriptor"))(hm:BG X id r)(ho:PE X o to)
  (hbase:attributeBase o name X.env (eval o X.env)=eval o X.env:=by rfl) (hline:(apos.endLine == cpos.line)=true:=by rfl):PE X (.Call (.Attribute o name apos) [] [] cpos) (BL X.K T r to):=by
 intro pins s σ H Q I h
 refine wpAny_Call_method0_late hbase hline (bA (ho pins s σ H _ I h) fun v s1 ⟨x,H1,I1,r1,ty,q1⟩=>?_)
 obtain⟨h1,h2⟩:=se I1 r1 ty
 exact⟨T,id,pa,slot,hty,h1,h2,Calls.callWith_builtin rfl (PySem.evalArgs_none (hm pins s1 σ H1 x [] v [] Q I1 r1 .nil q1))⟩
def zZ(pa:PlainAttrs T)(slot:Slot T name id)(hty:typeOf (.builtin id)=pure (.type "method_descriptor"))(hm:BG X id r)(ho:PE X o to)(ha:PA X (e::es) t)
  (hbase:attributeBase o name X.env (eval o X.env)=eval o X.env:=by rfl)
  (hfew:((backTo cpos (starEach (e::es) X.env)).all (fun x=>!x.1)&&(backToKw cpos (keywordEach [] X.env)).all (fun x=>x.1.isSome)
   && decide ((e::es).length+([]:List Keyword).length+(if ([]:List Keyword).isEmpty then 0 else 1) < 30))=true:=by rfl)
  (hline:(apos.endLine == cpos.line)=true:=by rfl) (hs:starEach (e::es) X.env=(false,eval e X.env)::starEach es X.env:=by rfl) (hplain:(backTo cpos (starEach es X.env)).any (·.1)=false:=by rfl) :
  PE X (.Call (.Attribute o name apos) (e::es) [] cpos) (CN X.K T r to t):=by
 intro pins s σ H Q I h
 refine wpAny_Call_method_late hbase hfew hline rfl (bA (ho pins s σ H _ I h) fun v s1 ⟨x,H1,I1,r1,ty,q1⟩=>?_)
 obtain⟨h1,h2⟩:=se I1 r1 ty
 refine⟨T,id,pa,slot,hty,h1,h2,?_⟩
 have hA:=ha cpos pins s1 σ H1 _ I1 q1
 rw[hs]at hA ⊢
 refine Calls.callWith_builtin (by show(false || (backTo cpos (starEach es X.env)).any (·.1))=false;rw[hplain]<;>rfl) (Calls.evalArgs_plain ?_)
 exact bA hA fun us s2 ⟨vs,H2,I2,r2,q2⟩=>hm pins s2 σ H2 x vs v us Q I2 r1 r2 q2
end
def Be(X:Cx)(id:String)(r:V->List V->Hp->VK->Prop):Prop:=
 ∀(pins:Va) (s:Shared) (σ:St) (H:Hp) (x:V) (xs:List V) (v:Value) (us:Vv) (Q:VK),Inv X pins σ H s->RelV x v->Vals xs us->r x xs H Q->
  wpAny (model X.prog X.w) X.A (call (.builtin id) (v::us)) (EP X pins σ Q) X.xe s
theorem Vals.one:∀{x:V} {us:Vv},Vals [x] us->∃u,us=[u]/\RelV x u
 |_,_,.cons r .nil=>⟨_,rfl,r⟩
theorem Vals.zero:∀{us:Vv},Vals [] us->us=[]
 |_,.nil=>rfl
theorem Vals.dropLast{xs:List V}{us:Vv}(h:Vals xs us):Vals xs.dropLast us.dropLast:=by
 induction h with
 |nil=>exact .nil
 |cons r t ih=>
  cases t with
  |nil=>exact .nil
  |cons q t'=>exact .cons r ih
theorem Vals.eraseIdx:∀{xs:List V} {us:Vv} (i:Nat),Vals xs us->Vals (xs.eraseIdx i) (us.eraseIdx i)
 |_,_,_,.nil=>.nil
 |_,_,0,.cons _ t=>t
 |_,_,i+1,.cons r t=>.cons r (Vals.eraseIdx i t)
theorem Vals.reverse{xs:List V}{us:Vv}(h:Vals xs us):Vals xs.reverse us.reverse:=by
 induction h with
 |nil=>exact .nil
 |cons r t ih=>rw[List.reverse_cons,List.reverse_cons];exact Vals.append ih (.cons r .nil)
theorem Vals.rep{xs:List V}{us:Vv}(h:Vals xs us):∀k:Nat,Vals (List.replicate k xs).flatten (List.replicate k us).flatten
 |0=>.nil
 |k+1=>by
  rw[List.replicate_succ,List.replicate_succ,List.flatten_cons,List.flatten_cons]
  exact Vals.append h (Vals.rep h k)
def nT{α:Type}(l:List α):l.eraseIdx (l.length - 1)=l.dropLast:=by
 induction l with
 |nil=>rfl
 |cons a r ih=>
  cases r with
  |nil=>rfl
  |cons b r=>
   have e:(a::b::r).length - 1=((b::r).length - 1)+1:=by
    have h1:(a::b::r).length=r.length+2:=rfl
    have h2:(b::r).length=r.length+1:=rfl
    omega
   rw[e,List.eraseIdx_cons_succ,ih]
   all_goals rfl
theorem kI{α:Type}:∀(l:List α) (i:Nat),(l.eraseIdx i).length<=l.length
 |[],_=>Nat.le_refl _
 |_::_,0=>Nat.le_succ _
 |_::r,i+1=>Nat.succ_le_succ (kI r i)
theorem kJ(its:Vv):∀(k:Nat) (acc:Vv),
  List.foldl (fun x1 x2=>x1++x2) acc.toArray (List.replicate k its.toArray)=(acc++(List.replicate k its).flatten).toArray
 |0,acc=>by simp
 |k+1,acc=>by
  have e:acc.toArray++its.toArray=(acc++its).toArray:=by simp
  have e2:(acc++its)++(List.replicate k its).flatten=acc++(List.replicate (k+1) its).flatten:=by
   rw[List.replicate_succ,List.flatten_cons,List.append_assoc]
  rw[<-e2,<-kJ its k (acc++its),<-e,List.replicate_succ,List.foldl_cons]
section
variable {X:Cx} {pins:Va} {σ:St} {H:Hp} {s:Shared} {l b:Addr} {xs ys zs:List V}
def Inv.G2{its its':Vv}{n:Nat}{f:Array Value->Array Value}{t':Nat}(I:Inv X pins σ H s)(hH:H l=some (.lst xs))
  (e:s.heap.get? l=some { cls:=.type "list",data:=.seq its.toArray n }) (hf:f its.toArray=its'.toArray) (hv:Vals ys its') (hz:ys.length<=sizeLine) :
  Inv X pins σ (upd H l (.lst ys)) { s with heap:=s.heap.update l (Obj.mapSeq f),toks:=t' }:=by
 have q:=PySem.IsL.update e f
 rw[hf]at q
 refine I.write (x:=l) (e:=l) (by rw[hH];exact trivial) (.inl rfl) (fun b' u hb hu=>(Heap.get?_update_other s.heap (Obj.mapSeq f) (Ne.symm hb)).trans hu) ⟨_,q⟩ ?_
 exact⟨hz,its',_,hv,q⟩
def Inv.GC{its:Vv}{t':Nat}(I:Inv X pins σ H s)(hv:Vals ys its)(hz:ys.length<=sizeLine) :
  Inv X pins σ (upd H s.heap.objs.size (.lst ys)) { s with heap:=s.heap.push { cls:=.type "list",data:=.seq its.toArray },toks:=t' }:=
 I.laid (fun _ _ q=>Heap.get?_push_of_some _ q) (Nat.le_refl _) ⟨hz,its,0,hv,Heap.get?_push_size _ rfl⟩
theorem Inv.fresh(I:Inv X pins σ H s):H s.heap.objs.size=none:=I.hok.fresh (Nat.le_refl _)
def Inv.F6(I:Inv X pins σ H s)(hH:H l=some (.lst xs)):xs.length<=sizeLine/\∃(its:Vv) (n:Nat),Vals xs its/\xs.length=its.length/\s.heap.get? l=some { cls:=.type "list",data:=.seq its.toArray n }:=by
 obtain⟨z,its,n,r,e⟩:=I.hok l _ hH
 exact⟨z,its,n,r,r.length,e⟩
def mC{n:Nat}(h:n<=sizeLine):Builtin.List.listTooLong n=false:=by
 unfold Builtin.List.listTooLong
 exact decide_eq_false (by omega)
end
section
variable {X:Cx}
noncomputable def vf:V->List V->Hp->VK->Prop:=fun x vs H Q=>∃l xs y,x = .ref l/\vs=[y]/\H l=some (.lst xs)/\xs.length < sizeLine/\Q .non (upd H l (.lst (xs++[y])))
def qr:Be X "list.append" vf:=by
 intro pins s σ H x vs v us Q I rx rv h
 obtain⟨l,xs,y,rfl,rfl,hH,hz,q⟩:=h
 cases rx
 obtain⟨u,rfl,ru⟩:=rv.one
 obtain⟨z,its,n,r,hl,e⟩:=I.F6 hH
 refine call_meets F.slot_list_append ⟨_,e,rfl⟩ F.entry_list_append (F.args_list_append_2 _ _) (PySem.list_append l its.toArray n u (by rw[List.size_toArray];omega)) ⟨e,?_⟩
 refine⟨.non,_,I.G2 (its':=its++[u]) hH e (by simp) (r.append (.cons ru .nil)) ?_,rfl,q⟩
 rw[List.length_append,List.length_singleton]
 omega
noncomputable def vg:V->List V->Hp->VK->Prop:=fun x vs H Q=>∃l b xs zs,x = .ref l/\vs=[.ref b]/\H l=some (.lst xs)/\H b=some (.lst zs)/\xs.length+zs.length<=sizeLine/\Q .non (upd H l (.lst (xs++zs)))
def qt:Be X "list.extend" vg:=by
 intro pins s σ H x vs v us Q I rx rv h
 obtain⟨l,b,xs,zs,rfl,rfl,hH,hB,hz,q⟩:=h
 cases rx
 obtain⟨u,rfl,ru⟩:=rv.one
 cases ru
 obtain⟨z,its,n,r,hl,e⟩:=I.F6 hH
 obtain⟨z2,its2,n2,r2,hl2,e2⟩:=I.F6 hB
 have hsz:its.toArray.size+its2.toArray.size<=sizeLine:=by rw[List.size_toArray,List.size_toArray];omega
 have GN:¬(!its.toArray.isEmpty&&Builtin.List.listTooLong (its.toArray.size+its2.toArray.size))=true:=by
  rw[mC hsz,Bool.and_false]
  exact Bool.false_ne_true
 refine call_meets F.slot_list_extend ⟨_,e,rfl⟩ F.entry_list_extend (F.args_list_extend_2 _ _)
  (AutoSeq1.list_extend_list_list_0 l its.toArray n b its2.toArray n2 GN (by rw[List.size_toArray];omega) (by omega)) ⟨e,e2,?_⟩
 refine⟨.non,_,I.G2 (its':=its++its2) hH e (by simp) (r.append r2) ?_,rfl,q⟩
 rw[List.length_append]
 omega
noncomputable def BM:V->List V->Hp->VK->Prop:=fun x vs H Q=>∃l xs y,x = .ref l/\vs=[]/\H l=some (.lst xs)/\xs[xs.length - 1]?=some y/\Q y (upd H l (.lst xs.dropLast))
def xY:Be X "list.pop" BM:=by
 intro pins s σ H x vs v us Q I rx rv h
 obtain⟨l,xs,y,rfl,rfl,hH,hy,q⟩:=h
 cases rx
 have KI:=rv.zero
 subst KI
 obtain⟨z,its,n,r,hl,e⟩:=I.F6 hH
 obtain⟨u,hu,ru⟩:=r.get hy
 have hy':its.toArray[its.toArray.size - 1]?=some u:=by
  show its.toArray[its.length - 1]?=some u
  rw[<-Array.getElem?_toList,<-hl]
  exact hu
 refine call_meets F.slot_list_pop ⟨_,e,rfl⟩ F.entry_list_pop (F.args_list_pop_1 _) (MeetsSeq.list_pop_last l its.toArray n u hy' (by rw[List.size_toArray];omega)) ⟨e,?_⟩
 refine⟨y,_,I.G2 (its':=its.dropLast) hH e ?_ r.dropLast ?_,ru,q⟩
 ·show its.toArray.eraseIdxIfInBounds (its.toArray.size - 1)=its.dropLast.toArray
  rw[List.size_toArray,List.eraseIdxIfInBounds_toArray,nT]
 ·rw[List.length_dropLast]
  omega
noncomputable def xZ:V->List V->Hp->VK->Prop:=fun x vs H Q=>∃l xs i k y,x = .ref l/\vs=[.int i]/\H l=some (.lst xs)/\-(2 ^ 63)<=i/\i < 2 ^ 63/\seqIndex? i xs.length=some k/\xs[k]?=some y/\Q y (upd H l (.lst (xs.eraseIdx k)))
def sf:Be X "list.pop" xZ:=by
 intro pins s σ H x vs v us Q I rx rv h
 obtain⟨l,xs,i,k,y,rfl,rfl,hH,h1,h2,hk,hy,q⟩:=h
 cases rx
 obtain⟨u,rfl,ru⟩:=rv.one
 obtain⟨t,rfl⟩:=ru
 obtain⟨z,its,n,r,hl,e⟩:=I.F6 hH
 obtain⟨w,hw,rw'⟩:=r.get hy
 refine call_meets F.slot_list_pop ⟨_,e,rfl⟩ F.entry_list_pop (F.args_list_pop_2 _ _)
  (MeetsSeq.list_pop_at l its.toArray n i t k w (fitsIndex_both h1 h2) (by rw[List.size_toArray,<-hl];exact hk) (by rw[<-Array.getElem?_toList];exact hw) (by rw[List.size_toArray];omega)) ⟨e,?_⟩
 refine⟨y,_,I.G2 (its':=its.eraseIdx k) hH e ?_ (r.eraseIdx k) ?_,rw',q⟩
 ·show its.toArray.eraseIdxIfInBounds k=(its.eraseIdx k).toArray
  rw[List.eraseIdxIfInBounds_toArray]
 ·have:=kI xs k
  omega
def BN:R2:=fun x y H Q=>∃l b xs zs,x = .ref l/\y = .ref b/\H l=some (.lst xs)/\H b=some (.lst zs)/\xs.length+zs.length<=sizeLine/\∀p,H p=none->Q (.ref p) (upd H p (.lst (xs++zs)))
def x9:gf X (binaryOp .Add) BN:=by
 intro pins s σ H x y v u Q I rx ry h
 obtain⟨l,b,xs,zs,rfl,rfl,hH,hB,hz,q⟩:=h
 cases rx
 cases ry
 obtain⟨z,its,n,r,hl,e⟩:=I.F6 hH
 obtain⟨z2,its2,n2,r2,hl2,e2⟩:=I.F6 hB
 refine PySem.P.add_list e e2 ?_ (by rw[List.size_toArray,List.size_toArray];omega)
 have ea:its.toArray++its2.toArray=(its++its2).toArray:=by simp
 rw[ea]
 exact⟨.ref _,_,I.GC (t':=s.toks) (r.append r2) (by rw[List.length_append];omega),rfl,q _ I.fresh⟩
def BO:R2:=fun x y H Q=>∃l k xs,x = .ref l/\y = .int k/\H l=some (.lst xs)/\-(2 ^ 63)<=k/\k < 2 ^ 63/\xs.length * k.toNat<=sizeLine/\
 ∀p,H p=none->Q (.ref p) (upd H p (.lst (List.replicate k.toNat xs).flatten))
def vh{α:Type}(xs:List α)(k:Nat):(List.replicate k xs).flatten.length=k * xs.length:=by
 induction k with
 |zero=>simp
 |succ k ih=>rw[List.replicate_succ,List.flatten_cons,List.length_append,ih,Nat.succ_mul,Nat.add_comm]
def x_:gf X (binaryOp .Mult) BO:=by
 intro pins s σ H x y v u Q I rx ry h
 obtain⟨l,k,xs,rfl,rfl,hH,h1,h2,hz,q⟩:=h
 cases rx
 obtain⟨t,rfl⟩:=ry
 obtain⟨z,its,n,r,hl,e⟩:=I.F6 hH
 have hlen:its.toArray.size * k.toNat<=sizeLine:=by rw[List.size_toArray,<-hl];exact hz
 have hcap:¬its.toArray.size * k.toNat > (2 ^ 63 - 1) / 8:=by
  have:(sizeLine:Nat)<=(2 ^ 63 - 1) / 8:=by decide
  omega
 have hfit:¬(!Builtin.List.listFitsIndex k)=true:=by
  rw[fitsIndex_both h1 h2]
  exact Bool.false_ne_true
 have GN:¬Builtin.List.listTooLong (its.toArray.size * k.toNat)=true:=by
  rw[mC hlen]
  exact Bool.false_ne_true
 have hnew:List.foldl (fun x1 x2=>x1++x2) #[] (List.replicate (if its.toArray.isEmpty=true then 0 else k.toNat) its.toArray)=(List.replicate k.toNat its).flatten.toArray:=by
  have f0:∀m:Nat,List.foldl (fun x1 x2=>x1++x2) #[] (List.replicate m its.toArray)=(List.replicate m its).flatten.toArray:=fun m=>by
   have:=kJ its m []
   rw[List.nil_append]at this
   exact this
  rw[f0]
  cases its with
  |nil=>simp
  |cons a r'=>rw[if_neg (by simp)]
 refine wpAny_binaryOp_repeat_ref (T:="list") (U:="int") (by decide) ⟨_,e,rfl⟩ (fun s'=>typeIs_int s' k t) noFill_list_mul F.fills_int_mul F.slot_int_rmul repeat_list F.slot_int_index.lookup
  (call_meets F.slot_int_rmul (typeIs_int s k t) F.entry_int_rmul (F.args_int_rmul_2 _ _) (int___rmul___int_list k t l its.toArray n)
   ⟨e,rfl,⟨_,e,rfl⟩,call_meets F.slot_list_mul ⟨_,e,rfl⟩ F.entry_list_mul (F.args_list_mul_2 _ _) (AutoListH.list___mul___list_int_3 l its.toArray n k t hfit hcap GN) ⟨e,?_⟩⟩)
 rw[hnew]
 exact⟨.ref _,_,I.GC (t':=s.toks) (r.rep k.toNat) (by rw[vh,Nat.mul_comm];exact hz),rfl,q _ I.fresh⟩
end
section
variable {prog:Program} {w:World} {A:Around} {E:Vq} {s:Shared}
end
section
variable {X:Cx}
end
section
variable {κ:Type} [DecidableEq κ]
noncomputable def iD(kvs:List (κ×V))(k:κ):Option V:=(kvs.find? fun kv=>decide (kv.1=k)).map (·.2)
noncomputable def fH(kvs:List (κ×V))(k:κ)(v:V):List (κ×V):=
 if (kvs.any fun kv=>decide (kv.1=k))=true then kvs.map (fun kv=>if kv.1=k then (kv.1,v) else kv) else kvs++[(k,v)]
def EF{p:κ×V}{r:List (κ×V)}{k:κ}(e:p.1=k):iD (p::r) k=some p.2:=by simp[iD,List.find?_cons,e]
def EG{p:κ×V}{r:List (κ×V)}{k:κ}(e:¬p.1=k):iD (p::r) k=iD r k:=by simp[iD,List.find?_cons,e]
theorem jJ(k:κ):∀kvs:List (κ×V),(kvs.any fun kv=>decide (kv.1=k))=(iD kvs k).isSome
 |[]=>rfl
 |p::r=>by
  rw[List.any_cons]
  by_cases e:p.1=k
  ·simp only[EF e,decide_eq_true e,Bool.true_or,Option.isSome_some]
  ·rw[EG e,decide_eq_false e,Bool.false_or];exact jJ k r
def fI(kvs:List (κ×V))(k:κ)(v:V):(fH kvs k v).length<=kvs.length+1:=by
 unfold fH
 split
 ·rw[List.length_map];omega
 ·rw[List.length_append,List.length_cons,List.length_nil];omega
def RelO.GD{o:Option V}{u:Option Value}(r:RelO o u):o.isSome=u.isSome:=by
 cases o with
 |none=>cases u with
  |none=>rfl
  |some _=>exact(show False from r).elim
 |some _=>cases u with
  |none=>exact(show False from r).elim
  |some _=>rfl
def KV.val{kvs:List (κ×V)}{vs:List (κ×Value)}(r:KV kvs vs)(k:κ):RelO (iD kvs k) (valueAt vs k):=by
 unfold KV at r
 induction r with
 |nil=>exact True.intro
 |@cons p q ps qs h t ih=>
  obtain⟨h1,h2⟩:=h
  by_cases e:p.1=k
  ·have e':q.1=k:=h1.symm.trans e
   have b:valueAt (q::qs) k=some q.2:=by simp[valueAt,List.find?_cons,e']
   rw[EF e,b];exact h2
  ·have e':¬q.1=k:=fun z=>e (h1.trans z)
   have b:valueAt (q::qs) k=valueAt qs k:=by simp[valueAt,List.find?_cons,e']
   rw[EG e,b];exact ih
theorem KV.any{kvs:List (κ×V)}{vs:List (κ×Value)}(r:KV kvs vs)(k:κ):(kvs.any fun kv=>decide (kv.1=k))=vs.any fun kv=>decide (kv.1=k):=by
 unfold KV at r
 induction r with
 |nil=>rfl
 |cons h t ih=>rw[List.any_cons,List.any_cons,ih,h.1]
def KV.repl{kvs:List (κ×V)}{vs:List (κ×Value)}(r:KV kvs vs)(k:κ){y:V}{u:Value}(ry:RelV y u) :
  KV (kvs.map fun kv=>if kv.1=k then (kv.1,y) else kv) (vs.map fun kv=>if kv.1=k then (kv.1,u) else kv):=by
 unfold KV at r ⊢
 induction r with
 |nil=>exact .nil
 |@cons p q ps qs h t ih=>
  rw[List.map_cons,List.map_cons]
  refine .cons ?_ ih
  obtain⟨h1,h2⟩:=h
  by_cases e:p.1=k
  ·rw[if_pos e,if_pos (h1.symm.trans e)];exact⟨h1,ry⟩
  ·rw[if_neg e,if_neg (fun z=>e (h1.trans z))];exact⟨h1,h2⟩
def KV.put{kvs:List (κ×V)}{vs:List (κ×Value)}(r:KV kvs vs)(k:κ){y:V}{u:Value}(ry:RelV y u):KV (fH kvs k y) (stored vs k u):=by
 unfold fH stored
 rw[r.any k]
 by_cases e:(vs.any fun kv=>decide (kv.1=k))=true
 ·rw[if_pos e,if_pos e];exact r.repl k ry
 ·rw[if_neg e,if_neg e];exact Paired.snoc r ⟨rfl,ry⟩
theorem KV.length{kvs:List (κ×V)}{vs:List (κ×Value)}(r:KV kvs vs):kvs.length=vs.length:=Paired.length r
end
def ph{P:Program}{w:World}{k:b8}{u:Value}(r:RelV (kV k) u):(bC P w).is k u=true:=by
 cases k with
 |inl i=>obtain⟨t,e⟩:=(show ∃t,u=Value.int i t from r);subst e;exact mq P w i t
 |inr x=>obtain⟨t,e⟩:=(show ∃t,u=Value.str x t from r);subst e;exact mv P w x t
theorem kK{P:Program}{w:World}:∀{ks:List b8} {us:Vv},Vals (ks.map kV) us->ItemsAre (bC P w) ks us
 |[],_,r=>by rw[List.map_nil]at r;cases r;exact .nil
 |k::ks,_,r=>by
  rw[List.map_cons]at r
  cases r with
  |cons h t=>exact .cons (ph h) (kK t)
noncomputable abbrev KT(H:Hp):List (List b8×V)->List (List b8×Addr×Value)->Prop:=Paired fun p q=>p.1=q.1/\H q.2.1=some (.tup (p.1.map kV))/\RelV p.2 q.2.2
def KT.val{H:Hp}{kvs:List (List b8×V)}{xs:List (List b8×Addr×Value)}(r:KT H kvs xs)(k:List b8):RelO (iD kvs k) ((atKey xs k).map (·.2)):=by
 induction r with
 |nil=>exact True.intro
 |@cons p q ps qs h t ih=>
  obtain⟨h1,_,h2⟩:=h
  by_cases e:p.1=k
  ·have e':q.1=k:=h1.symm.trans e
   have b:atKey (q::qs) k=some q.2:=by simp[atKey,List.find?_cons,e']
   rw[EF e,b];exact h2
  ·have e':¬q.1=k:=fun z=>e (h1.trans z)
   have b:atKey (q::qs) k=atKey qs k:=by simp[atKey,List.find?_cons,e']
   rw[EG e,b];exact ih
def KT.repl{H:Hp}{kvs:List (List b8×V)}{xs:List (List b8×Addr×Value)}(r:KT H kvs xs)(k:List b8){y:V}{u:Value}(ry:RelV y u) :
  KT H (kvs.map fun kv=>if kv.1=k then (kv.1,y) else kv) (xs.map (putAt k u)):=by
 induction r with
 |nil=>exact .nil
 |@cons p q ps qs h t ih=>
  rw[List.map_cons,List.map_cons]
  refine .cons ?_ ih
  obtain⟨h1,h2,h3⟩:=h
  unfold putAt
  by_cases e:p.1=k
  ·rw[if_pos e,if_pos (h1.symm.trans e)];exact⟨h1,h2,ry⟩
  ·rw[if_neg e,if_neg (fun z=>e (h1.trans z))];exact⟨h1,h2,h3⟩
def KT.put{H:Hp}{kvs:List (List b8×V)}{xs:List (List b8×Addr×Value)}(r:KT H kvs xs)(k:List b8){b:Addr}{y:V}{u:Value}(hb:H b=some (.tup (k.map kV)))(ry:RelV y u) :
  KT H (fH kvs k y) (storedH xs k b u):=by
 have e:(kvs.any fun kv=>decide (kv.1=k))=(atKey xs k).isSome:=by
  rw[jJ,(r.val k).GD,Option.isSome_map]
 unfold fH storedH
 rw[e]
 by_cases q:(atKey xs k).isSome=true
 ·rw[if_pos q,if_pos q];exact r.repl k ry
 ·rw[if_neg q,if_neg q];exact Paired.snoc r ⟨rfl,hb,ry⟩
def KT.keeps{H H':Hp}{kvs:List (List b8×V)}{xs:List (List b8×Addr×Value)}(r:KT H kvs xs)(ht:∀b ys,H b=some (.tup ys)->H' b=some (.tup ys)):KT H' kvs xs:=
 Paired.Hq r fun _ _ z=>⟨z.1,ht _ _ z.2.1,z.2.2⟩
section
variable {P:Program} {w:World} {H:Hp} {h:Heap} {a:Addr}
def ww{u:HO}(ok:ES P w H h)(e:Rd H a u):ObjOk P w H h a u:=e.ok ok
def pj{kvs:List (b8×V)}(ok:ES P w H h)(e:Rd H a (.dK kvs)):kvs.length<=sizeLine/\(a == sysModules)=false/\∃vs,KV kvs vs/\h.DictOf (bC P w) a vs:=
 show ObjOk P w H h a (.dK kvs)from ww ok e
def wx{kvs:List (b8×V)}(ok:ES P w H h)(e:H a=some (.dK kvs)):kvs.length<=sizeLine/\(a == sysModules)=false/\∃vs,KV kvs vs/\h.DictOf (bC P w) a vs:=pj ok (.inl e)
def gG{ks:List b8}(ok:ES P w H h)(e:H a=some (.tup (ks.map kV))):(tupleKind (bC P w)).is h ks a:=by
 obtain⟨_,its,r,o,h1,_,h2,n,h3⟩:=(show ObjOk P w H h a (.tup (ks.map kV))from ok a _ e)
 exact⟨o,its.toArray,n,h1,h2,h3,by simpa using kK r⟩
def si{kvs:List (List b8×V)}(ok:ES P w H h)(e:Rd H a (.dT kvs)):kvs.length<=sizeLine/\(a == sysModules)=false/\
  ∃xs,KT H kvs xs/\h.DictOfH (tupleKind (bC P w)) a xs:=by
 obtain⟨z,y,xs,r,o,es,ep,h1,h2,h3,h4,h5⟩:=(show ObjOk P w H h a (.dT kvs)from ww ok e)
 refine⟨z,y,xs,r,o,es,ep,h1,h2,h3,h4,fun x hx=>?_,h5⟩
 have all:∀{l:List (List b8×V)} {m:List (List b8×Addr×Value)},KT H l m->∀x∈m,(tupleKind (bC P w)).is h x.1 x.2.1:=by
  intro l m q
  induction q with
  |nil=>intro x hx;exact nomatch hx
  |@cons p q ps qs hq t ih=>
   intro x hx
   rcases List.mem_cons.mp hx with e|hx
   ·subst e
    exact gG ok (by rw[<-hq.1];exact hq.2.1)
   ·exact ih x hx
 exact all r x hx
def z9{kvs:List (List b8×V)}(ok:ES P w H h)(e:H a=some (.dT kvs)):kvs.length<=sizeLine/\(a == sysModules)=false/\
  ∃xs,KT H kvs xs/\h.DictOfH (tupleKind (bC P w)) a xs:=si ok (.inl e)
end
def DGet(H:Hp)(a:Addr)(y:V)(r:Option V):Prop:=
 (∃kvs k,Rd H a (.dK kvs)/\y=kV k/\r=iD kvs k)\/∃kvs k b,Rd H a (.dT kvs)/\y = .ref b/\H b=some (.tup (k.map kV))/\r=iD kvs k
def GO(H:Hp)(a:Addr)(y v:V)(H':Hp):Prop:=
 (∃kvs k,H a=some (.dK kvs)/\y=kV k/\kvs.length < sizeLine/\H'=upd H a (.dK (fH kvs k v))) \/
 ∃kvs k b,H a=some (.dT kvs)/\y = .ref b/\H b=some (.tup (k.map kV))/\kvs.length < sizeLine/\H'=upd H a (.dT (fH kvs k v))
theorem DGet.k{H:Hp}{a:Addr}{kvs:List (b8×V)}{k:b8}(e:H a=some (.dK kvs)):DGet H a (kV k) (iD kvs k):=.inl ⟨kvs,k,.inl e,rfl,rfl⟩
theorem GO.k{H:Hp}{a:Addr}{kvs:List (b8×V)}{k:b8}{v:V}(e:H a=some (.dK kvs))(hl:kvs.length < sizeLine):GO H a (kV k) v (upd H a (.dK (fH kvs k v))):=.inl ⟨kvs,k,e,rfl,hl,rfl⟩
section
variable {X:Cx} {pins:Va} {σ:St} {H:Hp} {s:Shared} {a:Addr} {y v:V} {u r:Value} {o:Option V} {A:Around} {E:Vq}
def Inv.big(I:Inv X pins σ H s):sysModules < s.heap.objs.size:=by
 have h:mainGlobals < s.heap.objs.size:=(I.mod.glob.keeps I.bk).lt
 exact Nat.lt_trans (by decide) h
def qu{Q:Vq}(hu:A.units+1 < cLine)(I:Inv X pins σ H s)(g:DGet H a y (some v))(ry:RelV y u)(h:∀w' s',Inv X pins σ H s'->RelV v w'->Q w' s') :
  wpAny (model X.prog X.w) A (getItem (.ref a) u) Q E s:=by
 rcases g with⟨kvs,k,e,ey,l⟩|⟨kvs,k,b,e,ey,eb,l⟩
 ·subst ey
  obtain⟨z,hd,vs,rel,dd⟩:=pj I.hok e
  obtain⟨w',hw,rw'⟩:=RelO.some_of (v:=v) (o:=valueAt vs k) (by rw[l];exact rel.val k)
  exact wpAny_getItem_of (ph ry) dd.mapOf hw (h w' _ (I.tok _) rw')
 ·subst ey
  cases (show u=Value.ref b from ry)
  obtain⟨z,hd,xs,rel,dd⟩:=si I.hok e
  obtain⟨w',hw,rw'⟩:=RelO.some_of (v:=v) (o:=(atKey xs k).map (·.2)) (by rw[l];exact rel.val k)
  obtain⟨p,hp,hp2⟩:=Option.map_eq_some_iff.mp hw
  refine wpAny_getItem_heap (tupleKind_room_in1 hu) (gG I.hok eb) dd hp ?_
  rw[hp2]
  exact h w' _ (I.tok _) rw'
def lx{h':Heap}{t':Nat}{ob:HO}(I:Inv X pins σ H s)(mu:zy (H a))(hs:Heap.SameBut a s.heap h')(he:∃q,h'.get? a=some q)(new:ObjOk X.prog X.w (upd H a ob) h' a ob) :
  Inv X pins σ (upd H a ob) { s with heap:=h',toks:=t' }:=
 I.write (x:=a) (e:=a) mu (.inl rfl) (fun b q hb z=>(hs.2 b hb).trans z) he new
def sj{P:Program}{w:World}{H':Hp}{h':Heap}{kvs:List (b8×V)}{vs:List (b8×Value)}(z:kvs.length<=sizeLine)(hd:(a == sysModules)=false)(rel:KV kvs vs)(dd:h'.DictOf (bC P w) a vs) :
  ObjOk P w H' h' a (.dK kvs):=⟨z,hd,vs,rel,dd⟩
def qv{H':Hp}{Q:Unit->Shared->Prop}(hu:A.units+1 < cLine)(I:Inv X pins σ H s)(g:GO H a y v H')(ry:RelV y u)(rv:RelV v r)(h:∀s',Inv X pins σ H' s'->Q () s') :
  wpAny (model X.prog X.w) A (setItem (.ref a) u r) Q E s:=by
 rcases g with⟨kvs,k,e,ey,l,eH⟩|⟨kvs,k,b,e,ey,eb,l,eH⟩
 ·subst ey eH
  obtain⟨z,hd,vs,rel,dd⟩:=wx I.hok e
  have hz:vs.length<=sizeLine:=by rw[<-rel.length];exact z
  have hl:(fH kvs k v).length<=sizeLine:=by have:=fI kvs k v;omega
  refine wpAny_setItem_pairs (hsz:=hz) (ph ry) dd fun h' Hw hs=>h _ ?_
  have he:∃q,h'.get? a=some q:=let ⟨q,_,_,hq,_⟩:=Hw;⟨q,hq⟩
  exact lx I (by rw[e];exact True.intro) hs he (sj hl hd (rel.put k rv) Hw)
 ·subst ey eH
  cases (show u=Value.ref b from ry)
  obtain⟨z,hd,xs,rel,dd⟩:=z9 I.hok e
  have hz:xs.length<=sizeLine:=by rw[<-Paired.length rel];exact z
  have hl:(fH kvs k v).length<=sizeLine:=by have:=fI kvs k v;omega
  refine wpAny_setItem_heap (hsz:=hz) (tupleKind_room_in1 hu) (gG I.hok eb) dd fun h' Hw hs=>h _ ?_
  obtain⟨q,es,ep,hq,h2,h3,h4,_,h5⟩:=Hw
  refine lx I (by rw[e];exact True.intro) hs ⟨q,hq⟩ ⟨hl,hd,_,(rel.put k eb rv).keeps fun c ys ec=>?_,q,es,ep,hq,h2,h3,h4,h5⟩
  rw[az (zx ec e (fun z=>nomatch z))]
  exact ec
end
section
variable {X:Cx} {pins:Va} {σ:St} {H:Hp} {s:Shared} {a:Addr} {kvs:List (b8×V)} {k:b8} {u:Value} {A:Around} {E:Vq}
def z_{Q:Vq}(I:Inv X pins σ H s)(e:Rd H a (.dK kvs))(h:∀t s',Inv X pins σ H s'->Q (.int kvs.length t) s'):wpAny (model X.prog X.w) A (call (.builtin "len") [.ref a]) Q E s:=by
 obtain⟨z,hd,vs,rel,dd⟩:=pj I.hok e
 refine call_len_dict hd dd (by rw[<-rel.length];rw[sizeLine_eq]at z;omega) ?_
 rw[<-rel.length]
 exact h _ _ (I.tok _)
end
def mD{X:Cx}{pins:Va}{σ:St}{H:Hp}{s:Shared}{a:Addr}{y:V}{o:Option V}(I:Inv X pins σ H s)(g:DGet H a y o):s.TypeIs (.ref a) "dict":=by
 rcases g with⟨kvs,k,e,_,_⟩|⟨kvs,k,b,e,_,_,_⟩
 ·obtain⟨_,_,vs,_,dd⟩:=pj I.hok e
  exact dd.typeIs
 ·obtain⟨_,_,xs,_,dd⟩:=si I.hok e
  exact dd.typeIs
section
variable {X:Cx} {o i e value:Expr} {pos pos' tpos:Pos} {td ty tv:TE}
end
def sr{P:Program}{w:World}{H:Hp}(h:Heap)(hb:sysModules < h.objs.size):ObjOk P w H (h.push { cls:=.type "dict",data:=.dict #[] }) h.objs.size (.dK []):=
 ⟨Nat.zero_le _,beq_eq_false_iff_ne.mpr (Ne.symm (Nat.ne_of_lt hb)),[],.nil,Heap.DictOf.new h⟩
section
variable {X:Cx} {pos:Pos}
end
noncomputable def ly:List (TE×TE)->St->Hp->(List (V×V)->Hp->Prop)->Prop
 |[],_,H,Q=>Q [] H
 |(tk,tv)::r,σ,H,Q=>tk σ H fun x H1=>tv σ H1 fun y H2=>ly r σ H2 fun ps H3=>Q ((x,y)::ps) H3
noncomputable abbrev VV:List (V×V)->List (Value×Value)->Prop:=Paired fun p q=>RelV p.1 q.1/\RelV p.2 q.2
def Aa(X:Cx)(pos:Pos)(keys:List (Option Expr))(values:List Expr)(Ft:List (TE×TE)):Prop:=
 ∀(pins:Va) (s:Shared) (σ:St) (H:Hp) (Q:List (V×V)->Hp->Prop),Inv X pins σ H s->ly Ft σ H Q->
  wpAny (model X.prog X.w) X.A (evalPairs (pairTrees keys values X.env pos)) (fun vs s'=>∃ps H',Inv X pins σ H' s'/\VV ps vs/\Q ps H') X.xe s
def vi{X:Cx}{pos:Pos}:Aa X pos [] [] []:=fun pins s σ H Q I h=>pairTrees_nil_walk ⟨[],H,I,.nil,h⟩
def ss{X:Cx}{pos:Pos}{k v:Expr}{ks:List (Option Expr)}{vs:List Expr}{tk tv:TE}{Ft:List (TE×TE)}(hk:PE X k tk)(hv:PE X v tv)(hr:Aa X pos ks vs Ft) :
  Aa X pos (some k::ks) (v::vs) ((tk,tv)::Ft):=fun pins s σ H Q I h=>
 pairTrees_cons_walk (bA (hk pins s σ H _ I h) fun u s1 ⟨x,H1,I1,rx,q1⟩=>bA (hv pins s1 σ H1 _ I1 q1) fun w2 s2 ⟨y,H2,I2,ry,q2⟩=>
  bA (hr pins s2 σ H2 _ I2 q2) fun ws s3 ⟨ps,H3,I3,rel,q3⟩=>⟨(x,y)::ps,H3,I3,.cons ⟨rx,ry⟩ rel,q3⟩)
noncomputable def iE(kvs more:List (b8×V)):List (b8×V):=more.foldl (fun acc kv=>fH acc kv.1 kv.2) kvs
def KV.merge:∀{more:List (b8×V)} {rs:List (b8×Value)} {kvs:List (b8×V)} {vs:List (b8×Value)},KV more rs->KV kvs vs->KV (iE kvs more) (merged vs rs):=by
 intro more rs kvs vs r
 unfold KV at r
 induction r generalizing kvs vs with
 |nil=>intro q;exact q
 |@cons p q ps qs h t ih=>
  intro r0
  have e:KV (fH kvs p.1 p.2) (stored vs q.1 q.2):=by
   have:=r0.put p.1 h.2
   rw[<-h.1];exact this
  exact ih e
theorem gi:∀(more kvs:List (b8×V)),(iE kvs more).length<=kvs.length+more.length
 |[],kvs=>by show kvs.length<=kvs.length+0;omega
 |p::r,kvs=>by
  have h1:=gi r (fH kvs p.1 p.2)
  have h2:=fI kvs p.1 p.2
  show(iE (fH kvs p.1 p.2) r).length<=_
  rw[List.length_cons];omega
theorem jK{P:Program}{w:World}:∀{kvs:List (b8×V)} {ws:List (Value×Value)},VV (kvs.map fun kv=>(kV kv.1,kv.2)) ws->∃rs,Carries (bC P w) ws rs/\KV kvs rs
 |[],_,r=>by rw[List.map_nil]at r;cases r;exact⟨[],True.intro,.nil⟩
 |p::kvs,_,r=>by
  rw[List.map_cons]at r
  cases r with
  |@cons a b as bs h t=>
   obtain⟨rs,c,q⟩:=jK (P:=P) (w:=w) t
   obtain⟨b1,b2⟩:=b
   exact⟨(p.1,b2)::rs,⟨ph h.1,rfl,c⟩,.cons ⟨rfl,h.2⟩ q⟩
def Ab(Ft:List (TE×TE)):TE:=fun σ H Q=>∀p,H p=none->ly Ft σ (upd H p (.dK [])) fun ps H2=>H2 p=some (.dK [])/\∃kvs:List (b8×V),ps=kvs.map (fun kv=>(kV kv.1,kv.2))/\kvs.length<=15/\Q (.ref p) (upd H2 p (.dK (iE [] kvs)))
def vj{X:Cx}{pos:Pos}{keys:List (Option Expr)}{values:List Expr}{Ft:List (TE×TE)}(h:Aa X pos keys values Ft)(hall:keys.all (·.isSome)=true)(hl:keys.length=values.length)(h0:keys≠[])
  (Jl:keys.length<=15):PE X (.Dict keys values pos) (Ab Ft):=by
 intro pins s σ H Q I q
 have hn:=I.hok.fresh (Nat.le_refl s.heap.objs.size)
 have I1:=I.laid (a:=s.heap.objs.size) (o:=.dK []) (h':=s.heap.push { cls:=.type "dict",data:=.dict #[] }) (t':=s.toks) (fun _ _ q=>Heap.get?_push_of_some _ q) (Nat.le_refl _) (sr s.heap I.big)
 refine wpAny_Dict_walk (knd:=bC X.prog X.w) hall hl h0 Jl (bA (h pins _ σ _ _ I1 (q _ hn)) fun ws s2 ⟨ps,H2,I2,rel,e,kvs,ep,lk,q2⟩=>?_)
 subst ep
 obtain⟨rs,c,rk⟩:=jK (P:=X.prog) (w:=X.w) rel
 obtain⟨z,hd,vs0,r0,dd⟩:=wx I2.hok e
 cases r0
 refine⟨rs,c,dd,fun h' Hw hs=>⟨.ref s.heap.objs.size,_,?_,rfl,q2⟩⟩
 have hz:(iE [] kvs).length<=sizeLine:=by
  have h1:=gi kvs []
  rw[List.length_nil]at h1
  rw[sizeLine_eq];omega
 have he:∃q,h'.get? s.heap.objs.size=some q:=let ⟨q,_,_,hq,_⟩:=Hw;⟨q,hq⟩
 exact lx I2 (by rw[e];exact True.intro) hs he (sj hz hd (rk.merge .nil) Hw)
section
variable {X:Cx} {pins:Va} {σ:St} {H:Hp} {s:Shared} {a:Addr} {y d:V} {u r:Value} {o:Option V} {A:Around} {E:Vq}
end
section
variable {X:Cx} {o e f:Expr} {apos cpos:Pos} {td ty tx:TE}
end
section
variable {X:Cx} {pins:Va} {σ:St} {H:Hp} {s:Shared} {a:Addr} {kvs:List (b8×V)} {A:Around} {E:Vq}
end
section
variable {X:Cx} {pins:Va} {σ:St} {H:Hp} {s:Shared} {a:Addr} {y:V} {u:Value} {A:Around} {E:Vq}
end
end L2
namespace Att
open PySem PySem.W PySem.Calls PyProof.Rows
def jq{P:Params}{h:Heap}:∀(ns:Vu) (vs:Vv),WellAll P h vs (ns.map WData.int)->IntsAre vs ns:=by
 intro ns
 induction ns with
 |nil=>
  intro vs w
  rw[List.map_nil]at w
  cases w
  exact .nil
 |cons n ns ih=>
  intro vs w
  rw[List.map_cons]at w
  cases w with
  |cons a b=>
   cases a
   exact .cons _ _ (ih _ b)
def qw{l:OpenLaw}{n:Nat}(hn:l.most=some n){P:Params}{h:Heap}{args:List WData}{vals:Vv}
  (hpre:l.row.toRowW.claim.pre args=true) (hwl:WellAll P h vals args) :
  ∃a vs ns,vals=[Value.ref a]/\args=[WData.list (ns.map WData.int)]/\h.get? a=some { cls:=.type "list",data:=.seq vs.toArray }/\IntsAre vs ns/\ns.length<=n:=by
 have hsh:WShape.hasAll [] args [.list .int]=true:=(pre_splitW hpre).1
 have hc:l.pre.holds [] { args:=args }=true:=(pre_splitW hpre).2
 obtain⟨d,r,rfl,h1,h2⟩:=hasAllW_cons hsh
 obtain rfl:=hasAllW_nil h2
 obtain⟨xs,rfl,h3⟩:=hasW_list h1
 obtain⟨ns,rfl⟩:=items_int h3
 have hlen:ns.length<=n:=by
  unfold OpenLaw.pre at hc
  have h4:(WTm.not (.lt (.lit (.int (n:Int))) (.len (.arg 0)))).holds [] { args:=[.list (ns.map .int)] }=true:=by
   have h4:=(holds_andW hc).1
   rw[hn]at h4
   exact h4
  have h5:=condW_of h4 (w_not (w_lt w_lit (w_len_list (w_arg rfl))))
  rw[List.length_map]at h5
  refine Nat.le_of_not_lt fun q=>?_
  have q':(n:Int) < ((ns.length:Nat):Int):=by omega
  first
   |(rw[decide_eq_true q']at h5;exact absurd h5 (by decide))
   |(simp at h5;omega)
 cases hwl with
 |cons w1 w2=>
  cases w2
  cases w1 with
  |list ho hall=>exact⟨_,_,ns,rfl,rfl,ho,jq ns _ hall,hlen⟩
def qx(l:OpenLaw)(args:List WData):l.row.toRowW.claim.post args (.bool true) args=true:=
 postW_of (r:=l.row.toRowW) (X:=(true == true))
  (show WShape.has [] (.bool true) .bool=true by first|rfl|decide|simp[WShape.has,WShape.arms,WShape.armsAll])
  (show(WTm.eq .res (.lit (.bool true))).value [] { args:=args,res:=some (.bool true),after:=args }=some (.bool (true == true))from w_eq_bool (w_res rfl) w_lit) rfl
def mE{l:OpenLaw}{n:Nat}{q:Program}{loose:Vs}{XP:(Vr)->Heap->Prop}{YP:World->Heap->Prop}{d:DefRec}
  (hn:l.most=some n) (hdf:d.params.defaults=[])
  (call:∀(w:World) (s₀ s₁:Shared) (mg mb:Vr) (fa:Addr) (o:Obj) (pm cd doc:Value) (a:Addr) (vs:Vv) (ns:Vu),
   Ground q loose [] XP w s₀ mg mb s₁.heap->YP w s₁.heap->
   s₁.heap.get? fa=some o->o.data = .func (docDef d.name d.params d.body d.scope pm cd doc)->s₁.heap.CodeRec cd d.name->mg d.name=some (.ref fa)->
   s₁.heap.get? a=some { cls:=.type "list",data:=.seq vs.toArray }->IntsAre vs ns->ns.length<=n->s₁.gens=#[]->
   codeAny (model l.prog w) callerA (.call (.ref fa) ⟨[.ref a],[]⟩) (fun r s'=>r = .ok (.ret (.bool true))/\OldK s₁.heap s'.heap/\s'.os=s₁.os/\AllBare s'.gens) s₁) :
  WalkO q loose XP YP l.row.toRowW d [] (fun f vs=>PySem.call f vs):=by
 intro w s₀ s₁ mg mb G Y fa o pm cd doc dV kV ho hd hcd hD hmg hg args vals as hpre hlay hrd hwl hlo
 obtain rfl:dV = .none:=Dflts.none hD hdf
 obtain rfl:kV = .none:=Dflts.noKw hD
 obtain⟨a,vs,ns,rfl,rfl,hobj,hints,hlen⟩:=qw hn hpre hwl
 refine enter_call (codeAny_mono (call w s₀ s₁ mg mb fa o pm cd doc a vs ns G Y ho (fd_plain hd) hcd hmg hobj hints hlen hg) fun r s' hq=>?_)
 obtain⟨rfl,h2,h3,h4⟩:=hq
 exact⟨.inl ⟨.bool true,.bool true,[],rfl,fun _=>rfl,.bool true,qx l _,fun _=>⟨List.Pairwise.nil,fun _ hm=>(nomatch hm)⟩⟩,h2,h3,h4⟩
section
variable {prog:Program} {w:World} {A:Around} {E:Vq} {s:Shared} {K:Frag}
end
end Att
namespace L2
open PySem PySem.Spec PyProof.Rows
theorem kL:∀{vs:Vv} {ns:Vu},IntsAre vs ns->Vals (ns.map V.int) vs
 |_,_,.nil=>.nil
 |_,_,.cons n t h=>.cons ⟨t,rfl⟩ (kL h)
def vk(H:Hp):Prop:=∀b,H b=none\/∃o xs,H b=some (.frz o (.lst xs))
def su{P:Program}{w:World}{K:Vo}{mg mb:Vr}{CX:rX}{k:Nat}{fa a:Addr}{fd:FuncData}{x:Str}{sp:Sp}{s₁:Shared}{vs:Vv}{ns:Vu}
  (KX:K.In s₁.heap) (hns:s₁.heap.Ns mainGlobals mg) (hb:s₁.heap.Ns builtinsNs mb) (KJ:∀x:Str,x ≠ "__name__"->mb x=bootBuiltins x) (hlim:s₁.heap.NoLimit) (hg:s₁.gens=#[])
  (ha:s₁.heap.get? a=some { cls:=.type "list",data:=.seq vs.toArray }) (hi:IntsAre vs ns) (hl:ns.length<=sizeLine) (hr:Room k callerA)
  (F:∀base:Heap,K.In base->base.Ns mainGlobals mg->iC P w K mg base CX k fa fd [x] sp) (hbind:∀(s:Shared) (u:Value),BindsTo s fd ⟨[u],[]⟩ [(x,u)])
  (He:∀H:Hp,vk H->SqL K H a (ns.map V.int)->sp [.ref a] H (fun v _=>v = .bl true) fun _ _ _=>False)
  (Jm:∀H e s',CX [] H s₁ (fun _ _ _=>False) e s'->False) :
  codeAny (model P w) callerA (.call (.ref fa) ⟨[.ref a],[]⟩) (fun r s'=>r = .ok (.ret (.bool true))/\OldK s₁.heap s'.heap/\s'.os=s₁.os/\AllBare s'.gens) s₁:=by
 have rv:=kL hi
 have Jn:=hi.length
 -- from an abstract heap in which nothing but the script may be tracked
 have core:∀H:Hp,vk H->SqL K H a (ns.map V.int)->ES P w H s₁.heap->(∀b,H b≠none->b=a)->(H a≠none->K.lookup a=none)->
   codeAny (model P w) callerA (.call (.ref fa) ⟨[.ref a],[]⟩) (fun r s'=>r = .ok (.ret (.bool true))/\OldK s₁.heap s'.heap/\s'.os=s₁.os/\AllBare s'.gens) s₁:=by
  intro H hO hS hok hA hK
  have Gw:∀{b:Addr} {o:Obj},s₁.heap.get? b=some o->H b=none->(lg s₁.heap H).get? b=some o:=fun e n=>rF e n
  have Ib:∀{b:Addr} {o:Obj} {es:Array DictEntry} {ep:Nat},s₁.heap.get? b=some o->o.data = .dict es ep->H b=none:=fun{b o es ep} e d=>by
   cases q:H b with
   |none=>rfl
   |some u=>
    have e':b=a:=hA b (by rw[q];simp)
    subst e'
    rw[ha]at e;cases e
    have d':Data.seq vs.toArray _=Data.dict es ep:=d
    cases d'
  have IH:∀{b:Addr} {m:Vr},s₁.heap.Ns b m->(lg s₁.heap H).Ns b m:=fun{b m} ⟨o,es,ep,e,d,r⟩=>⟨o,es,ep,Gw e (Ib e d),d,r⟩
  have J6:K.In (lg s₁.heap H):=fun b o e=>Gw (KX b o e) (by
   cases q:H b with
   |none=>rfl
   |some u=>
    have e':b=a:=hA b (by rw[q];simp)
    subst e'
    rw[hK (by rw[q];simp)]at e;cases e)
  have hM:Mod K mg (lg s₁.heap H):=⟨J6,IH hns,⟨mb,IH hb,KJ⟩,let ⟨mc,h1,h2⟩:=hlim;⟨mc,IH h1,h2⟩⟩
  have e0:Gg P w K mg (lg s₁.heap H) callerA [] s₁ H:=⟨rfl,hM,fun b o e=>uK e,Nat.le_of_eq (qg _ _),trivial,fun b hb=>absurd (show b∈([]:List Addr)from hb) (by simp),hok,.of_eq hg⟩
  refine codeAny_mono ((F _ J6 (IH hns)).run callerA [] s₁ H ⟨[.ref a],[]⟩ [.ref a] [.ref a] _ _ hr e0 (hbind s₁ (.ref a)) (.cons rfl .nil) (He H hO hS)) fun r s' h=>?_
  cases r with
  |error e=>exact(Jm H e s' h).elim
  |ok fl=>
   cases fl with
   |next=>exact False.elim h
   |brk=>exact False.elim h
   |cont=>exact False.elim h
   |ret u=>
    obtain⟨v,H',os,bare,un,Jo,r',q⟩:=h
    have q':v = .bl true:=q
    subst q'
    obtain rfl:u=Value.bool true:=r'
    refine⟨rfl,OldK.of_keep fun b o e=>?_,os,bare⟩
    cases q:H b with
    |none=>exact un.keep b o e q (by intro z;exact absurd (show b∈([]:List Addr)from z) (by simp)) (by simp)
    |some u=>
     rcases hO b with z|⟨ob,xs,z⟩
     ·rw[q]at z;cases z
     ·have z2:=un.FN b ob _ z
      obtain⟨e1,_⟩:=hok b _ z
      obtain⟨e2,_⟩:=Jo b _ z2
      rw[e]at e1;cases e1
      exact e2
 cases hk:K.lookup a with
 |some o=>
  -- the script is one of the module's own objects
  have e:=KX a o hk
  rw[ha]at e
  cases e
  refine core (fun _=>none) (fun _=>.inl rfl) (.inr ⟨_,vs.toArray,_,hk,rfl,rfl,rfl,by rw[List.size_toArray,Jn];exact hl,by simpa using rv⟩) (fun b u z=>by have z':(none:Option HO)=some u:=z;cases z') (fun b z=>absurd rfl z) fun z=>absurd rfl z
 |none=>
  refine core (fun b=>if b=a then some (.frz { cls:=.type "list",data:=.seq vs.toArray } (.lst (ns.map V.int))) else none) (fun b=>?_) (.inl (.inr ⟨{ cls:=.type "list",data:=.seq vs.toArray },if_pos rfl⟩)) (fun b u z=>?_) (fun b z=>?_) fun _=>hk
  ·by_cases hb:b=a
   ·exact .inr ⟨_,_,if_pos hb⟩
   ·exact .inl (if_neg hb)
  ·by_cases hb:b=a
   ·have z':=(if_pos hb).symm.trans z
    cases z'
    subst hb
    exact⟨ha,by rw[List.length_map];exact hl,vs,_,rv,ha⟩
   ·have z':=(if_neg hb).symm.trans z
    cases z'
  ·by_cases hb:b=a
   ·exact hb
   ·exact absurd (if_neg hb) z
def vm{l:PySem.W.OpenLaw}{n k:Nat}{q:Program}{loose:Vs}{XP:(Vr)->Heap->Prop}{YP:World->Heap->Prop}{d:DefRec}{K:Params->PySem.W.Frag}{CX:World->rX}{sp:World->Sp}{x:Str}
  (hn:l.most=some n) (hn2:n<=sizeLine) (hdf:d.params.defaults=[]) (hr:Room k callerA)
  (hY:∀(w:World) (h:Heap),YP w h->(K w.params).In h)
  (F:∀(w:World) (mg:Vr) (fa:Addr) (h:Heap),(K w.params).In h->h.Ns mainGlobals mg->mg d.name=some (.ref fa)->
   ∃fd:FuncData,(∀(s:Shared) (u:Value),BindsTo s fd ⟨[u],[]⟩ [(x,u)])/\
    ∀base:Heap,(K w.params).In base->base.Ns mainGlobals mg->iC l.prog w (K w.params) mg base (CX w) k fa fd [x] (sp w))
  (He:∀(w:World) (H:Hp) (a:Addr) (ns:Vu),ns.length<=n->vk H->SqL (K w.params) H a (ns.map V.int)->sp w [.ref a] H (fun v _=>v = .bl true) fun _ _ _=>False)
  (Jm:∀(w:World) (H:Hp) (s:Shared) (e:Value) (s':Shared),CX w [] H s (fun _ _ _=>False) e s'->False) :
  PySem.W.WalkO q loose XP YP l.row.toRowW d [] (fun f vs=>PySem.call f vs):=by
 refine Att.mE hn hdf fun w s₀ s₁ mg mb fa o pm cd doc a vs ns G Y ho hd hcd hmg hobj hints hlen hg=>?_
 have KX:=hY w _ Y
 obtain⟨fd,hb,hF⟩:=F w mg fa _ KX G.T.g hmg
 exact su KX G.T.g G.T.b G.T.builtins G.T.nolimit hg hobj hints (Nat.le_trans hlen hn2) hr hF hb (fun H hO hS=>He w H a ns hlen hO hS) fun H e s'=>Jm w H s₁ e s'
noncomputable def dy(s:Stmt):Arguments:=match s with
 | .FunctionDef _ a _ _ _ _ _ _ _ _=>a
 |_=>{ posonlyargs:=[],args:=[],vararg:=none,kwonlyargs:=[],kw_defaults:=[],kwarg:=none,defaults:=[] }
noncomputable def bO(s:Stmt):List Stmt:=match s with
 | .FunctionDef _ _ b _ _ _ _ _ _ _=>b
 |_=>[]
noncomputable def aK(s:Stmt):Scope:=match s with
 | .FunctionDef _ _ _ _ _ _ sc _ _ _=>sc
 |_=>{ kind:=.function,names:=[],isGenerator:=false,isCoroutine:=false }
noncomputable abbrev wy:rX:=fun _ _ _ _ _ _=>False
noncomputable abbrev E0:XK:=fun _ _ _=>False
def pk{X:Cx}:gE wy X E0:=fun _ _ _ _ _ _ _ h=>h.elim
structure G3 (K:Vo) (x qual:Str) (st:Stmt) (f:Addr) (fd:FuncData):Prop where
 ex:∃(oc:Value) (od:Option Addr) (kV doc pm:Value) (an:Option Addr) (cdv ct:Value) (osl:Array (Option Value)),
  fd=PySem.W.fnOf x qual (dy st) (bO st) (aK st) .none kV doc pm an cdv ct/\K.lookup f=some ⟨oc,od,.func fd,osl⟩/\PySem.W.codeIn K cdv qual=true
 kp:PySem.W.keepIn K (.ref f)=true
section
variable {P:Program} {w:World} {K:Vo} {mg:Vr} {base:Heap}
def G3.ok{x qual:Str}{st:Stmt}{f:Addr}{fd:FuncData}{N ps:Vs}{k:Nat}{sp:Sp}(F:G3 K x qual st f fd)(S:eZ N ps (aK st))(len:∀vs H Q E,sp vs H Q E->vs.length=ps.length)
  (hbody:∀(cdv:Value) (A:Around) (outer:List Env) (s:Shared) (H:Hp) (vs:List V) (Q:VK) (E:XK),Room k (A.deeper (envOfC qual (aK st) s.heap.objs.size f cdv))->sp vs H Q E->
   ∃t,Ge (nN wy P w K mg base N qual (aK st) f cdv A outer s H E).HZ (bO st) t/\t { nx:=fun _ H'=>Q .non H',rt:=Q } (fG N vs) H):iC P w K mg base wy (k+1) f fd ps sp:=by
 obtain⟨oc,od,kV,doc,pm,an,cdv,ct,osl,rfl,lk,hcd⟩:=F.ex
 refine zU lk hcd S len fun A outer s H vs Q E hr He=>?_
 obtain⟨t,h,q⟩:=hbody cdv A outer s H vs Q E hr He
 exact⟨t,h.HZ,q⟩
def G3.binds{x qual:Str}{st:Stmt}{f:Addr}{fd:FuncData}{ps:Vs}(F:G3 K x qual st f fd)
  (h:∀(kV doc pm:Value) (an:Option Addr) (cdv ct:Value) (us:Vv),us.length=ps.length->bindArgs (PySem.W.fnOf x qual (dy st) (bO st) (aK st) .none kV doc pm an cdv ct) ⟨us,[]⟩=pure (ps.zip us)):Binds K fd ps []:=by
 obtain⟨oc,od,kV,doc,pm,an,cdv,ct,osl,rfl,lk,hcd⟩:=F.ex
 exact .all (h kV doc pm an cdv ct)
def lA{x qual:Str}{st:Stmt}{f:Addr}{oc:Value}{od an:Option Addr}{osl:Array (Option Value)}{kV doc pm cdv ct:Value}(l:K.lookup f=some ⟨oc,od,.func (PySem.W.fnOf x qual (dy st) (bO st) (aK st) .none kV doc pm an cdv ct),osl⟩)
  (c:PySem.W.codeIn K cdv qual=true) (k:PySem.W.keepIn K (.ref f)=true):G3 K x qual st f (PySem.W.fnOf x qual (dy st) (bO st) (aK st) .none kV doc pm an cdv ct):=⟨⟨oc,od,kV,doc,pm,an,cdv,ct,osl,rfl,l,c⟩,k⟩
end
def fY{n:Nat}(h:n<=1000):n < sizeLine:=Nat.lt_of_le_of_lt h (by decide)
section
variable {X:Cx}
def qz:dW X (.builtin "len") (fun xs H Q=>∃a kvs,xs=[V.ref a]/\H a=some (.dK kvs)/\Q (.int kvs.length) H):=by
 intro pins s σ H xs us Q I r h
 obtain⟨a,kvs,rfl,ha,q⟩:=h
 obtain⟨u,rfl,ru⟩:=fu r
 cases ru
 exact z_ I (.inl ha) fun t s' I'=>⟨.int kvs.length,H,I',⟨t,rfl⟩,q⟩
end
section
variable {κ:Type} [DecidableEq κ]
end
end L2
set_option maxHeartbeats 4000000
namespace L2
open PySem PySem.Spec PyProof.Rows
def lB{prog:Program}{w:World}{A:Around}{R:Result->Shared->Prop}{s:Shared}{elt target iter:Expr}{ifs:List Expr}{scope:Scope}{pos:Pos}{it acc:Value}{env:Env}(I:Nat->Shared->Prop)
  (turn:∀n s,I n s->wpAny (model prog w) A (pyNext it) (fun r s₁=>match r with
   |none=>R (.ok .next) s₁
   |some v=>wpAny (model prog w) A (letOwnedTupleGo target it v) (fun _ s₁'=>wpAny (model prog w) A (assign target env v) (fun _ s₂=>
     wpAny (model prog w) A (forIn ifs true fun c r=>if r=true then do let ok <-isTrue c env (eval c env);pure (ForInStep.yield ok) else pure (ForInStep.yield r)) (fun ok s₃=>
      if ok=true then wpAny (model prog w) A (eval elt env) (fun x s₄=>
       wpAny (model prog w) A (call (.builtin "list.append") [acc,x]) (fun _ s₅=>∃m,m < n/\I m s₅) (fun _ _=>False) s₄) (fun _ _=>False) s₃
      else ∃m,m < n/\I m s₃) (fun _ _=>False) s₂) (fun _ _=>False) s₁') (fun _ _=>False) s₁) (fun _ _=>False) s)
  (n:Nat) (h:I n s) :
  codeAny (model prog w) A (.compLoop (.ListComp elt [⟨target,iter,ifs,0⟩] scope pos) 0 it acc env) R s:=by
 refine codeAny_loop rfl I (fun n s hI=>?_) n h
 show wpAny _ A ((compTurn (.ListComp elt [⟨target,iter,ifs,0⟩] scope pos) 0 it acc env).onRaise (fun x=>do noteFrame x env;theTreesLotGoes x)) _ _ s
 refine wpAny_noted ?_
 rw[compTurn_list]
 refine wpAny_bind (wpAny_standAt (wpAny_bind (wpAny_mono (turn n s hI) (fun r s₁ h₁=>?_) fun _ _ h'=>h'.elim)))
 cases r with
 |none=>exact wpAny_pure h₁
 |some v=>
  refine wpAny_bind (wpAny_mono h₁ (fun _ s₁' h₁'=>?_) fun _ _ h'=>h'.elim)
  refine wpAny_bind (wpAny_mono h₁' (fun _ s₂ h₂=>wpAny_bind (wpAny_mono h₂ (fun ok s₃ h₃=>?_) fun _ _ h'=>h'.elim)) fun _ _ h'=>h'.elim)
  cases ok with
  |false=>exact wpAny_pure ⟨rfl,h₃⟩
  |true=>
   exact wpAny_bind (wpAny_bind (wpAny_mono h₃ (fun x s₄ h₄=>wpAny_bind (wpAny_mono h₄ (fun _ s₅ h₅=>wpAny_pure (wpAny_pure ⟨rfl,h₅⟩)) fun _ _ h'=>h'.elim)) fun _ _ h'=>h'.elim))
structure Bk where
 C:Addr
 s:Shared
 H:Hp
 fp:List Addr
 pn:Va
noncomputable def cS(env:Env)(fs:Vs):List (Str×Addr):=fs.map fun x=>(x,(env.cells.lookup x).getD 0)
noncomputable abbrev Cx.EO(X:Cx)(N:Vs)(scope:Scope)(fs:Vs)(B:Bk):Cx:=
 { X with N:=N,s₀:=B.s,H₀:=B.H,env:=compEnvC scope (cS X.env fs) B.C X.env,outer:=X.stack,ex:=B.fp,fn:=fun _=>false,pn:=B.pn,xe:=fun _ _=>False }
noncomputable def cF(env:Env):List Str->Prop
 |[]=>True
 |x::r=>(∃c,env.cells.lookup x=some c)/\cF env r
theorem jg{env:Env}:∀{fs:Vs},cF env fs->∀{x:Str} {c:Addr},(cS env fs).lookup x=some c->env.cells.lookup x=some c
 |[],_,x,c,h=>by cases h
 |y::r,k,x,c,h=>by
  obtain⟨⟨d,hd⟩,k⟩:=k
  have h':List.lookup x ((y,(env.cells.lookup y).getD 0)::cS env r)=some c:=h
  rw[List.lookup_cons]at h'
  cases e:x == y with
  |true=>
   rw[e]at h'
   have e':x=y:=by simpa using e
   subst e'
   rw[hd]at h'
   rw[hd]
   exact h'
  |false=>
   rw[e]at h'
   exact jg k h'
noncomputable def lC(names:List (Str×NameKind))(cl:List (Str×Addr)):Bool:=names.all fun y=>(y.2 != .cell&&y.2 != .free) || (cl.lookup y.1).isSome
def sv{names:List (Str×NameKind)}{cl:List (Str×Addr)}{x:Str}{k:NameKind}(h:lC names cl=true)(e:names.lookup x=some k)(hk:k = .cell\/k = .free):∃c,cl.lookup x=some c:=by
 have hm:(x,k)∈names:=PySem.mem_of_lookup e
 have q:=List.all_eq_true.mp h _ hm
 have z:(cl.lookup x).isSome=true:=by
  rcases hk with rfl|rfl
  ·simpa using q
  ·simpa using q
 exact Option.isSome_iff_exists.mp z
noncomputable def Eb(env:Env)(scope:Scope)(cl:List (Str×Addr)):List Str->Prop
 |[]=>True
 |x::r=>((env.scope.names.lookup x=some .cell\/env.scope.names.lookup x=some .free)/\((relabel scope env).names.lookup x=some .cell\/(relabel scope env).names.lookup x=some .free)/\cl.lookup x=env.cells.lookup x)/\Eb env scope cl r
theorem Eb.mem{env:Env}{scope:Scope}{cl:List (Str×Addr)}:∀{l:Vs},Eb env scope cl l->∀x∈l,
  (env.scope.names.lookup x=some .cell\/env.scope.names.lookup x=some .free)/\((relabel scope env).names.lookup x=some .cell\/(relabel scope env).names.lookup x=some .free)/\cl.lookup x=env.cells.lookup x
 |[],_,x,h=>nomatch h
 |y::r,k,x,h=>by
  rcases List.mem_cons.mp h with rfl|h
  ·exact k.1
  ·exact Eb.mem k.2 x h
noncomputable def eJ(own:Nat)(fr:List Nat)(σ:St):St:=List.replicate own none++fr.map fun j=>(σ[j]?).getD none
noncomputable abbrev iF(us:Vv):Obj:={ cls:=.type "list",data:=.seq us.toArray us.length }
def qA(us:Vv)(u:Value):({ cls:=.type "list",data:=.seq (us.toArray.push u) (us.length+1) }:Obj)=iF (us++[u]):=by
 show({ cls:=.type "list",data:=.seq (us.toArray.push u) (us.length+1) }:Obj)={ cls:=.type "list",data:=.seq (us++[u]).toArray (us++[u]).length }
 rw[List.length_append,List.length_singleton,List.push_toArray]
section
variable {X:Cx} {pins:Va} {σ:St} {H:Hp} {s:Shared}
def Inv.Ic{D:Addr}{us:Vv}{n:Nat}{ys:List V}(I:Inv X pins σ H s)(f:fB X pins H D)(e:s.heap.get? D=some { cls:=.type "list",data:=.seq us.toArray n })(r:Vals ys us)(hz:ys.length<=sizeLine) :
  Inv X pins σ (upd H D (.lst ys)) s:=by
 obtain⟨f0,f1,f2,f3,f4,f5⟩:=f
 have nD:∀b u,H b=some u->b≠D:=fun b u q=>bd q f0
 have hok:ES X.prog X.w (upd H D (.lst ys)) s.heap:=fun b u q=>by
  by_cases hb:b=D
  ·subst hb
   rw[ay]at q
   cases q
   exact⟨hz,us,n,r,e⟩
  ·rw[az hb]at q
   exact(I.hok b u q).stay (fun _ _ _ z=>z) (fun c z=>by rw[az (nD c _ z)];exact z) fun c xs z=>by rw[az (nD c _ z)];exact z
 exact I.step (H':=upd H D (.lst ys)) (h':=s.heap) (g':=s.gens) (t':=s.toks) (d':=s.drawn) (ch:=[D])
  (fun b hb=>by
   have z:b=D:=by simpa using hb
   subst z
   exact⟨f3,f1,f4,f5⟩)
  (fun _ _ _ _ _ q _=>q) (fun _ o _ _ _ q _=>⟨o.slots,q⟩)
  (fun b o hb _ n=>by rw[az (fun z=>hb (by simp[z]))];exact n)
  (fun _ o _ q=>⟨o,q⟩) (fun b xs q=>by rw[az (nD b _ q)];exact q) (fun b o u q=>by rw[az (nD b _ q)];exact q)
  (fun b ps q=>⟨#[],by rw[az (nD b _ q),q];simp⟩) (fun _ q=>q) hok I.bare
def ya{N:Vs}{scope:Scope}{fs:Vs}{C:Addr}{fp:List Addr}(I:Inv X pins σ H s)(hkind:scope.kind = .function)(hC:s.heap.objs.size<=C)(hcl:cF X.env fs)
  (hhas:lC (relabel scope X.env).names (cS X.env fs)=true) (hf:∀b∈fp,fB X pins H b) (hlt:∀b∈fp,b < s.heap.objs.size):(X.EO N scope fs ⟨C,s,H,fp,X.pn++pins⟩).Ok where
 mod:=I.ok.mod
 kind:=hkind
 glob:=I.ok.glob
 blt:=I.ok.blt
 above:=hC
 inj:=fun x y c h1 h2=>I.ok.inj x y c (jg hcl h1) (jg hcl h2)
 has:=fun x hx=>by
  rcases hx with e|e
  ·exact sv hhas e (.inl rfl)
  ·exact sv hhas e (.inr rfl)
 HL:=fun x c h=>by cases h
 hd:=I.ok.hd
 frames:=I.ok.frames
 stk:=.inl rfl
 Jd:=fun b hb=>⟨Nat.ne_of_lt (Nat.lt_of_lt_of_le (hlt b hb) hC),fun x c e=>(hf b hb).2.2.2.2.1 x c (jg hcl e)⟩
 bs:=I.bs
 GX:=Nat.le_trans I.ok.GX I.sz
 GA:=fun b o e hb=>(hf b hb).2.2.2.1.elim (fun z=>I.ok.GA b o e z) fun z=>absurd (Nat.lt_of_lt_of_le (Heap.lt_size e) (Nat.le_trans I.ok.GX z)) (Nat.lt_irrefl _)
 GM:=fun b hb z=>(List.mem_cons.mp (I.Fe b z)).elim (hf b hb).2.1 (hf b hb).2.2.1
 Fd:=I.stack
 Hd:=I.Gs
def vn{N:Vs}{scope:Scope}{fs:Vs}{C D:Addr}{fp:List Addr}{own:Nat}{fr:List Nat}{h₁:Heap}{m0:Vr}{t':Nat}(I:Inv X pins σ H s)
  (ok:(X.EO N scope fs ⟨C,s,H,fp,X.pn++pins⟩).Ok) (hC:s.heap.objs.size<=C) (hD:s.heap.objs.size<=D) (hDC:D≠C) (hcl:cF X.env fs)
  (old:∀b o,s.heap.get? b=some o->h₁.get? b=some o) (hns:h₁.Ns C m0) (hacc:h₁.get? D=some (iF [])) (hlen:N.length=own+fr.length) (hN:(N.drop own).map some=fr.map fun j=>X.N[j]?)
  (hF:Eb X.env scope (cS X.env fs) (N.drop own)) :
  Inv (X.EO N scope fs ⟨C,s,H,fp,X.pn++pins⟩) [(D,iF [])] (eJ own fr σ) H { s with heap:=h₁,toks:=t' }:=by
 refine⟨ok,rfl,I.bare,Un.kept old,⟨m0,hns,fun i x v e1 e2 e3=>?_⟩,fun x c e=>?_,I.hok.fresh hC,fun x c e=>I.ED x c (jg hcl e),fun p hp=>?_,I.hok.kept old,?_⟩
 ·have e1:N[i]?=some x:=e1
  by_cases hi:i < own
  ·unfold eJ at e2
   rw[List.getElem?_append_left (by rw[List.length_replicate];exact hi),List.getElem?_replicate,if_pos hi]at e2
   cases e2
  ·obtain⟨k,rfl⟩:∃k,i=own+k:=⟨i - own,by omega⟩
   have e1':(N.drop own)[k]?=some x:=by rw[List.getElem?_drop];exact e1
   have q:=congrArg (fun l=>l[k]?) hN
   simp only[List.getElem?_map,e1',Option.map_some]at q
   unfold eJ at e2
   rw[List.getElem?_append_right (by rw[List.length_replicate];omega),List.length_replicate,Nat.add_sub_cancel_left,List.getElem?_map]at e2
   cases hj:fr[k]? with
   |none=>rw[hj]at e2;cases e2
   |some j=>
    rw[hj]at e2 q
    simp only[Option.map_some,Option.some.injEq]at e2 q
    have hσ:σ[j]?=some (some v):=by
     cases z:σ[j]? with
     |none=>rw[z]at e2;cases e2
     |some w=>rw[z]at e2;simp only[Option.getD_some]at e2;rw[e2]
    obtain⟨k1,k2,k3⟩:=hF.mem x (List.mem_of_getElem? e1')
    obtain⟨m,hn,hl⟩:=I.loc
    have vis:A8 X.env.scope x:=by
     rcases k1 with z|z
     ·exact .inr (.inl z)
     ·exact .inr (.inr z)
    obtain⟨u,ru,l⟩:=hl j x v q.symm hσ vis
    rcases l with⟨hk,_⟩|⟨_,c,hc,o,ho,hd⟩
    ·have hk':X.env.scope.names.lookup x=some .local:=hk
     rcases k1 with z|z
     ·rw[z]at hk';cases hk'
     ·rw[z]at hk';cases hk'
    ·exact⟨u,ru,.inr ⟨k2,c,k3.trans hc,o,old _ _ ho,hd⟩⟩
 ·obtain⟨v,o,ho,hd⟩:=I.cell x c (jg hcl e)
  exact⟨v,o,old _ _ ho,hd⟩
 ·rcases List.mem_append.mp hp with z|z
  ·obtain⟨e,n,ne,nf,d⟩:=I.pin p z
   exact⟨old _ _ e,n,Nat.ne_of_lt (Nat.lt_of_lt_of_le (Heap.lt_size e) hC),fun q=>(List.mem_cons.mp (I.Fe _ q)).elim ne nf,d⟩
  ·have z':p=(D,iF []):=by simpa using z
   subst z'
   exact⟨hacc,I.hok.fresh hD,hDC,fun q=>(List.mem_cons.mp (I.Fe _ q)).elim (fun e=>absurd e (Nat.ne_of_gt (Nat.lt_of_lt_of_le I.lt hD))) (I.HV hD),fun v z=>by cases z⟩
 ·show(eJ own fr σ).length=N.length
  unfold eJ
  rw[List.length_append,List.length_replicate,List.length_map,hlen]
end
def PF(X:Cx)(ifs:List Expr)(t:TT):Prop:=
 ∀(pins:Va) (s:Shared) (σ:St) (H:Hp) (Q:Bool->Hp->Prop),Inv X pins σ H s->t σ H Q->
  wpAny (model X.prog X.w) X.A (forIn ifs true fun c r=>if r=true then do let ok <-isTrue c X.env (eval c X.env);pure (ForInStep.yield ok) else pure (ForInStep.yield r)) (TP X pins σ Q) X.xe s
def BP:TT:=fun _ H Q=>Q true H
def yb{X:Cx}:PF X [] BP:=fun _ _ _ H _ I h=>wpAny_tests_nil ⟨H,I,h⟩
def yc{X:Cx}{c:Expr}{t:TT}(h:PT X c t):PF X [c] t:=fun pins s σ H Q I q=>wpAny_tests_one (h pins s σ H Q I q)
def wz(J:It)(g:TG)(tc:TT)(te:TE)(own:Nat)(σ':St)(fin:List V->Hp->Prop)(H1:Hp):Prop:=
 ∃W:Nat->Nat->List V->Hp->Prop,(∃m,W 0 m [] H1)/\∀i m ys H,W i m ys H->
  (J.stop i H/\ys.length<=sizeLine/\fin ys H) \/
  (J.go i H/\ys.length<=sizeLine/\∃Nx:List V->Hp->Prop,(∀ys' H',Nx ys' H'->∃m',m' < m/\W (i+1) m' ys' H')/\∀x H',J.IG i H x H'->g x σ' H' fun σ2 H2=>σ2.drop own=σ'.drop own/\tc σ2 H2 fun b H3=>
   if b=true then te σ2 H3 fun y H4=>Nx (ys++[y]) H4 else Nx ys H3)
section
variable {X:Cx} {pins:Va} {σ:St} {H:Hp} {s:Shared}
variable {elt iter tg:Expr} {ifs:List Expr} {scope:Scope} {pos:Pos} {N:Vs} {own:Nat} {fr:List Nat} {fs:Vs} {g:TG} {tc:TT} {te:TE}
def jL{J:It}{fp:List Addr}{it:Addr}{tn:Nat->Heap->Prop}{fin:List V->Hp->Prop}{E:Vq}{RR:Value->Addr->Result->Shared->Prop}
  (hc:X.calm=true) (hcell:∀y∈scope.names,y.2 ≠ .cell) (hkind:scope.kind = .function) (hcl:cF X.env fs) (hhas:lC (relabel scope X.env).names (cS X.env fs)=true)
  (hlen:N.length=own+fr.length) (hN:(N.drop own).map some=fr.map fun j=>X.N[j]?) (hF:Eb X.env scope (cS X.env fs) (N.drop own))
  (hg:∀B,PG (X.EO N scope fs B) tg g) (hf:∀B,PF (X.EO N scope fs B) ifs tc) (he:∀B,PE (X.EO N scope fs B) elt te)
  (I:Inv X pins σ H s) (T:lh X.prog X.w X.K tg J fp it tn) (st:tn 0 s.heap) (f:∀b∈fp,fB X pins H b) (W:wz J g tc te own (eJ own fr σ) fin H)
  (hRR:∀D C s' ys H' m',Inv X pins σ (upd H' D (.lst ys)) s'->H' D=none->s'.heap.Ns C m'->fB X pins (upd H' D (.lst ys)) C->fin ys H'->RR (.ref D) C (.ok .next) s') :
  wpAny (model X.prog X.w) X.A (newList []) (fun acc s₃=>wpAny (model X.prog X.w) X.A (newFunctionEnv scope X.env.globals (cS X.env fs) [] X.env.qual none .none (some X.env)) (fun cenv s₄=>
   codeAny (model X.prog X.w) X.A (.compStart (.ListComp elt [⟨tg,iter,ifs,0⟩] scope pos) 0 (.ref it) acc { cenv with scope:=relabel scope X.env }) (RR acc cenv.locals) s₄) E s₃) E s:=by
 refine wpAny_newObj_type (wpAny_newFunctionEnv hcell (by intro y hy;simp at hy) (fun h₁ Hx G4=>?_) hkind)
 dsimp only at Hx G4 ⊢
 generalize Jp:s.heap.push { cls:=.type "list",dict:=none,data:=.seq ([]:Vv).toArray }=H2 at Hx G4 ⊢
 have hC:H2.objs.size=s.heap.objs.size+1:=by rw[<-Jp,Heap.size_push]
 have Hy:s.heap.objs.size<=H2.objs.size:=by rw[hC];exact Nat.le_succ _
 have hDC:s.heap.objs.size≠H2.objs.size:=by rw[hC];exact Nat.ne_of_lt (Nat.lt_succ_self _)
 have below:∀b,b < s.heap.objs.size->b≠H2.objs.size/\b≠s.heap.objs.size:=fun b hb=>⟨by rw[hC];exact Nat.ne_of_lt (Nat.lt_succ_of_lt hb),Nat.ne_of_lt hb⟩
 have old:∀b o,s.heap.get? b=some o->h₁.get? b=some o:=fun b o e=>G4.extBut b o (below b (Heap.lt_size e)).1 (Heap.get?_push_of_some _ (Jp▸Heap.get?_push_of_some _ e))
 have hacc:h₁.get? s.heap.objs.size=some (iF []):=G4.extBut _ _ hDC (Heap.get?_push_of_some _ (Jp▸Heap.get?_push_size _ rfl))
 have hlt:∀b∈fp,b < s.heap.objs.size:=fun b hb=>by
  obtain⟨o,e,_⟩:=T.obj 0 _ st b hb
  exact Heap.lt_size e
 obtain⟨Wv,⟨m0,w0⟩,turn⟩:=W
 have ok:=ya (N:=N) I hkind Hy hcl hhas f hlt
 have loop:∀s₃:Shared,s₃={ s with heap:=h₁,toks:=s.toks+([]:List (Str×Value)).length }->
   codeAny (model X.prog X.w) X.A (.compLoop (.ListComp elt [⟨tg,iter,ifs,0⟩] scope pos) 0 (.ref it) (.ref s.heap.objs.size) (compEnvC scope (cS X.env fs) H2.objs.size X.env))
    (RR (.ref s.heap.objs.size) H2.objs.size) s₃:=by
  rintro s₃ rfl
  have I0:=vn (own:=own) (fr:=fr) (t':=s.toks+([]:List (Str×Value)).length) I ok Hy (Nat.le_refl _) hDC hcl old Hx hacc hlen hN hF
  have KK:tn 0 h₁:=T.keep 0 _ _ st fun b _ o e=>old b o e
  have stat:∀{us:Vv} {H':Hp},(∀b∈fp,H' b=none)->∀b∈fp,fB (X.EO N scope fs ⟨H2.objs.size,s,H,fp,X.pn++pins⟩) [(s.heap.objs.size,iF us)] H' b:=fun{us H'} hn b hb=>by
   obtain⟨f0,f1,f2,f3,f4,f5⟩:=f b hb
   refine⟨hn b hb,(below b (hlt b hb)).1,fun z=>(List.mem_cons.mp (I.Fe b z)).elim f1 f2,.inl hb,fun x c e=>f4 x c (jg hcl e),fun p hp=>?_⟩
   rcases List.mem_append.mp hp with z|z
   ·exact f5 p z
   ·have z':p=(s.heap.objs.size,iF us):=by simpa using z
    subst z'
    exact Ne.symm (below b (hlt b hb)).2
  have Jq:∀p∈X.pn++pins,p.1 < s.heap.objs.size:=fun p hp=>Heap.lt_size (I.pin p hp).1
  refine lB (fun k s'=>∃i ys us H',Inv (X.EO N scope fs ⟨H2.objs.size,s,H,fp,X.pn++pins⟩) [(s.heap.objs.size,iF us)] (eJ own fr σ) H' s'/\Vals ys us/\tn i s'.heap/\(∀b∈fp,H' b=none)/\Wv i k ys H') ?_ m0
   ⟨0,[],[],H,I0,.nil,KK,fun b hb=>(f b hb).1,w0⟩
  rintro n s' ⟨i,ys,us,H',I',rv,st',J7,w'⟩
  rcases turn i n ys H' w' with⟨stop,hz,Jr⟩|⟨go,hz,Nx,J8,step⟩
  ·refine bA (T.done (X.EO N scope fs ⟨H2.objs.size,s,H,fp,X.pn++pins⟩) rfl rfl rfl hc i _ s' _ H' (fun _ _=>False) I' (stat J7) st' stop) (fun r s1 ⟨hr,I1⟩=>?_)
   subst hr
   show RR _ _ (.ok .next) s1
   have IX:Inv X pins σ H' s1:=I.HY I1.os I1.base I1.hok I1.bare fun b hb=>by
    obtain⟨f0,f1,f2,f3,f4,f5⟩:=f b hb
    exact⟨f3,f1,f4,f5⟩
   obtain⟨eD,nD,_⟩:=I1.pin (s.heap.objs.size,iF us) (by simp)
   have IT:=IX.Ic (I.Fr (H':=H') (Nat.le_refl _) nD) eD rv hz
   obtain⟨m',hn',_⟩:=I1.loc
   exact hRR _ _ s1 ys H' m' IT nD hn' (I.Fr Hy (by rw[az (Ne.symm hDC)];exact I1.free)) Jr
  ·refine bA (T.item (X.EO N scope fs ⟨H2.objs.size,s,H,fp,X.pn++pins⟩) rfl rfl rfl hc i _ s' _ H' (fun _ _=>False) I' (stat J7) st' go) (fun r s1 ⟨u,hr,h1⟩=>?_)
   subst hr
   show wpAny _ _ (letOwnedTupleGo tg (.ref it) u) _ _ s1
   refine bA h1 (fun _ s5 ⟨x,H5,I5,r5,y5,G1,Jh⟩=>?_)
   have Ji:=I5.pinned (stat Jh) (T.obj _ _ G1)
   refine bA (hg _ _ s5 _ H5 x u _ Ji r5 (step x H5 y5)) (fun _ s6 ⟨σ6,H6,I6,KL,q6⟩=>?_)
   refine bA (hf _ _ s6 σ6 H6 _ I6 q6) (fun b s7 ⟨H7,I7,q7⟩=>?_)
   -- Hz the turn's own names
   have forget:∀{H8:Hp} {s8:Shared} {pl:Va},Inv (X.EO N scope fs ⟨H2.objs.size,s,H,fp,X.pn++pins⟩) pl σ6 H8 s8->Inv (X.EO N scope fs ⟨H2.objs.size,s,H,fp,X.pn++pins⟩) pl (eJ own fr σ) H8 s8:=fun{H8 s8 pl} I8=>by
    refine I8.weak (I0.len.trans I8.len.symm) fun j v e=>?_
    by_cases hj:j < own
    ·unfold eJ at e
     rw[List.getElem?_append_left (by rw[List.length_replicate];exact hj),List.getElem?_replicate,if_pos hj]at e
     cases e
    ·obtain⟨k,rfl⟩:∃k,j=own+k:=⟨j - own,by omega⟩
     rw[<-List.getElem?_drop]at e ⊢
     rw[KL]
     exact e
   have II:∀{H8:Hp} {s8:Shared},Inv (X.EO N scope fs ⟨H2.objs.size,s,H,fp,X.pn++pins⟩) ([(s.heap.objs.size,iF us)]++jE fp s5.heap) σ6 H8 s8->∀b∈fp,∀o,s5.heap.get? b=some o->s8.heap.get? b=some o/\H8 b=none:=fun I8 b hb o e=>
    let z:=I8.pin (b,o) (List.mem_append_right _ (List.mem_append_right _ (gD hb e)))
    ⟨z.1,z.2.1⟩
   cases b with
   |false=>
    show ∃m,m < n/\_
    obtain⟨m',hm,w7⟩:=J8 _ _ (show Nx ys H7 from q7)
    refine⟨m',hm,i+1,ys,us,H7,(forget I7).E4,rv,T.keep _ _ _ G1 fun b hb o e=>(II I7 b hb o e).1,fun b hb=>?_,w7⟩
    obtain⟨o,e,_⟩:=T.obj _ _ G1 b hb
    exact(II I7 b hb o e).2
   |true=>
    show wpAny _ _ (eval elt _) _ _ s7
    have KM:te σ6 H7 fun y H4=>Nx (ys++[y]) H4:=q7
    refine bA (he _ _ s7 σ6 H7 _ I7 KM) (fun v s8 ⟨y,H8,I8,r8,n8⟩=>?_)
    obtain⟨m',hm,w8⟩:=J8 _ _ n8
    obtain⟨eD,nD,J9,KN,_⟩:=I8.pin (s.heap.objs.size,iF us) (List.mem_append_right _ (List.mem_append_left _ (by simp)))
    refine append_at (hsz:=by show us.toArray.size<=sizeLine;rw[List.size_toArray,<-rv.length];exact hz) eD fun h9 J_ KO=>?_
    have J0:Inv (X.EO N scope fs ⟨H2.objs.size,s,H,fp,X.pn++pins⟩) [] σ6 H8 s8:=I8.Fs fun p hp=>nomatch hp
    have J1:Inv (X.EO N scope fs ⟨H2.objs.size,s,H,fp,X.pn++pins⟩) [] σ6 H8 { s8 with heap:=h9 }:=J0.turned (t':=s8.toks) (it:=s.heap.objs.size) (fun b o hb e=>(J_.2 b hb).trans e) nD J9 (.inr (Nat.le_refl _))
     (fun x c e z=>by
      obtain⟨v',q⟩:=I.cell x c (jg hcl e)
      exact absurd (Nat.lt_of_lt_of_le q.lt (by rw[z];exact Nat.le_refl _)) (Nat.lt_irrefl _))
     (fun p hp=>by
      rw[List.append_nil]at hp
      exact Nat.ne_of_lt (Jq p hp))
    have J2:Inv (X.EO N scope fs ⟨H2.objs.size,s,H,fp,X.pn++pins⟩) [(s.heap.objs.size,iF (us++[v]))] σ6 H8 { s8 with heap:=h9 }:=J1.Fs fun p hp=>by
     have z':p=(s.heap.objs.size,iF (us++[v])):=by simpa using hp
     subst z'
     exact⟨KO.trans (congrArg some (qA us v)),nD,J9,KN,fun v z=>by cases z⟩
    refine⟨m',hm,i+1,ys++[y],us++[v],H8,forget J2,Vals.append rv (.cons r8 .nil),T.keep _ _ _ G1 fun b hb o e=>(J_.2 b (below b (hlt b hb)).2).trans (II I8 b hb o e).1,fun b hb=>?_,w8⟩
    obtain⟨o,e,_⟩:=T.obj _ _ G1 b hb
    exact(II I8 b hb o e).2
 exact codeAny_compStart_list (loop _ rfl) (T.self _ 0 _ _ _ (T.keep 0 _ _ st fun b _ o e=>old b o e) (loop _ rfl))
def sx(wi:TI)(g:TG)(tc:TT)(te:TE)(own:Nat)(fr:List Nat):TE:=fun σ H Q=>wi σ H fun J H1=>
 wz J g tc te own (eJ own fr σ) (fun ys H2=>∀D,H2 D=none->Q (.ref D) (upd H2 D (.lst ys))) H1
def vo(fs:Vs)(own:Nat)(fr:List Nat)(N:Vs){wi:TI}(hc:X.calm=true)(hclos:closureFor scope X.env=pure (cS X.env fs))(hcell:∀y∈scope.names,y.2 ≠ .cell)(hkind:scope.kind = .function)
  (hnames:∀x∈scope.names,x.2 = .local->scope.names.lookup x.1=some .local) (hcl:cF X.env fs) (hhas:lC (relabel scope X.env).names (cS X.env fs)=true)
  (hlen:N.length=own+fr.length) (hN:(N.drop own).map some=fr.map fun j=>X.N[j]?) (hF:Eb X.env scope (cS X.env fs) (N.drop own))
  (hi:PI X tg iter wi) (hg:∀B,PG (X.EO N scope fs B) tg g) (hf:∀B,PF (X.EO N scope fs B) ifs tc) (he:∀B,PE (X.EO N scope fs B) elt te)
  (hs:∀x,foldedSetIterable iter X.env x=pure x:=by intro _;rfl):PE X (.ListComp elt [⟨tg,iter,ifs,0⟩] scope pos) (sx wi g tc te own fr):=by
 intro pins s σ H Q I h
 rw[eval_ListComp]
 refine wpAny_comprehension_free (use:=none) (g:=⟨tg,iter,ifs,0⟩) (gs:=[]) rfl hs hclos hkind hnames (bA (hi pins s σ H _ I h) fun v s1 h1=>bA h1 fun itv s2 h2=>?_)
 obtain⟨it,fp,tn,J,H2,e,I2,T,st2,f2,W⟩:=h2
 subst e
 refine jL (RR:=fun acc C=>compPost (model X.prog X.w) X.A X.xe none (EP X pins σ Q) acc C) hc hcell hkind hcl hhas hlen hN hF hg hf he I2 T st2 f2 W ?_
 intro D C s' ys H' m' I' nD hn fC fin
 exact⟨m',hn,fun h' hs'=>⟨.ref D,_,I'.turned (t':=s'.toks) (fun b o hb e=>(hs'.2 b hb).trans e) fC.1 fC.2.1 fC.2.2.2.1 fC.2.2.2.2.1 fC.2.2.2.2.2,rfl,fin D nD⟩⟩
def vp(fs:Vs)(own:Nat)(fr:List Nat)(N:Vs){wi:TI}{i:Nat}{y:Str}{py spos:Pos}(hX:X.N.Nodup)(hix:X.N[i]?=some y)(hy:X.env.scope.names.lookup y=some .local)
  (hsw:swapsWith (.ListComp elt [⟨tg,iter,ifs,0⟩] scope pos) (some (.Name y py)) spos.line X.env=pure true)
  (hc:X.calm=true) (hclos:closureFor scope X.env=pure (cS X.env fs)) (hcell:∀y∈scope.names,y.2 ≠ .cell) (hkind:scope.kind = .function)
  (hnames:∀x∈scope.names,x.2 = .local->scope.names.lookup x.1=some .local) (hcl:cF X.env fs) (hhas:lC (relabel scope X.env).names (cS X.env fs)=true)
  (hlen:N.length=own+fr.length) (hN:(N.drop own).map some=fr.map fun j=>X.N[j]?) (hF:Eb X.env scope (cS X.env fs) (N.drop own))
  (hi:PI X tg iter wi) (hg:∀B,PG (X.EO N scope fs B) tg g) (hf:∀B,PF (X.EO N scope fs B) ifs tc) (he:∀B,PE (X.EO N scope fs B) elt te)
  (hs:∀x,foldedSetIterable iter X.env x=pure x:=by intro _;rfl):PS X (.Assign [.Name y py] (.ListComp elt [⟨tg,iter,ifs,0⟩] scope pos) spos) (uT (sx wi g tc te own fr) (my i)):=by
 intro pins s σ H D I h
 rw[exec_Assign_Name_used _ _ _ _ hsw]
 refine wpAny_bind (wpAny_standAt (wpAny_bind ?_))
 show wpAny _ X.A (do let _ <-comprehension (.ListComp elt [⟨tg,iter,ifs,0⟩] scope pos) scope X.env _ (newList []) false (eval iter X.env) (some (assign (.Name y py) X.env))) _ _ s
 refine wpAny_bind (wpAny_mono (wpAny_comprehension_free (use:=some (assign (.Name y py) X.env)) (Q:=fun _ s'=>SP X pins D .next s') (g:=⟨tg,iter,ifs,0⟩) (gs:=[]) rfl hs hclos hkind hnames
  (bA (hi pins s σ H _ I h) fun v s1 h1=>bA h1 fun itv s2 h2=>?_)) (fun _ s' hq=>wpAny_pure (wpAny_pure hq)) fun _ _ e=>e)
 obtain⟨it,fp,tn,J,H2,e,I2,T,st2,f2,W⟩:=h2
 subst e
 refine jL (RR:=fun acc C=>compPost (model X.prog X.w) X.A X.xe (some (assign (.Name y py) X.env)) (fun _ s'=>SP X pins D .next s') acc C) hc hcell hkind hcl hhas hlen hN hF hg hf he I2 T st2 f2 W ?_
 intro Da C s' ys H' m' I' nD hn fC fin
 show wpAny _ X.A (assign (.Name y py) X.env (.ref Da)) _ _ s'
 refine wpAny_assign_Name (kC (v:=.ref Da) I' hX hix (.inl hy) rfl (fun s2 I3 ⟨a,sb,ha⟩=>?_) (.inr hy))
 have ca:C≠a:=by
  rcases ha with z|z
  ·rw[z];exact fC.2.1
  ·exact Ne.symm (fC.2.2.2.2.1 _ _ z)
 exact⟨m',hn.sameBut sb ca,fun h' hs'=>⟨_,_,I3.turned (t':=s2.toks) (fun b o hb e=>(hs'.2 b hb).trans e) fC.1 fC.2.1 fC.2.2.2.1 fC.2.2.2.2.1 fC.2.2.2.2.2,fin Da nD⟩⟩
end
end L2
namespace PySem
open Sem (wp)
namespace F
def qB:typeLookup (.type "list_reverseiterator") "__len__" = pure none:=by rw[typeLookup_type,builtinLookup_eq_fast];kernel_rfl
def sy:typeLookup (.type "list_reverseiterator") "__length_hint__" = pure (some (.builtin "list_reverseiterator.__length_hint__")):=by rw[typeLookup_type,builtinLookup_eq_fast];kernel_rfl
end F
section
variable {prog:Program} {w:World} {A:Around} {s:Shared} {R:Result->Shared->Prop}
variable {I:Addr} {fp wr:List Addr} {G:Array GenState->Array GenState->Prop} {n:Nat} {P:Nat->Value->Prop} {St:Nat->Shared->Prop}
def nU(W:WalksS prog w A.in1 I fp wr G n P St)(hT:∀i s,St i s->s.TypeIs (.ref I) "list_reverseiterator")(S:Addr)(res:Value)(c₀:Nat)(hst:St 0 s)(hSf:S ∉ fp)(hI:I∈fp)
  (hS:s.heap.get? S=some { cls:=.type "list",data:=.seq #[] c₀ })
  (hR:∀s' acc' c',Moved (S::wr) G s s'->s'.heap.get? S=some { cls:=.type "list",dict:=none,data:=.seq acc' c',slots:=#[] }->ItemsOf P acc' n->R (.ok (.ret res)) s') (hn:n<=sizeLine) :
  wpAny (model prog w) A.in1 (Builtin.List.listExtendWith (.ref S) (.ref I) res)
   (fun fin s'=>match fin with | .done f=>R (.ok f) s' | .again c'=>c'.quiet=true/\codeAny (model prog w) A c' R s') (fun e s'=>R (.error e) s') s:=by
 have hSI:S≠I:=fun e=>hSf (e▸hI)
 have h1:Builtin.List.listSameRef (.ref S) (.ref I)=false:=by simp[Builtin.List.listSameRef,hSI]
 unfold Builtin.List.listExtendWith
 refine wpAny_bind (wpAny_typeOf (hT 0 _ hst) ?_)
 rw[if_neg (by rw[h1];decide)]
 refine wpAny_bind (W.self 0 _ _ _ hst ?_)
 refine wpAny_bind (wpAny_holding ?_)
 unfold Builtin.List.listLengthHint
 refine wpAny_bind (wpAny_specialOf (hT 0 _ hst) F.qB ?_)
 show wpAny _ A.in1 (specialOf (Value.ref I) (Str.ofString "__length_hint__") >>= _) _ _ _
 refine wpAny_bind (wpAny_specialOf (hT 0 _ hst) F.sy ?_)
 (generalize hid:("list_reverseiterator.__length_hint__":String)=KP;wp_delta;rw[show splitId KP=some ("list_reverseiterator","__length_hint__")from by subst hid;decide +kernel];subst hid)
 refine wpAny_bind (wpAny_isInstance (b:=true) (hT 0 _ hst) (by rw[isSubtype_type];kernel_rfl) ?_)
 refine wpAny_pure ?_
 rw[if_neg (by decide)]
 exact wpAny_pure ⟨plainId_quiet F.plain_extend_loop _,codeAny_extend_loopS W hn _ hSf _ n 0 _ _ _ rfl (Nat.zero_le _) hst hS (ItemsOf.nil P) fun s' acc' c' hm hS' hacc=>hR s' acc' c' hm hS' hacc⟩
def km(W:WalksS prog w A.in1 I fp wr G n P St)(hT:∀i s,St i s->s.TypeIs (.ref I) "list_reverseiterator")(S:Addr)(hst:St 0 s)(hSf:S ∉ fp)(hI:I∈fp)
  (hS:s.heap.get? S=some { cls:=.type "list",data:=.seq #[] })
  (hR:∀s' acc' c',Moved (S::wr) G s s'->s'.heap.get? S=some { cls:=.type "list",dict:=none,data:=.seq acc' c',slots:=#[] }->ItemsOf P acc' n->R (.ok (.ret .none)) s') (hn:n<=sizeLine) :
  wpAny (model prog w) A.in1 (Builtin.«list.__init__» ⟨[.ref S,.ref I],[]⟩)
   (fun fin s'=>match fin with | .done f=>R (.ok f) s' | .again c'=>c'.quiet=true/\codeAny (model prog w) A c' R s') (fun e s'=>R (.error e) s') s:=by
 show wpAny _ A.in1 (do let old <-Builtin.List.listItems (.ref S);Builtin.List.listUpdate (.ref S) (fun _=>#[]);letGo old.toList.reverse;Builtin.List.listExtendWith (.ref S) (.ref I) .none) _ _ s
 refine wpAny_bind ?_
 unfold Builtin.List.listItems
 refine wpAny_bind (wpAny_seqItems hS rfl (wpAny_pure ?_))
 show wpAny _ A.in1 (updateSeq S (fun _=>#[]) >>= fun _=>letGo (#[]:Vw).toList.reverse >>= fun _=>Builtin.List.listExtendWith (.ref S) (.ref I) .none) _ _ s
 refine wpAny_bind (wpAny_updateSeq hS rfl ?_)
 have KQ:=Heap.get?_update_self (Obj.mapSeq (fun _=>(#[]:Vw))) hS rfl
 have Ka:∀b o,b≠S->s.heap.get? b=some o->(s.heap.update S (Obj.mapSeq (fun _=>(#[]:Vw)))).get? b=some o:=
  fun b o hb e=>(Heap.get?_update_other _ _ (Ne.symm hb)).trans e
 refine wpAny_bind (wpAny_letGo ?_)
 refine nU (hn:=hn) W hT S .none _ (W.frame 0 s _ s.toks hst (Nat.le_refl _) fun b hb o e=>Ka b o (fun h=>hSf (h▸hb)) e) hSf hI KQ fun s' acc' c' hm hS' hacc=>?_
 exact hR s' acc' c' (Moved.trans W.gtrans ((Moved.refl W.grefl).then_heap (Nat.le_refl _) fun b o hb e=>Ka b o (fun h=>hb (h▸List.mem_cons_self)) e) hm) hS' hacc
end
section
variable {prog:Program} {w:World} {A:Around} {E:Vq} {s:Shared}
def kn{I l:Addr}{items:Vw}{Q:Vq}(hh:A.handled=none)(hl:s.heap.IsList l items)(hit:s.heap.IsRevIter I l ((items.size:Int) - 1))(hne:l≠I)(hn:items.size<=sizeLine)
  (hQ:∀h' tk acc' c',(∀b o,b≠I->s.heap.get? b=some o->h'.get? b=some o)->h'.get? s.heap.objs.size=some { cls:=.type "list",dict:=none,data:=.seq acc' c',slots:=#[] }->
   acc'.toList=items.toList.reverse->Q (.ref s.heap.objs.size) { s with heap:=h',toks:=tk }) :
  wpAny (model prog w) A (call (.type "list") [.ref I]) Q E s:=by
 have W:=(Walks.listRev (prog:=prog) (w:=w) (A:=A.in1.in1) hh I l hne items).toS
 have Js:I < s.heap.objs.size:=by obtain⟨o,ho,_⟩:=hit;exact Heap.lt_size ho
 have Jt:l < s.heap.objs.size:=by obtain⟨o,ho,_⟩:=hl;exact Heap.lt_size ho
 have hfp:∀b∈[I,l],b < s.heap.objs.size:=fun b hb=>by
  rcases List.mem_cons.mp hb with rfl|hb
  ·exact Js
  ·rw[List.mem_singleton.mp hb];exact Jt
 have hSf:s.heap.objs.size ∉ [I,l]:=fun hm=>Nat.lt_irrefl _ (hfp _ hm)
 have hst:(fun i (s:Shared)=>i<=items.size/\s.heap.IsRevIter I l ((items.size:Int) - 1 - (i:Int))/\s.heap.IsList l items) 0 s:=⟨Nat.zero_le _,by simpa using hit,hl⟩
 refine callType_codes (Q₁:=fun obj s₁=>obj = .ref s.heap.objs.size/\s₁={ s with heap:=s.heap.push { cls:=.type "list",data:=.seq #[] } }) F.called_list (F.typeCall_list_1 _) F.entry_list_init
  (code_list_new _ ⟨rfl,rfl⟩) fun obj s₁ h₁=>?_
 obtain⟨rfl,rfl⟩:=h₁
 have hS:(s.heap.push { cls:=.type "list",data:=.seq #[] }).get? s.heap.objs.size=some { cls:=.type "list",data:=.seq #[] }:=Heap.get?_push_size _ rfl
 refine⟨⟨_,hS,rfl⟩,F.args_list_init_2 _ _,km (hn:=hn) W (fun i s st=>st.2.1.typeIs) _ (W.frame 0 s _ s.toks hst (Nat.le_refl _) fun b _ o e=>Heap.get?_push_of_some _ e) hSf (List.mem_cons_self ..) hS fun s' acc' c' hm hS' hacc=>?_⟩
 refine⟨rfl,?_⟩
 rw[hm.eq_with]
 refine hQ s'.heap s'.toks acc' c' (fun b o hb e=>hm.heap b o (fun z=>?_) (Heap.get?_push_of_some _ e)) hS' ?_
 ·rcases List.mem_cons.mp z with z|z
  ·exact absurd (Heap.lt_size e) (by rw[z];exact Nat.lt_irrefl _)
  ·exact hb (List.mem_singleton.mp z)
 ·obtain⟨hsz,hP⟩:=hacc
  apply List.ext_getElem?
  intro j
  by_cases hj:j < items.size
  ·have hj':j < acc'.size:=by rw[hsz];exact hj
   have q:=hP j acc'[j] (by simp[hj'])
   have e1:acc'.toList[j]?=some acc'[j]:=by simp[hj']
   rw[e1,List.getElem?_reverse (by simpa using hj)]
   simpa using q.symm
  ·rw[List.getElem?_eq_none (by simpa [hsz]using hj),List.getElem?_eq_none (by simpa using hj)]
end
end PySem
namespace L2
open PySem PySem.Spec PyProof.Rows
section
variable {X:Cx}
def sA(K:Vo)(te:TE):TE:=fun σ H Q=>te σ H fun x H1=>∃a xs,x = .ref a/\SqL K H1 a xs/\∀q,H1 q=none->Q (.ref q) (upd H1 q (.lst xs.reverse))
def nV{e:Expr}{te:TE}{p1 p2 q1 q2:Pos}(hc:X.calm=true)(he:PE X e te)(Ju:Gl X "list")(hm1:X.mg "list" = none)(Jv:Gl X "reversed")(hm2:X.mg "reversed" = none)
  (hs:starEach [e] X.env=[(false,eval e X.env)]:=by rfl) (hs2:starEach [.Call (.Name "reversed" p2) [e] [] q2] X.env=[(false,eval (.Call (.Name "reversed" p2) [e] [] q2) X.env)]:=by rfl) :
  PE X (.Call (.Name "list" p1) [.Call (.Name "reversed" p2) [e] [] q2] [] q1) (sA X.K te):=by
 intro pins s σ H Q I h
 refine wpAny_Call_Name_kw (eX I Ju hm1 (u:=.type "list") (by decide +kernel) ?_)
 refine PyProof.Rows.callWith_type1 ?_ hs2 rfl
 rw[hs2]
 show wpAny _ _ (spliced ((false,eval (.Call (.Name "reversed" p2) [e] [] q2) X.env)::backTo q1 [])) _ _ s
 refine Calls.spliced_cons ?_
 refine wpAny_Call_Name_kw (eX I Jv hm2 (u:=.type "reversed") boot_reversed ?_)
 refine PyProof.Rows.callWith_type1 ?_ hs rfl
 rw[hs]
 show wpAny _ _ (spliced ((false,eval e X.env)::backTo q2 [])) _ _ s
 refine Calls.spliced_cons (bA (he pins s σ H _ I h) fun u s1 ⟨x,H1,I1,r1,a,xs,ex,hx,q⟩=>?_)
 subst ex
 cases r1
 obtain⟨its,rv,p,hz⟩:=I1.list hx
 have hl:=rv.length
 have hal:a < s1.heap.objs.size:=by obtain⟨o,ho,_⟩:=p.isList;exact Heap.lt_size ho
 refine Calls.spliced_nil (call_reversed_list p.isList ?_)
 refine Calls.spliced_nil ?_
 refine kn (I.ok.hd hc) (p.isList.push _) ⟨_,Heap.get?_push_size _ rfl,rfl,rfl⟩ (Nat.ne_of_lt hal) (by rw[List.size_toArray,<-hl];exact hz) fun h' tk acc c hk hS ha=>?_
 have hsz:(s1.heap.push (revObj a ((its.toArray.size:Int) - 1))).objs.size=s1.heap.objs.size+1:=Heap.size_push _ _
 have hle:s1.heap.objs.size<=(s1.heap.push (revObj a ((its.toArray.size:Int) - 1))).objs.size:=by rw[hsz];exact Nat.le_succ _
 refine⟨.ref _,_,I1.laid (a:=(s1.heap.push (revObj a ((its.toArray.size:Int) - 1))).objs.size) (o:=.lst xs.reverse) (h':=h') (t':=tk) (fun b u e=>hk b u (Nat.ne_of_lt (Heap.lt_size e)) (Heap.get?_push_of_some _ e)) hle ?_,rfl,q _ (I1.hok.fresh hle)⟩
 refine⟨by rw[List.length_reverse];exact hz,its.reverse,c,Vals.reverse rv,?_⟩
 rw[hS]
 have e:acc=its.reverse.toArray:=by
  apply Array.toList_inj.mp
  rw[ha]
 rw[e]
end
section
variable {X:Cx}
end
section
variable {X:Cx}
noncomputable abbrev sgn(c:Nat):Str:=⟨#[c]⟩
noncomputable def BQ(z:Str):It:=⟨fun i _=>i < z.cps.size,fun i H x H'=>H'=H/\∃c,z.cps[i]?=some c/\x = .str (sgn c),fun i _=>z.cps.size<=i⟩
def sB{P:Program}{w:World}{K:Vo}{tg:Expr}{ty:String}(hty:ty = "str_ascii_iterator" \/ ty = "str_iterator")(it:Addr)(z:Str)(t:Tok):lh P w K tg (BQ z) [it] it (fun i h=>i<=z.cps.size/\h.IsStrIter it ty z t i):=by
 have W:∀A':Around,A'.handled=none->Walks P w A' it [it] [it] z.cps.size (SignAt z) (fun i h=>h.IsStrIter it ty z t i):=fun A' hA=>by
  rcases hty with rfl|rfl
  ·exact Walks.strAscii hA it z t
  ·exact Walks.strWide hA it z t
 have nt:(["enumerate","zip","dict_itemiterator","dict_reverseitemiterator","odict_iterator","itertools.zip_longest","itertools.pairwise"].contains ty)=false:=by
  rcases hty with rfl|rfl<;>decide
 refine⟨by simp,fun i h st b hb=>?_,fun i h h' st k=>?_,?_,?_,?_⟩
 ·have e:b=it:=by simpa using hb
  subst e
  obtain⟨_,o,e,c,d⟩:=st
  exact⟨o,e,fun v q=>by rw[d]at q;cases q⟩
 ·obtain⟨hi,o,e,r⟩:=st
  exact⟨hi,o,k it (by simp) o e,r⟩
 ·intro X hP hw hK hc i pins s σ H E I hf st hg
  subst hP hw hK
  obtain⟨f0,f1,f2,f3,f4,f5⟩:=hf it (by simp)
  refine(W X.A (I.ok.hd hc)).item i s _ _ hg st.2 fun v h' tk hv st' kk=>?_
  obtain⟨c,u,hcp,rfl⟩:=hv
  have I1:Inv X pins σ H { s with heap:=h',toks:=tk }:=I.turned (fun b o hb e=>kk b o (by simpa using hb) e) f0 f1 f3 f4 f5
  obtain⟨o,e,co,d⟩:=id st'
  exact⟨_,rfl,oV (s:={ s with heap:=h',toks:=tk }) e co d nt ⟨.str (sgn c),H,I1,⟨u,rfl⟩,⟨rfl,c,hcp,rfl⟩,⟨hg,st'⟩,fun b hb=>(hf b hb).1⟩⟩
 ·intro X hP hw hK hc i pins s σ H E I hf st hg
  subst hP hw hK
  obtain⟨f0,f1,f2,f3,f4,f5⟩:=hf it (by simp)
  have e:i=z.cps.size:=Nat.le_antisymm st.1 hg
  subst e
  exact(W X.A (I.ok.hd hc)).done s _ _ st.2 fun h' tk kk=>⟨rfl,I.turned (fun b o hb e=>kk b o (by simpa using hb) e) f0 f1 f3 f4 f5⟩
 ·intro A i s Q E st h
  rcases hty with rfl|rfl
  ·exact wpAny_pyIter_striter_ascii st.2 h
  ·exact wpAny_pyIter_striter_wide st.2 h
def qC(hc:X.calm=true):dW X (.builtin "all") (fun xs H Q=>∃(p:Addr) (bs:List Bool),xs=[.ref p]/\SqL X.K H p (bs.map V.bl)/\Q (.bl (bs.all id)) H):=by
 intro pins s σ H xs us Q I r h
 obtain⟨p,bs,rfl,hp,q⟩:=h
 obtain⟨u,rfl,rx⟩:=fu r
 cases rx
 obtain⟨its,rv,pl,hz⟩:=I.list hp
 have hl:=rv.length
 rw[List.length_map]at hl
 have hlt:p < s.heap.objs.size:=by obtain⟨o,ho,_⟩:=pl.isList;exact Heap.lt_size ho
 refine call_all_walk (wpAny_pyIter_list pl.isList ?_)
 have up:∀b o,s.heap.get? b=some o->(s.heap.push { cls:=.type "list_iterator",data:=.fields #[.ref p,.int 0 0] }).get? b=some o:=fun b o e=>Heap.get?_push_of_some _ e
 refine⟨s.heap.objs.size,_,_,_,_,_,fun i=>(bs[i]?).getD true,rfl,Walks.list (A:=X.A.in1) (I.ok.hd hc) s.heap.objs.size p (Nat.ne_of_lt hlt) its.toArray,⟨⟨_,Heap.get?_push_size _ rfl,rfl,rfl⟩,pl.isList.push _⟩,?_,fun h' tk hk=>?_⟩
 ·intro i v s' Q' E' hv hq
  have hi:i < its.length:=by
   by_cases z:i < its.length
   ·exact z
   ·rw[Array.getElem?_eq_none (by simpa using z)]at hv;cases hv
  obtain⟨u',e1,r1⟩:=rv.get (i:=i) (x:=.bl bs[i]) (by rw[List.getElem?_map,List.getElem?_eq_getElem (by omega)];rfl)
  have e2:v=u':=by
   have z:its[i]?=some v:=by simpa using hv
   rw[z]at e1;exact Option.some.inj e1
  subst e2
  cases (show v=Value.bool bs[i] from r1)
  refine wpAny_truthy_bool ?_
  have hq':Q' ((bs[i]?).getD true) s':=hq
  rw[List.getElem?_eq_getElem (show i < bs.length by omega)]at hq'
  exact hq'
 ·have e:(List.range its.toArray.size).all (fun i=>(bs[i]?).getD true)=bs.all id:=by
   rw[List.size_toArray,<-hl,Bool.eq_iff_iff,List.all_eq_true,List.all_eq_true]
   constructor
   ·intro h1 x hx
    obtain⟨j,hj,e⟩:=List.getElem_of_mem hx
    have q1:=h1 j (List.mem_range.mpr hj)
    rw[List.getElem?_eq_getElem hj]at q1
    rw[<-e];exact q1
   ·intro h1 j hj
    have hj':=List.mem_range.mp hj
    rw[List.getElem?_eq_getElem hj']
    exact h1 _ (List.getElem_mem hj')
  rw[e]
  exact⟨.bl _,H,(I.kept (t':=tk) (h':=h') fun b o eo=>hk b o (by
   intro hm
   have hb:b=s.heap.objs.size:=by simpa using hm
   exact absurd (Heap.lt_size eo) (by rw[hb];exact Nat.lt_irrefl _)) (up b o eo)),rfl,q⟩
end
section
variable {X:Cx}
noncomputable def BR:V->Option Int->Option Int->Hp->VK->Prop:=fun x lo hi H Q=>∃z,x = .str z/\z.length<=sizeLine/\Q (.str (Txt.slice z lo hi)) H
def ye:zi X BR:=by
 intro pins s σ H x v vl vu lo hi sl Q I rx hs pl pu h
 obtain⟨z,rfl,hz,q⟩:=h
 obtain⟨t,rfl⟩:=rx
 refine⟨"str",_,F.slot_str_getitem.lookup,typeIs_str _ _ _,?_⟩
 obtain⟨o,e,c,d⟩:=hs
 have fin:∀l u:Option (Int×Tok),(vl=partValue l/\lo=l.map (·.1))->(vu=partValue u/\hi=u.map (·.1))->wpAny (model X.prog X.w) X.A (getItem (.str z t) (.ref sl)) (EP X pins σ Q) X.xe s:=by
  rintro l u ⟨rfl,rfl⟩ ⟨rfl,rfl⟩
  exact wpAny_getItem_str_slice (l:=l) (u:=u) (st:=none) ⟨o,e,c,d⟩ rfl (post_val_or_str ⟨Nat.le_trans (Txt.slice_le z _ _) hz,fun t' k=>⟨.str _,H,I.tok k,⟨t',rfl⟩,q⟩⟩)
 cases pl with
 |none=>
  cases pu with
  |none=>exact fin none none ⟨rfl,rfl⟩ ⟨rfl,rfl⟩
  |int j uj=>exact fin none (some (j,uj)) ⟨rfl,rfl⟩ ⟨rfl,rfl⟩
 |int i ui=>
  cases pu with
  |none=>exact fin (some (i,ui)) none ⟨rfl,rfl⟩ ⟨rfl,rfl⟩
  |int j uj=>exact fin (some (i,ui)) (some (j,uj)) ⟨rfl,rfl⟩ ⟨rfl,rfl⟩
end
end L2
namespace Zt
open PySem
open Sem (wp)
def Si(kd:Bool)(h:Heap)(a t:Addr)(i:Nat):Prop:=cond kd (h.IsListIter a t i) (h.IsTupleIter a t i)
def Sq(kd:Bool)(h:Heap)(a:Addr)(xs:Vw):Prop:=cond kd (h.IsList a xs) (h.IsTuple a xs)
theorem Si.at{kd:Bool}{h h':Heap}{a t:Addr}{i:Nat}(x:Si kd h a t i)(e:∀o,h.get? a=some o->h'.get? a=some o):Si kd h' a t i:=match kd,x with|true,x=>Heap.IsListIter.at x e|false,x=>Heap.IsTupleIter.at x e
theorem Sq.at{kd:Bool}{h h':Heap}{a:Addr}{xs:Vw}(x:Sq kd h a xs)(e:∀o,h.get? a=some o->h'.get? a=some o):Sq kd h' a xs:=match kd,x with|true,x=>Heap.IsList.at x e|false,x=>Heap.IsTuple.at x e
def Sq.lt{kd:Bool}{h:Heap}{a:Addr}{xs:Vw}(x:Sq kd h a xs):a < h.objs.size:=match kd,x with|true,⟨_,e,_⟩=>Heap.lt_size e|false,⟨_,e,_⟩=>Heap.lt_size e
def Si.ob{kd:Bool}{h:Heap}{a t:Addr}{i:Nat}(x:Si kd h a t i):∃o f,h.get? a=some o/\o.data = .fields f:=match kd,x with|true,⟨o,e,_,d⟩=>⟨o,_,e,d⟩|false,⟨o,e,_,d⟩=>⟨o,_,e,d⟩
def Si.extBut{kd:Bool}{h h':Heap}{a c t:Addr}{i:Nat}(x:Si kd h a t i)(e:Heap.ExtBut c h h')(n:a≠c):Si kd h' a t i:=x.at fun _ q=>e _ _ n q
def Sq.extBut{kd:Bool}{h h':Heap}{a c:Addr}{xs:Vw}(x:Sq kd h a xs)(e:Heap.ExtBut c h h')(n:a≠c):Sq kd h' a xs:=x.at fun _ q=>e _ _ n q
section
variable {prog:Program} {w:World} {A:Around} {E:Vq} {s:Shared}
def nx{j t:Addr}{i:Nat}{its:Vw}{x:Value}{Q:Vq}(hj:s.heap.IsTupleIter j t i)(ht:s.heap.IsTuple t its)(hx:its[i]?=some x)
  (k:∀g:Heap,g.IsTupleIter j t (i+1)->Heap.SameBut j s.heap g->Q x { s with heap:=g }):wpAny (model prog w) A (Builtin.SmallTypes.nextOf (.ref j)) Q E s:=by
 obtain⟨ob,eb,kb,db⟩:=id hj
 obtain⟨oc,ec,_,nc,dc⟩:=ht
 unfold Builtin.SmallTypes.nextOf
 refine wpAny_bind (wpAny_callSpecial?_slot (name:=Str.ofString "__next__") hj.typeIs F.slot_tuple_iterator_next (wpAny_call_entry F.slot_tuple_iterator_next hj.typeIs F.entry_tuple_iterator_next ?_ (F.args_tuple_iterator_next_1 _)))
 show wpAny _ _ (field (.ref j) 0 >>= _) _ _ s;refine wpAny_bind (wpAny_field eb db (x:=.ref t) rfl ?_)
 show wpAny _ _ (if (Value.ref t == Value.none)=true then _ else _) _ _ s;rw[if_neg (show ¬((Value.ref t == Value.none)=true)from Bool.false_ne_true)]
 show wpAny _ _ (field (.ref j) 1 >>= _) _ _ s;refine wpAny_bind (wpAny_field eb db (x:=.int i 0) rfl ?_)
 show wpAny _ _ (seqItems? (.ref t) >>= _) _ _ s;refine wpAny_bind (wpAny_seqItems ec dc ?_)
 simp only[Int.toNat_natCast,hx];refine wpAny_bind (wpAny_setField eb db (by simp) (wpAny_pure ⟨x,rfl,wpAny_pure (k _ ?_ (Heap.SameBut.update ..))⟩))
 exact⟨_,Heap.get?_update_self _ eb (Obj.isFreed_of_fields (Obj.data_mapFields db _)),(Obj.cls_mapFields ..).trans kb,by rw[Obj.data_mapFields db];simp[rawInt]⟩
def Cy{j t:Addr}{i:Nat}{its:Vw}{Q:Vq}(hh:A.handled=none)(hj:s.heap.IsTupleIter j t i)(ht:s.heap.IsTuple t its)(hx:its[i]?=none)
  (k:∀(g:Heap) (e:Addr),Heap.ExtBut j s.heap g->(∃o,g.get? e=some o/\o.cls = .type "StopIteration")->E (.ref e) { s with heap:=g }):wpAny (model prog w) A (Builtin.SmallTypes.nextOf (.ref j)) Q E s:=by
 obtain⟨ob,eb,kb,db⟩:=id hj
 obtain⟨oc,ec,_,nc,dc⟩:=ht
 unfold Builtin.SmallTypes.nextOf
 refine wpAny_bind (wpAny_callSpecial?_slot (name:=Str.ofString "__next__") hj.typeIs F.slot_tuple_iterator_next (wpAny_call_entry F.slot_tuple_iterator_next hj.typeIs F.entry_tuple_iterator_next ?_ (F.args_tuple_iterator_next_1 _)))
 show wpAny _ _ (field (.ref j) 0 >>= _) _ _ s;refine wpAny_bind (wpAny_field eb db (x:=.ref t) rfl ?_)
 show wpAny _ _ (if (Value.ref t == Value.none)=true then _ else _) _ _ s;rw[if_neg (show ¬((Value.ref t == Value.none)=true)from Bool.false_ne_true)]
 show wpAny _ _ (field (.ref j) 1 >>= _) _ _ s;refine wpAny_bind (wpAny_field eb db (x:=.int i 0) rfl ?_)
 show wpAny _ _ (seqItems? (.ref t) >>= _) _ _ s;refine wpAny_bind (wpAny_seqItems ec dc ?_)
 simp only[Int.toNat_natCast,hx];refine wpAny_bind (wpAny_rule (wpAny_bind (wpAny_setField eb db (by simp) ?_)))
 show wpAny _ _ (newExc (.type "StopIteration") [] >>= _) _ _ _;refine wpAny_bind ?_
 simp only[newExc,newTuple];refine wpAny_bind (wpAny_newObj_type ?_ (by size_fits))
 refine wpAny_bind (m:=firstArgMember _ _) (wpAny_of_eq (a:=Value.none) (by first|rfl|(simp only[firstArgMember];rfl)) ?_);refine wpAny_newObj_type ?_ (by size_fits)
 simp only[raiseNew];refine wpAny_bind (wpAny_handled ?_)
 first|(rw[hh])|(rw[show A.in1.handled=none from hh])
 exact wpAny_bind (wpAny_pure (wpAny_throw (k _ _ (((Heap.SameBut.update ..).extBut.push _).push _) ⟨_,Heap.get?_push_size _ rfl,rfl⟩)))
def BS{kd:Bool}{j t:Addr}{i:Nat}{its:Vw}{x:Value}{Q:Vq}(hj:Si kd s.heap j t i)(ht:Sq kd s.heap t its)(hx:its[i]?=some x)
  (k:∀g:Heap,Si kd g j t (i+1)->Heap.SameBut j s.heap g->Q x { s with heap:=g }):wpAny (model prog w) A (Builtin.SmallTypes.nextOf (.ref j)) Q E s:=by
 cases kd with
 |true=>exact wpAny_nextOf_list_item hj ht hx k
 |false=>exact nx hj ht hx k
def Ac{kd:Bool}{j t:Addr}{i:Nat}{its:Vw}{Q:Vq}(hh:A.handled=none)(hj:Si kd s.heap j t i)(ht:Sq kd s.heap t its)(hx:its[i]?=none)
  (k:∀(g:Heap) (e:Addr),Heap.ExtBut j s.heap g->(∃o,g.get? e=some o/\o.cls = .type "StopIteration")->E (.ref e) { s with heap:=g }):wpAny (model prog w) A (Builtin.SmallTypes.nextOf (.ref j)) Q E s:=by
 cases kd with
 |true=>exact wpAny_nextOf_list_end hh hj ht hx k
 |false=>exact Cy hh hj ht hx k
variable {ka kb:Bool} {z TI TO i1 i2 l1 l2:Addr} {k1 k2:Nat} {xs ys:Vw} {x y a b:Value}
def vq{Q:Vq}(D:ZipApart z TI TO i1 i2 l1 l2)(gz:IsZip s.heap z TI TO .none)(gI:IsPair s.heap TI (.ref i1) (.ref i2))(gO:IsPair s.heap TO a b)
  (g1:Si ka s.heap i1 l1 k1) (g2:Si kb s.heap i2 l2 k2) (t1:Sq ka s.heap l1 xs) (t2:Sq kb s.heap l2 ys) (hx:xs[k1]?=some x) (hy:ys[k2]?=some y)
  (k:∀g,IsZip g z TI TO (rawInt s.heap.objs.size)->IsPair g TO x y->Si ka g i1 l1 (k1+1)->Si kb g i2 l2 (k2+1)->IsPair g s.heap.objs.size x y->
   (∀c o,c≠z->c≠TO->c≠i1->c≠i2->s.heap.get? c=some o->g.get? c=some o)->Q (.ref s.heap.objs.size) { s with heap:=g }) :
  wpAny (model prog w) A (Builtin.«zip.__next__» ⟨[.ref z],[]⟩) (fun fin s'=>∃v,fin = .done (.ret v)/\Q v s') E s:=by
 show wpAny _ _ (field (.ref z) 2 >>= _) _ _ _;refine wpAny_bind (wpAny_field gz rfl (x:=.bool false) rfl ?_)
 show wpAny _ _ (field (.ref z) 3 >>= _) _ _ _;refine wpAny_bind (wpAny_field gz rfl (x:=.ref TI) rfl (wpAny_bind (wpAny_seqItems gI rfl ?_)))
 show wpAny _ _ (Builtin.SmallTypes.ownedTupleIsFree (.ref z) >>= _) _ _ _;refine wpAny_bind ?_;unfold Builtin.SmallTypes.ownedTupleIsFree
 refine wpAny_bind (wpAny_field gz rfl (x:=.none) rfl (wpAny_pure ?_));simp only[if_true]
 refine wpAny_bind (wpAny_rule (wpAny_bind (wpAny_field gz rfl (x:=.ref TO) rfl (wpAny_bind (wpAny_setField_rec gz (by simp) fun h₁ z1 q1=>?_)))))
 replace z1:IsZip h₁ z TI TO .ellipsis:=z1
 refine wpAny_bind ?_;simp only[List.zipIdx_cons,List.zipIdx_nil,List.forIn_cons,List.forIn_nil]
 refine wpAny_bind (wpAny_bind (wpAny_onRaise ?_));show wpAny _ _ (Builtin.SmallTypes.nextOf (.ref i1) >>= _) _ _ _
 refine wpAny_bind (BS (g1.extBut q1.extBut D.i1z) (t1.extBut q1.extBut D.l1z) hx fun h₂ n1 q2=>wpAny_pure ?_)
 have o2:IsPair h₂ TO a b:=q2.extBut _ _ D.TOi1 (q1.extBut _ _ D.TOz gO)
 refine wpAny_bind (wpAny_seqItems o2 rfl (wpAny_bind (wpAny_updateSeq_pair o2 fun h₃ o3 q3=>?_)))
 replace o3:IsPair h₃ TO x b:=o3
 refine wpAny_bind (wpAny_letGo (wpAny_pure ?_));refine wpAny_bind (wpAny_bind (wpAny_onRaise ?_));show wpAny _ _ (Builtin.SmallTypes.nextOf (.ref i2) >>= _) _ _ _
 refine wpAny_bind (BS (((g2.extBut q1.extBut D.i2z).extBut q2.extBut D.i12.symm).extBut q3.extBut D.TOi2.symm) (((t2.extBut q1.extBut D.l2z).extBut q2.extBut D.l2i1).extBut q3.extBut D.l2TO) hy fun h₄ n2 q4=>wpAny_pure ?_)
 have o4:IsPair h₄ TO x b:=q4.extBut _ _ D.TOi2 o3
 refine wpAny_bind (wpAny_seqItems o4 rfl (wpAny_bind (wpAny_updateSeq_pair o4 fun h₅ o5 q5=>?_)))
 replace o5:IsPair h₅ TO x y:=o5
 refine wpAny_bind (wpAny_letGo (wpAny_pure (wpAny_pure ?_)));refine wpAny_bind (wpAny_seqItems o5 rfl (wpAny_bind (wpAny_newTuple ?_)))
 have sz:h₅.objs.size=s.heap.objs.size:=by rw[q5.1,q4.1,q3.1,q2.1,q1.1]
 have z5:IsZip h₅ z TI TO .ellipsis:=q5.extBut _ _ D.TOz.symm (q4.extBut _ _ D.i2z.symm (q3.extBut _ _ D.TOz.symm (q2.extBut _ _ D.i1z.symm z1)))
 have kk:∀c o,c≠z->c≠TO->c≠i1->c≠i2->s.heap.get? c=some o->h₅.get? c=some o:=fun c o c1 c2 c3 c4 e=>q5.extBut _ _ c2 (q4.extBut _ _ c4 (q3.extBut _ _ c2 (q2.extBut _ _ c3 (q1.extBut _ _ c1 e))))
 have m1:Si ka h₅ i1 l1 (k1+1):=((n1.extBut q3.extBut D.TOi1.symm).extBut q4.extBut D.i12).extBut q5.extBut D.TOi1.symm
 have m2:Si kb h₅ i2 l2 (k2+1):=n2.extBut q5.extBut D.TOi2.symm
 have zl:z < h₅.objs.size:=Heap.lt_size z5
 show wpAny _ _ (Builtin.SmallTypes.ownedTupleHandOut (.ref z) (.ref h₅.objs.size) >>= _) _ _ _;refine wpAny_bind ?_;unfold Builtin.SmallTypes.ownedTupleHandOut
 have z6:IsZip (h₅.push { cls:=.type "tuple",data:=.seq #[x,y] }) z TI TO .ellipsis:=Heap.get?_push_of_some _ z5
 refine wpAny_bind (wpAny_setField_rec z6 (by simp) fun h₇ z7 q7=>?_)
 replace z7:IsZip h₇ z TI TO (rawInt h₅.objs.size):=z7
 refine wpAny_setField_rec z7 (by simp) fun h₈ z8 q8=>?_
 replace z8:IsZip h₈ z TI TO (rawInt h₅.objs.size):=z8
 have up:∀c o,c≠z->h₅.get? c=some o->h₈.get? c=some o:=fun c o c1 e=>q8.extBut _ _ c1 (q7.extBut _ _ c1 (Heap.get?_push_of_some _ e))
 have T8:IsPair h₈ h₅.objs.size x y:=q8.extBut _ _ (Nat.ne_of_gt zl) (q7.extBut _ _ (Nat.ne_of_gt zl) (Heap.get?_push_size _ rfl))
 rw[sz]at z8 T8
 refine wpAny_pure ⟨_,rfl,?_⟩
 show Q (.ref h₅.objs.size) _
 rw[sz]
 exact k h₈ z8 (up _ _ D.TOz o5) (m1.at fun o e=>up _ o D.i1z e) (m2.at fun o e=>up _ o D.i2z e) T8 fun c o c1 c2 c3 c4 e=>up c o c1 (kk c o c1 c2 c3 c4 e)
def yf{Q:Fin->Shared->Prop}(hh:A.handled=none)(D:ZipApart z TI TO i1 i2 l1 l2)(gz:IsZip s.heap z TI TO .none)(gI:IsPair s.heap TI (.ref i1) (.ref i2))(gO:IsPair s.heap TO a b)
  (g1:Si ka s.heap i1 l1 k1) (g2:Si kb s.heap i2 l2 k2) (t1:Sq ka s.heap l1 xs) (t2:Sq kb s.heap l2 ys) (he:xs[k1]?=none\/ys[k2]?=none)
  (k:∀(g:Heap) (e:Addr),(∀c o,c≠z->c≠TO->c≠i1->c≠i2->s.heap.get? c=some o->g.get? c=some o)->(∃o,g.get? e=some o/\o.cls = .type "StopIteration")->E (.ref e) { s with heap:=g }) :
  wpAny (model prog w) A (Builtin.«zip.__next__» ⟨[.ref z],[]⟩) Q E s:=by
 show wpAny _ _ (field (.ref z) 2 >>= _) _ _ _;refine wpAny_bind (wpAny_field gz rfl (x:=.bool false) rfl ?_)
 show wpAny _ _ (field (.ref z) 3 >>= _) _ _ _;refine wpAny_bind (wpAny_field gz rfl (x:=.ref TI) rfl (wpAny_bind (wpAny_seqItems gI rfl ?_)))
 show wpAny _ _ (Builtin.SmallTypes.ownedTupleIsFree (.ref z) >>= _) _ _ _;refine wpAny_bind ?_;unfold Builtin.SmallTypes.ownedTupleIsFree
 refine wpAny_bind (wpAny_field gz rfl (x:=.none) rfl (wpAny_pure ?_));simp only[if_true]
 refine wpAny_bind (wpAny_rule (wpAny_bind (wpAny_field gz rfl (x:=.ref TO) rfl (wpAny_bind (wpAny_setField_rec gz (by simp) fun h₁ z1 q1=>?_)))))
 replace z1:IsZip h₁ z TI TO .ellipsis:=z1
 refine wpAny_bind ?_;simp only[List.zipIdx_cons,List.zipIdx_nil,List.forIn_cons,List.forIn_nil]
 refine wpAny_bind (wpAny_bind (wpAny_onRaise ?_));show wpAny _ _ (Builtin.SmallTypes.nextOf (.ref i1) >>= _) _ _ _
 cases hx:xs[k1]? with
 |none=>
  refine wpAny_bind (Ac hh (g1.extBut q1.extBut D.i1z) (t1.extBut q1.extBut D.l1z) hx fun h₂ e q2 ⟨oe,ge,ce⟩=>?_)
  have z2:IsZip h₂ z TI TO .ellipsis:=q2 _ _ D.i1z.symm z1
  have ez:e≠z:=fun u=>by subst u;rw[z2]at ge;cases ge;simp at ce
  exact wpAny_setField_rec z2 (by simp) fun h₃ _ q3=>k h₃ e (fun c o c1 _ c3 _ u=>q3.extBut _ _ c1 (q2 _ _ c3 (q1.extBut _ _ c1 u))) ⟨oe,q3.extBut _ _ ez ge,ce⟩
 |some x=>
  have hy:ys[k2]?=none:=he.elim (fun q=>by rw[hx]at q;cases q) id
  refine wpAny_bind (BS (g1.extBut q1.extBut D.i1z) (t1.extBut q1.extBut D.l1z) hx fun h₂ n1 q2=>wpAny_pure ?_)
  have o2:IsPair h₂ TO a b:=q2.extBut _ _ D.TOi1 (q1.extBut _ _ D.TOz gO)
  refine wpAny_bind (wpAny_seqItems o2 rfl (wpAny_bind (wpAny_updateSeq_pair o2 fun h₃ o3 q3=>?_)))
  refine wpAny_bind (wpAny_letGo (wpAny_pure ?_));refine wpAny_bind (wpAny_bind (wpAny_onRaise ?_));show wpAny _ _ (Builtin.SmallTypes.nextOf (.ref i2) >>= _) _ _ _
  refine wpAny_bind (Ac hh (((g2.extBut q1.extBut D.i2z).extBut q2.extBut D.i12.symm).extBut q3.extBut D.TOi2.symm) (((t2.extBut q1.extBut D.l2z).extBut q2.extBut D.l2i1).extBut q3.extBut D.l2TO) hy fun h₄ e q4 ⟨oe,ge,ce⟩=>?_)
  have z4:IsZip h₄ z TI TO .ellipsis:=q4 _ _ D.i2z.symm (q3.extBut _ _ D.TOz.symm (q2.extBut _ _ D.i1z.symm z1))
  have ez:e≠z:=fun u=>by subst u;rw[z4]at ge;cases ge;simp at ce
  exact wpAny_setField_rec z4 (by simp) fun h₅ _ q5=>k h₅ e (fun c o c1 c2 c3 c4 u=>q5.extBut _ _ c1 (q4 _ _ c4 (q3.extBut _ _ c2 (q2.extBut _ _ c3 (q1.extBut _ _ c1 u))))) ⟨oe,q5.extBut _ _ ez ge,ce⟩
def qD{Q:Option Value->Shared->Prop}(D:ZipApart z TI TO i1 i2 l1 l2)(gz:IsZip s.heap z TI TO .none)(gI:IsPair s.heap TI (.ref i1) (.ref i2))(gO:IsPair s.heap TO a b)
  (g1:Si ka s.heap i1 l1 k1) (g2:Si kb s.heap i2 l2 k2) (t1:Sq ka s.heap l1 xs) (t2:Sq kb s.heap l2 ys) (hx:xs[k1]?=some x) (hy:ys[k2]?=some y)
  (k:∀g,IsZip g z TI TO (rawInt s.heap.objs.size)->IsPair g TO x y->Si ka g i1 l1 (k1+1)->Si kb g i2 l2 (k2+1)->IsPair g s.heap.objs.size x y->
   (∀c o,c≠z->c≠TO->c≠i1->c≠i2->s.heap.get? c=some o->g.get? c=some o)->Q (some (.ref s.heap.objs.size)) { s with heap:=g }):wpAny (model prog w) A (pyNext (.ref z)) Q E s:=by
 have ty:s.TypeIs (.ref z) "zip":=⟨_,gz,rfl⟩
 unfold pyNext
 exact wpAny_bind (wpAny_attempt (wpAny_callSpecial?_slot (name:=Str.ofString "__next__") ty F.slot_zip_next (wpAny_call_entry F.slot_zip_next ty F.entry_zip_next
  (vq D gz gI gO g1 g2 t1 t2 hx hy fun g a1 a2 a3 a4 a5 a6=>wpAny_pure (k g a1 a2 a3 a4 a5 a6)) (F.args_zip_next_1 _))))
def sC{Q:Option Value->Shared->Prop}(hh:A.handled=none)(D:ZipApart z TI TO i1 i2 l1 l2)(gz:IsZip s.heap z TI TO .none)(gI:IsPair s.heap TI (.ref i1) (.ref i2))(gO:IsPair s.heap TO a b)
  (g1:Si ka s.heap i1 l1 k1) (g2:Si kb s.heap i2 l2 k2) (t1:Sq ka s.heap l1 xs) (t2:Sq kb s.heap l2 ys) (he:xs[k1]?=none\/ys[k2]?=none)
  (k:∀g:Heap,(∀c o,c≠z->c≠TO->c≠i1->c≠i2->s.heap.get? c=some o->g.get? c=some o)->Q none { s with heap:=g }):wpAny (model prog w) A (pyNext (.ref z)) Q E s:=by
 have ty:s.TypeIs (.ref z) "zip":=⟨_,gz,rfl⟩
 unfold pyNext
 refine wpAny_bind (wpAny_attempt (wpAny_callSpecial?_slot (name:=Str.ofString "__next__") ty F.slot_zip_next (wpAny_call_entry F.slot_zip_next ty F.entry_zip_next (yf hh D gz gI gO g1 g2 t1 t2 he fun g e kk ⟨o,ho,hc⟩=>?_) (F.args_zip_next_1 _))))
 exact wpAny_bind (wpAny_isInstance (T:="StopIteration") (b:=true) ⟨o,ho,hc⟩ isSubtype_stop (wpAny_pure (k _ kk)))
end
noncomputable abbrev it(kd:Bool)(l:Addr):Obj:={ cls:=.type (cond kd "list_iterator" "tuple_iterator"),data:=.fields #[.ref l,.int 0 0] }
def Si.mk{kd:Bool}{h:Heap}{a l:Addr}(e:h.get? a=some (it kd l)):Si kd h a l 0:=match kd,e with|true,e=>⟨_,e,rfl,rfl⟩|false,e=>⟨_,e,rfl,rfl⟩
noncomputable abbrev H1(ka:Bool)(h:Heap)(l1:Addr):Heap:=h.push (it ka l1)
noncomputable abbrev H2(ka kb:Bool)(h:Heap)(l1 l2:Addr):Heap:=(H1 ka h l1).push (it kb l2)
noncomputable abbrev H3(ka kb:Bool)(h:Heap)(l1 l2:Addr):Heap:=(H2 ka kb h l1 l2).push { cls:=.type "tuple",data:=.seq #[.ref h.objs.size,.ref (H1 ka h l1).objs.size] }
noncomputable abbrev H4(ka kb:Bool)(h:Heap)(l1 l2:Addr):Heap:=(H3 ka kb h l1 l2).push { cls:=.type "tuple",data:=.seq #[.none,.none] }
noncomputable abbrev H5(ka kb:Bool)(h:Heap)(l1 l2:Addr):Heap:=(H4 ka kb h l1 l2).push { cls:=.type "zip",data:=.fields #[.none,.bool false,.bool false,.ref (H2 ka kb h l1 l2).objs.size,.ref (H3 ka kb h l1 l2).objs.size] }
def iG(ka kb:Bool)(l1 l2:Addr)(xs ys:Vw) :
  Meets (Builtin.«zip.__new__» ⟨[.type "zip",.ref l1,.ref l2],[]⟩) (fun _ R s=>Sq ka s.heap l1 xs/\Sq kb s.heap l2 ys/\R (.ok (.ret (.ref (H4 ka kb s.heap l1 l2).objs.size))) { s with heap:=H5 ka kb s.heap l1 l2 }):=
 .of_wp fun prog w A R s h=>by
  obtain⟨hp,g,d,tk,os⟩:=s;obtain⟨e1,e2,h⟩:=h
  have hsub:=sub_zip
  match ka,kb,e1,e2,h with
  |false,false,e1,e2,h=>
   have L1:Heap.IsTuple (Shared.heap ⟨hp,g,d,tk,os⟩) l1 xs:=e1
   have L2:Heap.IsTuple (Shared.heap ⟨hp.push { cls:=.type "tuple_iterator",data:=.fields #[.ref l1,.int 0 0] },g,d,tk,os⟩) l2 ys:=Heap.IsTuple.push e2 _
   wp_walk using wpAny_pyIter_tuple L1,wpAny_pyIter_tuple L2
   exact⟨_,rfl,h⟩
  |false,true,e1,e2,h=>
   have L1:Heap.IsTuple (Shared.heap ⟨hp,g,d,tk,os⟩) l1 xs:=e1
   have L2:Heap.IsList (Shared.heap ⟨hp.push { cls:=.type "tuple_iterator",data:=.fields #[.ref l1,.int 0 0] },g,d,tk,os⟩) l2 ys:=Heap.IsList.push e2 _
   wp_walk using wpAny_pyIter_tuple L1,wpAny_pyIter_list L2
   exact⟨_,rfl,h⟩
  |true,false,e1,e2,h=>
   have L1:Heap.IsList (Shared.heap ⟨hp,g,d,tk,os⟩) l1 xs:=e1
   have L2:Heap.IsTuple (Shared.heap ⟨hp.push { cls:=.type "list_iterator",data:=.fields #[.ref l1,.int 0 0] },g,d,tk,os⟩) l2 ys:=Heap.IsTuple.push e2 _
   wp_walk using wpAny_pyIter_list L1,wpAny_pyIter_tuple L2
   exact⟨_,rfl,h⟩
  |true,true,e1,e2,h=>
   have L1:Heap.IsList (Shared.heap ⟨hp,g,d,tk,os⟩) l1 xs:=e1
   have L2:Heap.IsList (Shared.heap ⟨hp.push { cls:=.type "list_iterator",data:=.fields #[.ref l1,.int 0 0] },g,d,tk,os⟩) l2 ys:=Heap.IsList.push e2 _
   wp_walk using wpAny_pyIter_list L1,wpAny_pyIter_list L2
   exact⟨_,rfl,h⟩
section
variable {ka kb:Bool} {prog:Program} {w:World} {A:Around} {E:Vq} {s:Shared}
def jM{l1 l2:Addr}{xs ys:Vw}{Q:Vq}(e1:Sq ka s.heap l1 xs)(e2:Sq kb s.heap l2 ys)
  (k:∀g,IsZip g (s.heap.objs.size+4) (s.heap.objs.size+2) (s.heap.objs.size+3) .none->IsPair g (s.heap.objs.size+2) (.ref s.heap.objs.size) (.ref (s.heap.objs.size+1))->
   IsPair g (s.heap.objs.size+3) .none .none->Si ka g s.heap.objs.size l1 0->Si kb g (s.heap.objs.size+1) l2 0->
   (∀c o,s.heap.get? c=some o->g.get? c=some o)->Q (.ref (s.heap.objs.size+4)) { s with heap:=g }) :
  wpAny (model prog w) A (call (.type "zip") [.ref l1,.ref l2]) Q E s:=by
 refine callType_new F.called_zip (by decide) (F.typeCall_zip_2 _ _) (F.newCall_zip_2 _ _) (fun obj=>F.args_object_init_3 obj _ _) F.entry_zip_new (iG ka kb l1 l2 xs ys) ⟨e1,e2,?_⟩
 have z1:(H1 ka s.heap l1).objs.size=s.heap.objs.size+1:=Heap.size_push ..
 have z2:(H2 ka kb s.heap l1 l2).objs.size=s.heap.objs.size+2:=by rw[Heap.size_push,z1]
 have z3:(H3 ka kb s.heap l1 l2).objs.size=s.heap.objs.size+3:=by rw[Heap.size_push,z2]
 have z4:(H4 ka kb s.heap l1 l2).objs.size=s.heap.objs.size+4:=by rw[Heap.size_push,z3]
 have g5:(H5 ka kb s.heap l1 l2).get? (H4 ka kb s.heap l1 l2).objs.size=some _:=Heap.get?_push_size _ rfl
 have g4:(H5 ka kb s.heap l1 l2).get? (H3 ka kb s.heap l1 l2).objs.size=some _:=Heap.get?_push_of_some _ (Heap.get?_push_size _ rfl)
 have g3:(H5 ka kb s.heap l1 l2).get? (H2 ka kb s.heap l1 l2).objs.size=some _:=Heap.get?_push_of_some _ (Heap.get?_push_of_some _ (Heap.get?_push_size _ rfl))
 have g2:(H5 ka kb s.heap l1 l2).get? (H1 ka s.heap l1).objs.size=some _:=Heap.get?_push_of_some _ (Heap.get?_push_of_some _ (Heap.get?_push_of_some _ (Heap.get?_push_size _ rfl)))
 have g1:(H5 ka kb s.heap l1 l2).get? s.heap.objs.size=some _:=Heap.get?_push_of_some _ (Heap.get?_push_of_some _ (Heap.get?_push_of_some _ (Heap.get?_push_of_some _ (Heap.get?_push_size _ rfl))))
 show _/\_
 rw[z2,z3,z4]at g5
 rw[z1,z2]at g3
 rw[z3]at g4
 rw[z1]at g2
 rw[z4]
 exact⟨⟨_,g5,rfl⟩,k _ g5 g3 g4 (.mk g1) (.mk g2) fun c o e=>Heap.get?_push_of_some _ (Heap.get?_push_of_some _ (Heap.get?_push_of_some _ (Heap.get?_push_of_some _ (Heap.get?_push_of_some _ e))))⟩
end
end Zt
namespace L2
open PySem PySem.Spec PyProof.Rows
section
variable {X:Cx} {pins:Va} {σ:St} {H:Hp} {s:Shared} {h':Heap}
def Inv.EQ{t':Nat}{fp:List Addr}(I:Inv X pins σ H s)(k:∀b o,b ∉ fp->s.heap.get? b=some o->h'.get? b=some o)(hf:∀b∈fp,fB X pins H b):Inv X pins σ H { s with heap:=h',toks:=t' }:=by
 have HX:∀b u,H b=some u->b ∉ fp:=fun b u e z=>by rw[(hf b z).1]at e;cases e
 refine I.step (g':=s.gens) (d':=s.drawn) (ch:=fp) (fun b hb=>?_) (fun b o _ _ hc e _=>k b o hc e) (fun b o _ _ hc e _=>⟨o.slots,k b o hc e⟩) (fun _ _ _ _ n=>n)
  (fun b o hc e=>⟨o,k b o hc e⟩) (fun _ _ e=>e) (fun _ _ _ e=>e) (fun b ps e=>⟨#[],by rw[e];simp⟩) (fun m hm=>?_) (fun b u e=>?_) I.bare
 ·obtain⟨f0,f1,f2,f3,f4,f5⟩:=hf b hb
  exact⟨f3,f1,f4,f5⟩
 ·obtain⟨o,es,ep,ho,r⟩:=hm
  exact⟨o,es,ep,k _ o (fun z=>(hf _ z).2.1 rfl) ho,r⟩
 ·refine(I.hok b u e).stay (fun c v hc q=>k c v ?_ q) (fun _ q=>q) fun _ _ q=>q
  rcases hc with z|z
  ·rw[z];exact HX b u e
  ·exact HX c _ z
def Inv.Gh{D:Addr}{us:Vv}{ys:List V}(I:Inv X pins σ H s)(f:fB X pins H D)(e:Ea s.heap D us.toArray)(r:Vals ys us)(hz:ys.length<=sizeLine) :
  Inv X pins σ (upd H D (.tup ys)) s:=by
 obtain⟨f0,f1,f2,f3,f4,f5⟩:=f
 have nD:∀b u,H b=some u->b≠D:=fun b u q=>bd q f0
 have hok:ES X.prog X.w (upd H D (.tup ys)) s.heap:=fun b u q=>by
  by_cases hb:b=D
  ·subst hb
   rw[ay]at q
   cases q
   exact⟨hz,us,r,e⟩
  ·rw[az hb]at q
   exact(I.hok b u q).stay (fun _ _ _ z=>z) (fun c z=>by rw[az (nD c _ z)];exact z) fun c xs z=>by rw[az (nD c _ z)];exact z
 exact I.step (H':=upd H D (.tup ys)) (h':=s.heap) (g':=s.gens) (t':=s.toks) (d':=s.drawn) (ch:=[D])
  (fun b hb=>by
   have z:b=D:=by simpa using hb
   subst z
   exact⟨f3,f1,f4,f5⟩)
  (fun _ _ _ _ _ q _=>q) (fun _ o _ _ _ q _=>⟨o.slots,q⟩)
  (fun b o hb _ n=>by rw[az (fun z=>hb (by simp[z]))];exact n)
  (fun _ o _ q=>⟨o,q⟩) (fun b xs q=>by rw[az (nD b _ q)];exact q) (fun b o u q=>by rw[az (nD b _ q)];exact q)
  (fun b ps q=>⟨#[],by rw[az (nD b _ q),q];simp⟩) (fun _ q=>q) hok I.bare
end
def qE(kd:Bool)(K:Vo)(H:Hp)(a:Addr)(xs:List V):Prop:=cond kd (SqL K H a xs) (SqT K H a xs)
def Inv.GE{X:Cx}{pins:Va}{σ:St}{H:Hp}{s:Shared}{kd:Bool}{a:Addr}{xs:List V}(I:Inv X pins σ H s)(h:qE kd X.K H a xs):∃its:List Value,Vals xs its/\Zt.Sq kd s.heap a its.toArray:=by
 cases kd with
 |true=>obtain⟨i,r,p,z⟩:=I.list h;exact⟨i,r,p.isList⟩
 |false=>obtain⟨i,r,p,z⟩:=I.tuple h;exact⟨i,r,p⟩
def Inv.F7{X:Cx}{pins:Va}{σ:St}{H:Hp}{s:Shared}{kd:Bool}{a:Addr}{xs ys:List V}(I:Inv X pins σ H s)(h:qE kd X.K H a xs)(g:qE kd X.K H a ys):xs=ys:=by
 cases kd with
 |true=>exact I.Fu h g
 |false=>exact I.Ff h g
noncomputable def BU(ka kb:Bool)(K:Vo)(a b:Addr):It:=
  ⟨fun i H=>∃xs ys x y,qE ka K H a xs/\qE kb K H b ys/\xs[i]?=some x/\ys[i]?=some y,
   fun i H v H'=>∃p x y,v = .ref p/\H p=none/\H'=upd H p (.tup [x,y])/\∀xs ys,qE ka K H a xs->qE kb K H b ys->xs[i]?=some x/\ys[i]?=some y,
   fun i H=>∃xs ys,qE ka K H a xs/\qE kb K H b ys/\(xs.length<=i\/ys.length<=i)⟩
def sD{ka kb:Bool}{P:Program}{w:World}{K:Vo}{elts:List Expr}{k0:Nat}{EV:Pos}{z TI TO i1 i2 a b:Addr}(D:ZipApart z TI TO i1 i2 a b) :
  lh P w K (.Tuple elts k0 EV) (BU ka kb K a b) [z,TI,TO,i1,i2] z (fun i h=>IsZip h z TI TO .none/\IsPair h TI (.ref i1) (.ref i2)/\(∃x y,IsPair h TO x y)/\Zt.Si ka h i1 a i/\Zt.Si kb h i2 b i) where
 mem:=by simp
 obj:=fun i h st c hc=>by
  obtain⟨gz,gI,⟨x,y,gO⟩,g1,g2⟩:=st
  obtain⟨o1,_,e1,d1⟩:=g1.ob;obtain⟨o2,_,e2,d2⟩:=g2.ob
  simp only[List.mem_cons,List.not_mem_nil,or_false]at hc
  rcases hc with rfl|rfl|rfl|rfl|rfl
  ·exact⟨_,gz,fun v q=>by cases q⟩
  ·exact⟨_,gI,fun v q=>by cases q⟩
  ·exact⟨_,gO,fun v q=>by cases q⟩
  ·exact⟨_,e1,fun v q=>by rw[d1]at q;cases q⟩
  ·exact⟨_,e2,fun v q=>by rw[d2]at q;cases q⟩
 keep:=fun i h h' st k=>by
  obtain⟨gz,gI,⟨x,y,gO⟩,g1,g2⟩:=st
  exact⟨k z (by simp) _ gz,k TI (by simp) _ gI,⟨x,y,k TO (by simp) _ gO⟩,g1.at fun o e=>k i1 (by simp) o e,g2.at fun o e=>k i2 (by simp) o e⟩
 item:=by
  intro X hP hw hK hc i pins s σ H E I hf st hg
  subst hP hw hK
  obtain⟨gz,gI,⟨ta,tb,gO⟩,g1,g2⟩:=st
  obtain⟨xs,ys,x,y,Gx,IJ,hx,hy⟩:=hg
  obtain⟨ia,ra,pa⟩:=I.GE Gx
  obtain⟨ib,rb,pb⟩:=I.GE IJ
  obtain⟨u,hu,ru⟩:=ra.get hx
  obtain⟨v,hv,rv⟩:=rb.get hy
  refine Zt.qD D gz gI gO g1 g2 pa pb (x:=u) (y:=v) (by simpa using hu) (by simpa using hv) fun g a1 a2 a3 a4 a5 a6=>?_
  refine⟨_,rfl,wpAny_letOwnedTupleGo_zip (s:={ s with heap:=g }) a1 fun g' z' q'=>?_⟩
  have kk:∀c o,c ∉ [z,TI,TO,i1,i2]->s.heap.get? c=some o->g'.get? c=some o:=fun c o hc e=>by
   simp only[List.mem_cons,List.not_mem_nil,or_false,not_or]at hc
   exact q'.extBut _ _ hc.1 (a6 c o hc.1 hc.2.2.1 hc.2.2.2.1 hc.2.2.2.2 e)
  have I1:Inv X pins σ H { s with heap:=g' }:=I.EQ (t':=s.toks) kk hf
  have f0:fB X pins H s.heap.objs.size:=I.Fr (Nat.le_refl _) (I.hok.fresh (Nat.le_refl _))
  have eT:Ea g' s.heap.objs.size [u,v].toArray:=⟨_,q'.extBut _ _ (Nat.ne_of_gt (Heap.lt_size gz)) a5,rfl,rfl,_,rfl⟩
  have I2:=I1.Gh f0 eT (.cons ru (.cons rv .nil)) (by show 2<=sizeLine;decide)
  refine⟨.ref s.heap.objs.size,_,I2,rfl,⟨s.heap.objs.size,x,y,rfl,f0.1,rfl,fun xs' ys' h1 h2=>by rw[I.F7 h1 Gx,I.F7 h2 IJ];exact⟨hx,hy⟩⟩,
   ⟨z',q'.extBut _ _ D.TIz (a6 TI _ D.TIz D.TITO D.TIi1 D.TIi2 gI),⟨_,_,q'.extBut _ _ D.TOz a2⟩,a3.extBut q'.extBut D.i1z,a4.extBut q'.extBut D.i2z⟩,fun c hc=>?_⟩
  have hlt:c < s.heap.objs.size:=by
   obtain⟨_,_,e1,_⟩:=g1.ob
   obtain⟨_,_,e2,_⟩:=g2.ob
   simp only[List.mem_cons,List.not_mem_nil,or_false]at hc
   rcases hc with rfl|rfl|rfl|rfl|rfl
   ·exact Heap.lt_size gz
   ·exact Heap.lt_size gI
   ·exact Heap.lt_size gO
   ·exact Heap.lt_size e1
   ·exact Heap.lt_size e2
  rw[az (Nat.ne_of_lt hlt)]
  exact(hf c hc).1
 done:=by
  intro X hP hw hK hc i pins s σ H E I hf st hg
  subst hP hw hK
  obtain⟨gz,gI,⟨ta,tb,gO⟩,g1,g2⟩:=st
  obtain⟨xs,ys,Gx,IJ,hl⟩:=hg
  obtain⟨ia,ra,pa⟩:=I.GE Gx
  obtain⟨ib,rb,pb⟩:=I.GE IJ
  have la:=ra.length
  have lb:=rb.length
  refine Zt.sC (I.ok.hd hc) D gz gI gO g1 g2 pa pb ?_ fun g kk=>⟨rfl,I.EQ (t':=s.toks) (fun c o hc e=>?_) hf⟩
  ·rcases hl with q|q
   ·exact .inl (by simp;omega)
   ·exact .inr (by simp;omega)
  ·simp only[List.mem_cons,List.not_mem_nil,or_false,not_or]at hc
   exact kk c o hc.1 hc.2.2.1 hc.2.2.2.1 hc.2.2.2.2 e
 self:=fun _ _ _ _ _ st h=>wpAny_pyIter_zip st.1 h
section
variable {X:Cx}
def BV(K:Vo)(ta:TA):TI:=fun σ H R=>ta σ H fun vs H1=>∃ka kb a b,vs=[.ref a,.ref b]/\(∃xs,qE ka K H1 a xs)/\(∃ys,qE kb K H1 b ys)/\R (BU ka kb K a b) H1
def sE{elts:List Expr}{k0:Nat}{EV:Pos}{a b:Expr}{ta:TA}{p pos:Pos}(hg:Gl X "zip")(hm:X.mg "zip" = none)(hv:bootBuiltins "zip" = some (.type "zip"))(ha:PA X [a,b] ta)
  (hs:starEach [a,b] X.env=[(false,eval a X.env),(false,eval b X.env)]:=by rfl) (hs2:starEach [b] X.env=[(false,eval b X.env)]:=by rfl):PI X (.Tuple elts k0 EV) (.Call (.Name "zip" p) [a,b] [] pos) (BV X.K ta):=by
 intro pins s σ H R I h
 refine Call_ (eX I hg hm hv (PyProof.Rows.callWith_type1 (bA (ha pos pins s σ H _ I h) fun us s1 ⟨vs,H1,I1,r1,q1⟩=>?_) (by rw[hs,hs2]) (by rw[hs2];rfl)))
 obtain⟨ka,kb,a,b,e,⟨xs,qa⟩,⟨ys,qb⟩,q⟩:=q1
 subst e
 obtain⟨u,v,rfl,ru,rv⟩:=wu r1
 cases ru
 cases rv
 obtain⟨ia,ra,pa⟩:=I1.GE qa
 obtain⟨ib,rb,pb⟩:=I1.GE qb
 have la:a < s1.heap.objs.size:=pa.lt
 have lb:b < s1.heap.objs.size:=pb.lt
 refine Zt.jM pa pb fun g gz gI gO g1 g2 kk=>?_
 refine wpAny_pyIter_zip (s:={ s1 with heap:=g }) gz ?_
 refine⟨_,[s1.heap.objs.size+4,s1.heap.objs.size+2,s1.heap.objs.size+3,s1.heap.objs.size,s1.heap.objs.size+1],_,_,H1,rfl,I1.kept (t':=s1.toks) kk,sD (zipApart_new la lb),⟨gz,gI,⟨_,_,gO⟩,g1,g2⟩,fun c hc=>?_,q⟩
 have hle:s1.heap.objs.size<=c:=by
  simp only[List.mem_cons,List.not_mem_nil,or_false]at hc
  rcases hc with rfl|rfl|rfl|rfl|rfl
  ·exact Nat.le_add_right _ _
  ·exact Nat.le_add_right _ _
  ·exact Nat.le_add_right _ _
  ·exact Nat.le_refl _
  ·exact Nat.le_add_right _ _
 exact I1.Fr hle (I1.hok.fresh hle)
end
section
variable {env:Env} {rest:List Expr} {pos:Pos}
def qF{a:Expr}{gs:List Comprehension}{sc:Scope}:starEach (.ListComp a gs sc pos::rest) env=(false,eval (.ListComp a gs sc pos) env)::starEach rest env:=rfl
end
section
variable {X:Cx} {pos:Pos} {es:List Expr} {te:TE} {t:TA}
end
section
variable {X:Cx} {pos:Pos} {e:Expr} {es:List Expr} {te:TE} {t:TA}
end
section
variable {X:Cx} {pos:Pos} {a b e tg iter:Expr} {es:List Expr} {ta tb' te:TE} {t:TA} {st:Stmt} {sts:List Stmt} {u v tb:TS}
end
noncomputable def BW(K:Vo)(a:Addr):It:=
  ⟨fun i H=>∃xs x,SqL K H a xs/\xs[i]?=some x,
   fun i H v H'=>∃p x,v = .ref p/\H p=none/\H'=upd H p (.tup [.int (i:Nat),x])/\∀xs,SqL K H a xs->xs[i]?=some x,
   fun i H=>∃xs,SqL K H a xs/\xs.length<=i⟩
def qG{P:Program}{w:World}{K:Vo}{elts:List Expr}{k0:Nat}{EV:Pos}{e it a:Addr}(hei:e≠it) :
  lh P w K (.Tuple elts k0 EV) (BW K a) [e,it] e (fun i h=>(∃old,IsEnum h e it i old)/\h.IsListIter it a i) where
 mem:=by simp
 obj:=fun i h st c hc=>by
  obtain⟨⟨old,ge⟩,⟨o1,e1,_,d1⟩⟩:=st
  simp only[List.mem_cons,List.not_mem_nil,or_false]at hc
  rcases hc with rfl|rfl
  ·exact⟨_,ge,fun v q=>by cases q⟩
  ·exact⟨_,e1,fun v q=>by rw[d1]at q;cases q⟩
 keep:=fun i h h' st k=>by
  obtain⟨⟨old,ge⟩,g1⟩:=st
  exact⟨⟨old,k e (by simp) _ ge⟩,g1.at fun o q=>k it (by simp) o q⟩
 item:=by
  intro X hP hw hK hc i pins s σ H E I hf st hg
  subst hP hw hK
  obtain⟨⟨old,ge⟩,g1⟩:=st
  obtain⟨xs,x,Gx,hx⟩:=hg
  obtain⟨ia,ra,pa,za⟩:=I.list Gx
  obtain⟨u,hu,ru⟩:=ra.get hx
  refine wpAny_pyNext_enum_item ge g1 pa.isList (x:=u) (by simpa using hu) hei fun g a1 a2 a3 a4 a5=>?_
  refine⟨_,rfl,wpAny_letOwnedTupleGo_enum (s:={ s with heap:=g,toks:=s.toks+1 }) a1 fun g' z' q'=>?_⟩
  have kk:∀c o,c ∉ [e,it]->s.heap.get? c=some o->g'.get? c=some o:=fun c o hc q=>by
   simp only[List.mem_cons,List.not_mem_nil,or_false,not_or]at hc
   exact(q'.2 c hc.1).trans (a5 c o hc.1 hc.2 q)
  have I1:Inv X pins σ H { s with heap:=g',toks:=s.toks+1 }:=I.EQ kk hf
  have f0:fB X pins H s.heap.objs.size:=I.Fr (Nat.le_refl _) (I.hok.fresh (Nat.le_refl _))
  have Jw:s.heap.objs.size≠e:=Nat.ne_of_gt (Heap.lt_size ge)
  have eT:Ea g' s.heap.objs.size [Value.int i s.toks,u].toArray:=⟨_,(q'.2 _ Jw).trans a3,rfl,rfl,_,rfl⟩
  have I2:=I1.Gh (ys:=[.int i,x]) f0 eT (.cons ⟨_,rfl⟩ (.cons ru .nil)) (by show 2<=sizeLine;decide)
  refine⟨.ref s.heap.objs.size,_,I2,rfl,⟨s.heap.objs.size,x,rfl,f0.1,rfl,fun xs' h1=>by rw[I.Fu h1 Gx];exact hx⟩,⟨⟨u,by simpa using z'⟩,a2.at fun o q=>(q'.2 it hei.symm).trans q⟩,fun c hc=>?_⟩
  have hlt:c < s.heap.objs.size:=by
   obtain⟨o1,e1,_⟩:=g1
   simp only[List.mem_cons,List.not_mem_nil,or_false]at hc
   rcases hc with rfl|rfl
   ·exact Heap.lt_size ge
   ·exact Heap.lt_size e1
  rw[az (Nat.ne_of_lt hlt)]
  exact(hf c hc).1
 done:=by
  intro X hP hw hK hc i pins s σ H E I hf st hg
  subst hP hw hK
  obtain⟨⟨old,ge⟩,g1⟩:=st
  obtain⟨xs,Gx,hl⟩:=hg
  obtain⟨ia,ra,pa,za⟩:=I.list Gx
  have la:=ra.length
  refine wpAny_pyNext_enum_end (I.ok.hd hc) ge g1 pa.isList (by simp;omega) fun g kk=>⟨rfl,I.EQ (t':=s.toks) (fun c o hc q=>?_) hf⟩
  simp only[List.mem_cons,List.not_mem_nil,or_false,not_or]at hc
  exact kk c o hc.2 q
 self:=fun _ _ _ _ _ st h=>by
  obtain⟨⟨old,ge⟩,_⟩:=st
  exact wpAny_pyIter_enum ge h
section
variable {X:Cx}
end
end L2
namespace Et
open PySem
open Sem (wp)
open AutoSeq1 (wpAny_loadPart')
def wA{P:Program}{w:World}{A:Around}(hh:A.handled=none)(it t:Addr)(hne:t≠it)(its:Vw) :
  Draws P w A it [it,t] its.size (fun i v=>its[i]?=some v) (fun i h=>h.IsTupleIter it t i/\h.IsTuple t its) where
 live:=fun i h st=>let ⟨⟨o,e,_⟩,_⟩:=st;⟨o,e⟩
 frame:=fun i h h' st k=>⟨st.1.at fun o e=>k it (by simp) o e,let ⟨o,e,r⟩:=st.2;⟨o,k t (by simp) o e,r⟩⟩
 item:=fun i s Q E hi st hQ=>Zt.nx st.1 st.2 (Array.getElem?_eq_getElem hi) fun g a b=>hQ _ g s.toks (Array.getElem?_eq_getElem hi) ⟨a,st.2.extBut b.extBut hne⟩ b
 done:=fun s Q E st hE=>Zt.Cy hh st.1 st.2 (Array.getElem?_eq_none (Nat.le_refl _)) hE
noncomputable abbrev E1(h:Heap)(l:Addr):Heap:=h.push { cls:=.type "tuple_iterator",data:=.fields #[.ref l,.int 0 0] }
noncomputable abbrev E2(h:Heap)(l:Addr):Heap:=(E1 h l).push { cls:=.type "enumerate",data:=.fields #[.none,.bool false,.ref h.objs.size,rawInt 0,.none,.none] }
def iG(l:Addr)(its:Vw)(n:Nat)(dct:Option Addr)(sl:Array (Option Value)) :
  Meets (Builtin.«enumerate.__new__» ⟨[.type "enumerate",.ref l],[]⟩) (fun _ R s=>s.heap.get? l=some { cls:=.type "tuple",dict:=dct,data:=.seq its n,slots:=sl }/\R (.ok (.ret (.ref (E1 s.heap l).objs.size))) { s with heap:=E2 s.heap l }):=
 .of_wp fun prog w A R s h=>by
  obtain⟨hp,g,d,tk,os⟩:=s;obtain⟨hl,h⟩:=h
  have hsub:=sub_enumerate
  have T:Heap.IsTuple (Shared.heap ⟨hp,g,d,tk,os⟩) l its:=⟨_,hl,rfl,n,rfl⟩
  wp_walk using wpAny_loadPart' hl
  refine wpAny_stack_any fun st=>wpAny_pure ?_
  split
  ·rename_i c _ _ _ _ _
   cases (c == Value.type "enumerate")
   ·wp_walk using wpAny_loadPart' hl,wpAny_pyIter_tuple T
    exact⟨_,rfl,h⟩
   ·wp_walk using wpAny_loadPart' hl,wpAny_pyIter_tuple T
    exact⟨_,rfl,h⟩
  ·wp_walk using wpAny_loadPart' hl,wpAny_pyIter_tuple T
   exact⟨_,rfl,h⟩
def jM{P:Program}{w:World}{A:Around}{E:Vq}{s:Shared}{l:Addr}{its:Vw}{Q:Vq}(hT:s.heap.IsTuple l its)
  (k:∀g,IsEnum g (s.heap.objs.size+1) s.heap.objs.size 0 .none->g.IsTupleIter s.heap.objs.size l 0->(∀b o,s.heap.get? b=some o->g.get? b=some o)->Q (.ref (s.heap.objs.size+1)) { s with heap:=g }) :
  wpAny (model P w) A (call (.type "enumerate") [.ref l]) Q E s:=by
 obtain⟨⟨c,dct,dt,sl⟩,hl,hc,n,hd⟩:=hT
 replace hc:c = .type "tuple":=hc
 replace hd:dt = .seq its n:=hd
 subst hc hd
 refine callType_new F.called_enumerate (by decide) (F.typeCall_enumerate_1 _) (F.newCall_enumerate_1 _) (fun obj=>F.args_object_init_2 obj _) F.entry_enumerate_new (iG l its n dct sl) ⟨hl,?_⟩
 have hz:(E1 s.heap l).objs.size=s.heap.objs.size+1:=Heap.size_push ..
 show _/\_
 rw[hz]
 have he:IsEnum (E2 s.heap l) (s.heap.objs.size+1) s.heap.objs.size 0 .none:=by
  have q:=Heap.get?_push_size (E1 s.heap l) (o:={ cls:=.type "enumerate",data:=.fields #[.none,.bool false,.ref s.heap.objs.size,rawInt 0,.none,.none] }) rfl
  rw[hz]at q
  exact q
 exact⟨⟨_,he,rfl⟩,k _ he ⟨_,Heap.get?_push_of_some _ (Heap.get?_push_size _ rfl),rfl,rfl⟩ fun b o x=>Heap.get?_push_of_some _ (Heap.get?_push_of_some _ x)⟩
end Et
namespace L2
open PySem PySem.Spec PyProof.Rows
noncomputable def BX(K:Vo)(a:Addr):It:=
  ⟨fun i H=>∃xs x,SqT K H a xs/\xs[i]?=some x,
   fun i H v H'=>∃p x,v = .ref p/\H p=none/\H'=upd H p (.tup [.int (i:Nat),x])/\∀xs,SqT K H a xs->xs[i]?=some x,
   fun i H=>∃xs,SqT K H a xs/\xs.length=i⟩
def nW{P:Program}{w:World}{K:Vo}{elts:List Expr}{k0:Nat}{EV:Pos}{e it a:Addr}(hei:e≠it)(KR:a≠e)(hai:a≠it) :
  lh P w K (.Tuple elts k0 EV) (BX K a) [e,it] e (fun i h=>(∃old,IsEnum h e it i old)/\h.IsTupleIter it a i) where
 mem:=by simp
 obj:=fun i h st c hc=>by
  obtain⟨⟨old,ge⟩,⟨o1,e1,_,d1⟩⟩:=st
  simp only[List.mem_cons,List.not_mem_nil,or_false]at hc
  rcases hc with rfl|rfl
  ·exact⟨_,ge,fun v q=>by cases q⟩
  ·exact⟨_,e1,fun v q=>by rw[d1]at q;cases q⟩
 keep:=fun i h h' st k=>by
  obtain⟨⟨old,ge⟩,g1⟩:=st
  exact⟨⟨old,k e (by simp) _ ge⟩,g1.at fun o q=>k it (by simp) o q⟩
 item:=by
  intro X hP hw hK hc i pins s σ H E I hf st hg
  subst hP hw hK
  obtain⟨⟨old,ge⟩,g1⟩:=st
  obtain⟨xs,x,Gx,hx⟩:=hg
  obtain⟨ia,ra,pa,za⟩:=I.tuple Gx
  obtain⟨u,hu,ru⟩:=ra.get hx
  have hil:i < ia.toArray.size:=by
   rcases Nat.lt_or_ge i ia.length with q|q
   ·simpa using q
   ·rw[List.getElem?_eq_none q]at hu;cases hu
  refine wpAny_pyNext_enum_itemD (Et.wA (P:=X.prog) (w:=X.w) (A:=X.A.in1) (I.ok.hd hc) it a hai ia.toArray) ge ⟨g1,(show s.heap.IsTuple a ia.toArray from pa)⟩ hil hei (by simp[hei,Ne.symm KR]) fun v g tk hv a1 a2 a3 a4 a5=>?_
  have ev:v=u:=by
   have q:ia[i]?=some v:=by simpa using hv
   rw[q]at hu
   exact Option.some.inj hu
  subst ev
  refine⟨_,rfl,wpAny_letOwnedTupleGo_enum (s:={ s with heap:=g,toks:=tk+1 }) a1 fun g' z' q'=>?_⟩
  have kk:∀c o,c ∉ [e,it]->s.heap.get? c=some o->g'.get? c=some o:=fun c o hc q=>by
   simp only[List.mem_cons,List.not_mem_nil,or_false,not_or]at hc
   exact(q'.2 c hc.1).trans (a5 c o hc.1 hc.2 q)
  have I1:Inv X pins σ H { s with heap:=g',toks:=tk+1 }:=I.EQ kk hf
  have f0:fB X pins H s.heap.objs.size:=I.Fr (Nat.le_refl _) (I.hok.fresh (Nat.le_refl _))
  have Jw:s.heap.objs.size≠e:=Nat.ne_of_gt (Heap.lt_size ge)
  have eT:Ea g' s.heap.objs.size [Value.int i tk,v].toArray:=⟨_,(q'.2 _ Jw).trans a3,rfl,rfl,_,rfl⟩
  have I2:=I1.Gh (ys:=[.int i,x]) f0 eT (.cons ⟨_,rfl⟩ (.cons ru .nil)) (by show 2<=sizeLine;decide)
  refine⟨.ref s.heap.objs.size,_,I2,rfl,⟨s.heap.objs.size,x,rfl,f0.1,rfl,fun xs' h1=>by rw[I.Ff h1 Gx];exact hx⟩,⟨⟨v,by simpa using z'⟩,a2.1.at fun o q=>(q'.2 it hei.symm).trans q⟩,fun c hc=>?_⟩
  have hlt:c < s.heap.objs.size:=by
   obtain⟨o1,e1,_⟩:=g1
   simp only[List.mem_cons,List.not_mem_nil,or_false]at hc
   rcases hc with rfl|rfl
   ·exact Heap.lt_size ge
   ·exact Heap.lt_size e1
  rw[az (Nat.ne_of_lt hlt)]
  exact(hf c hc).1
 done:=by
  intro X hP hw hK hc i pins s σ H E I hf st hg
  subst hP hw hK
  obtain⟨⟨old,ge⟩,g1⟩:=st
  obtain⟨xs,Gx,hl⟩:=hg
  obtain⟨ia,ra,pa,za⟩:=I.tuple Gx
  have la:=ra.length
  have ei:i=ia.toArray.size:=by simp;omega
  subst ei
  refine wpAny_pyNext_enum_endD (Et.wA (P:=X.prog) (w:=X.w) (A:=X.A.in1) (I.ok.hd hc) it a hai ia.toArray) ge ⟨g1,(show s.heap.IsTuple a ia.toArray from pa)⟩ fun g kk=>⟨rfl,I.EQ (t':=s.toks) (fun c o hc q=>?_) hf⟩
  simp only[List.mem_cons,List.not_mem_nil,or_false,not_or]at hc
  exact kk c o hc.2 q
 self:=fun _ _ _ _ _ st h=>by
  obtain⟨⟨old,ge⟩,_⟩:=st
  exact wpAny_pyIter_enum ge h
section
variable {X:Cx}
def yg:gf X (compareOp .Is) (fun x y H Q=>x = .bl true/\y = .bl true/\Q (.bl true) H):=by
 intro pins s σ H x y v u Q I rx ry h
 obtain⟨rfl,rfl,q⟩:=h
 cases (show v=Value.bool true from rx)
 cases (show u=Value.bool true from ry)
 exact wpAny_is_self rfl ⟨.bl true,H,I,rfl,q⟩
def qH:gf X (compareOp .IsNot) (fun x y H Q=>x = .bl true/\y = .bl true/\Q (.bl false) H):=by
 intro pins s σ H x y v u Q I rx ry h
 obtain⟨rfl,rfl,q⟩:=h
 cases (show v=Value.bool true from rx)
 cases (show u=Value.bool true from ry)
 exact wpAny_isNot_self rfl ⟨.bl false,H,I,rfl,q⟩
end
end L2
namespace Wd
open PySem L2 PyProof.Rows
end Wd
namespace M3
noncomputable def aH(t b:Int):Int:=(if b < 0 then -t else t) / (Int.gcd t b:Int)
noncomputable def aG(t b:Int):Int:=(if b < 0 then -b else b) / (Int.gcd t b:Int)
def e8{t b:Int}(h:b≠0):0 < Int.gcd t b:=Nat.gcd_pos_of_pos_right _ (by omega)
def nX{t b:Int}(h:b≠0):(Int.gcd t b:Int)<=b.natAbs:=by
 have q:Nat.gcd t.natAbs b.natAbs<=b.natAbs:=Nat.gcd_le_right _ (by omega)
 have e:Int.gcd t b=Nat.gcd t.natAbs b.natAbs:=rfl
 omega
def sF(t b:Int):Int.gcd (-t) (-b)=Int.gcd t b:=by rw[Int.gcd_neg,Int.neg_gcd]
def wB(t b:Int):∃x y:Int,t=(Int.gcd t b:Int) * x/\b=(Int.gcd t b:Int) * y:=by
 obtain⟨x,hx⟩:=Int.gcd_dvd_left t b
 obtain⟨y,hy⟩:=Int.gcd_dvd_right t b
 exact⟨x,y,hx,hy⟩
def nY{t b x y g:Int}(hg:g=(Int.gcd t b:Int))(h:b≠0)(ht:t=g * x)(hb:b=g * y):aH t b=(if y < 0 then -x else x)/\aG t b=(if y < 0 then -y else y):=by
 have gp:0 < g:=by rw[hg];exact Int.natCast_pos.mpr (e8 h)
 have hy:b < 0↔y < 0:=by
  rw[hb]
  constructor
  ·intro q
   by_cases z:y < 0
   ·exact z
   ·have:=Int.mul_nonneg (Int.le_of_lt gp) (Int.not_lt.mp z)
    omega
  ·intro q
   exact Int.mul_neg_of_pos_of_neg gp q
 unfold aH aG
 rw[<-hg]
 by_cases z:y < 0
 ·rw[if_pos (hy.mpr z),if_pos (hy.mpr z),if_pos z,if_pos z]
  constructor
  ·rw[ht,<-Int.mul_neg,Int.mul_ediv_cancel_left _ (by omega)]
  ·rw[hb,<-Int.mul_neg,Int.mul_ediv_cancel_left _ (by omega)]
 ·rw[if_neg (fun q=>z (hy.mp q)),if_neg (fun q=>z (hy.mp q)),if_neg z,if_neg z]
  constructor
  ·rw[ht,Int.mul_ediv_cancel_left _ (by omega)]
  ·rw[hb,Int.mul_ediv_cancel_left _ (by omega)]
def vt{t b x y:Int}(h:b≠0)(ht:t=(Int.gcd t b:Int) * x)(hb:b=(Int.gcd t b:Int) * y):Int.gcd x y=1:=by
 have gp:=e8 (t:=t) h
 have q:Int.gcd ((Int.gcd t b:Int) * x) ((Int.gcd t b:Int) * y)=(Int.gcd t b:Int).natAbs * Int.gcd x y:=Int.gcd_mul_left _ _ _
 rw[<-ht,<-hb,Int.natAbs_natCast]at q
 have q2:Int.gcd t b * 1=Int.gcd t b * Int.gcd x y:=by omega
 exact(Nat.eq_of_mul_eq_mul_left gp q2).symm
structure zk (a b:Int):Prop where
 pos:0 < b
 one:Int.gcd a b=1
def dX{t b:Int}(h:b≠0):zk (aH t b) (aG t b):=by
 obtain⟨x,y,ht,hb⟩:=wB t b
 have c:=vt h ht hb
 obtain⟨e1,e2⟩:=nY rfl h ht hb
 have y0:y≠0:=fun z=>h (by rw[hb,z,Int.mul_zero])
 rw[e1,e2]
 by_cases z:y < 0
 ·rw[if_pos z,if_pos z]
  exact⟨by omega,by rw[sF];exact c⟩
 ·rw[if_neg z,if_neg z]
  exact⟨by omega,c⟩
def jN{a b x y:Int}(L:zk a b)(hy:0 < y)(e:x * b=a * y):aH x y=a/\aG x y=b:=by
 have b0:=L.pos
 have d1:b.natAbs ∣ a.natAbs * y.natAbs:=by
  rw[<-Int.natAbs_mul,<-e,Int.natAbs_mul]
  exact Nat.dvd_mul_left _ _
 have c:Nat.Coprime b.natAbs a.natAbs:=by
  show Nat.gcd b.natAbs a.natAbs=1
  rw[Nat.gcd_comm]
  exact L.one
 obtain⟨k,hk⟩:=Int.natAbs_dvd_natAbs.mp (c.dvd_of_dvd_mul_left d1)
 have k0:0 < k:=by
  by_cases z:0 < k
  ·exact z
  ·have:=Int.mul_nonneg (Int.le_of_lt b0) (show 0 <= -k by omega)
   rw[Int.mul_neg]at this
   omega
 have hx:x=a * k:=by
  have q:x * b=a * k * b:=by rw[e,hk,Int.mul_assoc,Int.mul_comm k b]
  exact Int.eq_of_mul_eq_mul_right (by omega) q
 have g:(Int.gcd x y:Int)=k:=by
  rw[hx,hk,Int.gcd_mul_right,L.one,Nat.one_mul]
  omega
 have q:=nY (g:=k) (x:=a) (y:=b) (t:=x) (b:=y) g.symm (by omega) (by rw[hx,Int.mul_comm]) (by rw[hk,Int.mul_comm])
 rw[if_neg (by omega),if_neg (by omega)]at q
 exact q
def sG{a b:Int}(L:zk a b):aH a b=a/\aG a b=b:=jN L L.pos rfl
def a_{t b:Int}(h:b≠0):aH t b * b=t * aG t b:=by
 obtain⟨x,y,ht,hb⟩:=wB t b
 obtain⟨e1,e2⟩:=nY rfl h ht hb
 rw[e1,e2]
 have q:x * b=t * y:=by
  have e3:x * ((Int.gcd t b:Int) * y)=(Int.gcd t b:Int) * x * y:=by rw[<-Int.mul_assoc,Int.mul_comm x]
  rw[<-ht,<-hb]at e3
  exact e3
 by_cases z:y < 0
 ·rw[if_pos z,if_pos z,Int.neg_mul,Int.mul_neg,q]
 ·rw[if_neg z,if_neg z]
  exact q
def yh{g x y:Int}(h:g≠0)(e:x * g=y * g):x=y:=Int.eq_of_mul_eq_mul_right h e
def mF{t b:Int}(h:b≠0):t.fdiv (if b < 0 then -(Int.gcd t b:Int) else (Int.gcd t b:Int))=aH t b/\b.fdiv (if b < 0 then -(Int.gcd t b:Int) else (Int.gcd t b:Int))=aG t b:=by
 have gp:(0:Int) < (Int.gcd t b:Int):=Int.natCast_pos.mpr (e8 h)
 have d1:=Int.gcd_dvd_left t b
 have d2:=Int.gcd_dvd_right t b
 unfold aH aG
 by_cases z:b < 0
 ·rw[if_pos z,if_pos z,if_pos z,Int.fdiv_neg (by omega),if_pos d1,Int.fdiv_neg (by omega),if_pos d2,Int.fdiv_eq_ediv_of_dvd d1,Int.fdiv_eq_ediv_of_dvd d2,Int.neg_ediv_of_dvd d1,Int.neg_ediv_of_dvd d2]
  exact⟨rfl,rfl⟩
 ·rw[if_neg z,if_neg z,if_neg z,Int.fdiv_eq_ediv_of_dvd d1,Int.fdiv_eq_ediv_of_dvd d2]
  exact⟨rfl,rfl⟩
def mG(x y:Int):Int.gcd y (x.fmod y)=Int.gcd x y:=by
 have q:=Int.mul_fdiv_add_fmod x y
 have e:Int.gcd y (x.fmod y+x.fdiv y * y)=Int.gcd y (x.fmod y):=Int.gcd_add_mul_right_right _ _ _
 rw[<-e,Int.mul_comm (x.fdiv y) y,Int.add_comm,q,Int.gcd_comm]
def hJ{t b T B:Int}(h:b≠0)(h1:-T<=t)(h2:t<=T)(h3:-B<=b)(h4:b<=B)(hT:0<=T)(hB:0<=B):-T<=aH t b/\aH t b<=T/\0 < aG t b/\aG t b<=B:=by
 have gp:(0:Int) < (Int.gcd t b:Int):=Int.natCast_pos.mpr (e8 h)
 have L:=(dX (t:=t) h).pos
 have key:∀z M:Int,0<=M->-M<=z->z<=M->-M<=z / (Int.gcd t b:Int)/\z / (Int.gcd t b:Int)<=M:=fun z M hM z1 z2=>by
  generalize (Int.gcd t b:Int)=g at gp
  have m2:M * 1<=M * g:=Int.mul_le_mul_of_nonneg_left (by omega) hM
  have m3:-M * g = -(M * g):=Int.neg_mul M g
  exact⟨Int.le_ediv_of_mul_le gp (by omega),Int.ediv_le_of_le_mul gp (by omega)⟩
 have k1:=key (if b < 0 then -t else t) T hT (by split<;>omega) (by split<;>omega)
 have k2:=key (if b < 0 then -b else b) B hB (by split<;>omega) (by split<;>omega)
 exact⟨k1.1,k1.2,L,k2.2⟩
end M3
namespace Xc
open PySem PySem.W PySem.Calls PyProof.Rows Builtin Builtin.ObjectAttr
section
variable {prog:Program} {w:World} {A:Around} {K:Frag} {C f:Addr} {R:Result->Shared->Prop} {h:Heap} {g:Array GenState} {d:Drawn} {t:Nat} {os:OsState}
end
structure BY (h:Heap) (e:Addr) (oe:Obj) (vs:Vw):Prop where
 at_:h.get? e=some oe
 dat:oe.data = .fields vs
 tb:vs[1]?=some .none\/∃T oT ts,vs[1]?=some (.ref T)/\T≠e/\h.get? T=some oT/\oT.data = .fields ts/\ts[3]?=some .none
section
variable {M:Model} {A:Around} {E:Vq} {s:Shared}
end
section
variable {M:Model} {A:Around} {E:Vq} {env:Env} {K:Frag} {C:Addr}
end
section
variable {prog:Program} {w:World} {A:Around} {E:Vq} {s:Shared} {K:Frag} {x C:Addr} {ox:Obj} {od:Option Obj} {name:Str} {expr:Bool} {Q:Vq}
end
section
variable {prog:Program} {w:World} {A:Around} {E:Vq} {s:Shared} {K:Frag} {x C:Addr} {ox:Obj} {od:Option Obj} {name:Str} {v:Value} {R:Result->Shared->Prop}
end
end Xc
namespace L2
open PySem PySem.Spec PyProof.Rows Xc
def CO(X:Cx)(pins:Va)(H:Hp)(h:Heap)(a C dx:Addr):Prop:=
 ∃oe vs,BY h a oe vs/\oe.cls = .ref C/\oe.dict=some dx/\fB X pins H a/\∀T,vs[1]?=some (.ref T)->fB X pins H T
section
variable {X:Cx} {pins:Va} {σ:St} {H H':Hp} {s s':Shared} {a C dx:Addr}
end
section
variable {X:Cx} {k:Nat} {f C:Addr} {fd:FuncData} {ps:Vs} {sp:Sp} {x m:Str} {p pos apos:Pos} {e o:Expr} {es:List Expr} {ta:TE} {t:TA}
end
def XD(dx:Addr)(fs:List (Str×V))(h:Heap):Prop:=∃mA,h.Ns1 dx mA/\(∀f,RelO (fs.lookup f) (mA f))/\PySem.Within mA (fs.map (·.1))
section
variable {X:Cx} {pins:Va} {σ:St} {H:Hp} {s:Shared}
end
section
variable {X:Cx} {o value:Expr} {f:Str} {pos pos':Pos} {ta tv:TE}
end
section
variable {P:Program} {w:World} {K:Vo} {mg:Vr} {base:Heap}
end
section
variable {X:Cx} {f C:Addr} {fd:FuncData} {ps ks:Vs} {x:Str} {p cpos pos:Pos} {e:Expr} {es:List Expr} {t:TA}
end
section
variable {X:Cx} {pins Gu:Va} {σ:St} {H H':Hp} {s s':Shared} {E:Vq}
end
section
variable {X:Cx} {pins Gu:Va} {σ:St} {H:Hp} {s':Shared} {E:Vq} {a C dx Dc:Addr} {i:Nat} {n x:Str} {np hpos:Pos} {b₀:Stmt} {suite:List Stmt} {th:Addr->TS} {D:kj}
end
end L2
namespace L3
open PySem L2
inductive PV where
 |non|bl (b:Bool)|int (i:Int)|str (x:Str)|tup (xs:List PV)|cl (xs:List PV)|ref (a:Addr)|ty (n:String)|exc (c:Str) (ks:Vs) (ps:List PV)|cls (c:Str)
def HM(K:Vo)(H:Hp)(a:Addr)(xs:List V):Prop:=
 (∃o,H a=some (.frz o (.lst xs))) \/
  ∃(o:Obj) (its:Vw) (n:Nat),K.lookup a=some o/\o.cls = .type "list"/\o.dict=none/\o.data = .seq its n/\its.size<=sizeLine/\Vals xs its.toList
def HM.sq{K:Vo}{H:Hp}{a:Addr}{xs:List V}(h:HM K H a xs):SqL K H a xs:=h.elim (fun z=>.inl (.inr z)) .inr
def IK(H:Hp)(a C:Addr)(ks:Vs)(vs:List V):Prop:=
 ∃oe dx od,H a=some (.frz oe (.ext fun _=>True))/\oe.cls = .ref C/\oe.dict=some dx/\(∀c,oe.data ≠ .cls c)/\H dx=some (.frz od (.ext (XD dx (ks.zip vs))))
def ClsN(K:Vo)(c:Str)(C:Addr):Prop:=PySem.W.nsIn K mainGlobals c=some (some (.ref C))
mutual
inductive Rep (K:Vo) (H:Hp):V->PV->Prop
 |non:Rep K H .non .non
 |bl (b:Bool):Rep K H (.bl b) (.bl b)
 |int (i:Int):Rep K H (.int i) (.int i)
 |str (x:Str):Rep K H (.str x) (.str x)
 |ty (n:String):Rep K H (.ty n) (.ty n)
 |ref (a:Addr):Rep K H (.ref a) (.ref a)
 |tup {a:Addr} {vs:List V} {ps:List PV}:SqT K H a vs->Reps K H vs ps->Rep K H (.ref a) (.tup ps)
 |cl {a:Addr} {vs:List V} {ps:List PV}:HM K H a vs->Reps K H vs ps->Rep K H (.ref a) (.cl ps)
 |exc {a C:Addr} {c:Str} {ks:Vs} {vs:List V} {ps:List PV}:ClsN K c C->IK H a C ks vs->Reps K H vs ps->Rep K H (.ref a) (.exc c ks ps)
 |cls {C:Addr} {c:Str}:ClsN K c C->Rep K H (.ref C) (.cls c)
inductive Reps (K:Vo) (H:Hp):List V->List PV->Prop
 |nil:Reps K H [] []
 |cons {v:V} {p:PV} {vs:List V} {ps:List PV}:Rep K H v p->Reps K H vs ps->Reps K H (v::vs) (p::ps)
end
structure Grow (K:Vo) (H H':Hp):Prop where
 t:∀a vs,SqT K H a vs->SqT K H' a vs
 c:∀a vs,HM K H a vs->HM K H' a vs
 x:∀a o u,H a=some (.frz o u)->H' a=some (.frz o u)
def Grow.refl{K:Vo}{H:Hp}:Grow K H H:=⟨fun _ _ h=>h,fun _ _ h=>h,fun _ _ _ h=>h⟩
def Grow.trans{K:Vo}{H H1 H2:Hp}(a:Grow K H H1)(b:Grow K H1 H2):Grow K H H2:=⟨fun x vs h=>b.t x vs (a.t x vs h),fun x vs h=>b.c x vs (a.c x vs h),fun x o u h=>b.x x o u (a.x x o u h)⟩
def IK.mono{K:Vo}{H H':Hp}(g:Grow K H H'){a C:Addr}{ks:Vs}{vs:List V}(h:IK H a C ks vs):IK H' a C ks vs:=let ⟨oe,dx,od,h1,h2,h3,h4,h5⟩:=h;⟨oe,dx,od,g.x _ _ _ h1,h2,h3,h4,g.x _ _ _ h5⟩
def Grow.of{K:Vo}{H H':Hp}(h:∀a xs,H a=some (.tup xs)->H' a=some (.tup xs))(h2:∀a o u,H a=some (.frz o u)->H' a=some (.frz o u)):Grow K H H':=by
 refine⟨fun a vs q=>?_,fun a vs q=>?_,h2⟩
 ·rcases q with(q|⟨o,q⟩)|q
  ·exact .inl (.inl (h a vs q))
  ·exact .inl (.inr ⟨o,h2 a o _ q⟩)
  ·exact .inr q
 ·rcases q with⟨o,q⟩|q
  ·exact .inl ⟨o,h2 a o _ q⟩
  ·exact .inr q
def Grow.same{K:Vo}{H H':Hp}(h:∀c o,H c=some o->H' c=some o):Grow K H H':=.of (fun a _ q=>h a _ q) (fun a _ _ q=>h a _ q)
def Grow.new{K:Vo}{H:Hp}{p:Addr}{o:HO}(h:H p=none):Grow K H (upd H p o):=.same fun c u q=>by rw[az (bd q h)];exact q
noncomputable def Mu:HO->Prop
 | .tup _=>False
 | .frz _ _=>False
 |_=>True
def Grow.mut{K:Vo}{H:Hp}{p:Addr}{o u:HO}(h:H p=some u)(m:Mu u):Grow K H (upd H p o):=
 .of (fun a xs q=>by rw[az (fun e=>by subst e;rw[h]at q;cases q;exact m)];exact q) (fun a _ _ q=>by rw[az (fun e=>by subst e;rw[h]at q;cases q;exact m)];exact q)
mutual
theorem Rep.mono{K:Vo}{H H':Hp}(g:Grow K H H'):∀{v:V} {p:PV},Rep K H v p->Rep K H' v p
 |_,_,.non=>.non
 |_,_,.bl b=>.bl b
 |_,_,.int i=>.int i
 |_,_,.str x=>.str x
 |_,_,.ty n=>.ty n
 |_,_,.ref a=>.ref a
 |_,_,.tup h r=>.tup (g.t _ _ h) (Reps.mono g r)
 |_,_,.cl h r=>.cl (g.c _ _ h) (Reps.mono g r)
 |_,_,.exc n h r=>.exc n (h.mono g) (Reps.mono g r)
 |_,_,.cls n=>.cls n
theorem Reps.mono{K:Vo}{H H':Hp}(g:Grow K H H'):∀{vs:List V} {ps:List PV},Reps K H vs ps->Reps K H' vs ps
 |_,_,.nil=>.nil
 |_,_,.cons a r=>.cons (Rep.mono g a) (Reps.mono g r)
end
theorem Reps.length{K:Vo}{H:Hp}:∀{vs:List V} {ps:List PV},Reps K H vs ps->vs.length=ps.length
 |_,_,.nil=>rfl
 |_,_,.cons _ r=>by rw[List.length_cons,List.length_cons,Reps.length r]
theorem Reps.append{K:Vo}{H:Hp}:∀{vs us:List V} {ps qs:List PV},Reps K H vs ps->Reps K H us qs->Reps K H (vs++us) (ps++qs)
 |_,_,_,_,.nil,s=>s
 |_,_,_,_,.cons a r,s=>.cons a (Reps.append r s)
theorem Reps.get{K:Vo}{H:Hp}:∀{vs:List V} {ps:List PV} {i:Nat} {p:PV},Reps K H vs ps->ps[i]?=some p->∃v,vs[i]?=some v/\Rep K H v p
 |_,_,_,_,.nil,e=>by simp at e
 |_,_,0,_,.cons a r,e=>by simp at e;subst e;exact⟨_,rfl,a⟩
 |_,_,i+1,p,.cons a r,e=>by
  obtain⟨v,h1,h2⟩:=Reps.get (i:=i) (p:=p) r (by simpa using e)
  exact⟨v,by simpa using h1,h2⟩
theorem Reps.take{K:Vo}{H:Hp}:∀{vs:List V} {ps:List PV} (n:Nat),Reps K H vs ps->Reps K H (vs.take n) (ps.take n)
 |_,_,0,_=>.nil
 |_,_,_+1,.nil=>.nil
 |_,_,n+1,.cons a r=>.cons a (Reps.take n r)
theorem Reps.drop{K:Vo}{H:Hp}:∀{vs:List V} {ps:List PV} (n:Nat),Reps K H vs ps->Reps K H (vs.drop n) (ps.drop n)
 |_,_,0,r=>r
 |_,_,_+1,.nil=>.nil
 |_,_,n+1,.cons _ r=>Reps.drop n r
theorem Reps.set{K:Vo}{H:Hp}{v:V}{p:PV}(q:Rep K H v p):∀{vs:List V} {ps:List PV} (n:Nat),Reps K H vs ps->Reps K H (vs.set n v) (ps.set n p)
 |_,_,_,.nil=>.nil
 |_,_,0,.cons _ r=>.cons q r
 |_,_,n+1,.cons a r=>.cons a (Reps.set q n r)
theorem Reps.eraseIdx{K:Vo}{H:Hp}:∀{vs:List V} {ps:List PV} (n:Nat),Reps K H vs ps->Reps K H (vs.eraseIdx n) (ps.eraseIdx n)
 |_,_,_,.nil=>.nil
 |_,_,0,.cons _ r=>r
 |_,_,n+1,.cons a r=>.cons a (Reps.eraseIdx n r)
theorem Reps.reverse{K:Vo}{H:Hp}:∀{vs:List V} {ps:List PV},Reps K H vs ps->Reps K H vs.reverse ps.reverse
 |_,_,.nil=>.nil
 |_,_,.cons a r=>by rw[List.reverse_cons,List.reverse_cons];exact(Reps.reverse r).append (.cons a .nil)
theorem Reps.dropLast{K:Vo}{H:Hp}{vs:List V}{ps:List PV}(r:Reps K H vs ps):Reps K H vs.dropLast ps.dropLast:=by
 rw[List.dropLast_eq_take,List.dropLast_eq_take,r.length]
 exact r.take _
inductive SO where
 |lst (xs:List PV)
 |dct (kvs:List (b8×PV))
 |ins (c:Str) (fs:List (Str×PV))
abbrev av:=Addr->Option SO
noncomputable def Dd(S:av)(a:Addr)(o:SO):av:=fun b=>if b=a then some o else S b
def aa{S:av}{a:Addr}{o:SO}:Dd S a o a=some o:=by unfold Dd;rw[if_pos rfl]
def aq{S:av}{a b:Addr}{o:SO}(h:b≠a):Dd S a o b=S b:=by unfold Dd;rw[if_neg h]
inductive Dn (K:Vo) (H:Hp) {κ:Type}:List (κ×V)->List (κ×PV)->Prop
 |nil:Dn K H [] []
 |cons {k:κ} {v:V} {p:PV} {vs:List (κ×V)} {ps:List (κ×PV)}:Rep K H v p->Dn K H vs ps->Dn K H ((k,v)::vs) ((k,p)::ps)
theorem Dn.mono{K:Vo}{H H':Hp}(g:Grow K H H'){κ:Type}:∀{vs:List (κ×V)} {ps:List (κ×PV)},Dn K H vs ps->Dn K H' vs ps
 |_,_,.nil=>.nil
 |_,_,.cons a r=>.cons (a.mono g) (Dn.mono g r)
theorem Dn.length{K:Vo}{H:Hp}{κ:Type}:∀{vs:List (κ×V)} {ps:List (κ×PV)},Dn K H vs ps->vs.length=ps.length
 |_,_,.nil=>rfl
 |_,_,.cons _ r=>by rw[List.length_cons,List.length_cons,Dn.length r]
noncomputable def FP(K:Vo)(H:Hp)(a:Addr):SO->Prop
 | .lst xs=>∃vs,H a=some (.lst vs)/\Reps K H vs xs
 | .dct kvs=>∃kv,H a=some (.dK kv)/\Dn K H kv kvs
 | .ins c fs=>∃C dx f',ClsN K c C/\H a=some (.ins C dx f')/\Dn K H f' fs
theorem FP.stay{K:Vo}{H H':Hp}(g:Grow K H H'){a:Addr}(e:H' a=H a):∀{o:SO},FP K H a o->FP K H' a o
 | .lst _,⟨vs,h,r⟩=>⟨vs,e.trans h,r.mono g⟩
 | .dct _,⟨vs,h,r⟩=>⟨vs,e.trans h,r.mono g⟩
 | .ins _ _,⟨C,dx,vs,n,h,r⟩=>⟨C,dx,vs,n,e.trans h,r.mono g⟩
theorem FP.some{K:Vo}{H:Hp}{a:Addr}:∀{o:SO},FP K H a o->∃u,H a=Option.some u/\Mu u
 | .lst _,⟨_,h,_⟩=>⟨_,h,trivial⟩
 | .dct _,⟨_,h,_⟩=>⟨_,h,trivial⟩
 | .ins _ _,⟨_,_,_,_,h,_⟩=>⟨_,h,trivial⟩
def Di(K:Vo)(H:Hp)(S:av):Prop:=∀a o,S a=some o->FP K H a o
def Di.free{K:Vo}{H:Hp}{S:av}(r:Di K H S){p:Addr}(h:H p=none):S p=none:=by
 cases e:S p with
 |none=>rfl
 |some o=>
  obtain⟨u,q,_⟩:=(r p o e).some
  rw[h]at q;cases q
def Di.grow{K:Vo}{H H':Hp}{S:av}(r:Di K H S)(h:∀c o,H c=some o->H' c=some o):Di K H' S:=fun a o e=>by
 obtain⟨u,q,_⟩:=(r a o e).some
 exact(r a o e).stay (.same h) ((h a u q).trans q.symm)
def Di.other{K:Vo}{H:Hp}{S:av}(r:Di K H S){p:Addr}{o:HO}(h:H p=none):Di K (upd H p o) S:=r.grow fun c u q=>by rw[az (bd q h)];exact q
theorem Di.new{K:Vo}{H:Hp}{S:av}(r:Di K H S){p:Addr}{u:HO}{o:SO}(h:H p=none)(q:FP K (upd H p u) p o):Di K (upd H p u) (Dd S p o):=fun a x e=>by
 by_cases z:a=p
 ·subst z;rw[aa]at e;cases e;exact q
 ·rw[aq z]at e;exact(r a x e).stay (.new h) (az z)
def Di.put{K:Vo}{H:Hp}{S:av}(r:Di K H S){p:Addr}{u0 u:HO}{o:SO}(h:H p=some u0)(m:Mu u0)(q:FP K (upd H p u) p o):Di K (upd H p u) (Dd S p o):=fun a x e=>by
 by_cases z:a=p
 ·subst z;rw[aa]at e;cases e;exact q
 ·rw[aq z]at e;exact(r a x e).stay (.mut h m) (az z)
abbrev dq:=List (Option PV)
noncomputable def lk:dq->Nat->Option PV
 |[],_=>none
 |x::_,0=>x
 |_::r,i+1=>lk r i
def sH{σ:dq}{i:Nat}{p:PV}(h:lk σ i=some p):σ[i]?=some (some p):=by
 induction σ generalizing i with
 |nil=>cases h
 |cons x r ih=>
  cases i with
  |zero=>exact congrArg some h
  |succ i=>exact ih h
structure Dp (K:Vo) (H:Hp) (σ:St) (σ3:dq):Prop where
 len:σ.length=σ3.length
 at':∀(i:Nat) (p:PV),σ3[i]?=some (some p)->∃v,σ[i]?=some (some v)/\Rep K H v p
theorem Dp.mono{K:Vo}{H H':Hp}{σ:St}{σ3:dq}(r:Dp K H σ σ3)(g:Grow K H H'):Dp K H' σ σ3:=⟨r.len,fun i p e=>let ⟨v,h,q⟩:=r.at' i p e;⟨v,h,q.mono g⟩⟩
theorem Dp.set{K:Vo}{H:Hp}{σ:St}{σ3:dq}(r:Dp K H σ σ3){v:V}{p:PV}(q:Rep K H v p)(i:Nat):Dp K H (σ.set i (some v)) (σ3.set i (some p)):=by
 refine⟨by rw[List.length_set,List.length_set,r.len],fun j x e=>?_⟩
 rw[List.getElem?_set]at e ⊢
 split at e
 ·rename_i hij
  rw[if_pos hij]
  subst hij
  split at e
  ·rename_i hl
   cases e
   rw[if_pos (by rw[r.len];exact hl)]
   exact⟨v,rfl,q⟩
  ·cases e
 ·rename_i hij
  rw[if_neg hij]
  exact r.at' j x e
abbrev bP:=PV->av->Prop
abbrev cC:=PV->dq->av->Prop
abbrev aP:=dq->av->bP->cC->Prop
abbrev jh:=dq->av->(Bool->av->Prop)->cC->Prop
abbrev CP:=dq->av->(List PV->av->Prop)->cC->Prop
structure mH where
 nx:dq->av->Prop
 rt:bP
 ex:cC
 bk:dq->av->Prop:=fun _ _=>False
 ct:dq->av->Prop:=fun _ _=>False
abbrev bM:=mH->dq->av->Prop
def GK(X:Cx)(H:Hp)(E:cC):Prop:=∀(c:Str) (ks:Vs) (ps:List PV) (σ3:dq) (S':av) (H':Hp) (pins:Va) (σ:St) (s':Shared) (a C dx:Addr) (od:Obj) (vs:List V),E (.exc c ks ps) σ3 S'->ClsN X.K c C->vs.length=ks.length->
 H' dx=some (.frz od (.ext (XD dx (ks.zip vs))))->Reps X.K H' vs ps->Di X.K H' S'->Dp X.K H' σ σ3->Grow X.K H H'->Inv X pins σ H' s'->CO X pins H' s'.heap a C dx->X.xe (.ref a) s'
def GK.mono{X:Cx}{H H':Hp}{E:cC}(x:GK X H E)(g:Grow X.K H H'):GK X H' E:=fun c ks ps σ3 S' H2 pins σ s' a C dx od vs h1 h2 h3 h4 h5 h6 h7 h8 h9 KS=>x c ks ps σ3 S' H2 pins σ s' a C dx od vs h1 h2 h3 h4 h5 h6 h7 (g.trans h8) h9 KS
def GL(K:Vo)(H:Hp)(Q3:bP)(Q:VK):Prop:=∀p S' v H',Q3 p S'->Rep K H' v p->Di K H' S'->Grow K H H'->Q v H'
def GL.mono{K:Vo}{H H':Hp}{Q3:bP}{Q:VK}(r:GL K H Q3 Q)(g:Grow K H H'):GL K H' Q3 Q:=fun p S' v H2 h1 h2 h3 h4=>r p S' v H2 h1 h2 h3 (g.trans h4)
def HN(K:Vo)(H:Hp)(N3:dq->av->Prop)(N:St->Hp->Prop):Prop:=∀σ3 S' σ H',N3 σ3 S'->Dp K H' σ σ3->Di K H' S'->Grow K H H'->N σ H'
def HN.mono{K:Vo}{H H':Hp}{Q3:dq->av->Prop}{Q:St->Hp->Prop}(r:HN K H Q3 Q)(g:Grow K H H'):HN K H' Q3 Q:=fun p S' v H2 h1 h2 h3 h4=>r p S' v H2 h1 h2 h3 (g.trans h4)
def LE(X:Cx)(t:aP):TE:=fun σ H Q=>∃σ3 S Q3 E3,Dp X.K H σ σ3/\Di X.K H S/\t σ3 S Q3 E3/\GK X H E3/\GL X.K H Q3 Q
def LT(X:Cx)(t:jh):TT:=fun σ H Q=>∃σ3 S Q3 E3,Dp X.K H σ σ3/\Di X.K H S/\t σ3 S Q3 E3/\GK X H E3/\∀b S' H',Q3 b S'->Di X.K H' S'->Grow X.K H H'->Q b H'
def LS(X:Cx)(t:bM):TS:=fun D σ H=>∃σ3 S D3,Dp X.K H σ σ3/\Di X.K H S/\t D3 σ3 S/\GK X H D3.ex/\HN X.K H D3.nx D.nx/\GL X.K H D3.rt D.rt/\HN X.K H D3.bk D.bk/\HN X.K H D3.ct D.ct
structure bh (X:Cx) (e:Expr) (t:aP):Prop where
 ok:PE X e (LE X t)
structure nZ (X:Cx) (e:Expr) (t:jh):Prop where
 ok:PT X e (LT X t)
structure yi (X:Cx) (e:Expr) (t:jh):Prop where
 ok:PW X e (LT X t)
structure n4 (X:Cx) (st:Stmt) (t:bM):Prop where
 ok:PS X st (LS X t)
structure jr (X:Cx) (st:List Stmt) (t:bM):Prop where
 ok:Ge X st (LS X t)
def aM{X:Cx}{e:Expr}{t t':TE}(h:PE X e t)(k:∀σ H Q,t' σ H Q->t σ H Q):PE X e t':=fun pins s σ H Q I q=>h pins s σ H Q I (k σ H Q q)
def n5{X:Cx}{e:Expr}{t t':TT}(h:PT X e t)(k:∀σ H Q,t' σ H Q->t σ H Q):PT X e t':=fun pins s σ H Q I q=>h pins s σ H Q I (k σ H Q q)
def sI{X:Cx}{e:Expr}{t t':TT}(h:PW X e t)(k:∀σ H Q,t' σ H Q->t σ H Q):PW X e t':=fun wh pins s σ H Q I q=>h wh pins s σ H Q I (k σ H Q q)
def dE{X:Cx}{e:Stmt}{t t':TS}(h:PS X e t)(k:∀D σ H,t' D σ H->t D σ H):PS X e t':=fun pins s σ H D I q=>h pins s σ H D I (k D σ H q)
def pq{X:Cx}{e:List Stmt}{t t':TS}(h:Ge X e t)(k:∀D σ H,t' D σ H->t D σ H):Ge X e t':=fun pins s σ H D I q=>h pins s σ H D I (k D σ H q)
section
variable {X:Cx} {a b c e o:Expr} {es:List Expr} {ta tb tc te:aP} {pos:Pos}
def v3(i:Nat):aP:=fun σ S Q _=>match lk σ i with|some p=>Q p S|none=>False
def ac(i:Nat){x:Str}(hN:X.N[i]?=some x:=by rfl)(hv:A8 X.env.scope x:=by first|exact Or.inl rfl|exact Or.inr (Or.inl rfl)|exact Or.inr (Or.inr rfl))(hd:(x == ("__debug__":Str))=false:=by decide)
  (hcd:(x == ("__classdict__":Str))=false:=by decide):bh X (.Name x pos) (v3 i):=
 ⟨aM (xa hN hv hd hcd) fun σ H Q ⟨σ3,S,Q3,E3,rσ,rS,h,xo,k⟩=>by
  unfold v3 at h
  split at h
  ·rename_i p e
   obtain⟨v,ev,rv⟩:=rσ.at' i p (sH e)
   exact⟨v,ev,k p S v H h rv rS .refl⟩
  ·exact h.elim⟩
def c3(p:PV):aP:=fun _ S Q _=>Q p S
def af{i:Int}{j:Nat}:bh X (.Constant (.int i) j pos) (c3 (.int i)):=⟨aM xb fun σ H Q ⟨σ3,S,Q3,E3,rσ,rS,h,xo,k⟩=>k _ S _ H h (.int i) rS .refl⟩
def fJ{i:Bool}{j:Nat}:bh X (.Constant (.bool i) j pos) (c3 (.bl i)):=⟨aM zz fun σ H Q ⟨σ3,S,Q3,E3,rσ,rS,h,xo,k⟩=>k _ S _ H h (.bl i) rS .refl⟩
def de{i:Str}{j:Nat}:bh X (.Constant (.str i) j pos) (c3 (.str i)):=⟨aM xi fun σ H Q ⟨σ3,S,Q3,E3,rσ,rS,h,xo,k⟩=>k _ S _ H h (.str i) rS .refl⟩
def ji{j:Nat}:bh X (.Constant .none j pos) (c3 .non):=⟨aM xg fun σ H Q ⟨σ3,S,Q3,E3,rσ,rS,h,xo,k⟩=>k _ S _ H h .non rS .refl⟩
def BZ{x:Str}{n:String}(hg:Gl X x)(hm:X.mg x=none)(hv:bootBuiltins x=some (.type n))(hn:x ≠ "__name__":=by decide)(hd:(x == ("__debug__":Str))=false:=by decide):bh X (.Name x pos) (c3 (.ty n)):=
 ⟨aM (uL (v:=.ty n) hg hm hv rfl hn hd) fun σ H Q ⟨σ3,S,Q3,E3,rσ,rS,h,xo,k⟩=>k _ S _ H h (.ty n) rS .refl⟩
noncomputable def ag:List aP->CP
 |[],_,S,Q,_=>Q [] S
 |t::ts,σ,S,Q,E=>t σ S (fun x S1=>ag ts σ S1 (fun xs S2=>Q (x::xs) S2) E) E
noncomputable def Bf:List TE->TA
 |[]=>u5
 |t::ts=>rW t (Bf ts)
structure jO (X:Cx) (es:List Expr) (ts:List aP):Prop where
 ok:PA X es (Bf (ts.map (LE X)))
def sJ:jO X [] []:=⟨xP⟩
def sK{ts:List aP}(hs:starEach (e::es) X.env=(false,eval e X.env)::starEach es X.env)(ha:bh X e te)(hr:jO X es ts):jO X (e::es) (te::ts):=⟨u6 ha.ok hr.ok hs⟩
theorem cx:∀{ts:List aP} {σ:L2.St} {H:Hp} {Q:List V->Hp->Prop} {σ3:dq} {S:av} {Q3:List PV->av->Prop} {E3:cC},Dp X.K H σ σ3->Di X.K H S->ag ts σ3 S Q3 E3->GK X H E3->
  (∀ps S' vs H',ps.length=ts.length->Q3 ps S'->Reps X.K H' vs ps->Di X.K H' S'->Grow X.K H H'->Q vs H')->Bf (ts.map (LE X)) σ H Q
 |[],σ,H,Q,σ3,S,Q3,E3,rσ,rS,h,xo,k=>k [] S [] H rfl h .nil rS .refl
 |t::ts,σ,H,Q,σ3,S,Q3,E3,rσ,rS,h,xo,k=>
  ⟨σ3,S,_,E3,rσ,rS,h,xo,fun p S1 v H1 h1 rv Dq g1=>cx (rσ.mono g1) Dq h1 (xo.mono g1) fun ps S2 vs H2 hl h2 Jx EU g2=>k (p::ps) S2 (v::vs) H2 (by rw[List.length_cons,List.length_cons,hl]) h2 (.cons (rv.mono g2) Jx) EU (g1.trans g2)⟩
def a7(ts:List aP):aP:=fun σ S Q E=>ag ts σ S (fun xs S1=>Q (.tup xs) S1) E
def bQ{ts:List aP}{x1:Nat}(h:jO X es ts)(hn:ts.length<=1000:=by exact Nat.le_of_ble_eq_true rfl):bh X (.Tuple es x1 pos) (a7 ts):=
 ⟨aM (xQ h.ok) fun σ H Q ⟨σ3,S,Q3,E3,rσ,rS,hq,xo,k⟩=>cx rσ rS hq xo fun ps S' vs H' hl q rv EH g=>
  ⟨Nat.le_of_lt (fY (by rw[rv.length,hl];exact hn)),fun p hp=>k _ S' _ _ q (.tup (SqT.of ay) (rv.mono (.new hp))) (EH.other hp) (g.trans (.new hp))⟩⟩
def cD(ts:List aP):aP:=fun σ S Q E=>ag ts σ S (fun xs S1=>∀p,S1 p=none->Q (.ref p) (Dd S1 p (.lst xs))) E
def eK{ts:List aP}(h:jO X es ts)(hn:ts.length<=1000:=by exact Nat.le_of_ble_eq_true rfl):bh X (.List es pos) (cD ts):=
 ⟨aM (xR h.ok) fun σ H Q ⟨σ3,S,Q3,E3,rσ,rS,hq,xo,k⟩=>cx rσ rS hq xo fun ps S' vs H' hl q rv EH g=>
  ⟨Nat.le_of_lt (fY (by rw[rv.length,hl];exact hn)),fun p hp=>k _ _ _ _ (q p (EH.free hp)) (.ref p) (EH.new hp ⟨vs,ay,rv.mono (.new hp)⟩) (g.trans (.new hp))⟩⟩
abbrev R3:=PV->PV->av->bP->Prop
def LR(X:Cx)(r:R3):R2:=fun x y H Q=>∃px py S Q3,Rep X.K H x px/\Rep X.K H y py/\Di X.K H S/\r px py S Q3/\GL X.K H Q3 Q
structure hU (X:Cx) (f:Value->Value->Sem Value) (r:R3):Prop where
 ok:gf X f (LR X r)
def ai(r:R3)(ta tb:aP):aP:=fun σ S Q E=>ta σ S (fun x S1=>tb σ S1 (fun y S2=>r x y S2 Q) E) E
def hW{r:R3}{σ:L2.St}{H:Hp}{Q:VK}:LE X (ai r ta tb) σ H Q->zh (LR X r) (LE X ta) (LE X tb) σ H Q:=fun⟨σ3,S,Q3,E3,rσ,rS,h,xo,k⟩=>
 ⟨σ3,S,_,E3,rσ,rS,h,xo,fun x S1 v H1 h1 rx Dq g1=>⟨σ3,S1,_,E3,rσ.mono g1,Dq,h1,xo.mono g1,fun y S2 u H2 h2 ry EU g2=>⟨x,y,S2,Q3,rx.mono g2,ry,EU,h2,k.mono (g1.trans g2)⟩⟩⟩
def aB{op:Operator}{r:R3}(ho:hU X (binaryOp op) r)(ha:bh X a ta)(hb:bh X b tb):bh X (.BinOp a op b pos) (ai r ta tb):=⟨aM (zK ho.ok ha.ok hb.ok) fun _ _ _=>hW⟩
def eL{op:CmpOp}{r:R3}(ho:hU X (compareOp op) r)(ha:bh X a ta)(hb:bh X b tb)(hm:behindInMarks op b=false):bh X (.Compare a [op] [b] pos) (ai r ta tb):=⟨aM (uX ho.ok ha.ok hb.ok hm) fun _ _ _=>hW⟩
def a8(t:aP):jh:=fun σ S Q E=>t σ S (fun v S'=>match v with | .bl k=>Q k S'|_=>False) E
def sL{σ:L2.St}{H:Hp}{Q:Bool->Hp->Prop}:LT X (a8 te) σ H Q->LE X te σ H (fun x H'=>∃k,x = .bl k/\Q k H'):=fun⟨σ3,S,Q3,E3,rσ,rS,h,xo,k⟩=>
 ⟨σ3,S,_,E3,rσ,rS,h,xo,fun p S' v H' h1 rv EH g=>by
  cases p with
  |bl z=>cases rv;exact⟨z,rfl,k z S' H' h1 EH g⟩
  |_=>exact h1.elim⟩
def bB{op:CmpOp}{r:R3}(ho:hU X (compareOp op) r)(ha:bh X a ta)(hb:bh X b tb)(hm:behindInMarks op b=false):nZ X (.Compare a [op] [b] pos) (a8 (ai r ta tb)):=
 ⟨n5 (uY ho.ok ha.ok hb.ok hm) fun σ H Q ⟨σ3,S,Q3,E3,rσ,rS,h,xo,k⟩=>hW ⟨σ3,S,_,E3,rσ,rS,h,xo,fun p S' v H' h1 rv EH g=>by
  cases p with
  |bl z=>cases rv;exact⟨z,rfl,k z S' H' h1 EH g⟩
  |_=>exact h1.elim⟩⟩
def dr(h:bh X e te)(he:∀whole,isTrue e X.env whole=(do let v <-whole;standAt e.pos;holding [v] (truthy v)):=by intro _;rfl):nZ X e (a8 te):=
 ⟨n5 (xj h.ok he) fun σ H Q q=>sL q⟩
end
section
variable {X:Cx} {a b c:Expr} {rest:List Expr} {ta tb te:aP} {tA tB:jh} {pos:Pos}
def fK(t u:jh):jh:=fun σ S Q E=>t σ S (fun c S1=>if c=true then u σ S1 Q E else Q false S1) E
def jP(t u:jh):jh:=fun σ S Q E=>t σ S (fun c S1=>if c=true then Q true S1 else u σ S1 Q E) E
def cU(t:jh):jh:=fun σ S Q E=>t σ S (fun c S1=>Q (!c) S1) E
def iH(ha:nZ X a tA):yi X (.BoolOp .And [a] pos) tA:=⟨uM ha.ok⟩
def h_(ha:nZ X a tA):yi X (.BoolOp .Or [a] pos) tA:=⟨xk ha.ok⟩
def jQ(ha:nZ X a tA)(hb:yi X (.BoolOp .And (b::rest) pos) tB):yi X (.BoolOp .And (a::b::rest) pos) (fK tA tB):=
 ⟨sI (xn ha.ok hb.ok) fun σ H Q ⟨σ3,S,Q3,E3,rσ,rS,h,xo,k⟩=>⟨σ3,S,_,E3,rσ,rS,h,xo,fun c S1 H1 h1 Dq g1=>by
  cases c with
  |true=>rw[if_pos rfl]at h1 ⊢;exact⟨σ3,S1,Q3,E3,rσ.mono g1,Dq,h1,xo.mono g1,fun b S2 H2 h2 EU g2=>k b S2 H2 h2 EU (g1.trans g2)⟩
  |false=>rw[if_neg (by decide)]at h1 ⊢;exact k false S1 H1 h1 Dq g1⟩⟩
def lD(ha:nZ X a tA)(hb:yi X (.BoolOp .Or (b::rest) pos) tB):yi X (.BoolOp .Or (a::b::rest) pos) (jP tA tB):=
 ⟨sI (zA ha.ok hb.ok) fun σ H Q ⟨σ3,S,Q3,E3,rσ,rS,h,xo,k⟩=>⟨σ3,S,_,E3,rσ,rS,h,xo,fun c S1 H1 h1 Dq g1=>by
  cases c with
  |true=>rw[if_pos rfl]at h1 ⊢;exact k true S1 H1 h1 Dq g1
  |false=>rw[if_neg (by decide)]at h1 ⊢;exact⟨σ3,S1,Q3,E3,rσ.mono g1,Dq,h1,xo.mono g1,fun b S2 H2 h2 EU g2=>k b S2 H2 h2 EU (g1.trans g2)⟩⟩⟩
def n6(h:yi X a tA):nZ X a tA:=⟨h.ok.pt⟩
def eM(ha:nZ X a tA):nZ X (.UnaryOp .Not a pos) (cU tA):=
 ⟨n5 (xq ha.ok) fun σ H Q ⟨σ3,S,Q3,E3,rσ,rS,h,xo,k⟩=>⟨σ3,S,_,E3,rσ,rS,h,xo,fun c S1 H1 h1 Dq g1=>k (!c) S1 H1 h1 Dq g1⟩⟩
def dF(t u:aP):aP:=fun σ S Q E=>t σ S (fun v S1=>match v with | .bl c=>if c=true then u σ S1 Q E else Q (.bl false) S1|_=>False) E
def kM(t:aP):aP:=fun σ S Q E=>t σ S (fun v S1=>match v with | .bl c=>Q (.bl (!c)) S1|_=>False) E
def mI{op:BoolOp}(h:bh X a ta):bh X (.BoolOp op [a] pos) ta:=⟨xr h.ok⟩
def kN(ha:bh X a ta)(hb:bh X (.BoolOp .And (b::rest) pos) tb):bh X (.BoolOp .And (a::b::rest) pos) (dF ta tb):=
 ⟨aM (xu ha.ok hb.ok) fun σ H Q ⟨σ3,S,Q3,E3,rσ,rS,h,xo,k⟩=>⟨σ3,S,_,E3,rσ,rS,h,xo,fun p S1 v H1 h1 rv Dq g1=>by
  cases p with
  |bl z=>
   cases rv
   refine⟨z,rfl,?_⟩
   cases z with
   |true=>rw[if_pos rfl];exact⟨σ3,S1,Q3,E3,rσ.mono g1,Dq,h1,xo.mono g1,k.mono g1⟩
   |false=>rw[if_neg (by decide)];exact k _ S1 _ H1 h1 (.bl false) Dq g1
  |_=>exact h1.elim⟩⟩
def Ad(ha:bh X a ta):bh X (.UnaryOp .Not a pos) (kM ta):=
 ⟨aM (xv ha.ok) fun σ H Q ⟨σ3,S,Q3,E3,rσ,rS,h,xo,k⟩=>⟨σ3,S,_,E3,rσ,rS,h,xo,fun p S1 v H1 h1 rv Dq g1=>by
  cases p with
  |bl z=>cases rv;exact⟨z,rfl,k _ S1 _ H1 h1 (.bl _) Dq g1⟩
  |_=>exact h1.elim⟩⟩
def mJ(t:jh)(ta tb:aP):aP:=fun σ S Q E=>t σ S (fun c S1=>if c=true then ta σ S1 Q E else tb σ S1 Q E) E
def wC(hc:nZ X c tA)(ha:bh X a ta)(hb:bh X b tb):bh X (.IfExp c a b pos) (mJ tA ta tb):=
 ⟨aM (rG hc.ok ha.ok hb.ok) fun σ H Q ⟨σ3,S,Q3,E3,rσ,rS,h,xo,k⟩=>⟨σ3,S,_,E3,rσ,rS,h,xo,fun c S1 H1 h1 Dq g1=>by
  cases c with
  |true=>rw[if_pos rfl]at h1 ⊢;exact⟨σ3,S1,Q3,E3,rσ.mono g1,Dq,h1,xo.mono g1,k.mono g1⟩
  |false=>rw[if_neg (by decide)]at h1 ⊢;exact⟨σ3,S1,Q3,E3,rσ.mono g1,Dq,h1,xo.mono g1,k.mono g1⟩⟩⟩
abbrev Ae:=PV->av->bP->Prop
noncomputable def CQ(X:Cx)(r:Ae):V->Hp->VK->Prop:=fun x H Q=>∃px S Q3,Rep X.K H x px/\Di X.K H S/\r px S Q3/\GL X.K H Q3 Q
structure Cz (X:Cx) (f:Value->Sem Value) (r:Ae):Prop where
 ok:Bb X f (CQ X r)
def jj(r:Ae)(ta:aP):aP:=fun σ S Q E=>ta σ S (fun x S1=>r x S1 Q) E
def jt{op:UnaryOp}{r:Ae}(ho:Cz X (unaryOp op) r)(ha:bh X a ta):bh X (.UnaryOp op a pos) (jj r ta):=
 ⟨aM (zL ho.ok ha.ok) fun σ H Q ⟨σ3,S,Q3,E3,rσ,rS,h,xo,k⟩=>⟨σ3,S,_,E3,rσ,rS,h,xo,fun p S1 v H1 h1 rv Dq g1=>⟨p,S1,Q3,rv,Dq,h1,k.mono g1⟩⟩⟩
noncomputable def df:Ae:=fun x S Q=>match x with | .int i=>Q (.int (-i)) S|_=>False
def dj:Cz X (unaryOp .USub) df:=⟨fun pins s σ H x v Q I rx ⟨px,S,Q3,r1,rS,h,k⟩=>by
 cases px with
 |int i=>cases r1;exact xL pins s σ H _ v Q I rx ⟨i,rfl,k _ S _ H h (.int _) rS .refl⟩
 |_=>exact h.elim⟩
end
section
variable {X:Cx}
def bx(g:Int->Int->PV):R3:=fun x y S Q=>match x,y with | .int i,.int j=>Q (g i j) S|_,_=>False
def fv(C:Int->Int->Prop)(g:Int->Int->PV):R3:=fun x y S Q=>match x,y with | .int i,.int j=>C i j/\Q (g i j) S|_,_=>False
def yj{f:Value->Value->Sem Value}{g:Int->Int->Int}(h:gf X f (uU fun i j=>.int (g i j))):hU X f (bx fun i j=>.int (g i j)):=⟨fun pins s σ H x y v u Q I rx ry ⟨px,py,S,Q3,r1,r2,rS,q,k⟩=>by
 cases px with
 |int i=>
  cases py with
  |int j=>cases r1;cases r2;exact h pins s σ H _ _ v u Q I rx ry ⟨i,j,rfl,rfl,k _ S _ H q (.int _) rS .refl⟩
  |_=>exact q.elim
 |_=>exact q.elim⟩
def lE{f:Value->Value->Sem Value}{g:Int->Int->Bool}(h:gf X f (uU fun i j=>.bl (g i j))):hU X f (bx fun i j=>.bl (g i j)):=⟨fun pins s σ H x y v u Q I rx ry ⟨px,py,S,Q3,r1,r2,rS,q,k⟩=>by
 cases px with
 |int i=>
  cases py with
  |int j=>cases r1;cases r2;exact h pins s σ H _ _ v u Q I rx ry ⟨i,j,rfl,rfl,k _ S _ H q (.bl _) rS .refl⟩
  |_=>exact q.elim
 |_=>exact q.elim⟩
def lF{f:Value->Value->Sem Value}{C:Int->Int->Prop}{g:Int->Int->Int}(h:gf X f (rI C fun i j=>.int (g i j))):hU X f (fv C fun i j=>.int (g i j)):=⟨fun pins s σ H x y v u Q I rx ry ⟨px,py,S,Q3,r1,r2,rS,q,k⟩=>by
 cases px with
 |int i=>
  cases py with
  |int j=>cases r1;cases r2;exact h pins s σ H _ _ v u Q I rx ry ⟨i,j,rfl,rfl,q.1,k _ S _ H q.2 (.int _) rS .refl⟩
  |_=>exact q.elim
 |_=>exact q.elim⟩
def jR(i j:Int):Prop:=j≠0/\j.natAbs < 2 ^ 8000
def n9{n:Nat}(h:n < 2 ^ 8000):n.log2 < 9000:=by
 by_cases z:n=0
 ·rw[z];decide +kernel
 ·exact Nat.lt_trans ((Nat.log2_lt z).mpr h) (by decide)
def yk:hU X (binaryOp .Sub) (bx fun i j=>.int (i - j)):=yj xJ
def ym:hU X (binaryOp .Mod) (fv (fun _ j=>j≠0) fun i j=>.int (i.fmod j)):=lF uV
def vv:hU X (binaryOp .FloorDiv) (fv jR fun i j=>.int (i.fdiv j)):=lF (Bc fun _ _ _ _ _ _ _ hc q=>PyProof.Rows.floordiv_int hc.1 q (.inl (PyProof.noPylong_of_log2 (n9 hc.2))))
def yn:hU X (binaryOp .Pow) (fv xH fun i j=>.int (i ^ j.toNat)):=lF xK
def Af:hU X (compareOp .Lt) (bx fun i j=>.bl (decide (i < j))):=lE zO
def Ag:hU X (compareOp .Gt) (bx fun i j=>.bl (decide (j < i))):=lE zP
def Ah:hU X (compareOp .GtE) (bx fun i j=>.bl (decide (j<=i))):=lE zQ
end
end L3
namespace L2
open PySem PySem.Spec PyProof.Rows
section
variable {X:Cx}
def Ai(K:Vo):R2:=fun x y H Q=>∃a b xs ys,x = .ref a/\y = .ref b/\SqT K H a xs/\SqT K H b ys/\xs.length+ys.length<=sizeLine/\∀r H',(∀c o,H c=some o->H' c=some o)->SqT K H' r (xs++ys)->Q (.ref r) H'
def vx:gf X (binaryOp .Add) (Ai X.K):=by
 intro pins s σ H x y v u Q I rx ry h
 obtain⟨a,b,xs,ys,rfl,rfl,ha,hb,hz,q⟩:=h
 by_cases hx:xs=[]
 ·subst hx
  cases rx
  cases ry
  obtain⟨its,r1,p1,_⟩:=I.tuple ha
  obtain⟨its2,r2,p2,_⟩:=I.tuple hb
  cases r1
  obtain⟨⟨cls,dd,data,sl⟩,ho,hc,n,hd⟩:=id p1
  obtain⟨⟨Jj,dd2,data2,sl2⟩,ho2,hc2,n2,hd2⟩:=id p2
  simp only at hc hd hc2 hd2
  subst hc hd hc2 hd2
  exact concat_meets ⟨_,ho,rfl⟩ ⟨_,ho2,rfl⟩ noFill_tuple_add seq_tuple_add PySem.F.slot_tuple_add PySem.F.entry_tuple_add (PySem.F.args_tuple_add_2 _ _)
   (tuple_addW0 a b _ its2.toArray n n2 dd dd2 sl sl2 rfl) ⟨ho,ho2,⟨.ref b,H,I,rfl,q b H (fun _ _ e=>e) hb⟩⟩
 ·exact ve pins s σ H _ _ v u Q I rx ry ⟨a,b,xs,ys,rfl,rfl,ha,hb,hx,hz,fun e=>q a H (fun _ _ e=>e) (by rw[e,List.append_nil];exact ha),
   fun _ p hp=>q p _ (fun c o e=>by rw[az (bd e hp)];exact e) (SqT.of ay)⟩
end
end L2
namespace L3
open PySem L2
section
variable {X:Cx}
def bo:R3:=fun x y S Q=>match x,y with
 | .int i,.int j=>Q (.int (i+j)) S
 | .str i,.str j=>i.length+j.length<=sizeLine/\Q (.str (i++j)) S
 | .tup i,.tup j=>i.length+j.length<=sizeLine/\Q (.tup (i++j)) S
 | .ref i,.ref j=>match S i,S j with
  |some (.lst xs),some (.lst ys)=>xs.length+ys.length<=sizeLine/\∀p,S p=none->Q (.ref p) (Dd S p (.lst (xs++ys)))
  |_,_=>False
 |_,_=>False
def aU:hU X (binaryOp .Add) bo:=⟨fun pins s σ H x y v u Q I rx ry ⟨px,py,S,Q3,r1,r2,rS,q,k⟩=>by
 unfold bo at q
 split at q
 ·cases r1;cases r2
  exact xI pins s σ H _ _ v u Q I rx ry ⟨_,_,rfl,rfl,k _ S _ H q (.int _) rS .refl⟩
 ·cases r1;cases r2
  exact nH pins s σ H _ _ v u Q I rx ry ⟨_,_,rfl,rfl,q.1,k _ S _ H q.2 (.str _) rS .refl⟩
 ·cases r1 with
  |tup h1 s1=>
   cases r2 with
   |tup h2 s2=>
    refine vx pins s σ H _ _ v u Q I rx ry ⟨_,_,_,_,rfl,rfl,h1,h2,by rw[s1.length,s2.length];exact q.1,fun r H' hs hr=>?_⟩
    exact k _ S _ H' q.2 (.tup hr ((s1.mono (.same hs)).append (s2.mono (.same hs)))) (rS.grow hs) (.same hs)
 ·cases r1;cases r2
  split at q
  ·rename_i i j xs ys e1 e2
   obtain⟨vs,h1,s1⟩:=rS _ _ e1
   obtain⟨us,h2,s2⟩:=rS _ _ e2
   exact x9 pins s σ H _ _ v u Q I rx ry ⟨_,_,_,_,rfl,rfl,h1,h2,by rw[s1.length,s2.length];exact q.1,fun p hp=>k _ _ _ _ (q.2 p (rS.free hp)) (.ref p) (rS.new hp ⟨_,ay,(s1.append s2).mono (.new hp)⟩) (.new hp)⟩
  ·exact q.elim
 ·exact q.elim⟩
end
mutual
inductive Dat (S:av):PV->PyData->Prop
 |non:Dat S .non .none
 |bl (b:Bool):Dat S (.bl b) (.bool b)
 |int (i:Int):Dat S (.int i) (.int i)
 |str (x:Str):Dat S (.str x) (.str x)
 |tup {ps:List PV} {ds:List PyData}:Fg S ps ds->Dat S (.tup ps) (.tuple ds)
 |cl {ps:List PV} {ds:List PyData}:Fg S ps ds->Dat S (.cl ps) (.list ds)
 |ref {a:Addr} {ps:List PV} {ds:List PyData}:S a=some (.lst ps)->Fg S ps ds->Dat S (.ref a) (.list ds)
inductive Fg (S:av):List PV->List PyData->Prop
 |nil:Fg S [] []
 |cons {p:PV} {d:PyData} {ps:List PV} {ds:List PyData}:Dat S p d->Fg S ps ds->Fg S (p::ps) (d::ds)
end
section
variable {X:Cx} {pins:Va} {σ:L2.St} {H:Hp} {s:Shared} {S:av}
def n_(I:Inv X pins σ H s)(rS:Di X.K H S):(∀{p:PV} {d:PyData},Dat S p d->∀{v:V} {u:Value},Rep X.K H v p->RelV v u->∃as,Reads s.heap u d as)/\∀{ps:List PV} {ds:List PyData},Fg S ps ds->∀{vs:List V} {us:Vv},Reps X.K H vs ps->Vals vs us->∃as,ReadsAll s.heap us ds as:=by
 have one:=@Dat.rec S (motive_1:=fun p d _=>∀{v:V} {u:Value},Rep X.K H v p->RelV v u->∃as,Reads s.heap u d as) (motive_2:=fun ps ds _=>∀{vs:List V} {us:Vv},Reps X.K H vs ps->Vals vs us->∃as,ReadsAll s.heap us ds as)
 have two:=@Fg.rec S (motive_1:=fun p d _=>∀{v:V} {u:Value},Rep X.K H v p->RelV v u->∃as,Reads s.heap u d as) (motive_2:=fun ps ds _=>∀{vs:List V} {us:Vv},Reps X.K H vs ps->Vals vs us->∃as,ReadsAll s.heap us ds as)
 have c1:∀{v:V} {u:Value},Rep X.K H v .non->RelV v u->∃as,Reads s.heap u .none as:=fun h r=>by cases h;cases r;exact⟨_,.none⟩
 have c2:∀(b:Bool) {v:V} {u:Value},Rep X.K H v (.bl b)->RelV v u->∃as,Reads s.heap u (.bool b) as:=fun b _ _ h r=>by cases h;cases r;exact⟨_,.bool b⟩
 have c3:∀(i:Int) {v:V} {u:Value},Rep X.K H v (.int i)->RelV v u->∃as,Reads s.heap u (.int i) as:=fun i _ _ h r=>by cases h;obtain⟨t,rfl⟩:=r;exact⟨_,.int i t⟩
 have c4:∀(x:Str) {v:V} {u:Value},Rep X.K H v (.str x)->RelV v u->∃as,Reads s.heap u (.str x) as:=fun x _ _ h r=>by cases h;obtain⟨t,rfl⟩:=r;exact⟨_,.str x t⟩
 have c5:∀{ps:List PV} {ds:List PyData},Fg S ps ds->(∀{vs:List V} {us:Vv},Reps X.K H vs ps->Vals vs us->∃as,ReadsAll s.heap us ds as)->∀{v:V} {u:Value},Rep X.K H v (.tup ps)->RelV v u->∃as,Reads s.heap u (.tuple ds) as:=fun _ ih _ _ h r=>by
  cases h with
  |tup h rs=>
   cases r
   obtain⟨its,rv,⟨o,ho,hc,n,hd⟩,hz⟩:=I.tuple h
   obtain⟨as,q⟩:=ih rs rv
   exact⟨as,.tuple ho hc hd (by simpa using q)⟩
 have c6:∀{ps:List PV} {ds:List PyData},Fg S ps ds->(∀{vs:List V} {us:Vv},Reps X.K H vs ps->Vals vs us->∃as,ReadsAll s.heap us ds as)->∀{v:V} {u:Value},Rep X.K H v (.cl ps)->RelV v u->∃as,Reads s.heap u (.list ds) as:=fun _ ih _ _ h r=>by
  cases h with
  |cl h rs=>
   cases r
   obtain⟨its,rv,⟨o,n,ho,hc,_,hd⟩,hz⟩:=I.list h.sq
   obtain⟨as,q⟩:=ih rs rv
   exact⟨_,.list ho hc hd (by simpa using q)⟩
 have c7:∀{a:Addr} {ps:List PV} {ds:List PyData},S a=some (.lst ps)->Fg S ps ds->(∀{vs:List V} {us:Vv},Reps X.K H vs ps->Vals vs us->∃as,ReadsAll s.heap us ds as)->∀{v:V} {u:Value},Rep X.K H v (.ref a)->RelV v u->∃as,Reads s.heap u (.list ds) as:=fun e _ ih _ _ h r=>by
  cases h
  cases r
  obtain⟨vs,hv,rs⟩:=rS _ _ e
  obtain⟨its,rv,⟨o,n,ho,hc,_,hd⟩,hz⟩:=I.list (SqL.of hv)
  obtain⟨as,q⟩:=ih rs rv
  exact⟨_,.list ho hc hd (by simpa using q)⟩
 have c8:∀{vs:List V} {us:Vv},Reps X.K H vs []->Vals vs us->∃as,ReadsAll s.heap us [] as:=fun h r=>by cases h;cases r;exact⟨_,.nil⟩
 have c9:∀{p:PV} {d:PyData} {ps:List PV} {ds:List PyData},Dat S p d->Fg S ps ds->(∀{v:V} {u:Value},Rep X.K H v p->RelV v u->∃as,Reads s.heap u d as)->(∀{vs:List V} {us:Vv},Reps X.K H vs ps->Vals vs us->∃as,ReadsAll s.heap us ds as)->∀{vs:List V} {us:Vv},Reps X.K H vs (p::ps)->Vals vs us->∃as,ReadsAll s.heap us (d::ds) as:=fun _ _ i1 i2 _ _ h r=>by
  cases h with
  |cons a rs=>
   cases r with
   |cons r1 r2=>
    obtain⟨as,q⟩:=i1 a r1
    obtain⟨bs,q2⟩:=i2 rs r2
    exact⟨_,.cons q q2⟩
 exact⟨fun h=>one c1 c2 c3 c4 c5 c6 c7 c8 c9 h,fun h=>two c1 c2 c3 c4 c5 c6 c7 c8 c9 h⟩
def Dat.reads(I:Inv X pins σ H s)(rS:Di X.K H S){p:PV}{d:PyData}{v:V}{u:Value}(h:Dat S p d)(r:Rep X.K H v p)(r2:RelV v u):∃as,Reads s.heap u d as:=(n_ I rS).1 h r r2
end
section
variable {X:Cx}
def dG(neg:Bool):R3:=fun x y S Q=>match x,y with
 | .int i,.int j=>Q (.bl (neg != decide (i=j))) S
 | .str i,.str j=>Q (.bl (neg != decide (i=j))) S
 | .bl i,.bl j=>Q (.bl (neg != decide (i=j))) S
 |x,y=>∃d d',Dat S x d/\Dat S y d'/\d.canLay0=true/\d'.canLay0=true/\min d.depth d'.depth<=150/\Q (.bl (neg != PyData.eqv d d')) S
def kO(hu:X.A.units+150 < cLine):hU X (compareOp .Eq) (dG false):=⟨fun pins s σ H x y v u Q I rx ry ⟨px,py,S,Q3,r1,r2,rS,q,k⟩=>by
 unfold dG at q
 split at q
 ·cases r1;cases r2
  exact rO pins s σ H _ _ v u Q I rx ry ⟨rfl,k _ S _ H (by simpa using q) (.bl _) rS .refl⟩
 ·cases r1;cases r2
  exact rO pins s σ H _ _ v u Q I rx ry ⟨rfl,k _ S _ H (by simpa using q) (.bl _) rS .refl⟩
 ·cases r1;cases r2
  exact rO pins s σ H _ _ v u Q I rx ry ⟨rfl,k _ S _ H (by simpa using q) (.bl _) rS .refl⟩
 ·obtain⟨d,d',h1,h2,c1,c2,hd,q⟩:=q
  obtain⟨as,a1⟩:=h1.reads I rS r1 rx
  obtain⟨bs,a2⟩:=h2.reads I rS r2 ry
  exact SeqAt.compareEq_reads a1 a2 c1 c2 (by omega) ⟨.bl _,H,I,rfl,k _ S _ H (by simpa using q) (.bl _) rS .refl⟩⟩
def Aj(hu:X.A.units+150 < cLine):hU X (compareOp .NotEq) (dG true):=⟨fun pins s σ H x y v u Q I rx ry ⟨px,py,S,Q3,r1,r2,rS,q,k⟩=>by
 unfold dG at q
 split at q
 ·cases r1;cases r2
  exact rP pins s σ H _ _ v u Q I rx ry ⟨rfl,k _ S _ H (by simpa using q) (.bl _) rS .refl⟩
 ·cases r1;cases r2
  exact rP pins s σ H _ _ v u Q I rx ry ⟨rfl,k _ S _ H (by simpa using q) (.bl _) rS .refl⟩
 ·cases r1;cases r2
  exact rP pins s σ H _ _ v u Q I rx ry ⟨rfl,k _ S _ H (by simpa using q) (.bl _) rS .refl⟩
 ·obtain⟨d,d',h1,h2,c1,c2,hd,q⟩:=q
  obtain⟨as,a1⟩:=h1.reads I rS r1 rx
  obtain⟨bs,a2⟩:=h2.reads I rS r2 ry
  exact SeqAt.compareNe_reads a1 a2 c1 c2 (by omega) ⟨.bl _,H,I,rfl,k _ S _ H (by simpa using q) (.bl _) rS .refl⟩⟩
def ki(neg:Bool):R3:=fun x y S Q=>match y with
 | .non=>Q (.bl (neg != match x with | .non=>true|_=>false)) S
 | .bl true=>match x with | .bl true=>Q (.bl (neg != true)) S|_=>False
 |_=>False
def wD:hU X (compareOp .Is) (ki false):=⟨fun pins s σ H x y v u Q I rx ry ⟨px,py,S,Q3,r1,r2,rS,q,k⟩=>by
 unfold ki at q
 split at q
 ·cases r2
  refine xM pins s σ H _ _ v u Q I rx ry ⟨rfl,?_⟩
  cases r1<;>exact k _ S _ H (by simpa using q) (.bl _) rS .refl
 ·cases r2
  split at q
  ·cases r1
   exact yg pins s σ H _ _ v u Q I rx ry ⟨rfl,rfl,k _ S _ H (by simpa using q) (.bl _) rS .refl⟩
  ·exact q.elim
 ·exact q.elim⟩
def jS:hU X (compareOp .IsNot) (ki true):=⟨fun pins s σ H x y v u Q I rx ry ⟨px,py,S,Q3,r1,r2,rS,q,k⟩=>by
 unfold ki at q
 split at q
 ·cases r2
  refine uW pins s σ H _ _ v u Q I rx ry ⟨rfl,?_⟩
  cases r1<;>exact k _ S _ H (by simpa using q) (.bl _) rS .refl
 ·cases r2
  split at q
  ·cases r1
   exact qH pins s σ H _ _ v u Q I rx ry ⟨rfl,rfl,k _ S _ H (by simpa using q) (.bl _) rS .refl⟩
  ·exact q.elim
 ·exact q.elim⟩
noncomputable def ic(S:av):PV->Option (List PV)
 | .tup xs=>some xs
 | .cl xs=>some xs
 | .ref a=>match S a with|some (.lst xs)=>some xs|_=>none
 |_=>none
def yo{H:Hp}{S:av}{v:V}{p:PV}{xs:List PV}(rS:Di X.K H S)(r:Rep X.K H v p)(h:ic S p=some xs):∃a vs,v = .ref a/\(SqL X.K H a vs\/SqT X.K H a vs)/\Reps X.K H vs xs:=by
 unfold ic at h
 split at h
 ·cases h;cases r with|tup h1 rs=>exact⟨_,_,rfl,.inr h1,rs⟩
 ·cases h;cases r with|cl h1 rs=>exact⟨_,_,rfl,.inl h1.sq,rs⟩
 ·cases r
  split at h
  ·rename_i e
   cases h
   obtain⟨vs,hv,rs⟩:=rS _ _ e
   exact⟨_,vs,rfl,.inl (SqL.of hv),rs⟩
  ·cases h
 ·cases h
theorem Dn.any{K:Vo}{H:Hp}{κ:Type} [DecidableEq κ](k:κ):∀{vs:List (κ×V)} {ps:List (κ×PV)},Dn K H vs ps->(iD vs k).isSome=ps.any fun kv=>decide (kv.1=k)
 |_,_,.nil=>rfl
 |_,_,.cons (k:=k') a r=>by
  rw[List.any_cons,<-Dn.any k r]
  by_cases e:k'=k
  ·rw[EF e];simp[e]
  ·rw[EG e];simp[e]
end
end L3
namespace HT
open PySem PySem.Spec PyProof.Rows
section
variable {prog:Program} {w:World} {A:Around} {E:Vq} {s:Shared}
def ie{t sl:Addr}{items:Vw}{vl vu:Value}{lo hi:Option Int}{Q:Vq}(ht:IsTup s.heap t items)(hs:s.heap.IsSliceOf sl vl vu .none)(pl:IsPart vl lo)(pu:IsPart vu hi)
  (hw:Dz items.size 0 lo=0/\Dz items.size items.size hi=items.size)
  (h:Q (.ref t) s):wpAny (model prog w) A (getItem (.ref t) (.ref sl)) Q E s:=by
 obtain⟨os,hos,hcs,hds⟩:=id hs
 have Jk:s.TypeIs (.ref sl) "slice":=⟨os,hos,hcs⟩
 unfold getItem
 try with_reducible refine wpAny_holding ?_
 first|refine wpAny_bind (wpAny_pure ?_)|skip
 refine wpAny_bind (wpAny_sequenceKey ht.typeIs (by decide) ?_)
 refine wpAny_bind (wpAny_callSpecial?_slot (name:=Str.ofString "__getitem__") ht.typeIs PyProof.Rows.slot_tuple_getitem
  (wpAny_call_entry PyProof.Rows.slot_tuple_getitem ht.typeIs entry_tuple_getitem ?_ (args_tuple_getitem _ _)))
 show wpAny _ _ (Builtin.Tuple.tupleItemsOf (.ref t) >>= _) _ _ s
 refine wpAny_bind (tupleItemsOf_ ht ?_)
 refine wpAny_bind (wpAny_typeOf Jk ?_)
 rw[if_pos (by decide)]
 refine wpAny_bind (eI hs pl pu ?_)
 have hyes:(((Dz items.size 0 lo:Nat):Int) == 0&&(1:Int) == 1&&(Dz items.size items.size hi - Dz items.size 0 lo) == items.size)=true:=by
  rw[hw.1,hw.2];simp
 show wpAny _ _ (if (((Dz items.size 0 lo:Nat):Int) == 0&&(1:Int) == 1&&(Dz items.size items.size hi - Dz items.size 0 lo) == items.size)=true then _ else _) _ _ s
 rw[if_pos hyes]
 unfold Builtin.Tuple.tupleIsExact
 refine wpAny_bind (wpAny_bind (wpAny_typeOf ht.typeIs (wpAny_pure ?_)))
 rw[if_pos (by decide)]
 first
  |exact wpAny_bind (wpAny_rule (wpAny_pure ⟨_,rfl,wpAny_pure h⟩))
  |exact wpAny_bind (wpAny_rule (wpAny_bind (wpAny_pure (wpAny_pure ⟨_,rfl,wpAny_pure h⟩))))
  |exact wpAny_bind (wpAny_rule (wpAny_bind (wpAny_pure ⟨_,rfl,wpAny_pure h⟩)))
end
end HT
namespace L2
open PySem PySem.Spec PyProof.Rows
section
variable {X:Cx}
noncomputable def Ak(K:Vo):V->Option Int->Option Int->Hp->VK->Prop:=fun x lo hi H Q=>∃a xs,x = .ref a/\SqT K H a xs/\∀r H',(∀c o,H c=some o->H' c=some o)->SqT K H' r (jI xs lo hi)->Q (.ref r) H'
def vy:zi X (Ak X.K):=by
 intro pins s σ H x v vl vu lo hi sl Q I rx hs pl pu h
 obtain⟨a,xs,rfl,hx,q⟩:=h
 by_cases hw:HT.Dz xs.length 0 lo=0/\HT.Dz xs.length xs.length hi=xs.length
 ·cases rx
  obtain⟨its,r,ht,hz⟩:=I.tuple hx
  have hlen:its.toArray.size=xs.length:=by rw[List.size_toArray];exact r.length.symm
  refine⟨"tuple",_,PyProof.Rows.slot_tuple_getitem.lookup,ht.typeIs,HT.ie ht hs pl pu (by rw[hlen];exact hw) ⟨.ref a,H,I,rfl,q a H (fun _ _ e=>e) ?_⟩⟩
  have e:jI xs lo hi=xs:=by unfold jI;rw[hw.1,hw.2];simp
  rw[e];exact hx
 ·exact xU pins s σ H _ v vl vu lo hi sl Q I rx hs pl pu ⟨a,xs,rfl,hx,hw,fun p hp=>q p _ (fun c o e=>by rw[az (bd e hp)];exact e) (SqT.of ay)⟩
def vz(hu:X.A.units+1 < cLine):zj X (fun x y H Q=>∃a v,x = .ref a/\DGet H a y (some v)/\Q v H):=by
 intro value slice pins s σ H x y v u Q I rx ry h hs
 obtain⟨a,z,rfl,g,q⟩:=h
 cases rx
 exact tail_any (mD I g) PySem.F.slot_dict_getitem.lookup (qu hu I g ry fun w' s3 I3 rw'=>⟨z,H,I3,rw',q⟩) hs
def sM(hu:X.A.units+1 < cLine):uQ X (fun o i v H Q=>∃a H',o = .ref a/\GO H a i v H'/\Q H'):=by
 intro pins s σ H o i v ov iv u Q I ro ri rv h
 obtain⟨a,H',rfl,g,q⟩:=h
 cases ro
 exact qv hu I g ri rv fun s' I'=>⟨H',I',q⟩
end
end L2
namespace L3
open PySem L2
theorem Reps.Eh{K:Vo}{H:Hp}{vs:List V}{ps:List PV}{i:Int}{p:PV}(r:Reps K H vs ps)(h:L2.Eh ps i=some p):∃v,L2.Eh vs i=some v/\Rep K H v p:=by
 unfold L2.Eh at h ⊢
 rw[r.length]
 cases e:o6 ps.length i with
 |none=>rw[e]at h;cases h
 |some j=>
  rw[e]at h
  obtain⟨v,h1,h2⟩:=r.get h
  exact⟨v,h1,h2⟩
noncomputable def og:PV->Option b8
 | .int i=>some (.inl i)
 | .str x=>some (.inr x)
 |_=>none
def gG{K:Vo}{H:Hp}{v:V}{p:PV}{k:b8}(r:Rep K H v p)(h:og p=some k):v=kV k:=by
 cases p with
 |int i=>cases h;cases r;rfl
 |str i=>cases h;cases r;rfl
 |_=>cases h
noncomputable def ko{κ:Type} [DecidableEq κ]:List (κ×PV)->κ->Option PV
 |[],_=>none
 |(k',v)::r,k=>if k'=k then some v else ko r k
theorem Dn.val{K:Vo}{H:Hp}{κ:Type} [DecidableEq κ]{k:κ}{p:PV}:∀{vs:List (κ×V)} {ps:List (κ×PV)},Dn K H vs ps->ko ps k=some p->∃v,iD vs k=some v/\Rep K H v p
 |_,_,.nil,h=>by cases h
 |_,_,.cons (k:=k') a r,h=>by
  unfold ko at h
  split at h
  ·rename_i e;cases h;exact⟨_,EF e,a⟩
  ·rename_i e;rw[EG e];exact Dn.val r h
section
variable {X:Cx} {a b e lo hi:Expr} {ta tb te:aP} {pos p2:Pos}
structure CA (X:Cx) (r:R3):Prop where
 ok:zj X (LR X r)
def Al{r:R3}(hr:CA X r)(ha:bh X a ta)(hb:bh X b tb)(hs:jw b):bh X (.Subscript a b pos) (ai r ta tb):=⟨aM (zX hr.ok ha.ok hb.ok hs) fun _ _ _=>hW⟩
def aj:R3:=fun x y S Q=>match x with
 | .tup xs=>match y with | .int i=>(match Eh xs i with|some v=>Q v S|none=>False)|_=>False
 | .cl xs=>match y with | .int i=>(match Eh xs i with|some v=>Q v S|none=>False)|_=>False
 | .str z=>match y with | .int i=>z.length<=sizeLine/\(match Eh z.cps.toList i with|some c=>Q (.str ⟨#[c]⟩) S|none=>False)|_=>False
 | .ref a=>match S a with
  |some (.lst xs)=>(match y with | .int i=>(match Eh xs i with|some v=>Q v S|none=>False)|_=>False)
  |some (.dct kvs)=>(match og y with|some k=>(match ko kvs k with|some v=>Q v S|none=>False)|none=>False)
  |_=>False
 |_=>False
def CB(hu:X.A.units+1 < cLine):CA X aj:=⟨fun value slice pins s σ H x y v u Q I rx ry ⟨px,py,S,Q3,r1,r2,rS,q,k⟩ hs=>by
 unfold aj at q
 split at q
 ·split at q
  ·split at q
   ·rename_i e
    cases r2
    cases r1 with
    |tup h1 rs=>
     obtain⟨w,hw,rw'⟩:=rs.Eh e
     exact xV value slice pins s σ H _ _ v u Q I rx ry ⟨_,_,_,w,rfl,rfl,h1,hw,k _ S _ H q rw' rS .refl⟩ hs
   ·exact q.elim
  ·exact q.elim
 ·split at q
  ·split at q
   ·rename_i e
    cases r2
    cases r1 with
    |cl h1 rs=>
     obtain⟨w,hw,rw'⟩:=rs.Eh e
     exact pd value slice pins s σ H _ _ v u Q I rx ry ⟨_,_,_,w,rfl,rfl,h1.sq,hw,k _ S _ H q rw' rS .refl⟩ hs
   ·exact q.elim
  ·exact q.elim
 ·split at q
  ·obtain⟨hz,q⟩:=q
   split at q
   ·rename_i e
    cases r1;cases r2
    exact xW value slice pins s σ H _ _ v u Q I rx ry ⟨_,_,_,rfl,rfl,hz,e,k _ S _ H q (.str _) rS .refl⟩ hs
   ·exact q.elim
  ·exact q.elim
 ·split at q
  ·rename_i e0
   split at q
   ·split at q
    ·rename_i e
     cases r1;cases r2
     obtain⟨vs,hv,rs⟩:=rS _ _ e0
     obtain⟨w,hw,rw'⟩:=rs.Eh e
     exact pd value slice pins s σ H _ _ v u Q I rx ry ⟨_,_,_,w,rfl,rfl,SqL.of hv,hw,k _ S _ H q rw' rS .refl⟩ hs
    ·exact q.elim
   ·exact q.elim
  ·rename_i e0
   split at q
   ·rename_i ek
    split at q
    ·rename_i ev
     cases r1
     have e1:=gG r2 ek
     subst e1
     obtain⟨kv,hv,rk⟩:=rS _ _ e0
     obtain⟨w,hw,rw'⟩:=rk.val ev
     refine vz hu value slice pins s σ H _ _ v u Q I rx ry ⟨_,w,rfl,?_,k _ S _ H q rw' rS .refl⟩ hs
     rw[<-hw]
     exact DGet.k hv
    ·exact q.elim
   ·exact q.elim
  ·exact q.elim
 ·exact q.elim⟩
abbrev zm:=dq->av->(Option Int->av->Prop)->cC->Prop
noncomputable def LO(X:Cx)(t:zm):TO:=fun σ H Q=>∃σ3 S Q3 E3,Dp X.K H σ σ3/\Di X.K H S/\t σ3 S Q3 E3/\GK X H E3/\∀o S' H',Q3 o S'->Di X.K H' S'->Grow X.K H H'->Q o H'
structure Bg (X:Cx) (e:Option Expr) (t:zm):Prop where
 ok:PO X e (LO X t)
noncomputable def pA:zm:=fun _ S Q _=>Q none S
noncomputable def lG(t:aP):zm:=fun σ S Q E=>t σ S (fun v S'=>match v with | .int i=>Q (some i) S'|_=>False) E
def sN{e:Option Expr}{t t':TO}(h:PO X e t)(k:∀σ H Q,t' σ H Q->t σ H Q):PO X e t':=fun pins s σ H Q I q=>h pins s σ H Q I (k σ H Q q)
def iI:Bg X none pA:=⟨sN vc fun σ H Q ⟨σ3,S,Q3,E3,rσ,rS,h,xo,k⟩=>k none S H h rS .refl⟩
def eA(h:bh X e te):Bg X (some e) (lG te):=⟨sN (vd h.ok) fun σ H Q ⟨σ3,S,Q3,E3,rσ,rS,h,xo,k⟩=>⟨σ3,S,_,E3,rσ,rS,h,xo,fun p S' v H' h1 rv EH g=>by
 cases p with
 |int i=>cases rv;exact⟨i,rfl,k _ S' H' h1 EH g⟩
 |_=>exact h1.elim⟩⟩
noncomputable def eB{α:Type}(xs:List α)(lo hi:Option Int):List α:=(xs.drop (HT.Dz xs.length 0 lo)).take (HT.Dz xs.length xs.length hi - HT.Dz xs.length 0 lo)
def Reps.cut{K:Vo}{H:Hp}{vs:List V}{ps:List PV}(r:Reps K H vs ps)(lo hi:Option Int):Reps K H (jI vs lo hi) (eB ps lo hi):=by
 unfold jI eB
 rw[r.length]
 exact(r.drop _).take _
def iJ(x:PV)(lo hi:Option Int)(S:av)(Q:bP):Prop:=match x with
 | .tup xs=>Q (.tup (eB xs lo hi)) S
 | .cl xs=>∀p,S p=none->Q (.ref p) (Dd S p (.lst (eB xs lo hi)))
 | .str z=>z.length<=sizeLine/\Q (.str (Txt.slice z lo hi)) S
 | .ref a=>match S a with|some (.lst xs)=>∀p,S p=none->Q (.ref p) (Dd S p (.lst (eB xs lo hi)))|_=>False
 |_=>False
noncomputable def CS(X:Cx):V->Option Int->Option Int->Hp->VK->Prop:=fun x lo hi H Q=>∃px S Q3,Rep X.K H x px/\Di X.K H S/\iJ px lo hi S Q3/\GL X.K H Q3 Q
def CT:zi X (CS X):=by
 intro pins s σ H x v vl vu lo hi sl Q I rx hs pl pu ⟨px,S,Q3,r1,rS,q,k⟩
 unfold iJ at q
 split at q
 ·cases r1 with
  |tup h1 rs=>exact vy pins s σ H _ v vl vu lo hi sl Q I rx hs pl pu ⟨_,_,rfl,h1,fun r H' hh hr=>k _ S _ H' q (.tup hr ((rs.cut lo hi).mono (.same hh))) (rS.grow hh) (.same hh)⟩
 ·cases r1 with
  |cl h1 rs=>exact pe pins s σ H _ v vl vu lo hi sl Q I rx hs pl pu ⟨_,_,rfl,h1.sq,fun p hp=>k _ _ _ _ (q p (rS.free hp)) (.ref p) (rS.new hp ⟨_,ay,(rs.cut lo hi).mono (.new hp)⟩) (.new hp)⟩
 ·cases r1
  exact ye pins s σ H _ v vl vu lo hi sl Q I rx hs pl pu ⟨_,rfl,q.1,k _ S _ H q.2 (.str _) rS .refl⟩
 ·split at q
  ·rename_i e
   cases r1
   obtain⟨vs,hv,rs⟩:=rS _ _ e
   exact pe pins s σ H _ v vl vu lo hi sl Q I rx hs pl pu ⟨_,_,rfl,SqL.of hv,fun p hp=>k _ _ _ _ (q p (rS.free hp)) (.ref p) (rS.new hp ⟨_,ay,(rs.cut lo hi).mono (.new hp)⟩) (.new hp)⟩
  ·exact q.elim
 ·exact q.elim
def bX(te:aP)(tl th:zm):aP:=fun σ S Q E=>te σ S (fun x S1=>tl σ S1 (fun l S2=>th σ S2 (fun u S3=>iJ x l u S3 Q) E) E) E
def dY{lo hi:Option Expr}{tl th:zm}(he:bh X e te)(hl:Bg X lo tl)(hu:Bg X hi th):bh X (.Subscript e (.Slice lo hi none p2) pos) (bX te tl th):=
 ⟨aM (r_ CT he.ok hl.ok hu.ok) fun σ H Q ⟨σ3,S,Q3,E3,rσ,rS,h,xo,k⟩=>⟨σ3,S,_,E3,rσ,rS,h,xo,fun x S1 v H1 h1 rx Dq g1=>⟨σ3,S1,_,E3,rσ.mono g1,Dq,h1,xo.mono g1,fun l S2 H2 h2 EU g2=>
  ⟨σ3,S2,_,E3,rσ.mono (g1.trans g2),EU,h2,xo.mono (g1.trans g2),fun u S3 H3 h3 Ie g3=>⟨x,S3,Q3,rx.mono (g2.trans g3),Ie,h3,k.mono (g1.trans (g2.trans g3))⟩⟩⟩⟩⟩
def vA:gf X (binaryOp .Mult) (rI IntMulOk fun i j=>.int (i * j)):=Bc fun _ _ _ _ _ _ _ hc q=>PyProof.Rows.mul_int q hc
def aQ:R3:=fun x y S Q=>match x,y with
 | .int i,.int j=>IntMulOk i j/\Q (.int (i * j)) S
 | .ref a,.int j=>(match S a with|some (.lst xs)=>-(2 ^ 63)<=j/\j < 2 ^ 63/\xs.length * j.toNat<=sizeLine/\∀p,S p=none->Q (.ref p) (Dd S p (.lst (List.replicate j.toNat xs).flatten))|_=>False)
 |_,_=>False
theorem Reps.rep{K:Vo}{H:Hp}{vs:List V}{ps:List PV}(r:Reps K H vs ps):∀n:Nat,Reps K H (List.replicate n vs).flatten (List.replicate n ps).flatten
 |0=>.nil
 |n+1=>by
  rw[List.replicate_succ,List.replicate_succ,List.flatten_cons,List.flatten_cons]
  exact r.append (Reps.rep r n)
def aI:hU X (binaryOp .Mult) aQ:=⟨fun pins s σ H x y v u Q I rx ry ⟨px,py,S,Q3,r1,r2,rS,q,k⟩=>by
 unfold aQ at q
 split at q
 ·cases r1;cases r2
  exact vA pins s σ H _ _ v u Q I rx ry ⟨_,_,rfl,rfl,q.1,k _ S _ H q.2 (.int _) rS .refl⟩
 ·split at q
  ·rename_i e
   cases r1;cases r2
   obtain⟨vs,hv,rs⟩:=rS _ _ e
   exact x_ pins s σ H _ _ v u Q I rx ry ⟨_,_,_,rfl,rfl,hv,q.1,q.2.1,by rw[rs.length];exact q.2.2.1,fun p hp=>k _ _ _ _ (q.2.2.2 p (rS.free hp)) (.ref p) (rS.new hp ⟨_,ay,(rs.rep _).mono (.new hp)⟩) (.new hp)⟩
  ·exact q.elim
 ·exact q.elim⟩
end
end L3
namespace L2
open PySem PySem.Spec PyProof.Rows
section
variable {X:Cx}
def qI(hc:X.calm=true):dW X (.builtin "any") (fun xs H Q=>∃(p:Addr) (bs:List Bool),xs=[.ref p]/\SqL X.K H p (bs.map V.bl)/\Q (.bl (bs.any id)) H):=by
 intro pins s σ H xs us Q I r h
 obtain⟨p,bs,rfl,hp,q⟩:=h
 obtain⟨u,rfl,rx⟩:=fu r
 cases rx
 obtain⟨its,rv,pl,hz⟩:=I.list hp
 have hl:=rv.length
 rw[List.length_map]at hl
 have hlt:p < s.heap.objs.size:=by obtain⟨o,ho,_⟩:=pl.isList;exact Heap.lt_size ho
 refine call_any_walk (wpAny_pyIter_list pl.isList ?_)
 have up:∀b o,s.heap.get? b=some o->(s.heap.push { cls:=.type "list_iterator",data:=.fields #[.ref p,.int 0 0] }).get? b=some o:=fun b o e=>Heap.get?_push_of_some _ e
 refine⟨s.heap.objs.size,_,_,_,_,_,fun i=>(bs[i]?).getD false,rfl,Walks.list (A:=X.A.in1) (I.ok.hd hc) s.heap.objs.size p (Nat.ne_of_lt hlt) its.toArray,⟨⟨_,Heap.get?_push_size _ rfl,rfl,rfl⟩,pl.isList.push _⟩,?_,fun h' tk hk=>?_⟩
 ·intro i v s' Q' E' hv hq
  have hi:i < its.length:=by
   by_cases z:i < its.length
   ·exact z
   ·rw[Array.getElem?_eq_none (by simpa using z)]at hv;cases hv
  obtain⟨u',e1,r1⟩:=rv.get (i:=i) (x:=.bl bs[i]) (by rw[List.getElem?_map,List.getElem?_eq_getElem (by omega)];rfl)
  have e2:v=u':=by
   have z:its[i]?=some v:=by simpa using hv
   rw[z]at e1;exact Option.some.inj e1
  subst e2
  cases (show v=Value.bool bs[i] from r1)
  refine wpAny_truthy_bool ?_
  have hq':Q' ((bs[i]?).getD false) s':=hq
  rw[List.getElem?_eq_getElem (show i < bs.length by omega)]at hq'
  exact hq'
 ·have e:(List.range its.toArray.size).any (fun i=>(bs[i]?).getD false)=bs.any id:=by
   rw[List.size_toArray,<-hl,Bool.eq_iff_iff,List.any_eq_true,List.any_eq_true]
   constructor
   ·rintro⟨i,hi,h1⟩
    have hi':i < bs.length:=List.mem_range.mp hi
    rw[List.getElem?_eq_getElem hi']at h1
    exact⟨bs[i],List.getElem_mem hi',h1⟩
   ·rintro⟨x,hx,h1⟩
    obtain⟨i,hi,e⟩:=List.getElem_of_mem hx
    exact⟨i,List.mem_range.mpr hi,by rw[List.getElem?_eq_getElem hi,e];exact h1⟩
  refine⟨.bl (bs.any id),H,?_,by rw[e];rfl,q⟩
  exact I.kept (t':=tk) fun b o z=>hk b o (by
   intro q2
   have q3:b=s.heap.objs.size:=by simpa using q2
   rw[q3]at z
   exact absurd (Heap.lt_size z) (Nat.lt_irrefl _)) (up b o z)
def oh{pins:Va}{σ:St}{H:Hp}{s:Shared}{x:Value}{t:Value}{p:Heap->Prop}{vs:List V}{tp:Addr}{b:Bool}{Q:Vq}{E:Vq}(I:Inv X pins σ H s)(Z:PySem.W.KitX X.K x t p)(hp:p s.heap)(hx:x ≠ .builtin "__main__.__loader__#opaque")
  (ht:SqT X.K H tp vs) (e:∀its,Vals vs its->PySem.W.kitAny X.K t its=some b) (h:∀tk,Q (.bool b) { s with toks:=tk }):wpAny (model X.prog X.w) X.A (call (.builtin "isinstance") [x,.ref tp]) Q E s:=by
 obtain⟨its,rv,⟨⟨cls,dd,data,sl⟩,ho,hc,n,hd⟩,hz⟩:=I.tuple ht
 simp only at hc hd
 subst hc hd
 exact PySem.W.kia_tup Z I.Gd hp ho (e its rv) hx h
end
end L2
namespace L3
open PySem L2
abbrev lH:=List PV->av->bP->Prop
section
variable {X:Cx} {e o:Expr} {es:List Expr} {te to:aP} {ts:List aP} {x:Str} {p pos apos cpos:Pos}
noncomputable def LC(X:Cx)(r:lH):List V->Hp->VK->Prop:=fun xs H Q=>∃ps S Q3,Reps X.K H xs ps/\Di X.K H S/\r ps S Q3/\GL X.K H Q3 Q
structure dH (X:Cx) (f:Value) (r:lH):Prop where
 ok:dW X f (LC X r)
def ah(r:lH)(ts:List aP):aP:=fun σ S Q E=>ag ts σ S (fun ps S1=>r ps S1 Q) E
def pB{r:lH}{σ:L2.St}{H:Hp}{Q:VK}:LE X (ah r ts) σ H Q->Bf (ts.map (LE X)) σ H fun vs H1=>LC X r vs H1 Q:=fun⟨σ3,S,Q3,E3,rσ,rS,h,xo,k⟩=>
 cx rσ rS h xo fun ps S' vs H' hl q rv EH g=>⟨ps,S',Q3,rv,EH,q,k.mono g⟩
def vB{id:String}{r:lH}(hc:dH X (.builtin id) r)(hg:Gl X x)(hm:X.mg x=none)(hv:bootBuiltins x=some (.builtin id))(he:starEach (e::es) X.env=(false,eval e X.env)::starEach es X.env)(ha:jO X (e::es) ts)
  (hn:x ≠ "__name__":=by decide) (hdb:(x == ("__debug__":Str))=false:=by decide) (hpl:(backTo pos (starEach es X.env)).any (·.1)=false:=by rfl):bh X (.Call (.Name x p) (e::es) [] pos) (ah r ts):=
 ⟨aM (r6 hc.ok hg hm hv ha.ok hn hdb he hpl) fun _ _ _=>pB⟩
def vC{id:String}{r:lH}(hc:dH X (.type id) r)(hg:Gl X x)(hm:X.mg x=none)(hv:bootBuiltins x=some (.type id))(he:starEach (e::es) X.env=(false,eval e X.env)::starEach es X.env)(ha:jO X (e::es) ts)
  (hn:x ≠ "__name__":=by decide) (hdb:(x == ("__debug__":Str))=false:=by decide) (hpl:(backTo pos (starEach es X.env)).any (·.1)=false:=by rfl):bh X (.Call (.Name x p) (e::es) [] pos) (ah r ts):=
 ⟨aM (qp hc.ok hg hm hv ha.ok hn hdb he hpl) fun _ _ _=>pB⟩
def aS:lH:=fun ps S Q=>match ps with
 |[.tup xs]=>Q (.int xs.length) S
 |[.cl xs]=>Q (.int xs.length) S
 |[.str z]=>z.length<=sizeLine/\Q (.int z.length) S
 |[.ref a]=>(match S a with|some (.lst xs)=>Q (.int xs.length) S|some (.dct kvs)=>Q (.int kvs.length) S|_=>False)
 |_=>False
def bI:dH X (.builtin "len") aS:=⟨fun pins s σ H xs us Q I r ⟨ps,S,Q3,rp,rS,q,k⟩=>by
 unfold aS at q
 split at q
 ·cases rp with|cons a rr=>cases rr;cases a with|tup h rs=>exact e7 pins s σ H _ us Q I r ⟨_,_,rfl,.inr h,by rw[rs.length];exact k _ S _ H q (.int _) rS .refl⟩
 ·cases rp with|cons a rr=>cases rr;cases a with|cl h rs=>exact e7 pins s σ H _ us Q I r ⟨_,_,rfl,.inl h.sq,by rw[rs.length];exact k _ S _ H q (.int _) rS .refl⟩
 ·cases rp with|cons a rr=>cases rr;cases a;exact lw pins s σ H _ us Q I r ⟨_,rfl,q.1,k _ S _ H q.2 (.int _) rS .refl⟩
 ·cases rp with
  |cons a rr=>
   cases rr;cases a
   split at q
   ·rename_i e
    obtain⟨vs,hv,rs⟩:=rS _ _ e
    exact e7 pins s σ H _ us Q I r ⟨_,_,rfl,.inl (SqL.of hv),by rw[rs.length];exact k _ S _ H q (.int _) rS .refl⟩
   ·rename_i e
    obtain⟨vs,hv,rs⟩:=rS _ _ e
    exact qz pins s σ H _ us Q I r ⟨_,_,rfl,hv,by rw[rs.length];exact k _ S _ H q (.int _) rS .refl⟩
   ·exact q.elim
 ·exact q.elim⟩
def qJ:lH:=fun ps S Q=>match ps with|[.int i]=>Q (.int (if i < 0 then -i else i)) S|_=>False
def Am:dH X (.builtin "abs") qJ:=⟨fun pins s σ H xs us Q I r ⟨ps,S,Q3,rp,rS,q,k⟩=>by
 unfold qJ at q
 split at q
 ·cases rp with|cons a rr=>cases rr;cases a;exact rQ pins s σ H _ us Q I r ⟨_,rfl,k _ S _ H q (.int _) rS .refl⟩
 ·exact q.elim⟩
def jT:lH:=fun ps S Q=>match ps with|[.int i,.int j]=>Q (.int (if j > i then j else i)) S|_=>False
def sO(hc:X.calm=true):dH X (.builtin "max") jT:=⟨fun pins s σ H xs us Q I r ⟨ps,S,Q3,rp,rS,q,k⟩=>by
 unfold jT at q
 split at q
 ·cases rp with|cons a rr=>cases rr with|cons b r3=>cases r3;cases a;cases b;exact qk hc pins s σ H _ us Q I r ⟨_,_,rfl,k _ S _ H q (.int _) rS .refl⟩
 ·exact q.elim⟩
def gj:lH:=fun ps S Q=>match ps with|[.int i]=>Q (.int i) S|[.bl b]=>Q (.int (if b then 1 else 0)) S|_=>False
def wE:dH X (.type "int") gj:=⟨fun pins s σ H xs us Q I r ⟨ps,S,Q3,rp,rS,q,k⟩=>by
 unfold gj at q
 split at q
 ·cases rp with|cons a rr=>cases rr;cases a;exact kD pins s σ H _ us Q I r (.inl ⟨_,rfl,k _ S _ H q (.int _) rS .refl⟩)
 ·cases rp with|cons a rr=>cases rr;cases a;exact kD pins s σ H _ us Q I r (.inr ⟨_,rfl,k _ S _ H q (.int _) rS .refl⟩)
 ·exact q.elim⟩
def aT:lH:=fun ps S Q=>match ps with
 |[v]=>(match ic S v with|some xs=>Q (.tup xs) S|none=>False)
 |_=>False
def dZ:dH X (.type "tuple") aT:=⟨fun pins s σ H xs us Q I r ⟨ps,S,Q3,rp,rS,q,k⟩=>by
 unfold aT at q
 split at q
 ·cases rp with
  |cons a rr=>
   cases rr
   split at q
   ·rename_i e
    obtain⟨b,vs,rfl,hs,rs⟩:=yo rS a e
    rcases hs with hs|hs
    ·exact gh pins s σ H _ us Q I r ⟨_,_,rfl,.inl ⟨hs,fun p hp=>k _ S _ _ q (.tup (SqT.of ay) (rs.mono (.new hp))) (rS.other hp) (.new hp)⟩⟩
    ·exact gh pins s σ H _ us Q I r ⟨_,_,rfl,.inr ⟨hs,k _ S _ _ q (.tup hs rs) rS .refl⟩⟩
   ·exact q.elim
 ·exact q.elim⟩
noncomputable def fL:List PV->Option (List Bool)
 |[]=>some []
 | .bl b::r=>(fL r).map (b::·)
 |_::_=>none
theorem gH{K:Vo}{H:Hp}:∀{vs:List V} {ps:List PV} {bs:List Bool},Reps K H vs ps->fL ps=some bs->vs=bs.map V.bl
 |_,_,_,.nil,h=>by cases h;rfl
 |_,_,bs,.cons (p:=p) a r,h=>by
  cases p with
  |bl b=>
   cases a
   unfold fL at h
   cases e:fL _ with
   |none=>rw[e]at h;cases h
   |some l=>rw[e]at h;cases h;rw[gH r e];rfl
  |_=>cases h
def qK:lH:=fun ps S Q=>match ps with
 |[.ref a]=>(match S a with|some (.lst xs)=>(match fL xs with|some bs=>Q (.bl (bs.all id)) S|none=>False)|_=>False)
 |_=>False
def wF(hc:X.calm=true):dH X (.builtin "all") qK:=⟨fun pins s σ H xs us Q I r ⟨ps,S,Q3,rp,rS,q,k⟩=>by
 unfold qK at q
 split at q
 ·cases rp with
  |cons a rr=>
   cases rr;cases a
   split at q
   ·rename_i e
    split at q
    ·rename_i eb
     obtain⟨vs,hv,rs⟩:=rS _ _ e
     have e2:=gH rs eb
     subst e2
     exact qC hc pins s σ H _ us Q I r ⟨_,_,rfl,SqL.of hv,k _ S _ H q (.bl _) rS .refl⟩
    ·exact q.elim
   ·exact q.elim
 ·exact q.elim⟩
def vD:lH:=fun ps S Q=>match ps with
 |[.ref a]=>(match S a with|some (.lst xs)=>(match fL xs with|some bs=>Q (.bl (bs.any id)) S|none=>False)|_=>False)
 |_=>False
def An(hc:X.calm=true):dH X (.builtin "any") vD:=⟨fun pins s σ H xs us Q I r ⟨ps,S,Q3,rp,rS,q,k⟩=>by
 unfold vD at q
 split at q
 ·cases rp with
  |cons a rr=>
   cases rr;cases a
   split at q
   ·rename_i e
    split at q
    ·rename_i eb
     obtain⟨vs,hv,rs⟩:=rS _ _ e
     have e2:=gH rs eb
     subst e2
     exact qI hc pins s σ H _ us Q I r ⟨_,_,rfl,SqL.of hv,k _ S _ H q (.bl _) rS .refl⟩
    ·exact q.elim
   ·exact q.elim
 ·exact q.elim⟩
end
noncomputable def mK(t c:String):Bool:=t == c || (t == "bool" && c == "int")
noncomputable def vE(S:av):PV->Option String
 | .non=>some "NoneType"
 | .bl _=>some "bool"
 | .int _=>some "int"
 | .str _=>some "str"
 | .tup _=>some "tuple"
 | .cl _=>some "list"
 | .ref a=>(match S a with|some (.lst _)=>some "list" | some (.dct _)=>some "dict" | _=>none)
 | .ty _=>none
 | .exc _ _ _=>none
 | .cls _=>none
noncomputable def cN(c:String):Bool:=["int","str","bool","tuple","list","dict"].contains c
def sP(K:Vo)(t c:String):PySem.W.kitCls K (.type t) (.type c)=(if PySem.W.kitMeta c=true then (PySem.fastBuiltinMro t).map (·.contains (Value.type c)) else none):=rfl
def pC{K:Vo}{t c:String}(ht:t∈["NoneType","bool","int","str","tuple","list","dict"])(hc:cN c=true):PySem.W.kitOne K (.type t) (.type c)=some (mK t c):=by
 have hc':c∈["int","str","bool","tuple","list","dict"]:=by
  have:=hc
  unfold cN at this
  simpa using this
 simp only[List.mem_cons,List.not_mem_nil,or_false]at ht hc'
 rcases ht with rfl|rfl|rfl|rfl|rfl|rfl|rfl<;>rcases hc' with rfl|rfl|rfl|rfl|rfl|rfl <;>
  first
   |(unfold PySem.W.kitOne;rw[if_pos (by decide)];rfl)
   |(unfold PySem.W.kitOne;rw[if_neg (by decide),sP];decide +kernel)
def sQ{S:av}{p:PV}{t:String}(h:vE S p=some t):t∈["NoneType","bool","int","str","tuple","list","dict"]:=by
 unfold vE at h
 split at h<;>first|(cases h;decide)|(split at h<;>first|(cases h;decide)|cases h)|cases h
section
variable {X:Cx}
noncomputable def Ap:List PV->Option (List String)
 |[]=>some []
 | .ty c::r=>if cN c then (Ap r).map (c::·) else none
 |_::_=>none
def iK:lH:=fun ps S Q=>match ps with
 |[x,.ty c]=>(match vE S x with|some t=>cN c=true/\Q (.bl (mK t c)) S|none=>False)
 |[x,.tup cs]=>(match vE S x,Ap cs with|some t,some l=>Q (.bl (l.any (mK t))) S|_,_=>False)
 |_=>False
def vF{K:Vo}{H:Hp}{t:String}(ht:t∈["NoneType","bool","int","str","tuple","list","dict"]):∀(cs:List PV) {l:List String} {vs:List V} {its:Vv},Ap cs=some l->Reps K H vs cs->Vals vs its->PySem.W.kitAny K (.type t) its=some (l.any (mK t)):=by
 intro cs
 induction cs with
 |nil=>intro l vs its h rs r;cases h;cases rs;cases r;rfl
 |cons p cs ih=>
  intro l vs its h rs r
  cases p with
  |ty c=>
   unfold Ap at h
   split at h
   ·rename_i hc
    cases e:Ap cs with
    |none=>rw[e]at h;cases h
    |some l'=>
     rw[e]at h
     cases h
     cases rs with
     |cons a rs=>
      cases a
      cases r with
      |@cons _ u _ us r1 r2=>
       cases (show u=Value.type c from r1)
       show(match PySem.W.kitOne K (.type t) (.type c)with|some true=>some true|some false=>PySem.W.kitAny K (.type t) us|none=>none)=_
       rw[pC ht hc,List.any_cons]
       cases mK t c with
       |true=>rfl
       |false=>exact ih e rs r2
   ·cases h
  |_=>cases h
def mL:dH X (.builtin "isinstance") iK:=⟨fun pins s σ H xs us Q I r ⟨ps,S,Q3,rp,rS,q,k⟩=>by
 have main:∀{v:PV} {x:V} {u:Value} {t:String},Rep X.K H x v->RelV x u->vE S v=some t->∃(h:Heap->Prop),PySem.W.KitX X.K u (.type t) h/\h s.heap/\u ≠ .builtin "__main__.__loader__#opaque":=by
  intro v x u t rv rx ht
  cases rv with
  |non=>cases ht;cases rx;exact⟨_,PySem.W.kitx_none,True.intro,fun z=>nomatch z⟩
  |bl b=>cases ht;cases rx;exact⟨_,PySem.W.kitx_bool,True.intro,fun z=>nomatch z⟩
  |int b=>cases ht;obtain⟨t,rfl⟩:=rx;exact⟨_,PySem.W.kitx_int,True.intro,fun z=>nomatch z⟩
  |str b=>cases ht;obtain⟨t,rfl⟩:=rx;exact⟨_,PySem.W.kitx_str,True.intro,fun z=>nomatch z⟩
  |ty b=>cases ht
  |exc _ _ _=>cases ht
  |cls _=>cases ht
  |tup h rs=>
   cases ht;cases rx
   obtain⟨its,_,⟨o,ho,hc,_⟩,_⟩:=I.tuple h
   exact⟨_,PySem.W.kitx_tuple,⟨o,ho,hc⟩,fun z=>nomatch z⟩
  |cl h rs=>
   cases ht;cases rx
   obtain⟨its,_,⟨o,n,ho,hc,_⟩,_⟩:=I.list h.sq
   exact⟨_,PySem.W.kitx_list,⟨o,ho,hc⟩,fun z=>nomatch z⟩
  |ref a=>
   cases rx
   unfold vE at ht
   simp only at ht
   split at ht
   ·rename_i e
    cases ht
    obtain⟨vs,hv,_⟩:=rS _ _ e
    obtain⟨its,_,⟨o,n,ho,hc,_⟩,_⟩:=I.list (SqL.of hv)
    exact⟨_,PySem.W.kitx_list,⟨o,ho,hc⟩,fun z=>nomatch z⟩
   ·rename_i e
    cases ht
    obtain⟨vs,hv,_⟩:=rS _ _ e
    obtain⟨_,_,vs',_,p⟩:=(show ObjOk X.prog X.w H s.heap _ (.dK vs)from I.hok _ _ hv)
    obtain⟨o,es,ep,h1,h2,_⟩:=p
    exact⟨_,PySem.W.kitx_dict,⟨o,h1,h2.1⟩,fun z=>nomatch z⟩
   ·cases ht
 unfold iK at q
 split at q
 ·split at q
  ·rename_i ht
   cases rp with
   |cons a rr=>
    cases rr with
    |cons b r3=>
     cases r3;cases b
     cases r with
     |cons r1 r2=>
      cases r2 with
      |cons r4 r5=>
       cases r5
       cases (show _=Value.type _ from r4)
       obtain⟨h,Z,hp,hx⟩:=main a r1 ht
       exact PySem.W.kia_one Z I.Gd hp (pC (sQ ht) q.1) hx fun tk=>⟨.bl _,H,I.tok _,rfl,k _ S _ H q.2 (.bl _) rS .refl⟩
  ·exact q.elim
 ·split at q
  ·rename_i ht hl
   cases rp with
   |cons a rr=>
    cases rr with
    |cons b r3=>
     cases r3
     cases b with
     |tup h1 rs=>
      cases r with
      |cons r1 r2=>
       cases r2 with
       |cons r4 r5=>
        cases r5
        cases r4
        obtain⟨h,Z,hp,hx⟩:=main a r1 ht
        exact oh I Z hp hx h1 (fun its rv=>vF (sQ ht) _ hl rs rv) fun tk=>⟨.bl _,H,I.tok _,rfl,k _ S _ H q (.bl _) rS .refl⟩
  ·exact q.elim
 ·exact q.elim⟩
end
abbrev vG:=PV->List PV->av->bP->Prop
section
variable {X:Cx} {e o:Expr} {es:List Expr} {te to:aP} {ts:List aP} {name:Str} {p pos apos cpos:Pos} {T id:String}
noncomputable def LM(X:Cx)(r:vG):V->List V->Hp->VK->Prop:=fun x xs H Q=>∃px ps S Q3,Rep X.K H x px/\Reps X.K H xs ps/\Di X.K H S/\r px ps S Q3/\GL X.K H Q3 Q
structure yp (X:Cx) (id:String) (r:vG):Prop where
 ok:BG X id (LM X r)
def uD(T:String)(x:PV)(S:av):Prop:=match x with
 | .str _=>T = "str"
 | .ref a=>(match S a with|some (.lst _)=>T = "list" | some (.dct _)=>T = "dict" | _=>False)
 | .cl _=>T = "list"
 |_=>False
def sR{H:Hp}{S:av}{v:V}{p:PV}(rS:Di X.K H S)(r:Rep X.K H v p)(h:uD T p S):Bd X.K T v H:=by
 cases r with
 |str x=>exact h
 |ref a=>
  unfold uD at h
  simp only at h
  split at h
  ·rename_i e
   obtain⟨vs,hv,_⟩:=rS _ _ e
   exact .inl ⟨h,_,SqL.of hv⟩
  ·rename_i e
   obtain⟨vs,hv,_⟩:=rS _ _ e
   exact .inr (.inr (.inl ⟨h,.inl ⟨_,hv⟩⟩))
  ·exact h.elim
 |cl h1 _=>exact .inl ⟨h,_,h1.sq⟩
 |_=>exact h.elim
def mM(T:String)(r:vG)(to:aP)(ts:List aP):aP:=fun σ S Q E=>to σ S (fun x S1=>uD T x S1/\ag ts σ S1 (fun ps S2=>r x ps S2 Q) E) E
def B5{r:vG}(pa:PlainAttrs T)(slot:Slot T name id)(hty:typeOf (.builtin id)=pure (.type "method_descriptor"))(hm:yp X id r)(hs:starEach (e::es) X.env=(false,eval e X.env)::starEach es X.env)(ho:bh X o to)(ha:jO X (e::es) ts)
  (hbase:attributeBase o name X.env (eval o X.env)=eval o X.env:=by rfl)
  (hfew:((backTo cpos (starEach (e::es) X.env)).all (fun x=>!x.1)&&(backToKw cpos (keywordEach [] X.env)).all (fun x=>x.1.isSome)
   && decide ((e::es).length+([]:List Keyword).length+(if ([]:List Keyword).isEmpty then 0 else 1) < 30))=true:=by rfl)
  (hline:(apos.endLine == cpos.line)=true:=by rfl) (hplain:(backTo cpos (starEach es X.env)).any (·.1)=false:=by rfl):bh X (.Call (.Attribute o name apos) (e::es) [] cpos) (mM T r to ts):=
 ⟨aM (zZ pa slot hty hm.ok ho.ok ha.ok hbase hfew hline hs hplain) fun σ H Q ⟨σ3,S,Q3,E3,rσ,rS,h,xo,k⟩=>⟨σ3,S,_,E3,rσ,rS,h,xo,fun x S1 v H1 h1 rx Dq g1=>
  ⟨sR Dq rx h1.1,cx (rσ.mono g1) Dq h1.2 (xo.mono g1) fun ps S2 vs H2 hl q rv EU g2=>⟨x,ps,S2,Q3,rx.mono g2,rv,EU,q,k.mono (g1.trans g2)⟩⟩⟩⟩
def Aq{r:vG}(pa:PlainAttrs T)(slot:Slot T name id)(hty:typeOf (.builtin id)=pure (.type "method_descriptor"))(hm:yp X id r)(ho:bh X o to)
  (hbase:attributeBase o name X.env (eval o X.env)=eval o X.env:=by rfl) (hline:(apos.endLine == cpos.line)=true:=by rfl):bh X (.Call (.Attribute o name apos) [] [] cpos) (mM T r to []):=
 ⟨aM (xX pa slot hty hm.ok ho.ok hbase hline) fun σ H Q ⟨σ3,S,Q3,E3,rσ,rS,h,xo,k⟩=>⟨σ3,S,_,E3,rσ,rS,h,xo,fun x S1 v H1 h1 rx Dq g1=>
  ⟨sR Dq rx h1.1,⟨x,[],S1,Q3,rx,.nil,Dq,h1.2,k.mono g1⟩⟩⟩⟩
def cG:vG:=fun x ps S Q=>match x,ps with
 | .ref a,[y]=>(match S a with|some (.lst xs)=>xs.length < sizeLine/\Q .non (Dd S a (.lst (xs++[y])))|_=>False)
 |_,_=>False
def jU:yp X "list.append" cG:=⟨fun pins s σ H x xs v us Q I rx rs ⟨px,ps,S,Q3,r1,rp,rS,q,k⟩=>by
 unfold cG at q
 split at q
 ·split at q
  ·rename_i e
   cases r1
   cases rp with
   |cons b rr=>
    cases rr
    obtain⟨vs,hv,rl⟩:=rS _ _ e
    exact qr pins s σ H _ _ v us Q I rx rs ⟨_,_,_,rfl,rfl,hv,by rw[rl.length];exact q.1,k _ _ _ _ q.2 .non (rS.put hv trivial ⟨_,ay,(rl.append (.cons b .nil)).mono (.mut hv trivial)⟩) (.mut hv trivial)⟩
  ·exact q.elim
 ·exact q.elim⟩
def e9:vG:=fun x ps S Q=>match x,ps with
 | .ref a,[.ref b]=>(match S a,S b with|some (.lst xs),some (.lst ys)=>xs.length+ys.length<=sizeLine/\Q .non (Dd S a (.lst (xs++ys)))|_,_=>False)
 |_,_=>False
def sT:yp X "list.extend" e9:=⟨fun pins s σ H x xs v us Q I rx rs ⟨px,ps,S,Q3,r1,rp,rS,q,k⟩=>by
 unfold e9 at q
 split at q
 ·split at q
  ·rename_i e e2
   cases r1
   cases rp with
   |cons b rr=>
    cases rr
    cases b
    obtain⟨vs,hv,rl⟩:=rS _ _ e
    obtain⟨us',hu,ru⟩:=rS _ _ e2
    exact qt pins s σ H _ _ v us Q I rx rs ⟨_,_,_,_,rfl,rfl,hv,hu,by rw[rl.length,ru.length];exact q.1,k _ _ _ _ q.2 .non (rS.put hv trivial ⟨_,ay,(rl.append ru).mono (.mut hv trivial)⟩) (.mut hv trivial)⟩
  ·exact q.elim
 ·exact q.elim⟩
def mN:vG:=fun x ps S Q=>match x,ps with
 | .ref a,[]=>(match S a with|some (.lst xs)=>(match xs[xs.length - 1]? with|some y=>Q y (Dd S a (.lst xs.dropLast))|none=>False)|_=>False)
 | .ref a,[.int i]=>(match S a with|some (.lst xs)=>-(2 ^ 63)<=i/\i < 2 ^ 63/\(match seqIndex? i xs.length with|some j=>(match xs[j]? with|some y=>Q y (Dd S a (.lst (xs.eraseIdx j)))|none=>False)|none=>False)|_=>False)
 |_,_=>False
def wG:yp X "list.pop" mN:=⟨fun pins s σ H x xs v us Q I rx rs ⟨px,ps,S,Q3,r1,rp,rS,q,k⟩=>by
 unfold mN at q
 split at q
 ·split at q
  ·rename_i e
   split at q
   ·rename_i ey
    cases r1
    cases rp
    obtain⟨vs,hv,rl⟩:=rS _ _ e
    rw[<-rl.length]at ey
    obtain⟨y',Jy,ry⟩:=rl.get ey
    exact xY pins s σ H _ _ v us Q I rx rs ⟨_,_,_,rfl,rfl,hv,Jy,k _ _ _ _ q (ry.mono (.mut hv trivial)) (rS.put hv trivial ⟨_,ay,rl.dropLast.mono (.mut hv trivial)⟩) (.mut hv trivial)⟩
   ·exact q.elim
  ·exact q.elim
 ·split at q
  ·rename_i e
   obtain⟨h1,h2,q⟩:=q
   split at q
   ·rename_i ej
    split at q
    ·rename_i ey
     cases r1
     cases rp with
     |cons b rr=>
      cases rr;cases b
      obtain⟨vs,hv,rl⟩:=rS _ _ e
      obtain⟨y',Jy,ry⟩:=rl.get ey
      rw[<-rl.length]at ej
      exact sf pins s σ H _ _ v us Q I rx rs ⟨_,_,_,_,_,rfl,rfl,hv,h1,h2,ej,Jy,k _ _ _ _ q (ry.mono (.mut hv trivial)) (rS.put hv trivial ⟨_,ay,(rl.eraseIdx _).mono (.mut hv trivial)⟩) (.mut hv trivial)⟩
    ·exact q.elim
   ·exact q.elim
  ·exact q.elim
 ·exact q.elim⟩
end
section
variable {X:Cx} {e c:Expr} {te:aP} {st:Stmt} {rest a b:List Stmt} {t u:bM} {tc:jh} {pos:Pos}
def br:bM:=fun D σ S=>D.nx σ S
def ak(t u:bM):bM:=fun D σ S=>t { D with nx:=u D } σ S
def bi:jr X [] br:=⟨pq uN fun D σ H ⟨σ3,S,D3,rσ,rS,h,xo,n,r,bk,ct⟩=>n σ3 S σ H h rσ rS .refl⟩
def ae(h1:n4 X st t)(h2:jr X rest u):jr X (st::rest) (ak t u):=
 ⟨pq (rH h1.ok h2.ok) fun D σ H ⟨σ3,S,D3,rσ,rS,h,xo,n,r,bk,ct⟩=>⟨σ3,S,{ D3 with nx:=u D3 },rσ,rS,h,xo,fun σ4 S' σ' H' h' GY EH g=>⟨σ4,S',D3,GY,EH,h',xo.mono g,n.mono g,r.mono g,bk.mono g,ct.mono g⟩,r,bk,ct⟩⟩
def al(h1:n4 X st t):jr X [st] t:=⟨uO h1.ok⟩
def du(te:aP):bM:=fun D σ S=>te σ S (fun _ S1=>D.nx σ S1) D.ex
def iL(he:bh X e te)(hs:swapsWith e none pos.line X.env=pure false:=by rfl):n4 X (.Expr e pos) (du te):=
 ⟨dE (uP he.ok hs) fun D σ H ⟨σ3,S,D3,rσ,rS,h,xo,n,r,bk,ct⟩=>⟨σ3,S,_,D3.ex,rσ,rS,h,xo,fun p S1 v H1 h1 rv Dq g1=>n σ3 S1 σ H1 h1 (rσ.mono g1) Dq g1⟩⟩
def ap(te:aP):bM:=fun D σ S=>te σ S D.rt D.ex
def au(he:bh X e te):n4 X (.Return (some e) pos) (ap te):=
 ⟨dE (xx he.ok) fun D σ H ⟨σ3,S,D3,rσ,rS,h,xo,n,r,bk,ct⟩=>⟨σ3,S,D3.rt,D3.ex,rσ,rS,h,xo,r⟩⟩
def cj(c:jh)(t u:bM):bM:=fun D σ S=>c σ S (fun b S1=>if b=true then t D σ S1 else u D σ S1) D.ex
def cE(hc:nZ X c tc)(ha:jr X a t)(hb:jr X b u):n4 X (.If c a b pos) (cj tc t u):=
 ⟨dE (zF hc.ok ha.ok hb.ok) fun D σ H ⟨σ3,S,D3,rσ,rS,h,xo,n,r,bk,ct⟩=>⟨σ3,S,_,D3.ex,rσ,rS,h,xo,fun z S1 H1 h1 Dq g1=>by
  cases z with
  |true=>rw[if_pos rfl]at h1 ⊢;exact⟨σ3,S1,D3,rσ.mono g1,Dq,h1,xo.mono g1,n.mono g1,r.mono g1,bk.mono g1,ct.mono g1⟩
  |false=>rw[if_neg (by decide)]at h1 ⊢;exact⟨σ3,S1,D3,rσ.mono g1,Dq,h1,xo.mono g1,n.mono g1,r.mono g1,bk.mono g1,ct.mono g1⟩⟩⟩
def am(i:Nat)(te:aP):bM:=fun D σ S=>te σ S (fun v S1=>D.nx (σ.set i (some v)) S1) D.ex
def sU{i:Nat}{D:kj}{σ:L2.St}{H:Hp}:LS X (am i te) D σ H->uT (LE X te) (my i) D σ H:=fun⟨σ3,S,D3,rσ,rS,h,xo,n,r,bk,ct⟩=>
 ⟨σ3,S,_,D3.ex,rσ,rS,h,xo,fun p S1 v H1 h1 rv Dq g1=>n _ S1 _ H1 h1 ((rσ.mono g1).set rv i) Dq g1⟩
def Ar{i:Nat}{x:Str}{pos':Pos}(hN:X.N.Nodup)(hi:X.N[i]?=some x)(hx:wo X.env.scope x)(he:bh X e te)(hs:swapsWith e (some (.Name x pos')) pos.line X.env=pure false:=by rfl)
  (hf:X.fn x=true\/X.env.scope.names.lookup x=some .local:=by first|exact .inl rfl|exact .inr rfl|assumption):n4 X (.Assign [.Name x pos'] e pos) (am i te):=⟨dE (xB hN hi hx he.ok hs hf) fun _ _ _=>sU⟩
def mO(i j:Nat)(ta tb:aP):bM:=fun D σ S=>ta σ S (fun v S1=>tb σ S1 (fun w S2=>D.nx ((σ.set i (some v)).set j (some w)) S2) D.ex) D.ex
def sV{i j:Nat}{x y:Str}{a b:Expr}{ta tb:aP}{px py pt:Pos}{kt k2 Ht}(hc:X.calm=true)(hN:X.N.Nodup)(hi:X.N[i]?=some x)(hj:X.N[j]?=some y)(hij:i≠j)
  (hx:X.env.scope.names.lookup x=some .local) (hy:X.env.scope.names.lookup y=some .local) (ha:jO X [a,b] [ta,tb])
  (hw:swappedStores [.Tuple [.Name x px,.Name y py] kt pt] (.Tuple [a,b] k2 Ht) X.env=pure (some [x,y]):=by rfl)
  (hs:swapsWithSole [.Tuple [.Name x px,.Name y py] kt pt] (.Tuple [a,b] k2 Ht) pos.line X.env=pure false:=by rfl) :
  n4 X (.Assign [.Tuple [.Name x px,.Name y py] kt pt] (.Tuple [a,b] k2 Ht) pos) (mO i j ta tb):=
 ⟨dE (xC hc hN hi hj hij hx hy ha.ok hw hs) fun D σ H ⟨σ3,S,D3,rσ,rS,h,xo,n,r,bk,ct⟩=>
  ⟨σ3,S,_,D3.ex,rσ,rS,h,xo,fun v S1 v' H1 h1 rv Dq g1=>⟨σ3,S1,_,D3.ex,rσ.mono g1,Dq,h1,xo.mono g1,fun w S2 w' H2 h2 rw' EU g2=>
   ⟨v',w',rfl,n _ S2 _ H2 h2 (((rσ.mono (g1.trans g2)).set (rv.mono g2) i).set rw' j) EU (g1.trans g2)⟩⟩⟩⟩
inductive Tg where
 |n (i:Nat)|tp (l:Tg)|nil|cons (a r:Tg)
mutual
noncomputable def Tg.put:Tg->PV->dq->Option dq
 | .n i,p,σ=>some (σ.set i (some p))
 | .tp l,.tup xs,σ=>l.DV xs σ
 |_,_,_=>none
noncomputable def Tg.DV:Tg->List PV->dq->Option dq
 | .nil,[],σ=>some σ
 | .cons a r,x::xs,σ=>(match a.put x σ with|some σ'=>r.DV xs σ'|none=>none)
 |_,_,_=>none
end
noncomputable def Tg.len:Tg->Nat
 | .cons _ r=>r.len+1
 |_=>0
mutual
noncomputable def Tg.g2(K:Vo):Tg->TG
 | .n i=>my i
 | .tp l=>zI K l.len (l.Hf K)
 |_=>fun _ _ _ _=>False
noncomputable def Tg.Hf(K:Vo):Tg->wq
 | .nil=>zH
 | .cons a r=>wt (a.g2 K) (r.Hf K)
 |_=>fun _ _ _ _=>False
end
noncomputable def Tg.under(own:Nat):Tg->Bool
 | .n i=>decide (i < own)
 | .tp l=>l.under own
 | .nil=>true
 | .cons a r=>a.under own&&r.under own
theorem Tg.F8:∀(g:Tg) {ps:List PV} {σ3 σ4:dq},g.DV ps σ3=some σ4->ps.length=g.len
 | .nil,ps,σ3,σ4,h=>by
  cases ps with
  |nil=>rfl
  |cons _ _=>unfold Tg.DV at h;cases h
 | .cons a r,ps,σ3,σ4,h=>by
  cases ps with
  |nil=>unfold Tg.DV at h;cases h
  |cons x xs=>
   unfold Tg.DV at h
   split at h
   ·rw[List.length_cons,Tg.F8 r h];rfl
   ·cases h
 | .n _,ps,σ3,σ4,h=>by unfold Tg.DV at h;cases h
 | .tp _,ps,σ3,σ4,h=>by unfold Tg.DV at h;cases h
mutual
theorem Tg.FQ{K:Vo}{H:Hp}{own:Nat}:∀(g:Tg) {v:V} {p:PV} {σ:L2.St} {σ3 σ4:dq} {Q:L2.St->Hp->Prop},Rep K H v p->Dp K H σ σ3->g.put p σ3=some σ4->(∀σ',Dp K H σ' σ4->(g.under own=true->σ'.drop own=σ.drop own)->Q σ' H)->g.g2 K v σ H Q
 | .n i,v,p,σ,σ3,σ4,Q,r,rσ,h,k=>by
  unfold Tg.put at h
  cases h
  unfold Tg.g2
  refine k _ (rσ.set r i) fun hb=>?_
  have hi:i < own:=of_decide_eq_true hb
  rw[List.drop_set]
  rw[if_pos hi]
 | .tp l,v,p,σ,σ3,σ4,Q,r,rσ,h,k=>by
  cases p with
  |tup xs=>
   unfold Tg.put at h
   cases r with
   |tup hq rs=>
    have hg:=Tg.Gy (own:=own) l rs rσ h k
    unfold Tg.g2
    exact⟨_,_,rfl,hq,rs.length.trans (Tg.F8 l h),hg⟩
  |_=>unfold Tg.put at h;cases h
 | .nil,v,p,σ,σ3,σ4,Q,r,rσ,h,k=>by unfold Tg.put at h;cases h
 | .cons _ _,v,p,σ,σ3,σ4,Q,r,rσ,h,k=>by unfold Tg.put at h;cases h
theorem Tg.Gy{K:Vo}{H:Hp}{own:Nat}:∀(g:Tg) {vs:List V} {ps:List PV} {σ:L2.St} {σ3 σ4:dq} {Q:L2.St->Hp->Prop},Reps K H vs ps->Dp K H σ σ3->g.DV ps σ3=some σ4->(∀σ',Dp K H σ' σ4->(g.under own=true->σ'.drop own=σ.drop own)->Q σ' H)->g.Hf K vs σ H Q
 | .nil,vs,ps,σ,σ3,σ4,Q,r,rσ,h,k=>by
  cases ps with
  |nil=>
   unfold Tg.DV at h
   cases h
   cases r
   unfold Tg.Hf
   exact⟨rfl,k _ rσ fun _=>rfl⟩
  |cons _ _=>unfold Tg.DV at h;cases h
 | .cons a r',vs,ps,σ,σ3,σ4,Q,r,rσ,h,k=>by
  cases ps with
  |nil=>unfold Tg.DV at h;cases h
  |cons x xs=>
   unfold Tg.DV at h
   split at h
   ·rename_i σ5 e5
    cases r with
    |cons r1 r2=>
     unfold Tg.Hf
     refine⟨_,_,rfl,Tg.FQ (own:=own) a r1 rσ e5 fun σ' GY d1=>Tg.Gy (own:=own) r' r2 GY h fun KU Jz d2=>k KU Jz fun hb=>?_⟩
     have hb':a.under own=true/\r'.under own=true:=by simpa [Tg.under]using hb
     rw[d2 hb'.2,d1 hb'.1]
   ·cases h
 | .n _,vs,ps,σ,σ3,σ4,Q,r,rσ,h,k=>by unfold Tg.DV at h;cases h
 | .tp _,vs,ps,σ,σ3,σ4,Q,r,rσ,h,k=>by unfold Tg.DV at h;cases h
end
structure uE (X:Cx) (e:Expr) (g:Tg):Prop where
 ok:PG X e (g.g2 X.K)
structure vH (X:Cx) (es:List Expr) (g:Tg):Prop where
 ok:zG X es (g.Hf X.K)
 len:(assignEach es X.env).length=g.len
def CU(i:Nat){x:Str}(hN:X.N.Nodup)(hi:X.N[i]?=some x)(hx:wo X.env.scope x)(hf:X.fn x=true\/X.env.scope.names.lookup x=some .local:=by first|exact .inl rfl|exact .inr rfl|assumption):uE X (.Name x pos) (.n i):=⟨by
 have h:=uR (pos:=pos) hN hi hx hf
 unfold Tg.g2
 exact h⟩
def d0:vH X [] .nil:=⟨by unfold Tg.Hf;exact uS,rfl⟩
def aN{es:List Expr}{a r:Tg}(h1:uE X e a)(h2:vH X es r)(hs:(assignEach (e::es) X.env).map (·.2)=assign e X.env::(assignEach es X.env).map (·.2):=by rfl)(hl:(assignEach (e::es) X.env).length=(assignEach es X.env).length+1:=by rfl):vH X (e::es) (.cons a r):=
 ⟨by unfold Tg.Hf;exact rJ h1.ok h2.ok hs,by rw[hl,h2.len];rfl⟩
def pD{es:List Expr}{k:Nat}{l:Tg}(hc:X.calm=true)(h:vH X es l)(hst:(assignEach es X.env).findIdx? (·.1)=none:=by rfl):uE X (.Tuple es k pos) (.tp l):=⟨by
 have h:=xz (pos:=pos) (k:=k) hc h.ok h.len hst
 unfold Tg.g2
 exact h⟩
def qL(te:aP)(g:Tg):bM:=fun D σ S=>te σ S (fun v S1=>match g.put v σ with|some σ'=>D.nx σ' S1|none=>False) D.ex
def As{tg:Expr}{g:Tg}(he:bh X e te)(hg:uE X tg g)(hs:swapsWithSole [tg] e pos.line X.env=pure false:=by rfl)(hw:swappedStores [tg] e X.env=pure none:=by rfl)
  (h1:(assignEach [tg] X.env).map (·.2)=[assign tg X.env]:=by rfl):n4 X (.Assign [tg] e pos) (qL te g):=
 ⟨dE (rK he.ok hg.ok hs hw h1) fun D σ H ⟨σ3,S,D3,rσ,rS,h,xo,n,r,bk,ct⟩=>⟨σ3,S,_,D3.ex,rσ,rS,h,xo,fun p S1 v H1 h1 rv Dq g1=>by
  dsimp only at h1
  split at h1
  ·rename_i σ' e'
   exact Tg.FQ (own:=0) g rv (rσ.mono g1) e' fun σ2 KW _=>n _ S1 _ H1 h1 KW Dq g1
  ·exact h1.elim⟩⟩
end
noncomputable def lI{κ:Type} [DecidableEq κ](kvs:List (κ×PV))(k:κ)(v:PV):List (κ×PV):=
 if (kvs.any fun kv=>decide (kv.1=k))=true then kvs.map (fun kv=>if kv.1=k then (kv.1,v) else kv) else kvs++[(k,v)]
theorem Dn.append{K:Vo}{H:Hp}{κ:Type}:∀{vs us:List (κ×V)} {ps qs:List (κ×PV)},Dn K H vs ps->Dn K H us qs->Dn K H (vs++us) (ps++qs)
 |_,_,_,_,.nil,s=>s
 |_,_,_,_,.cons a r,s=>.cons a (Dn.append r s)
def Dn.put{K:Vo}{H:Hp}{κ:Type} [DecidableEq κ]{k:κ}{v:V}{p:PV}(q:Rep K H v p){vs:List (κ×V)}{ps:List (κ×PV)}(r:Dn K H vs ps):Dn K H (fH vs k v) (lI ps k p):=by
 have e:(vs.any fun kv=>decide (kv.1=k))=(ps.any fun kv=>decide (kv.1=k)):=by rw[jJ,r.any]
 unfold fH lI
 rw[e]
 split
 ·clear e
  rename_i h
  clear h
  induction r with
  |nil=>exact .nil
  |@cons k' v' p' vs' ps' a r ih=>
   rw[List.map_cons,List.map_cons]
   by_cases z:k'=k
   ·rw[if_pos z,if_pos z];exact .cons q ih
   ·rw[if_neg z,if_neg z];exact .cons a ih
 ·exact r.append (.cons q .nil)
def e_(o i v:PV)(S:av)(Q:av->Prop):Prop:=match o with
 | .ref a=>(match S a with
  |some (.lst xs)=>(match i with | .int k=>(match o6 xs.length k with|some j=>Q (Dd S a (.lst (xs.set j v)))|none=>False)|_=>False)
  |some (.dct kvs)=>(match og i with|some k=>kvs.length < sizeLine/\Q (Dd S a (.dct (lI kvs k v)))|none=>False)
  |_=>False)
 |_=>False
section
variable {X:Cx} {e o i:Expr} {te to ti:aP} {pos pos':Pos}
noncomputable def B6(X:Cx):V->V->V->Hp->(Hp->Prop)->Prop:=fun o i v H Q=>∃po pi pv S Q3,Rep X.K H o po/\Rep X.K H i pi/\Rep X.K H v pv/\Di X.K H S/\e_ po pi pv S Q3/\∀S' H',Q3 S'->Di X.K H' S'->Grow X.K H H'->Q H'
def yq(hu:X.A.units+1 < cLine):uQ X (B6 X):=by
 intro pins s σ H o i v ov iv u Q I ro ri rv ⟨po,pi,pv,S,Q3,r1,r2,r3,rS,q,k⟩
 unfold e_ at q
 split at q
 ·split at q
  ·rename_i e
   split at q
   ·split at q
    ·rename_i ej
     cases r1;cases r2
     obtain⟨vs,hv,rl⟩:=rS _ _ e
     rw[<-rl.length]at ej
     exact sd pins s σ H _ _ _ ov iv u Q I ro ri rv ⟨_,_,_,_,rfl,rfl,hv,ej,k _ _ q (rS.put hv trivial ⟨_,ay,((rl.set r3 _).mono (.mut hv trivial))⟩) (.mut hv trivial)⟩
    ·exact q.elim
   ·exact q.elim
  ·rename_i e
   split at q
   ·rename_i ek
    cases r1
    have e1:=gG r2 ek
    subst e1
    obtain⟨kv,hv,rk⟩:=rS _ _ e
    exact sM hu pins s σ H _ _ _ ov iv u Q I ro ri rv ⟨_,_,rfl,GO.k hv (by rw[rk.length];exact q.1),k _ _ q.2 (rS.put hv trivial ⟨_,ay,(rk.put r3).mono (.mut hv trivial)⟩) (.mut hv trivial)⟩
   ·exact q.elim
  ·exact q.elim
 ·exact q.elim
def iM(te to ti:aP):bM:=fun D σ S=>te σ S (fun v S1=>to σ S1 (fun o S2=>ti σ S2 (fun i S3=>e_ o i v S3 (fun S4=>D.nx σ S4)) D.ex) D.ex) D.ex
def kP(hu:X.A.units+1 < cLine)(he:bh X e te)(ho:bh X o to)(hi:bh X i ti)
  (ha:∀v,assign (.Subscript o i pos') X.env v=(do
   let ov <-holding [v] (eval o X.env)
   let iv <-holding [v,ov] (eval i X.env)
   standAt pos'
   holding [v,ov,iv] (setItem ov iv v)
   release [v,ov,iv] []):=by intro _;rfl)
  (hs:swapsWithSole [.Subscript o i pos'] e pos.line X.env=pure false:=by rfl) (hw:swappedStores [.Subscript o i pos'] e X.env=pure none:=by rfl)
  (h1:(assignEach [.Subscript o i pos'] X.env).map (·.2)=[assign (.Subscript o i pos') X.env]:=by rfl):n4 X (.Assign [.Subscript o i pos'] e pos) (iM te to ti):=
 ⟨dE (rK he.ok (xA ho.ok hi.ok (yq hu) ha) hs hw h1) fun D σ H ⟨σ3,S,D3,rσ,rS,h,xo,n,r,bk,ct⟩=>⟨σ3,S,_,D3.ex,rσ,rS,h,xo,fun v S1 v' H1 h1 rv Dq g1=>
  ⟨σ3,S1,_,D3.ex,rσ.mono g1,Dq,h1,xo.mono g1,fun o S2 o' H2 h2 ro EU g2=>⟨σ3,S2,_,D3.ex,rσ.mono (g1.trans g2),EU,h2,xo.mono (g1.trans g2),fun i S3 i' H3 h3 ri Ie g3=>
   ⟨o,i,v,S3,_,ro.mono g3,ri,rv.mono (g2.trans g3),Ie,h3,fun S4 H4 h4 KY g4=>n _ S4 _ H4 h4 (rσ.mono (g1.trans (g2.trans (g3.trans g4)))) KY (g1.trans (g2.trans (g3.trans g4)))⟩⟩⟩⟩⟩
end
end L3
namespace L2
open PySem PySem.Spec PyProof.Rows
section
variable {X:Cx} {tg:Expr}
def B7(K:Vo)(tl:TE):TI:=fun σ H R=>tl σ H fun x H1=>(∃a,x = .ref a/\(∃xs,SqL K H1 a xs)/\R (A9 K a) H1)\/(∃a,x = .ref a/\(∃xs,SqT K H1 a xs)/\R (Bz K a) H1)\/∃z,x = .str z/\R (BQ z) H1
def yr{l:Expr}{tl:TE}(hl:PE X l tl):PI X tg l (B7 X.K tl):=by
 intro pins s σ H R I h
 refine bA (hl pins s σ H _ I h) fun v s1 ⟨x,H1,I1,r1,q1⟩=>?_
 rcases q1 with⟨a,e,⟨xs,hq⟩,q⟩|⟨a,e,⟨xs,hq⟩,q⟩|⟨z,e,q⟩
 ·subst e
  cases r1
  obtain⟨its,rv,p,hz⟩:=I1.list hq
  refine wpAny_pyIter_list p.isList ?_
  refine⟨s1.heap.objs.size,[s1.heap.objs.size],_,_,H1,rfl,I1.kept (t':=s1.toks) fun b o e=>Heap.get?_push_of_some _ e,qh a _,⟨_,Heap.get?_push_size _ rfl,rfl,rfl⟩,fun b hb=>?_,q⟩
  have e:b=s1.heap.objs.size:=by simpa using hb
  subst e
  exact I1.Fr (Nat.le_refl _) (I1.hok.fresh (Nat.le_refl _))
 ·subst e
  cases r1
  obtain⟨its,rv,p,hz⟩:=I1.tuple hq
  refine wpAny_pyIter_tuple (show s1.heap.IsTuple a its.toArray from p) ?_
  refine⟨s1.heap.objs.size,[s1.heap.objs.size],_,_,H1,rfl,I1.kept (t':=s1.toks) fun b o e=>Heap.get?_push_of_some _ e,nF a _,⟨_,Heap.get?_push_size _ rfl,rfl,rfl⟩,fun b hb=>?_,q⟩
  have e:b=s1.heap.objs.size:=by simpa using hb
  subst e
  exact I1.Fr (Nat.le_refl _) (I1.hok.fresh (Nat.le_refl _))
 ·subst e
  obtain⟨t,rfl⟩:=r1
  have fin:∀ty,(ty = "str_ascii_iterator" \/ ty = "str_iterator")->By X pins σ tg R (.ref s1.heap.objs.size) { s1 with heap:=s1.heap.push { cls:=.type ty,data:=.fields #[.str z t,.int 0 0] } }:=fun ty hty=>by
   refine⟨s1.heap.objs.size,[s1.heap.objs.size],_,_,H1,rfl,I1.kept (t':=s1.toks) fun b o e=>Heap.get?_push_of_some _ e,sB hty _ z t,⟨Nat.zero_le _,_,Heap.get?_push_size _ rfl,rfl,rfl⟩,fun b hb=>?_,q⟩
   have e:b=s1.heap.objs.size:=by simpa using hb
   subst e
   exact I1.Fr (Nat.le_refl _) (I1.hok.fresh (Nat.le_refl _))
  cases ha:z.cps.all (· < 128)
  ·exact wpAny_pyIter_wide ha (fin _ (.inr rfl))
  ·exact wpAny_pyIter_ascii ha (fin _ (.inl rfl))
def yt(K:Vo)(ta:TA):TI:=fun σ H R=>ta σ H fun vs H1=>∃a,vs=[.ref a]/\(((∃xs,SqL K H1 a xs)/\R (BW K a) H1)\/((∃xs,SqT K H1 a xs)/\R (BX K a) H1))
def sW{elts:List Expr}{k0:Nat}{EV:Pos}{a:Expr}{ta:TA}{p pos:Pos}(hg:Gl X "enumerate")(hm:X.mg "enumerate" = none)(hv:bootBuiltins "enumerate" = some (.type "enumerate"))(ha:PA X [a] ta)
  (hs:starEach [a] X.env=[(false,eval a X.env)]:=by rfl):PI X (.Tuple elts k0 EV) (.Call (.Name "enumerate" p) [a] [] pos) (yt X.K ta):=by
 intro pins s σ H R I h
 refine Call_ (eX I hg hm hv (PyProof.Rows.callWith_type1 (bA (ha pos pins s σ H _ I h) fun us s1 ⟨vs,H1,I1,r1,q1⟩=>?_) hs rfl))
 obtain⟨a,e,q⟩:=q1
 subst e
 obtain⟨u,rfl,ru⟩:=fu r1
 cases ru
 rcases q with⟨⟨xs,qa⟩,q⟩|⟨⟨xs,qa⟩,q⟩
 ·obtain⟨ia,ra,pa,za⟩:=I1.list qa
  refine call_enumerate_list pa.isList fun g ge g1 gz kk=>?_
  refine wpAny_pyIter_enum (s:={ s1 with heap:=g }) ge ?_
  refine⟨_,[s1.heap.objs.size+1,s1.heap.objs.size],_,_,H1,rfl,I1.kept (t':=s1.toks) kk,qG (Nat.succ_ne_self _),⟨⟨_,ge⟩,g1⟩,fun c hc=>?_,q⟩
  have hle:s1.heap.objs.size<=c:=by
   simp only[List.mem_cons,List.not_mem_nil,or_false]at hc
   rcases hc with rfl|rfl
   ·exact Nat.le_add_right _ _
   ·exact Nat.le_refl _
  exact I1.Fr hle (I1.hok.fresh hle)
 ·obtain⟨ia,ra,pa,za⟩:=I1.tuple qa
  have la:a < s1.heap.objs.size:=by obtain⟨o,e,_⟩:=pa;exact Heap.lt_size e
  refine Et.jM (show s1.heap.IsTuple a ia.toArray from pa) fun g ge g1 kk=>?_
  refine wpAny_pyIter_enum (s:={ s1 with heap:=g }) ge ?_
  refine⟨_,[s1.heap.objs.size+1,s1.heap.objs.size],_,_,H1,rfl,I1.kept (t':=s1.toks) kk,nW (Nat.succ_ne_self _) (Nat.ne_of_lt (Nat.lt_succ_of_lt la)) (Nat.ne_of_lt la),⟨⟨_,ge⟩,g1⟩,fun c hc=>?_,q⟩
  have hle:s1.heap.objs.size<=c:=by
   simp only[List.mem_cons,List.not_mem_nil,or_false]at hc
   rcases hc with rfl|rfl
   ·exact Nat.le_add_right _ _
   ·exact Nat.le_refl _
  exact I1.Fr hle (I1.hok.fresh hle)
end
end L2
namespace L3
open PySem L2
structure B8 where
 items:List PV
 keep:av->Prop
def ig(K:Vo)(H0:Hp)(J:It)(src:B8):Prop:=∀(i:Nat) (S:av) (H:Hp),Grow K H0 H->Di K H S->src.keep S->
 (∀p,src.items[i]?=some p->J.go i H/\∀x H',J.IG i H x H'->Rep K H' x p/\Di K H' S/\Grow K H H')/\(i=src.items.length->J.stop i H)
abbrev rC:=dq->av->(B8->av->Prop)->cC->Prop
def LI(X:Cx)(t:rC):TI:=fun σ H R=>∃σ3 S R3 E3,Dp X.K H σ σ3/\Di X.K H S/\t σ3 S R3 E3/\GK X H E3/\∀src S' J H',R3 src S'->ig X.K H' J src->Di X.K H' S'->Grow X.K H H'->R J H'
structure uF (X:Cx) (tg iter:Expr) (t:rC):Prop where
 ok:PI X tg iter (LI X t)
def jV{X:Cx}{tg iter:Expr}{t t':TI}(h:PI X tg iter t)(k:∀σ H R,t' σ H R->t σ H R):PI X tg iter t':=fun pins s σ H R I q=>h pins s σ H R I (k σ H R q)
section
variable {X:Cx} {e tg:Expr} {es:List Expr} {te:aP} {ts:List aP} {p pos:Pos}
noncomputable def cf(S:av):PV->Option B8
 | .tup xs=>some ⟨xs,fun _=>True⟩
 | .cl xs=>some ⟨xs,fun _=>True⟩
 | .str z=>some ⟨z.cps.toList.map fun c=>.str (sgn c),fun _=>True⟩
 | .ref a=>(match S a with|some (.lst xs)=>some ⟨xs,fun S'=>S' a=some (.lst xs)⟩|_=>none)
 |_=>none
def aO(te:aP):rC:=fun σ S R E=>te σ S (fun v S1=>match cf S1 v with|some src=>R src S1|none=>False) E
end
section
variable {X:Cx} {e tg a b:Expr} {es:List Expr} {te ta tb:aP} {ts:List aP} {p pos:Pos}
def sX{K:Vo}{H0:Hp}{a:Addr}{xs:List PV}:ig K H0 (A9 K a) ⟨xs,fun S'=>S' a=some (.lst xs)⟩:=by
 intro i S H g rS hk
 obtain⟨vs,hv,rs⟩:=rS a _ hk
 refine⟨fun p hp=>?_,fun hi=>⟨vs,SqL.of hv,by rw[rs.length,hi];exact Nat.le_refl _⟩⟩
 obtain⟨v,hx,rv⟩:=rs.get hp
 refine⟨⟨vs,v,SqL.of hv,hx⟩,fun x H' ⟨e,h⟩=>?_⟩
 subst e
 have:=h vs (SqL.of hv)
 rw[hx]at this
 cases this
 exact⟨rv,rS,.refl⟩
def vI{K:Vo}{H0:Hp}{a:Addr}{vs:List V}{xs:List PV}(h:SqT K H0 a vs)(rs:Reps K H0 vs xs):ig K H0 (Bz K a) ⟨xs,fun _=>True⟩:=by
 intro i S H g rS _
 have hv:=g.t _ _ h
 refine⟨fun p hp=>?_,fun hi=>⟨vs,hv,by rw[rs.length,hi];exact Nat.le_refl _⟩⟩
 obtain⟨v,hx,rv⟩:=rs.get hp
 refine⟨⟨vs,v,hv,hx⟩,fun x H' ⟨e,h⟩=>?_⟩
 subst e
 have:=h vs hv
 rw[hx]at this
 cases this
 exact⟨rv.mono g,rS,.refl⟩
def yu{K:Vo}{H0:Hp}{a:Addr}{vs:List V}{xs:List PV}(h:HM K H0 a vs)(rs:Reps K H0 vs xs):ig K H0 (A9 K a) ⟨xs,fun _=>True⟩:=by
 intro i S H g rS _
 have hv:=(g.c _ _ h).sq
 refine⟨fun p hp=>?_,fun hi=>⟨vs,hv,by rw[rs.length,hi];exact Nat.le_refl _⟩⟩
 obtain⟨v,hx,rv⟩:=rs.get hp
 refine⟨⟨vs,v,hv,hx⟩,fun x H' ⟨e,h⟩=>?_⟩
 subst e
 have:=h vs hv
 rw[hx]at this
 cases this
 exact⟨rv.mono g,rS,.refl⟩
def vJ{K:Vo}{H0:Hp}{z:Str}:ig K H0 (BQ z) ⟨z.cps.toList.map fun c=>.str (sgn c),fun _=>True⟩:=by
 intro i S H g rS _
 refine⟨fun p hp=>?_,fun hi=>by show z.cps.size<=i;rw[hi,List.length_map,Array.length_toList];exact Nat.le_refl _⟩
 rw[List.getElem?_map]at hp
 cases hc:z.cps.toList[i]? with
 |none=>rw[hc]at hp;cases hp
 |some c=>
  rw[hc]at hp
  cases hp
  have hc':z.cps[i]?=some c:=by simpa using hc
  refine⟨?_,fun x H' ⟨e,c',h1,h2⟩=>?_⟩
  ·show i < z.cps.size
   by_cases hi:i < z.cps.size
   ·exact hi
   ·rw[Array.getElem?_eq_none (by omega)]at hc';cases hc'
  ·subst e
   rw[hc']at h1
   cases h1
   subst h2
   exact⟨.str _,rS,.refl⟩
def cz(he:bh X e te):uF X tg e (aO te):=⟨jV (yr he.ok) fun σ H R ⟨σ3,S,R3,E3,rσ,rS,h,xo,k⟩=>⟨σ3,S,_,E3,rσ,rS,h,xo,fun v S1 v' H1 h1 rv Dq g1=>by
 dsimp only at h1
 split at h1
 ·rename_i src hs
  unfold cf at hs
  split at hs
  ·cases hs
   cases rv with
   |tup hq rs=>exact .inr (.inl ⟨_,rfl,⟨_,hq⟩,k _ S1 _ H1 h1 (vI hq rs) Dq g1⟩)
  ·cases hs
   cases rv with
   |cl hq rs=>exact .inl ⟨_,rfl,⟨_,hq.sq⟩,k _ S1 _ H1 h1 (yu hq rs) Dq g1⟩
  ·cases hs
   cases rv
   exact .inr (.inr ⟨_,rfl,k _ S1 _ H1 h1 vJ Dq g1⟩)
  ·cases rv
   split at hs
   ·rename_i ea
    cases hs
    obtain⟨vs,hv,rs⟩:=Dq _ _ ea
    exact .inl ⟨_,rfl,⟨_,SqL.of hv⟩,k _ S1 _ H1 h1 sX Dq g1⟩
   ·cases hs
  ·cases hs
 ·exact h1.elim⟩⟩
noncomputable def bY(lo:Int)(n:Nat):List PV:=(List.range n).map fun(i:Nat)=>PV.int (lo+i)
def qM{K:Vo}{H0:Hp}{lo:Int}{n:Nat}:ig K H0 (A_ lo n) ⟨bY lo n,fun _=>True⟩:=by
 intro i S H g rS _
 refine⟨fun p hp=>?_,fun hi=>by show n<=i;rw[hi];simp[bY]⟩
 unfold bY at hp
 rw[List.getElem?_map]at hp
 by_cases hi:i < n
 ·rw[List.getElem?_range hi]at hp
  cases hp
  refine⟨hi,fun x H' ⟨e,h⟩=>?_⟩
  subst e h
  exact⟨.int _,rS,.refl⟩
 ·rw[List.getElem?_eq_none (by simpa using hi)]at hp
  cases hp
def ck(ta:aP):rC:=fun σ S R E=>ta σ S (fun v S1=>match v with | .int j=>-(2 ^ 62)<=j/\j < 2 ^ 62/\R ⟨bY 0 j.toNat,fun _=>True⟩ S1|_=>False) E
def bm(hs:starEach [a] X.env=[(false,eval a X.env)])(hg:Gl X "range")(hm:X.mg "range" = none)(ha:jO X [a] [ta]):uF X tg (.Call (.Name "range" p) [a] [] pos) (ck ta):=
 ⟨jV (qi hg hm ha.ok hs) fun σ H R ⟨σ3,S,R3,E3,rσ,rS,h,xo,k⟩=>⟨σ3,S,_,E3,rσ,rS,h,xo,fun v S1 v' H1 h1 rv Dq g1=>by
  dsimp only at h1
  split at h1
  ·cases rv
   exact⟨_,rfl,h1.1,h1.2.1,k _ S1 _ H1 h1.2.2 qM Dq g1⟩
  ·exact h1.elim⟩⟩
noncomputable def bf(xs:List PV):List PV:=xs.mapIdx fun i x=>.tup [.int i,x]
def qN{K:Vo}{H0:Hp}{a:Addr}{xs:List PV}:ig K H0 (BW K a) ⟨bf xs,fun S'=>S' a=some (.lst xs)⟩:=by
 intro i S H g rS hk
 obtain⟨vs,hv,rs⟩:=rS a _ hk
 refine⟨fun p hp=>?_,fun hi=>⟨vs,SqL.of hv,by rw[rs.length,hi];simp[bf]⟩⟩
 unfold bf at hp
 rw[List.getElem?_mapIdx]at hp
 cases hx:xs[i]? with
 |none=>rw[hx]at hp;cases hp
 |some y=>
  rw[hx]at hp
  cases hp
  obtain⟨v,hx',rv⟩:=rs.get hx
  refine⟨⟨vs,v,SqL.of hv,hx'⟩,fun x H' ⟨q,x2,e1,hq,e2,h⟩=>?_⟩
  subst e1 e2
  have:=h vs (SqL.of hv)
  rw[hx']at this
  cases this
  exact⟨.tup (SqT.of ay) (.cons (.int _) (.cons (rv.mono (.new hq)) .nil)),rS.other hq,.new hq⟩
def qO{K:Vo}{H0:Hp}{a:Addr}{vs:List V}{xs:List PV}(h0:SqT K H0 a vs)(rs:Reps K H0 vs xs):ig K H0 (BX K a) ⟨bf xs,fun _=>True⟩:=by
 intro i S H g rS _
 have hv:=g.t _ _ h0
 refine⟨fun p hp=>?_,fun hi=>⟨vs,hv,by rw[rs.length,hi];simp[bf]⟩⟩
 unfold bf at hp
 rw[List.getElem?_mapIdx]at hp
 cases hx:xs[i]? with
 |none=>rw[hx]at hp;cases hp
 |some y=>
  rw[hx]at hp
  cases hp
  obtain⟨v,hx',rv⟩:=rs.get hx
  refine⟨⟨vs,v,hv,hx'⟩,fun x H' ⟨q,x2,e1,hq,e2,h⟩=>?_⟩
  subst e1 e2
  have:=h vs hv
  rw[hx']at this
  cases this
  exact⟨.tup (SqT.of ay) (.cons (.int _) (.cons ((rv.mono g).mono (.new hq)) .nil)),rS.other hq,.new hq⟩
def gk(ta:aP):rC:=fun σ S R E=>ta σ S (fun v S1=>match v with
 | .tup xs=>R ⟨bf xs,fun _=>True⟩ S1
 | .ref a=>(match S1 a with|some (.lst xs)=>R ⟨bf xs,fun S'=>S' a=some (.lst xs)⟩ S1|_=>False)
 |_=>False) E
def oi{elts:List Expr}{k0:Nat}{EV:Pos}(hs:starEach [a] X.env=[(false,eval a X.env)])(hg:Gl X "enumerate")(hm:X.mg "enumerate" = none)(hv:bootBuiltins "enumerate" = some (.type "enumerate"))(ha:jO X [a] [ta]):uF X (.Tuple elts k0 EV) (.Call (.Name "enumerate" p) [a] [] pos) (gk ta):=
 ⟨jV (sW hg hm hv ha.ok hs) fun σ H R ⟨σ3,S,R3,E3,rσ,rS,h,xo,k⟩=>⟨σ3,S,_,E3,rσ,rS,h,xo,fun v S1 v' H1 h1 rv Dq g1=>by
  dsimp only at h1
  split at h1
  ·cases rv with
   |tup hq rs=>exact⟨_,rfl,.inr ⟨⟨_,hq⟩,k _ S1 _ H1 h1 (qO hq rs) Dq g1⟩⟩
  ·cases rv
   split at h1
   ·rename_i ea
    obtain⟨vs,hv,rs⟩:=Dq _ _ ea
    exact⟨_,rfl,.inl ⟨⟨_,SqL.of hv⟩,k _ S1 _ H1 h1 qN Dq g1⟩⟩
   ·exact h1.elim
  ·exact h1.elim⟩⟩
noncomputable def aL(xs ys:List PV):List PV:=(xs.zip ys).map fun z=>.tup [z.1,z.2]
def GF(K:Vo)(H0:Hp)(ka:Bool)(a:Addr)(xs:List PV)(keep:av->Prop):Prop:=∀S H,Grow K H0 H->Di K H S->keep S->∃vs,qE ka K H a vs/\Reps K H vs xs
def GF.tup{K:Vo}{H0:Hp}{a:Addr}{vs:List V}{xs:List PV}{keep:av->Prop}(h:SqT K H0 a vs)(r:Reps K H0 vs xs):GF K H0 false a xs keep:=fun _ _ g _ _=>⟨vs,g.t _ _ h,r.mono g⟩
theorem GF.lst{K:Vo}{H0:Hp}{a:Addr}{xs:List PV}{keep:av->Prop}(h:∀S,keep S->S a=some (.lst xs)):GF K H0 true a xs keep:=fun S _ _ rS k=>let ⟨vs,hv,r⟩:=rS _ _ (h S k);⟨vs,SqL.of hv,r⟩
def ii{K:Vo}{H0:Hp}{ka kb:Bool}{a b:Addr}{xs ys:List PV}{keep:av->Prop}(h1:GF K H0 ka a xs keep)(h2:GF K H0 kb b ys keep):ig K H0 (BU ka kb K a b) ⟨aL xs ys,keep⟩:=by
 intro i S H g rS kp
 obtain⟨vs,hv,r1⟩:=h1 S H g rS kp
 obtain⟨us,hu,r2⟩:=h2 S H g rS kp
 have l1:=r1.length
 have l2:=r2.length
 refine⟨fun p hp=>?_,fun hi=>⟨vs,us,hv,hu,?_⟩⟩
 ·unfold aL at hp
  rw[List.getElem?_map]at hp
  cases hz:(xs.zip ys)[i]? with
  |none=>rw[hz]at hp;cases hp
  |some z=>
   rw[hz]at hp
   cases hp
   obtain⟨e1,e2⟩:=List.getElem?_zip_eq_some.mp hz
   obtain⟨v,hx',rv⟩:=r1.get e1
   obtain⟨u,hy',ru⟩:=r2.get e2
   refine⟨⟨vs,us,v,u,hv,hu,hx',hy'⟩,fun x H' ⟨q,x2,y2,e3,hq,e4,h⟩=>?_⟩
   subst e3 e4
   obtain⟨k1,k2⟩:=h vs us hv hu
   rw[hx']at k1
   rw[hy']at k2
   cases k1;cases k2
   exact⟨.tup (SqT.of ay) (.cons (rv.mono (.new hq)) (.cons (ru.mono (.new hq)) .nil)),rS.other hq,.new hq⟩
 ·have e:(aL xs ys).length=min xs.length ys.length:=by simp[aL]
  rw[e]at hi
  by_cases hle:xs.length<=ys.length
  ·exact .inl (by omega)
  ·exact .inr (by omega)
def kq(ta tb:aP):rC:=fun σ S R E=>ta σ S (fun v S1=>tb σ S1 (fun w S2=>match v,w with
 | .tup xs,.tup ys=>R ⟨aL xs ys,fun _=>True⟩ S2
 |_,_=>False) E) E
def sY{elts:List Expr}{k0:Nat}{EV:Pos}(hs:starEach [a,b] X.env=[(false,eval a X.env),(false,eval b X.env)])(hs2:starEach [b] X.env=[(false,eval b X.env)])(hg:Gl X "zip")(hm:X.mg "zip" = none)(hv:bootBuiltins "zip" = some (.type "zip"))(ha:jO X [a,b] [ta,tb]) :
  uF X (.Tuple elts k0 EV) (.Call (.Name "zip" p) [a,b] [] pos) (kq ta tb):=
 ⟨jV (sE hg hm hv ha.ok hs hs2) fun σ H R ⟨σ3,S,R3,E3,rσ,rS,h,xo,k⟩=>⟨σ3,S,_,E3,rσ,rS,h,xo,fun v S1 v' H1 h1 rv Dq g1=>⟨σ3,S1,_,E3,rσ.mono g1,Dq,h1,xo.mono g1,fun w S2 w' H2 h2 rw' EU g2=>by
  dsimp only at h2
  split at h2
  ·cases rv with
   |tup hq rs=>
    cases rw' with
    |tup hq2 HA=>exact⟨false,false,_,_,rfl,⟨_,g2.t _ _ hq⟩,⟨_,hq2⟩,k _ S2 _ H2 h2 (ii (.tup (g2.t _ _ hq) (rs.mono g2)) (.tup hq2 HA)) EU (g1.trans g2)⟩
  ·exact h2.elim⟩⟩⟩
end
section
variable {X:Cx} {iter tg c:Expr} {body:List Stmt} {ti:rC} {g:Tg} {tb:bM} {tc:jh} {pos:Pos}
noncomputable def lJ(g:Tg)(tb:bM)(D:mH)(keep:av->Prop):List PV->dq->av->Prop
 |[],σ,S=>keep S/\D.nx σ S
 |x::r,σ,S=>keep S/\match g.put x σ with|some σ'=>tb { D with nx:=lJ g tb D keep r,ct:=lJ g tb D keep r,bk:=D.nx } σ' S|none=>False
def bU(ti:rC)(g:Tg)(tb:bM):bM:=fun D σ S=>ti σ S (fun src S1=>lJ g tb D src.keep src.items σ S1) D.ex
def dv(hp:PassesOwn (model X.prog X.w) X.A X.env X.xe)(hc:X.calm=true)(hi:uF X tg iter ti)(hg:uE X tg g)(hb:jr X body tb)(hs:∀x,foldedSetIterable iter X.env x=pure x:=by intro _;rfl):n4 X (.For tg iter body [] pos) (bU ti g tb):=
 ⟨dE (xE hp hc hi.ok hg.ok hb.ok hs) fun D σ H ⟨σ3,S,D3,rσ,rS,h,xo,n,r,bk,ct⟩=>⟨σ3,S,_,D3.ex,rσ,rS,h,xo,fun src S1 J H1 h1 sim Dq g1=>by
  refine⟨fun i m σ' H'=>i+m=src.items.length/\∃σ4 S',Dp X.K H' σ' σ4/\Di X.K H' S'/\Grow X.K H1 H'/\lJ g tb D3 src.keep (src.items.drop i) σ4 S',⟨src.items.length,Nat.zero_add _,σ3,S1,rσ.mono g1,Dq,.refl,by simpa using h1⟩,?_⟩
  rintro i m σ' H' ⟨hm,σ4,S',GY,EH,g',hw⟩
  cases hd:src.items.drop i with
  |nil=>
   rw[hd]at hw
   have hi:i=src.items.length:=by
    have:=congrArg List.length hd
    rw[List.length_drop,List.length_nil]at this
    omega
   exact .inl ⟨(sim i S' H' g' EH hw.1).2 hi,n _ S' _ H' hw.2 GY EH (g1.trans g')⟩
  |cons x rest=>
   rw[hd]at hw
   have hx:src.items[i]?=some x:=by
    have:=congrArg (fun l=>l[0]?) hd
    simpa using this
   have hrest:src.items.drop (i+1)=rest:=by
    have:=congrArg List.tail hd
    simpa [List.tail_drop]using this
   have hlt:i < src.items.length:=by
    by_cases z:i < src.items.length
    ·exact z
    ·rw[List.getElem?_eq_none (by omega)]at hx;cases hx
   obtain⟨go,yl⟩:=(sim i S' H' g' EH hw.1).1 x hx
   refine .inr ⟨go,fun σ5 H5=>∃σ6 S6,Dp X.K H5 σ5 σ6/\Di X.K H5 S6/\Grow X.K H1 H5/\lJ g tb D3 src.keep rest σ6 S6,?_,fun v H5 hv=>?_⟩
   ·rintro σ5 H5 ⟨σ6,S6,q1,q2,q3,q4⟩
    exact⟨m - 1,by omega,by omega,σ6,S6,q1,q2,q3,by rw[hrest];exact q4⟩
   ·obtain⟨rv,JA,g5⟩:=yl v H5 hv
    obtain⟨_,hw⟩:=hw
    split at hw
    ·rename_i σ6 e6
     refine Tg.FQ (own:=0) g rv (GY.mono g5) e6 fun σ7 IL _=>?_
     exact⟨σ6,S',_,IL,JA,hw,xo.mono (g1.trans (g'.trans g5)),fun σ8 S8 σ9 H9 q1 q2 q3 q4=>⟨σ8,S8,q2,q3,g'.trans (g5.trans q4),q1⟩,r.mono (g1.trans (g'.trans g5)),n.mono (g1.trans (g'.trans g5)),
      fun σ8 S8 σ9 H9 q1 q2 q3 q4=>⟨σ8,S8,q2,q3,g'.trans (g5.trans q4),q1⟩⟩
    ·exact hw.elim⟩⟩
def iN(tc:jh)(tb:bM):bM:=fun D σ S=>∃W:Nat->dq->av->Prop,(∃m,W m σ S)/\∀m σ S,W m σ S->
 tc σ S (fun b S1=>if b=true then ∃N:dq->av->Prop,(∀σ' S',N σ' S'->∃m',m' < m/\W m' σ' S')/\tb { D with nx:=N,ct:=N,bk:=D.nx } σ S1 else D.nx σ S1) D.ex
def ij(hp:PassesOwn (model X.prog X.w) X.A X.env X.xe)(hc:nZ X c tc)(hb:jr X body tb):n4 X (.While c body [] pos) (iN tc tb):=
 ⟨dE (rL hp hc.ok hb.ok) fun D σ H ⟨σ3,S,D3,rσ,rS,⟨W,⟨m0,w0⟩,turn⟩,xo,n,r,bk,ct⟩=>by
  refine⟨fun m σ' H'=>∃σ4 S',Dp X.K H' σ' σ4/\Di X.K H' S'/\Grow X.K H H'/\W m σ4 S',⟨m0,σ3,S,rσ,rS,.refl,w0⟩,?_⟩
  rintro m σ' H' ⟨σ4,S',GY,EH,g',w'⟩
  refine⟨σ4,S',_,D3.ex,GY,EH,turn m σ4 S' w',xo.mono g',fun b S1 H1 h1 Dq g1=>?_⟩
  cases b with
  |true=>
   rw[if_pos rfl]at h1 ⊢
   obtain⟨N,hN,h1⟩:=h1
   refine⟨fun σ5 H5=>∃σ6 S6,Dp X.K H5 σ5 σ6/\Di X.K H5 S6/\Grow X.K H H5/\N σ6 S6,?_,?_⟩
   ·rintro σ5 H5 ⟨σ6,S6,q1,q2,q3,q4⟩
    obtain⟨m',hm,w6⟩:=hN σ6 S6 q4
    exact⟨m',hm,σ6,S6,q1,q2,q3,w6⟩
   ·exact⟨σ4,S1,_,GY.mono g1,Dq,h1,xo.mono (g'.trans g1),fun σ8 S8 σ9 H9 q1 q2 q3 q4=>⟨σ8,S8,q2,q3,g'.trans (g1.trans q4),q1⟩,r.mono (g'.trans g1),n.mono (g'.trans g1),
     fun σ8 S8 σ9 H9 q1 q2 q3 q4=>⟨σ8,S8,q2,q3,g'.trans (g1.trans q4),q1⟩⟩
  |false=>
   rw[if_neg (by decide)]at h1 ⊢
   exact n _ S1 _ H1 h1 (GY.mono g1) Dq (g'.trans g1)⟩
end
noncomputable def ga:cC:=fun _ _ _=>False
def GK.no{X:Cx}{H:Hp}:GK X H ga:=fun _ _ _ _ _ _ _ _ _ _ _ _ _ _ h=>h.elim
section
variable {X:Cx} {elt iter tg c:Expr} {ifs:List Expr} {scope:Scope} {pos:Pos} {ti:rC} {g:Tg} {tc:jh} {te:aP} {fs N:Vs} {own:Nat} {fr:List Nat}
noncomputable def eN(g:Tg)(tc:jh)(te:aP)(σ':dq)(keep:av->Prop)(fin:List PV->av->Prop):List PV->List PV->av->Prop
 |[],ys,S=>keep S/\ys.length<=sizeLine/\fin ys S
 |x::r,ys,S=>keep S/\ys.length<=sizeLine/\match g.put x σ' with
  |some σ2=>tc σ2 S (fun b S3=>if b=true then te σ2 S3 (fun y S4=>eN g tc te σ' keep fin r (ys++[y]) S4) ga else eN g tc te σ' keep fin r ys S3) ga
  |none=>False
def bz:jh:=fun _ S Q _=>Q true S
structure zn (X:Cx) (ifs:List Expr) (t:jh):Prop where
 ok:PF X ifs (LT X t)
def oj{t t':TT}(h:PF X ifs t)(k:∀σ H Q,t' σ H Q->t σ H Q):PF X ifs t':=fun pins s σ H Q I q=>h pins s σ H Q I (k σ H Q q)
def bJ:zn X [] bz:=⟨oj yb fun σ H Q ⟨σ3,S,Q3,E3,rσ,rS,h,xo,k⟩=>k true S H h rS .refl⟩
def sZ(h:nZ X c tc):zn X [c] tc:=⟨yc h.ok⟩
noncomputable def bV(own:Nat)(fr:List Nat)(σ:dq):dq:=List.replicate own none++fr.map fun j=>lk σ j
def vK{K:Vo}{H:Hp}{σ:L2.St}{σ3:dq}(r:Dp K H σ σ3)(own:Nat)(fr:List Nat):Dp K H (eJ own fr σ) (bV own fr σ3):=by
 refine⟨by unfold eJ bV;simp,fun i p e=>?_⟩
 unfold bV at e
 unfold eJ
 by_cases hi:i < own
 ·rw[List.getElem?_append_left (by simpa using hi),List.getElem?_replicate,if_pos hi]at e
  cases e
 ·rw[List.getElem?_append_right (by simpa using hi),List.length_replicate,List.getElem?_map]at e ⊢
  cases hj:fr[i - own]? with
  |none=>rw[hj]at e;cases e
  |some j=>
   rw[hj]at e
   simp only[Option.map_some,Option.some.injEq]at e ⊢
   obtain⟨v,hv,rv⟩:=r.at' j p (sH e)
   exact⟨v,by rw[hv];rfl,rv⟩
def aw(ti:rC)(g:Tg)(tc:jh)(te:aP)(own:Nat)(fr:List Nat):aP:=fun σ S Q E=>ti σ S (fun src S1=>eN g tc te (bV own fr σ) src.keep (fun ys S2=>∀p,S2 p=none->Q (.ref p) (Dd S2 p (.lst ys))) src.items [] S1) E
def kQ{σ:L2.St}{H:Hp}{Q:VK}(G5:g.under own=true)(B0:Bk):LE X (aw ti g tc te own fr) σ H Q->sx (LI X ti) (g.g2 X.K) (fun σ H Q=>∃σ3 S Q3,Dp X.K H σ σ3/\Di X.K H S/\tc σ3 S Q3 ga/\∀b S' H',Q3 b S'->Di X.K H' S'->Grow X.K H H'->Q b H')
  (fun σ H Q=>∃σ3 S Q3,Dp X.K H σ σ3/\Di X.K H S/\te σ3 S Q3 ga/\GL X.K H Q3 Q) own fr σ H Q:=fun⟨σ3,S,Q3,E3,rσ,rS,h,xo,k⟩=>by
 refine⟨σ3,S,_,E3,rσ,rS,h,xo,fun src S1 J H1 h1 sim Dq g1=>?_⟩
 refine⟨fun i m ys H'=>i+m=src.items.length/\∃zs S',Reps X.K H' ys zs/\Di X.K H' S'/\Grow X.K H1 H'/\eN g tc te (bV own fr σ3) src.keep (fun ys S2=>∀p,S2 p=none->Q3 (.ref p) (Dd S2 p (.lst ys))) (src.items.drop i) zs S',⟨src.items.length,Nat.zero_add _,[],S1,.nil,Dq,.refl,by simpa using h1⟩,?_⟩
 rintro i m ys H' ⟨hm,zs,S',rz,EH,g',hw⟩
 cases hd:src.items.drop i with
 |nil=>
  rw[hd]at hw
  have hi:i=src.items.length:=by
   have:=congrArg List.length hd
   rw[List.length_drop,List.length_nil]at this
   omega
  refine .inl ⟨(sim i S' H' g' EH hw.1).2 hi,by rw[rz.length];exact hw.2.1,fun D hD=>?_⟩
  exact k _ _ _ _ (hw.2.2 D (EH.free hD)) (.ref D) (EH.new hD ⟨_,ay,rz.mono (.new hD)⟩) (g1.trans (g'.trans (.new hD)))
 |cons x rest=>
  rw[hd]at hw
  have hx:src.items[i]?=some x:=by
   have:=congrArg (fun l=>l[0]?) hd
   simpa using this
  have hrest:src.items.drop (i+1)=rest:=by
   have:=congrArg List.tail hd
   simpa [List.tail_drop]using this
  have hlt:i < src.items.length:=by
   by_cases z:i < src.items.length
   ·exact z
   ·rw[List.getElem?_eq_none (by omega)]at hx;cases hx
  obtain⟨go,yl⟩:=(sim i S' H' g' EH hw.1).1 x hx
  refine .inr ⟨go,by rw[rz.length];exact hw.2.1,fun ys' H5=>∃zs' S6,Reps X.K H5 ys' zs'/\Di X.K H5 S6/\Grow X.K H1 H5/\eN g tc te (bV own fr σ3) src.keep (fun ys S2=>∀p,S2 p=none->Q3 (.ref p) (Dd S2 p (.lst ys))) rest zs' S6,?_,fun v H5 hv=>?_⟩
  ·rintro ys' H5 ⟨zs',S6,q1,q2,q3,q4⟩
   exact⟨m - 1,by omega,by omega,zs',S6,q1,q2,q3,by rw[hrest];exact q4⟩
  ·obtain⟨rv,JA,g5⟩:=yl v H5 hv
   obtain⟨_,_,hw⟩:=hw
   split at hw
   ·rename_i σ6 e6
    refine Tg.FQ (own:=own) g rv ((vK rσ own fr).mono (g1.trans (g'.trans g5))) e6 fun σ7 IL d7=>⟨d7 G5,?_⟩
    refine⟨σ6,S',_,IL,JA,hw,fun b S8 H8 h8 Kc g8=>?_⟩
    cases b with
    |true=>
     rw[if_pos rfl]at h8 ⊢
     exact⟨σ6,S8,_,IL.mono g8,Kc,h8,fun y S9 y' H9 h9 ry KZ g9=>⟨zs++[y],S9,(rz.mono (g5.trans (g8.trans g9))).append (.cons ry .nil),KZ,g'.trans (g5.trans (g8.trans g9)),h9⟩⟩
    |false=>
     rw[if_neg (by decide)]at h8 ⊢
     exact⟨zs,S8,rz.mono (g5.trans g8),Kc,g'.trans (g5.trans g8),h8⟩
   ·exact hw.elim
def yv(fs:Vs)(own:Nat)(fr:List Nat)(N:Vs)(G5:g.under own=true)(hc:X.calm=true)(hclos:closureFor scope X.env=pure (cS X.env fs))(hcell:∀y∈scope.names,y.2 ≠ .cell)(hkind:scope.kind = .function)
  (hnames:∀x∈scope.names,x.2 = .local->scope.names.lookup x.1=some .local) (hcl:cF X.env fs) (hhas:lC (relabel scope X.env).names (cS X.env fs)=true)
  (hlen:N.length=own+fr.length) (hN:(N.drop own).map some=fr.map fun j=>X.N[j]?) (hF:Eb X.env scope (cS X.env fs) (N.drop own))
  (hi:uF X tg iter ti) (hg:∀B,uE (X.EO N scope fs B) tg g) (hf:∀B,zn (X.EO N scope fs B) ifs tc) (he:∀B,bh (X.EO N scope fs B) elt te)
  (hs:∀x,foldedSetIterable iter X.env x=pure x:=by intro _;rfl):bh X (.ListComp elt [⟨tg,iter,ifs,0⟩] scope pos) (aw ti g tc te own fr):=
 ⟨aM (vo fs own fr N hc hclos hcell hkind hnames hcl hhas hlen hN hF hi.ok (fun B=>(hg B).ok)
  (fun B=>oj (hf B).ok fun σ H Q ⟨σ3,S,Q3,rσ,rS,h,k⟩=>⟨σ3,S,Q3,ga,rσ,rS,h,.no,k⟩) (fun B=>aM (he B).ok fun σ H Q ⟨σ3,S,Q3,rσ,rS,h,k⟩=>⟨σ3,S,Q3,ga,rσ,rS,h,.no,k⟩) hs) fun _ _ _=>kQ G5 ⟨0,X.s₀,X.H₀,[],[]⟩⟩
def yw(fs:Vs)(own:Nat)(fr:List Nat)(N:Vs){i:Nat}{y:Str}{py spos:Pos}(hX:X.N.Nodup)(hix:X.N[i]?=some y)(hy:X.env.scope.names.lookup y=some .local)
  (hsw:swapsWith (.ListComp elt [⟨tg,iter,ifs,0⟩] scope pos) (some (.Name y py)) spos.line X.env=pure true)
  (G5:g.under own=true) (hc:X.calm=true) (hclos:closureFor scope X.env=pure (cS X.env fs)) (hcell:∀y∈scope.names,y.2 ≠ .cell) (hkind:scope.kind = .function)
  (hnames:∀x∈scope.names,x.2 = .local->scope.names.lookup x.1=some .local) (hcl:cF X.env fs) (hhas:lC (relabel scope X.env).names (cS X.env fs)=true)
  (hlen:N.length=own+fr.length) (hN:(N.drop own).map some=fr.map fun j=>X.N[j]?) (hF:Eb X.env scope (cS X.env fs) (N.drop own))
  (hi:uF X tg iter ti) (hg:∀B,uE (X.EO N scope fs B) tg g) (hf:∀B,zn (X.EO N scope fs B) ifs tc) (he:∀B,bh (X.EO N scope fs B) elt te)
  (hs:∀x,foldedSetIterable iter X.env x=pure x:=by intro _;rfl):n4 X (.Assign [.Name y py] (.ListComp elt [⟨tg,iter,ifs,0⟩] scope pos) spos) (am i (aw ti g tc te own fr)):=
 ⟨dE (vp fs own fr N hX hix hy hsw hc hclos hcell hkind hnames hcl hhas hlen hN hF hi.ok (fun B=>(hg B).ok)
  (fun B=>oj (hf B).ok fun σ H Q ⟨σ3,S,Q3,rσ,rS,h,k⟩=>⟨σ3,S,Q3,ga,rσ,rS,h,.no,k⟩) (fun B=>aM (he B).ok fun σ H Q ⟨σ3,S,Q3,rσ,rS,h,k⟩=>⟨σ3,S,Q3,ga,rσ,rS,h,.no,k⟩) hs)
  fun D σ H ⟨σ3,S,D3,rσ,rS,h,xo,n,r,bk,ct⟩=>kQ G5 ⟨0,X.s₀,X.H₀,[],[]⟩ ⟨σ3,S,_,D3.ex,rσ,rS,h,xo,fun p S1 v H1 h1 rv Dq g1=>n _ S1 _ H1 h1 ((rσ.mono g1).set rv i) Dq g1⟩⟩
end
abbrev aC:=List PV->av->bP->cC->Prop
noncomputable def At(K:Vo)(n:Nat)(sp:aC):Sp:=fun vs H Q _=>vs.length=n/\∃ps S Q3 E3,Reps K H vs ps/\Di K H S/\sp ps S Q3 E3/\GL K H Q3 Q
structure zo (P:Program) (w:World) (K:Vo) (mg:Vr) (base:Heap) (k:Nat) (f:Addr) (fd:FuncData) (ps:Vs) (sp:aC):Prop where
 ok:iC P w K mg base wy k f fd ps (At K ps.length sp)
section
variable {X:Cx} {e o:Expr} {es:List Expr} {te to:aP} {ts:List aP} {x:Str} {p pos apos cpos:Pos} {k:Nat} {f:Addr} {fd:FuncData} {ps:Vs} {sp:aC}
def ad(sp:aC)(ts:List aP):aP:=fun σ S Q E=>ag ts σ S (fun ps S1=>sp ps S1 Q E) E
def yx(F:zo X.prog X.w X.K X.mg X.base k f fd ps sp)(hr:Room k X.A)(hg:Gl X x)(hm:X.mg x=some (.ref f))(hk:PySem.W.keepIn X.K (.ref f)=true)(hb:Binds X.K fd ps [])(he:starEach (e::es) X.env=(false,eval e X.env)::starEach es X.env)(ha:jO X (e::es) ts)
  (hl:ts.length=ps.length:=by rfl) (hdb:(x == ("__debug__":Str))=false:=by decide) (hpl:(backTo pos (starEach es X.env)).any (·.1)=false:=by rfl):bh X (.Call (.Name x p) (e::es) [] pos) (ad sp ts):=
 ⟨aM (u7 F.ok hr hg hm hk hb .nil pk ha.ok hdb he hpl) fun σ H Q ⟨σ3,S,Q3,E3,rσ,rS,h,xo,k⟩=>cx rσ rS h xo fun ps' S' vs H' hl' q rv EH g=>by
  rw[List.append_nil]
  exact⟨by rw[rv.length,hl',hl],ps',S',Q3,E3,rv,EH,q,k.mono g⟩⟩
end
noncomputable def ar(n:Nat)(args:List PV):dq:=args.map some++List.replicate (n - args.length) none
def bc(n:Nat)(t:bM):aC:=fun args S Q _=>t { nx:=fun _ S'=>Q .non S',rt:=Q,ex:=ga } (ar n args) S
def qP{K:Vo}{H:Hp}{N:Vs}{vs:List V}{ps:List PV}(r:Reps K H vs ps):Dp K H (L2.fG N vs) (ar N.length ps):=by
 refine⟨by unfold L2.fG ar;simp[r.length],fun i p e=>?_⟩
 unfold ar at e
 unfold L2.fG
 by_cases hi:i < ps.length
 ·rw[List.getElem?_append_left (by simpa using hi),List.getElem?_map]at e
  cases hp:ps[i]? with
  |none=>rw[hp]at e;cases e
  |some q=>
   rw[hp]at e
   cases e
   obtain⟨v,hv,rv⟩:=r.get hp
   rw[List.getElem?_append_left (by rw[List.length_map,r.length];exact hi),List.getElem?_map,hv]
   exact⟨v,rfl,rv⟩
 ·rw[List.getElem?_append_right (by simpa using hi),List.getElem?_replicate]at e
  split at e
  ·cases e
  ·cases e
section
variable {P:Program} {w:World} {K:Vo} {mg:Vr} {base:Heap}
noncomputable abbrev Bh(P:Program)(w:World)(K:Vo)(mg:Vr)(base:Heap)(N:Vs)(qual:Str)(st:Stmt)(f:Addr)(cdv:Value)(A:Around)(outer:List Env)(s:Shared)(H:Hp)(E:XK):Cx:=(nN wy P w K mg base N qual (aK st) f cdv A outer s H E).HZ
def B9{x qual:Str}{st:Stmt}{f:Addr}{fd:FuncData}{N ps:Vs}{k:Nat}{t:bM}(F:G3 K x qual st f fd)(S:eZ N ps (aK st))
  (hbody:∀(cdv:Value) (A:Around) (outer:List Env) (s:Shared) (H:Hp) (E:XK),Room k (A.deeper (PyProof.Rows.envOfC qual (aK st) s.heap.objs.size f cdv))->jr (Bh P w K mg base N qual st f cdv A outer s H E) (bO st) t) :
  zo P w K mg base (k+1) f fd ps (bc N.length t):=
 ⟨F.ok S (fun vs H Q E h=>h.1) fun cdv A outer s H vs Q E hr ⟨hl,ps',S',Q3,E3,rv,rS,q,kk⟩=>⟨_,(hbody cdv A outer s H E hr).ok,ar N.length ps',S',_,qP rv,rS,q,.no,fun σ3 S2 σ2 H2 h2 _ EU g2=>kk _ S2 _ H2 h2 .non EU g2,kk,fun _ _ _ _ h2=>h2.elim,fun _ _ _ _ h2=>h2.elim⟩⟩
end
section
variable {X:Cx} {o e f:Expr} {to te tf:aP} {pos apos cpos:Pos}
noncomputable def iO:List (aP×aP)->dq->av->(List (PV×PV)->av->Prop)->cC->Prop
 |[],_,S,Q,_=>Q [] S
 |(tk,tv)::r,σ,S,Q,E=>tk σ S (fun x S1=>tv σ S1 (fun y S2=>iO r σ S2 (fun ps S3=>Q ((x,y)::ps) S3) E) E) E
noncomputable def mP:List (PV×PV)->Option (List (b8×PV))
 |[]=>some []
 |(x,y)::r=>match og x,mP r with|some k,some l=>some ((k,y)::l)|_,_=>none
noncomputable def lK(kvs more:List (b8×PV)):List (b8×PV):=more.foldl (fun acc kv=>lI acc kv.1 kv.2) kvs
structure Bi (X:Cx) (pos:Pos) (keys:List (Option Expr)) (values:List Expr) (Ft:List (aP×aP)):Prop where
 ok:Aa X pos keys values (Ft.map fun t=>(LE X t.1,LE X t.2))
def yy:Bi X pos [] [] []:=⟨vi⟩
def lL{k v:Expr}{ks:List (Option Expr)}{vs:List Expr}{tk tv:aP}{Ft:List (aP×aP)}(hk:bh X k tk)(hv:bh X v tv)(hr:Bi X pos ks vs Ft):Bi X pos (some k::ks) (v::vs) ((tk,tv)::Ft):=⟨ss hk.ok hv.ok hr.ok⟩
inductive kR (K:Vo) (H:Hp):List (V×V)->List (PV×PV)->Prop
 |nil:kR K H [] []
 |cons {a b:V} {p q:PV} {vs:List (V×V)} {ps:List (PV×PV)}:Rep K H a p->Rep K H b q->kR K H vs ps->kR K H ((a,b)::vs) ((p,q)::ps)
theorem jW:∀{Ft:List (aP×aP)} {σ:L2.St} {H:Hp} {Q:List (V×V)->Hp->Prop} {σ3:dq} {S:av} {Q3:List (PV×PV)->av->Prop} {E3:cC},Dp X.K H σ σ3->Di X.K H S->iO Ft σ3 S Q3 E3->GK X H E3->
  (∀ps S' vs H',ps.length=Ft.length->Q3 ps S'->kR X.K H' vs ps->Di X.K H' S'->Grow X.K H H'->Q vs H')->ly (Ft.map fun t=>(LE X t.1,LE X t.2)) σ H Q
 |[],σ,H,Q,σ3,S,Q3,E3,rσ,rS,h,xo,k=>k [] S [] H rfl h .nil rS .refl
 |(tk,tv)::ts,σ,H,Q,σ3,S,Q3,E3,rσ,rS,h,xo,k=>
  ⟨σ3,S,_,E3,rσ,rS,h,xo,fun p S1 v H1 h1 rv Dq g1=>⟨σ3,S1,_,E3,rσ.mono g1,Dq,h1,xo.mono g1,fun p2 S2 v2 H2 h2 JB EU g2=>jW (rσ.mono (g1.trans g2)) EU h2 (xo.mono (g1.trans g2)) fun ps S3 vs H3 hl h3 Jx Ie g3=>
   k ((p,p2)::ps) S3 ((v,v2)::vs) H3 (by rw[List.length_cons,List.length_cons,hl]) h3 (.cons (rv.mono (g2.trans g3)) (JB.mono g3) Jx) Ie (g1.trans (g2.trans g3))⟩⟩
theorem kS{K:Vo}{H:Hp}:∀{vs:List (V×V)} {ps:List (PV×PV)} {l:List (b8×PV)},kR K H vs ps->mP ps=some l->∃kvs:List (b8×V),vs=kvs.map (fun kv=>(kV kv.1,kv.2))/\Dn K H kvs l
 |_,_,_,.nil,h=>by cases h;exact⟨[],rfl,.nil⟩
 |_,_,l,.cons a b r,h=>by
  unfold mP at h
  split at h
  ·rename_i k l' ek el
   cases h
   obtain⟨kvs,e,q⟩:=kS r el
   refine⟨(k,_)::kvs,?_,.cons b q⟩
   rw[List.map_cons,<-e,gG a ek]
  ·cases h
def Dn.merge{K:Vo}{H:Hp}{more:List (b8×V)}{m3:List (b8×PV)}(r:Dn K H more m3):∀{kvs:List (b8×V)} {k3:List (b8×PV)},Dn K H kvs k3->Dn K H (iE kvs more) (lK k3 m3):=by
 induction r with
 |nil=>intro kvs k3 q;exact q
 |cons a r ih=>intro kvs k3 q;exact ih (q.put a)
def mQ(Ft:List (aP×aP)):aP:=fun σ S Q E=>∀p,S p=none->iO Ft σ (Dd S p (.dct [])) (fun ps S2=>S2 p=some (.dct [])/\match mP ps with|some kvs=>Q (.ref p) (Dd S2 p (.dct (lK [] kvs)))|none=>False) E
def yA{keys:List (Option Expr)}{values:List Expr}{Ft:List (aP×aP)}(h:Bi X pos keys values Ft)(hall:keys.all (·.isSome)=true:=by rfl)(hl:keys.length=values.length:=by rfl)(h0:keys≠[]:=by exact List.cons_ne_nil _ _)(Jl:keys.length<=15:=by decide)
  (ht:Ft.length<=15:=by exact Nat.le_of_ble_eq_true rfl):bh X (.Dict keys values pos) (mQ Ft):=
 ⟨aM (vj h.ok hall hl h0 Jl) fun σ H Q ⟨σ3,S,Q3,E3,rσ,rS,hq,xo,k⟩=>fun p hp=>by
  have g0:Grow X.K H (upd H p (.dK [])):=.new hp
  refine jW (rσ.mono g0) (rS.new hp (o:=.dct []) ⟨[],ay,.nil⟩) (hq p (rS.free hp)) (xo.mono g0) fun ps S' vs H' hl' q rv EH g=>?_
  obtain⟨e,q⟩:=q
  obtain⟨kv,hv,rk⟩:=EH _ _ e
  cases rk
  refine⟨hv,?_⟩
  split at q
  ·rename_i kvs ek
   obtain⟨l,el,rl⟩:=kS rv ek
   refine⟨l,el,?_,k _ _ _ _ q (.ref p) (EH.put hv trivial ⟨_,ay,(Dn.merge rl .nil).mono (.mut hv trivial)⟩) (g0.trans (g.trans (.mut hv trivial)))⟩
   have z1:∀{vs:List (V×V)} {ps:List (PV×PV)},kR X.K H' vs ps->vs.length=ps.length:=by
    intro vs ps r
    induction r with
    |nil=>rfl
    |cons _ _ _ ih=>rw[List.length_cons,List.length_cons,ih]
   have z2:=congrArg List.length el
   rw[List.length_map,z1 rv,hl']at z2
   omega
  ·exact q.elim⟩
def mR(te:aP):aP:=fun σ S Q E=>te σ S (fun x S1=>match x with
 | .ref a=>(match S1 a with|some (.lst xs)=>∀p,S1 p=none->Q (.ref p) (Dd S1 p (.lst xs.reverse))|_=>False)
 |_=>False) E
def yB{p1 p2 q1 q2:Pos}(hs:starEach [e] X.env=[(false,eval e X.env)])(hc:X.calm=true)(he:bh X e te)(Ju:Gl X "list")(hm1:X.mg "list" = none)(Jv:Gl X "reversed")(hm2:X.mg "reversed" = none):bh X (.Call (.Name "list" p1) [.Call (.Name "reversed" p2) [e] [] q2] [] q1) (mR te):=
 ⟨aM (nV hc he.ok Ju hm1 Jv hm2 hs rfl) fun σ H Q ⟨σ3,S,Q3,E3,rσ,rS,h,xo,k⟩=>⟨σ3,S,_,E3,rσ,rS,h,xo,fun x S1 v H1 h1 rx Dq g1=>by
  dsimp only at h1
  split at h1
  ·cases rx
   split at h1
   ·rename_i ea
    obtain⟨vs,hv,rs⟩:=Dq _ _ ea
    exact⟨_,_,rfl,SqL.of hv,fun q hq=>k _ _ _ _ (h1 q (Dq.free hq)) (.ref q) (Dq.new hq ⟨_,ay,rs.reverse.mono (.new hq)⟩) (g1.trans (.new hq))⟩
   ·exact h1.elim
  ·exact h1.elim⟩⟩
end
def cH:R3:=bx fun i j=>.int (i - j)
def ik:R3:=fv (fun _ j=>j≠0) fun i j=>.int (i.fmod j)
def d3:R3:=fv jR fun i j=>.int (i.fdiv j)
def s9:R3:=fv xH fun i j=>.int (i ^ j.toNat)
def kr:R3:=bx fun i j=>.bl (decide (i < j))
def jk:R3:=bx fun i j=>.bl (decide (j < i))
def s_:R3:=bx fun i j=>.bl (decide (j<=i))
section
variable {X:Cx}
def il:hU X (binaryOp .Sub) cH:=yk
def gq:hU X (binaryOp .Mod) ik:=ym
def fM:hU X (binaryOp .FloorDiv) d3:=vv
def Au:hU X (binaryOp .Pow) s9:=yn
def lM:hU X (compareOp .Lt) kr:=Af
def iP:hU X (compareOp .Gt) jk:=Ag
def vL:hU X (compareOp .GtE) s_:=Ah
end
def wH{A:Around}{k:Nat}(hr:Room k A):A.units+1 < cLine:=by have:=hr.un;omega
def jl{A:Around}{k:Nat}(hr:Room k A):A.units+150 < cLine:=by have:=hr.un;omega
structure Bj (K:Vo) (mg:Vr) (x:Str) (st:Stmt) (ps:Vs) (f:Addr) (fd:FuncData):Prop where
 F:G3 K x x st f fd
 b:Binds K fd ps []
 k:PySem.W.keepIn K (.ref f)=true
 m:mg x=some (.ref f)
def B_{K:Vo}{H:Hp}{a:Addr}{ns:Vu}{sp:aC}(hO:vk H)(hS:SqL K H a (ns.map V.int))(h:sp [.cl (ns.map PV.int)] (fun _=>none) (fun v _=>v = .bl true) ga):At K 1 sp [.ref a] H (fun v _=>v = .bl true) fun _ _ _=>False:=by
 have hr:∀l:List Int,Reps K H (l.map V.int) (l.map PV.int):=by
  intro l
  induction l with
  |nil=>exact .nil
  |cons x r ih=>exact .cons (.int x) ih
 refine⟨rfl,[.cl (ns.map PV.int)],fun _=>none,_,ga,.cons (.cl (vs:=ns.map V.int) ?_ (hr ns)) .nil,(fun b o e=>by simp at e),h,fun p S' v H' q rv rS g=>?_⟩
 ·rcases hS with(q|q)|q
  ·rcases hO a with z|⟨o,xs,z⟩
   ·rw[z]at q;cases q
   ·rw[z]at q;cases q
  ·exact .inl q
  ·exact .inr q
 ·subst q
  cases rv
  rfl
end L3
namespace L2
open PySem PySem.Spec PyProof.Rows
section
variable {X:Cx}
end
end L2
namespace HT
open PySem PySem.Spec PyProof.Rows
section
variable {prog:Program} {w:World} {A:Around} {E:Vq} {s:Shared}
end
end HT
namespace L2
open PySem PySem.Spec PyProof.Rows
section
variable {X:Cx} {e st:Expr} {te ts:TE} {p2 pos:Pos}
end
end L2
namespace L3
open PySem L2
section
variable {X:Cx} {e st:Expr} {te ts:aP} {p2 pos:Pos}
noncomputable def fb:List PV->Option (List Int)
 |[]=>some []
 | .int i::r=>(fb r).map (i::·)
 |_::_=>none
theorem jX:∀ns:List Int,fb (ns.map PV.int)=some ns
 |[]=>rfl
 |n::ns=>by rw[List.map_cons];unfold fb;rw[jX ns];rfl
theorem fZ{K:Vo}{H:Hp}:∀{vs:List V} {ps:List PV} {ns:Vu},Reps K H vs ps->fb ps=some ns->vs=ns.map V.int
 |_,_,_,.nil,h=>by cases h;rfl
 |_,_,ns,.cons (p:=p) a r,h=>by
  cases p with
  |int b=>
   cases a
   unfold fb at h
   cases e:fb _ with
   |none=>rw[e]at h;cases h
   |some l=>rw[e]at h;cases h;rw[fZ r e];rfl
  |_=>cases h
end
end L3
namespace L2
open PySem PySem.Spec PyProof.Rows
section
variable {X:Cx}
end
end L2
namespace L3
open PySem L2
section
variable {X:Cx} {a b c:Expr} {ta tb tc:aP} {pos:Pos}
end
end L3
namespace L2
open PySem PySem.Spec PyProof.Rows PySem.AutoSeq1
section
variable {X:Cx}
end
end L2
namespace L3
open PySem L2
section
variable {X:Cx}
end
end L3
namespace C
open PySem L2 L3
def fN:bM:=(ak (am 3 (aw (aO (bX (v3 0) (lG (v3 1)) (lG (c3 (.int 63))))) (.n 0) bz (ah jT [(v3 0),(ai cH (c3 (.int 0)) (v3 0))]) 1 []))
  (ak (am 4 (ai bo (c3 (.int 7919)) (v3 1)))
  (ak (bU (aO (v3 3)) (.n 2) (am 4 (ai ik (ai bo (ai aQ (v3 4) (c3 (.int 48271))) (ai ik (v3 2) (c3 (.int 2147483629)))) (c3 (.int 2147483647)))))
  (ap (mQ [((c3 (.str "seed")),(v3 4)),((c3 (.str "number")),(c3 (.int 0))),((c3 (.str "left")),(mR (aw (aO (v3 3)) (.n 0) (a8 (ai s_ (v3 0) (ai s9 (c3 (.int 10)) (c3 (.int 18))))) (v3 0) 1 [])))])))))
def fO:bM:=(ak (iN (fK (a8 (ai (dG false) (ai aj (v3 0) (c3 (.str "number"))) (c3 (.int 0)))) (a8 (ai jk (ah aS [(ai aj (v3 0) (c3 (.str "left")))]) (c3 (.int 0))))) (iM (mM "list" mN (ai aj (v3 0) (c3 (.str "left"))) []) (v3 0) (c3 (.str "number"))))
  (ak (am 2 (ai aj (v3 0) (c3 (.str "number"))))
  (ak (cj (a8 (ai jk (v3 2) (c3 (.int 0)))) (ak (iM (ai d3 (v3 2) (v3 1)) (v3 0) (c3 (.str "number")))
  (ap (ai ik (v3 2) (v3 1)))) br)
  (ak (am 3 (ai ik (ai bo (ai aQ (ai aj (v3 0) (c3 (.str "seed"))) (c3 (.int 48271))) (c3 (.int 7919))) (c3 (.int 2147483647))))
  (ak (iM (ai ik (ai bo (ai aQ (v3 3) (c3 (.int 40692))) (c3 (.int 104729))) (c3 (.int 2147483399))) (v3 0) (c3 (.str "seed")))
  (ak (am 4 (ai ik (ai aQ (ai aj (v3 0) (c3 (.str "seed"))) (ai aj (v3 0) (c3 (.str "seed")))) (c3 (.int 2147483563))))
  (ap (ai ik (ai bo (ai aQ (ai ik (ai aQ (v3 3) (v3 3)) (c3 (.int 2147483629))) (c3 (.int 2147483563))) (v3 4)) (v3 1)))))))))
def gJ:bM:=(ak (mO 2 3 (ah jT [(v3 0),(ai cH (c3 (.int 0)) (v3 0))]) (v3 1))
  (ak (iN (a8 (ai jk (v3 3) (c3 (.int 0)))) (mO 2 3 (v3 3) (ai ik (v3 2) (v3 3))))
  (ap (a7 [(ai d3 (v3 0) (v3 2)),(ai d3 (v3 1) (v3 2))]))))
def jY:bM:=(ak (iN (a8 (ai (dG true) (v3 1) (c3 (.int 0)))) (ak (am 2 (ai ik (v3 0) (v3 1)))
  (ak (am 0 (v3 1))
  (am 1 (v3 2)))))
  (ap (ah qJ [(v3 0)])))
def gK(Fv:aC):bM:=(ak (am 2 (ad Fv [(v3 0),(v3 1)]))
  (ak (cj (a8 (ai kr (v3 1) (c3 (.int 0)))) (am 2 (jj df (v3 2))) br)
  (ap (a7 [(ai d3 (v3 0) (v3 2)),(ai d3 (v3 1) (v3 2))]))))
def fP(Dv:aC):bM:=(ap (ad Dv [(ai bo (ai aQ (ai aj (v3 0) (c3 (.int 0))) (ai aj (v3 1) (c3 (.int 1)))) (ai aQ (ai aj (v3 1) (c3 (.int 0))) (ai aj (v3 0) (c3 (.int 1))))),(ai aQ (ai aj (v3 0) (c3 (.int 1))) (ai aj (v3 1) (c3 (.int 1))))]))
def lN(Dv:aC):bM:=(ap (ad Dv [(ai aQ (ai aj (v3 0) (c3 (.int 0))) (ai aj (v3 1) (c3 (.int 0)))),(ai aQ (ai aj (v3 0) (c3 (.int 1))) (ai aj (v3 1) (c3 (.int 1))))]))
def fQ(DW:aC):bM:=(ap (ad DW [(ai bo (ai aQ (ai aj (v3 0) (c3 (.int 0))) (ai aj (v3 1) (c3 (.int 1)))) (ai aQ (ai aj (v3 1) (c3 (.int 0))) (ai aj (v3 0) (c3 (.int 1))))),(ai aQ (ai aj (v3 0) (c3 (.int 1))) (ai aj (v3 1) (c3 (.int 1))))]))
end C
namespace L3
open PySem L2
theorem mS:∀{a b:List Char},a.map Char.toNat=b.map Char.toNat->a=b
 |[],[],_=>rfl
 |[],_::_,h=>by simp at h
 |_::_,[],h=>by simp at h
 |x::a,y::b,h=>by
  simp only[List.map_cons,List.cons.injEq]at h
  rw[mS h.2,Char.toNat_inj.mp h.1]
def da{a b:String}:(Str.ofString a=Str.ofString b)↔a=b:=by
 refine⟨fun h=>?_,fun h=>by rw[h]⟩
 rw[Str.ofString_eq_toList,Str.ofString_eq_toList]at h
 have h':a.toList.map Char.toNat=b.toList.map Char.toNat:=by
  have:=congrArg (fun s:Str=>s.cps.toList) h
  simpa using this
 exact String.toList_inj.mp (mS h')
def qQ{i j:Int}(h1:-(2 ^ 64) < i)(h2:i < 2 ^ 64):IntMulOk i j:=(show GB i j from .inl ⟨h1,h2⟩).ok
def ol{i j:Int}(h1:-(2 ^ 64) < j)(h2:j < 2 ^ 64):IntMulOk i j:=(show GB i j from .inr ⟨h1,h2⟩).ok
def jm{i j:Int}(h:0<=j):i.fmod j=i % j:=Int.fmod_eq_emod_of_nonneg i h
def Av{i j:Int}(h:0<=j):i.fdiv j=i / j:=Int.fdiv_eq_ediv_of_nonneg i h
def yC{i j:Int}(h:0 < j)(h2:j < 2 ^ 64):jR i j:=⟨by omega,Nat.lt_trans (show j.natAbs < 2 ^ 64 by omega) (Nat.pow_lt_pow_right (by decide) (by decide))⟩
def Fw(d l:Addr)(S S':av):Prop:=∀a o,S a=some o->a≠d->a≠l->S' a=some o
def Fw.refl{d l:Addr}{S:av}:Fw d l S S:=fun _ _ h _ _=>h
def Fw.trans{d l:Addr}{S S1 S2:av}(a:Fw d l S S1)(b:Fw d l S1 S2):Fw d l S S2:=fun x o h h1 h2=>b x o (a x o h h1 h2) h1 h2
def Fw.upd{d l:Addr}{S:av}{o:SO}:Fw d l S (Dd S d o):=fun x u h h1 h2=>by rw[aq h1];exact h
def Fw.K0{d l:Addr}{S:av}{o:SO}:Fw d l S (Dd S l o):=fun x u h h1 h2=>by rw[aq h2];exact h
def Fw.new{d l p:Addr}{S:av}{o:SO}(h:S p=none):Fw d l S (Dd S p o):=fun x u hx h1 h2=>by rw[aq (fun e=>by rw[e,h]at hx;cases hx)];exact hx
end L3
local macro_rules | `(tactic| walk_at "x")=>`(tactic| ((try dsimp only [L3.ak,L3.am,L3.ap,L3.du,L3.cj,L3.br,L3.ai,L3.v3,L3.c3,L3.lk,L3.ag,L3.ah,L3.ad,L3.mM,L3.a8,L3.fK,L3.jP,L3.cU,L3.dF,L3.kM,L3.mJ,L3.iM,L3.mO,L3.a7,L3.cD,L3.jj,L3.df,L3.aj,L3.og,L3.bX,L3.pA,L3.lG,L3.iJ,L3.bx,L3.fv,L3.cH,L3.ik,L3.d3,L3.s9,L3.kr,L3.jk,L3.s_,L3.dG,L3.ki,L3.bo,L3.aQ,L3.aS,L3.qJ,L3.jT,L3.gj,L3.aT,L3.ic,List.set_cons_zero,List.set_cons_succ,List.set_nil,L3.uD,L3.e_,L3.mN,L3.aw,L3.aO,L3.cf,L3.bU,L3.bV,L3.Tg.put,L3.Tg.DV,L3.qL,L3.mQ,L3.iO,L3.mR,L3.ck,L3.gk,L3.kq,L3.cG,L3.e9,List.reduceReplicate,List.map_cons,List.map_nil,List.cons_append,List.nil_append]); (try simp only [L3.ak,L3.am,L3.ap,L3.du,L3.cj,L3.br,L3.ai,L3.v3,L3.c3,L3.lk,L3.ag,L3.ah,L3.ad,L3.mM,L3.a8,L3.fK,L3.jP,L3.cU,L3.dF,L3.kM,L3.mJ,L3.iM,L3.mO,L3.a7,L3.cD,L3.jj,L3.df,L3.aj,L3.og,L3.bX,L3.pA,L3.lG,L3.iJ,L3.bx,L3.fv,L3.cH,L3.ik,L3.d3,L3.s9,L3.kr,L3.jk,L3.s_,L3.dG,L3.ki,L3.bo,L3.aQ,L3.aS,L3.qJ,L3.jT,L3.gj,L3.aT,L3.ic,List.set_cons_zero,List.set_cons_succ,List.set_nil,L3.uD,L3.e_,L3.mN,L3.aw,L3.aO,L3.cf,L3.bU,L3.bV,L3.Tg.put,L3.Tg.DV,L3.qL,L3.mQ,L3.iO,L3.mR,L3.ck,L3.gk,L3.kq,L3.cG,L3.e9,List.reduceReplicate,List.map_cons,List.map_nil,List.cons_append,List.nil_append])))
namespace C
open PySem L2 L3
noncomputable def cg(seed number:Int)(l:Addr):List (b8×PV):=[(Sum.inr "seed",.int seed),(Sum.inr "number",.int number),(Sum.inr "left",.ref l)]
structure Fh (S:av) (d l:Addr) (seed number:Int) (left:Vu):Prop where
 d:S d=some (.dct (cg seed number l))
 l:S l=some (.lst (left.map PV.int))
 s0:0<=seed
 s1:seed < 2147483647
 nm:0<=number
 lf:∀x∈left,0<=x
 ln:left.length<=100
def DQ(S:av)(d l:Addr):Prop:=∃seed number left,Fh S d l seed number left
def Fh.ne{S:av}{d l:Addr}{seed number:Int}{left:Vu}(D:Fh S d l seed number left):d≠l:=fun e=>by
 have h:=D.d
 rw[e,D.l]at h
 cases h
def DQ.new{S:av}{d l p:Addr}{o:SO}(D:DQ S d l)(h:S p=none):DQ (Dd S p o) d l:=by
 obtain⟨s,n,f,D⟩:=D
 refine⟨s,n,f,?_,?_,D.s0,D.s1,D.nm,D.lf,D.ln⟩
 ·rw[aq (fun e=>by have:=D.d;rw[e,h]at this;cases this)];exact D.d
 ·rw[aq (fun e=>by have:=D.l;rw[e,h]at this;cases this)];exact D.l
def DQ.upd{S:av}{d l p:Addr}{o:SO}(D:DQ S d l)(h1:p≠d)(h2:p≠l):DQ (Dd S p o) d l:=by
 obtain⟨s,n,f,D⟩:=D
 exact⟨s,n,f,by rw[aq h1.symm];exact D.d,by rw[aq h2.symm];exact D.l,D.s0,D.s1,D.nm,D.lf,D.ln⟩
def DQ.free{S:av}{d l p:Addr}(D:DQ S d l)(h:S p=none):p≠d/\p≠l:=by
 obtain⟨s,n,f,D⟩:=D
 exact⟨(fun e=>by have:=D.d;rw[<-e,h]at this;cases this),(fun e=>by have:=D.l;rw[<-e,h]at this;cases this)⟩
def jZ(s n m:Int)(l:Addr):lI (cg s n l) (Sum.inr "number") (.int m)=cg s m l:=by
 simp[lI,cg,da]
def tj(s n m:Int)(l:Addr):lI (cg s n l) (Sum.inr "seed") (.int m)=cg m n l:=by
 simp[lI,cg,da]
def yD(s n:Int)(l:Addr):ko (cg s n l) (Sum.inr "seed")=some (.int s):=by simp[ko,cg,da]
def tm(s n:Int)(l:Addr):ko (cg s n l) (Sum.inr "number")=some (.int n):=by simp[ko,cg,da]
def yE(s n:Int)(l:Addr):ko (cg s n l) (Sum.inr "left")=some (.ref l):=by simp[ko,cg,da]
abbrev eO(w:aC):Prop:=∀{S:av} {d l:Addr} {m:Int} {Q:bP} {E:cC},DQ S d l->0 < m->m < 2 ^ 62->(∀r S',0<=r->r < m->DQ S' d l->Fw d l S S'->Q (.int r) S')->w [.ref d,.int m] S Q E
def Dg:eO (bc 5 fO):=by
  intro S d l m Q E D h0 h1 k
  obtain⟨seed,number,left,D⟩:=D
  have hne:=D.ne
  have hsz:∀a b,(cg a b l).length < sizeLine:=fun _ _=>fY (by show 3<=1000;decide)
  have fin:∀num Gz S1,Fh S1 d l seed num Gz->Fw d l S S1->¬(num=0/\0 < Gz.length)->
      (if 0 < num then jR num m/\(cg seed num l).length < sizeLine/\m≠0/\Q (PV.int (num.fmod m)) (Dd S1 d (SO.dct (cg seed (num.fdiv m) l)))
       else IntMulOk seed 48271/\(2147483647:Int)≠0/\IntMulOk ((seed * 48271+7919).fmod 2147483647) 40692/\(2147483399:Int)≠0/\(cg seed num l).length < sizeLine/\
        IntMulOk (((seed * 48271+7919).fmod 2147483647 * 40692+104729).fmod 2147483399) (((seed * 48271+7919).fmod 2147483647 * 40692+104729).fmod 2147483399)/\(2147483563:Int)≠0/\
        IntMulOk ((seed * 48271+7919).fmod 2147483647) ((seed * 48271+7919).fmod 2147483647)/\(2147483629:Int)≠0/\
        IntMulOk (((seed * 48271+7919).fmod 2147483647 * (seed * 48271+7919).fmod 2147483647).fmod 2147483629) 2147483563/\m≠0/\
        Q (PV.int ((((seed * 48271+7919).fmod 2147483647 * (seed * 48271+7919).fmod 2147483647).fmod 2147483629 * 2147483563+((((seed * 48271+7919).fmod 2147483647 * 40692+104729).fmod 2147483399) * (((seed * 48271+7919).fmod 2147483647 * 40692+104729).fmod 2147483399)).fmod 2147483563).fmod m))
          (Dd S1 d (SO.dct (cg (((seed * 48271+7919).fmod 2147483647 * 40692+104729).fmod 2147483399) num l)))):=by
    intro num Gz S1 D1 O1 hz
    split
    . rename_i hp
      rw[jm (Int.le_of_lt h0),Av (Int.le_of_lt h0)]
      refine⟨yC h0 (by omega),hsz _ _,by omega,k _ _ (Int.emod_nonneg _ (by omega)) (Int.emod_lt_of_pos _ h0) ⟨seed,num / m,Gz,aa,by rw[aq hne.symm];exact D1.l,D1.s0,D1.s1,Int.ediv_nonneg D1.nm (Int.le_of_lt h0),D1.lf,D1.ln⟩ (O1.trans .upd)⟩
    . have e1:∀x:Int,x.fmod 2147483647=x % 2147483647:=fun x=>jm (by decide)
      have e2:∀x:Int,x.fmod 2147483399=x % 2147483399:=fun x=>jm (by decide)
      simp only[e1,e2,jm (Int.le_of_lt h0)]
      have p1:=D1.s0
      have p2:=D1.s1
      refine⟨ol (by decide) (by decide),by decide,ol (by decide) (by decide),by decide,hsz _ _,qQ (by omega) (by omega),by decide,qQ (by omega) (by omega),by decide,ol (by decide) (by decide),by omega,
        k _ _ (Int.emod_nonneg _ (by omega)) (Int.emod_lt_of_pos _ h0) ⟨_,num,Gz,aa,by rw[aq hne.symm];exact D1.l,by omega,by omega,D1.nm,D1.lf,D1.ln⟩ (O1.trans .upd)⟩
  unfold bc fO
  rw[show ar 5 [PV.ref d,PV.int m]=[some (.ref d),some (.int m),none,none,none] from rfl]
  simp only[ak]
  refine⟨fun n σ S'=>σ=[some (.ref d),some (.int m),none,none,none]/\∃number left,Fh S' d l seed number left/\left.length=n/\Fw d l S S',⟨_,rfl,number,left,D,rfl,.refl⟩,?_⟩
  rintro n σ S1 ⟨rfl,num,Gz,D1,hn,O1⟩
  walk_at "x"
  simp only[D1.d,D1.l,tm,yE,yD,tj,jZ,aa,Bool.false_bne,decide_eq_true_eq]
  have hlen:(List.map PV.int Gz).length=Gz.length:=List.length_map ..
  rw[hlen]
  split
  . rename_i hz
    subst hz
    split
    . rename_i hl
      refine⟨fun σ S'=>σ=[some (.ref d),some (.int m),none,none,none]/\∃number left,Fh S' d l seed number left/\left.length < n/\Fw d l S S',?_,?_⟩
      . rintro σ' S' ⟨rfl,a,b,h2,h3,h4⟩
        exact⟨_,h3,rfl,a,b,h2,rfl,h4⟩
      . have hl':0 < Gz.length:=by omega
        obtain⟨pre,x,rfl⟩:∃pre x,Gz=pre++[x]:=by
          refine⟨Gz.dropLast,Gz.getLast (by intro e;rw[e]at hl';simp at hl'),(List.dropLast_concat_getLast _).symm⟩
        refine⟨trivial,?_⟩
        rw[show(List.map PV.int (pre++[x]))[(pre++[x]).length - 1]?=some (.int x) by simp,show(List.map PV.int (pre++[x])).dropLast=pre.map PV.int by simp]
        simp only[aq hne,D1.d,jZ]
        refine⟨hsz _ _,trivial,x,pre,⟨aa,by rw[aq hne.symm,aa],D1.s0,D1.s1,D1.lf x (by simp),fun y hy=>D1.lf y (by simp[hy]),by have:=D1.ln;simp at this;omega⟩,?_,O1.trans (Fw.K0.trans .upd)⟩
        rw[<-hn];simp
    . rename_i hl
      exact fin 0 Gz S1 D1 O1 (fun z=>hl (by omega))
  . rename_i hz
    rw[if_neg (by decide)]
    exact fin num Gz S1 D1 O1 (fun z=>hz z.1)
end C
namespace L3
open PySem L2
def Ext(S S':av):Prop:=∀a o,S a=some o->S' a=some o
def Ext.refl{S:av}:Ext S S:=fun _ _ h=>h
def Ext.trans{S S1 S2:av}(a:Ext S S1)(b:Ext S1 S2):Ext S S2:=fun x o h=>b x o (a x o h)
def Ext.new{S:av}{p:Addr}{o:SO}(h:S p=none):Ext S (Dd S p o):=fun x u hx=>by rw[aq (fun e=>by rw[e,h]at hx;cases hx)];exact hx
def Ext.free{S S':av}(e:Ext S S'){p:Addr}(h:S' p=none):S p=none:=by
 cases q:S p with
 |none=>rfl
 |some o=>rw[e p o q]at h;cases h
theorem fe{g:Tg}{tc:jh}{te:aP}{σ':dq}{keep:av->Prop}{fin:List PV->av->Prop}{S:av}(f:PV->PV)(c:PV->Bool)(hk:keep S):∀(items ys:List PV),
  (∀x∈items,∃σ2,g.put x σ'=some σ2/\(∀Q:Bool->av->Prop,Q (c x) S->tc σ2 S Q ga)/\(c x=true->∀Q:bP,Q (f x) S->te σ2 S Q ga))->ys.length+items.length<=sizeLine->fin (ys++(items.filter c).map f) S->eN g tc te σ' keep fin items ys S
 |[],ys,_,hl,hf=>⟨hk,by simpa using hl,by simpa using hf⟩
 |x::r,ys,h,hl,hf=>by
  obtain⟨σ2,e,h1,h2⟩:=h x (by simp)
  refine⟨hk,by simp at hl;omega,?_⟩
  rw[e]
  refine h1 _ ?_
  cases hc:c x with
  |true=>
   rw[if_pos rfl]
   refine h2 hc _ (fe f c hk r (ys++[f x]) (fun y hy=>h y (by simp[hy])) (by simp at hl ⊢;omega) ?_)
   rw[List.filter_cons,hc,if_pos rfl]at hf
   simpa using hf
  |false=>
   rw[if_neg (by decide)]
   refine fe f c hk r ys (fun y hy=>h y (by simp[hy])) (by simp at hl ⊢;omega) ?_
   rw[List.filter_cons,hc,if_neg (by decide)]at hf
   exact hf
def qR{g:Tg}{te:aP}{σ':dq}{keep:av->Prop}{fin:List PV->av->Prop}{S:av}(f:PV->PV){items:List PV}(hk:keep S)
  (h:∀x∈items,∃σ2,g.put x σ'=some σ2/\∀Q:bP,Q (f x) S->te σ2 S Q ga) (hl:items.length<=sizeLine) (hf:fin (items.map f) S):eN g bz te σ' keep fin items [] S:=by
 refine fe f (fun _=>true) hk items [] (fun x hx=>?_) (by simpa using hl) (by rw[List.filter_eq_self.mpr (fun _ _=>rfl)];exact hf)
 obtain⟨σ2,e,k⟩:=h x hx
 exact⟨σ2,e,fun Q q=>q,fun _=>k⟩
theorem kT{g:Tg}{tc:jh}{te:aP}{σ':dq}{keep:av->Prop}{fin:List PV->av->Prop}{items:List PV}(Iv:List PV->List PV->av->Prop)(hk:∀done ys S,Iv done ys S->keep S/\ys.length<=sizeLine)
  (step:∀done x rest ys S (K:List PV->av->Prop),items=done++x::rest->Iv done ys S->(∀ys' S',Iv (done++[x]) ys' S'->K ys' S')->match g.put x σ' with
   |some σ2=>tc σ2 S (fun b S3=>if b=true then te σ2 S3 (fun y S4=>K (ys++[y]) S4) ga else K ys S3) ga
   |none=>False)
  (hf:∀ys S,Iv items ys S->fin ys S):∀(rest done ys:List PV) (S:av),items=done++rest->Iv done ys S->eN g tc te σ' keep fin rest ys S
 |[],done,ys,S,e,h=>by
  rw[List.append_nil]at e
  exact⟨(hk _ _ _ h).1,(hk _ _ _ h).2,hf ys S (e▸h)⟩
 |x::rest,done,ys,S,e,h=>by
  refine⟨(hk _ _ _ h).1,(hk _ _ _ h).2,?_⟩
  exact step done x rest ys S (fun ys' S'=>eN g tc te σ' keep fin rest ys' S') e h fun ys' S' h'=>kT Iv hk step hf rest (done++[x]) ys' S' (by rw[e];simp) h'
theorem mT{g:Tg}{tb:bM}{D:mH}{keep:av->Prop}{items:List PV}(Iv:List PV->dq->av->Prop)(hk:∀done σ S,Iv done σ S->keep S)
  (step:∀done x rest σ S (K:dq->av->Prop),items=done++x::rest->Iv done σ S->(∀σ' S',Iv (done++[x]) σ' S'->K σ' S')->match g.put x σ with
   |some σ'=>tb { D with nx:=K,ct:=K,bk:=D.nx } σ' S
   |none=>False)
  (hd:∀σ S,Iv items σ S->D.nx σ S):∀(rest done:List PV) (σ:dq) (S:av),items=done++rest->Iv done σ S->lJ g tb D keep rest σ S
 |[],done,σ,S,e,h=>by
  rw[List.append_nil]at e
  exact⟨hk _ _ _ h,hd σ S (e▸h)⟩
 |x::rest,done,σ,S,e,h=>
  ⟨hk _ _ _ h,step done x rest σ S (lJ g tb D keep rest) e h fun σ' S' h'=>mT Iv hk step hd rest (done++[x]) σ' S' (by rw[e];simp) h'⟩
def bp{g:Tg}{tb:bM}{D:mH}{keep:av->Prop}{items:List PV}{σ:dq}{S:av}(Iv:List PV->dq->av->Prop)(h0:Iv [] σ S)(hk:∀done σ S,Iv done σ S->keep S)
  (step:∀done x rest σ S (K:dq->av->Prop),items=done++x::rest->Iv done σ S->(∀σ' S',Iv (done++[x]) σ' S'->K σ' S')->match g.put x σ with
   |some σ'=>tb { D with nx:=K,ct:=K,bk:=D.nx } σ' S
   |none=>False)
  (hd:∀σ S,Iv items σ S->D.nx σ S):lJ g tb D keep items σ S:=mT Iv hk step hd items [] σ S rfl h0
def bK{g:Tg}{tc:jh}{te:aP}{σ':dq}{keep:av->Prop}{fin:List PV->av->Prop}{items:List PV}{S:av}(Iv:List PV->List PV->av->Prop)(h0:Iv [] [] S)(hk:∀done ys S,Iv done ys S->keep S/\ys.length<=sizeLine)
  (step:∀done x rest ys S (K:List PV->av->Prop),items=done++x::rest->Iv done ys S->(∀ys' S',Iv (done++[x]) ys' S'->K ys' S')->match g.put x σ' with
   |some σ2=>tc σ2 S (fun b S3=>if b=true then te σ2 S3 (fun y S4=>K (ys++[y]) S4) ga else K ys S3) ga
   |none=>False)
  (hf:∀ys S,Iv items ys S->fin ys S):eN g tc te σ' keep fin items [] S:=kT Iv hk step hf items [] [] S rfl h0
def ax{t u:bM}{D:mH}{σ:dq}{S:av}(h:∀N:dq->av->Prop,(∀σ S,u D σ S->N σ S)->t { D with nx:=N } σ S):ak t u D σ S:=h (u D) fun _ _ q=>q
def eW{n:Nat}{b:bM}{args:List PV}{S:av}{Q:bP}{E:cC}(h:b { nx:=fun _ S'=>Q .non S',rt:=Q,ex:=ga } (ar n args) S):bc n b args S Q E:=h
def tq{α β:Type}(f:α->β)(xs:List α)(lo hi:Option Int):eB (xs.map f) lo hi=(eB xs lo hi).map f:=by
 unfold eB
 rw[List.length_map,List.map_take,List.map_drop]
def tt{α:Type}(xs:List α)(lo hi:Option Int):(eB xs lo hi).length<=xs.length:=by
 unfold eB
 rw[List.length_take,List.length_drop]
 omega
def pE{n:Nat}(h:n<=1000):n<=sizeLine:=Nat.le_of_lt (fY h)
section
variable {α:Type} {a b c d e:α} {l:List α}
def gL:Eh (a::l) 0=some a:=by simp[Eh,o6]
def mU:Eh (a::b::l) 1=some b:=bD (j:=1) rfl
def wI:Eh (a::b::c::l) 2=some c:=bD (j:=2) rfl
def yF:Eh [a] (-1)=some a:=rfl
def yG:Eh [a,b] (-1)=some b:=rfl
def yH:Eh [a,b,c] (-1)=some c:=rfl
def yI:Eh [a,b,c,d] (-1)=some d:=rfl
def yJ:Eh [a,b,c,d,e] (-1)=some e:=rfl
def yK:Eh [a,b] (-2)=some a:=rfl
def yL:Eh [a,b,c] (-2)=some b:=rfl
def yM:Eh [a,b,c,d] (-2)=some c:=rfl
def yN:Eh [a,b,c,d,e] (-2)=some d:=rfl
end
def bZ(lo:Int)(n:Nat):(bY lo n).length=n:=by simp[bY]
end L3
namespace C
open PySem L2 L3
abbrev mV(w:aC):Prop:=∀{S:av} {ns:Vu} {b:Int} {Q:bP} {E:cC},ns.length<=63->0<=b->b < 1000->(∀d l S',S d=none->S l=none->DQ S' d l->Ext S S'->Q (.ref d) S')->w [.cl (ns.map PV.int),.int b] S Q E
def FR:mV (bc 5 fN):=by
 intro S ns b Q E hn h0 h1 k
 unfold bc fN
 rw[show ar 5 [PV.cl (ns.map PV.int),PV.int b]=[some (.cl (ns.map PV.int)),some (.int b),none,none,none] from rfl]
 walk_at "x"
 intro p hp
 rw[aa]
 dsimp only
 rw[tq]
 have hx:(eB ns (some b) (some 63)).length<=63:=Nat.le_trans (tt _ _ _) hn
 generalize eB ns (some b) (some 63)=xs at hx
 refine qR (fun v=>match v with | .int i=>.int (if 0 - i > i then 0 - i else i)|v=>v) aa (fun x hx=>?_) (pE (by rw[List.length_map];omega)) ?_
 ·obtain⟨i,hi,rfl⟩:=List.mem_map.mp hx
  refine⟨[some (.int i)],rfl,fun Q q=>?_⟩
  walk_at "x"
  exact q
 intro p2 hp2
 rw[aa]
 dsimp only
 rw[List.map_map]
 have e0:(xs.map ((fun v=>match v with | .int i=>.int (if 0 - i > i then 0 - i else i)|v=>v) ∘ PV.int))=(xs.map fun i=>if 0 - i > i then 0 - i else i).map PV.int:=by
  rw[List.map_map];rfl
 rw[e0]
 have hy:((xs.map fun i=>if 0 - i > i then 0 - i else i)).length<=63:=by rw[List.length_map];exact hx
 have HP:∀y∈xs.map (fun i:Int=>if 0 - i > i then 0 - i else i),0<=y:=by
  intro y hy
  obtain⟨i,_,rfl⟩:=List.mem_map.mp hy
  split<;>omega
 generalize (xs.map fun i=>if 0 - i > i then 0 - i else i)=ys at hy HP
 have h2:p2≠p:=fun e=>by rw[e,aa]at hp2;cases hp2
 have hp2':S p2=none:=by rw[<-hp2,aq h2]
 refine bp (fun done σ S'=>S'=Dd (Dd S p (.lst (xs.map PV.int))) p2 (.lst (ys.map PV.int))/\∃v2 n,0<=n/\n < 2147483647/\σ=[some (.cl (ns.map PV.int)),some (.int b),v2,some (.ref p2),some (.int n)]) ⟨rfl,none,7919+b,by omega,by omega,rfl⟩ (fun done σ S' h=>by rw[h.1];exact aa) ?_ ?_
 ·rintro done x rest σ S' K e ⟨rfl,v2,n,n0,n1,rfl⟩ hK
  obtain⟨i,hi,rfl⟩:∃i,i∈ys/\x = .int i:=by
   have:x∈ys.map PV.int:=by rw[e];simp
   obtain⟨i,hi,rfl⟩:=List.mem_map.mp this
   exact⟨i,hi,rfl⟩
  walk_at "x"
  refine⟨ol (by decide) (by decide),by decide,by decide,hK _ _ ⟨rfl,_,_,?_,?_,rfl⟩⟩
  ·rw[jm (by decide)];omega
  ·rw[jm (i:=(n * 48271+_)) (by decide)];omega
 ·rintro σ S' ⟨rfl,v2,n,n0,n1,rfl⟩
  walk_at "x"
  intro d hd
  have hd2:d≠p2:=fun e=>by rw[e,aa]at hd;cases hd
  rw[aq hd2]at hd
  have hd1:d≠p:=fun e=>by rw[e,aa]at hd;cases hd
  rw[aq hd1]at hd
  rw[aq hd2.symm,aa]
  dsimp only
  refine fe (fun v=>v) (fun v=>match v with | .int i=>decide (10 ^ 18<=i)|_=>false) (by rw[aq hd2.symm,aa]) _ [] (fun x hx=>?_) (by rw[List.length_map];exact pE (by simp;omega)) ?_
  ·obtain⟨i,hi,rfl⟩:=List.mem_map.mp hx
   refine⟨[some (.int i)],rfl,fun Q q=>?_,fun _ Q q=>?_⟩
   ·walk_at "x"
    exact⟨⟨by decide,by decide,by decide⟩,q⟩
   ·walk_at "x"
    exact q
  intro p3 hp3
  rw[aa]
  intro l hl
  have e3:([]++List.map (fun v:PV=>v) (List.filter (fun v=>match v with | .int i=>decide (10 ^ 18<=i)|_=>false) (List.map PV.int ys)))=(ys.filter fun i=>decide (10 ^ 18<=i)).map PV.int:=by
   rw[List.nil_append,List.map_id',List.filter_map]
   rfl
  rw[e3]at hl ⊢
  rw[<-List.map_reverse]
  generalize Kd:Dd (Dd (Dd (Dd S p (SO.lst (List.map PV.int xs))) p2 (SO.lst (List.map PV.int ys))) d (SO.dct [])) p3 (SO.lst (List.map PV.int (List.filter (fun i=>decide (10 ^ 18<=i)) ys)))=S3 at hl ⊢
  have Ke:S3 d=some (.dct []):=by rw[<-Kd,aq (fun e=>by rw[<-e,aa]at hp3;cases hp3),aa]
  have Kf:l≠d:=fun e=>by rw[e,Ke]at hl;cases hl
  have JC:Ext S S3:=by
   rw[<-Kd]
   refine(Ext.new hp).trans ((Ext.new hp2).trans ((Ext.new ?_).trans (.new hp3)))
   rw[aq hd2,aq hd1];exact hd
  refine⟨by rw[aq Kf.symm];exact Ke,?_⟩
  have e4:mP [(PV.str "seed",PV.int n),(PV.str "number",PV.int 0),(PV.str "left",PV.ref l)]=some (cg n 0 l):=rfl
  rw[e4]
  have e5:lK [] (cg n 0 l)=cg n 0 l:=by simp[lK,cg,lI,da]
  dsimp only
  rw[e5]
  refine k d l _ hd (JC.free hl) ⟨n,0,_,aa,by rw[aq Kf,aa],n0,n1,Int.le_refl _,fun y hy=>?_,?_⟩ ?_
  ·exact HP y (List.mem_filter.mp (List.mem_reverse.mp hy)).1
  ·rw[List.length_reverse]
   exact Nat.le_trans (List.length_filter_le _ _) (by omega)
  ·intro a o ha
   have had:a≠d:=fun e=>by rw[e,hd]at ha;cases ha
   rw[aq had,aq (fun e=>by rw[e,JC.free hl]at ha;cases ha)]
   exact JC a o ha
end C
namespace L3
open PySem L2
end L3
namespace C
open PySem L2 L3 Wd
abbrev jx(w:aC):Prop:=∀{S:av} {t b:Int} {Q:bP} {E:cC},0 < b->b.natAbs < 2 ^ 8000->Q (.tup [.int (M3.aH t b),.int (M3.aG t b)]) S->w [.int t,.int b] S Q E
def Fi:jx (bc 4 gJ):=by
 intro S t b Q E hb hs k
 unfold bc gJ
 rw[show ar 4 [PV.int t,PV.int b]=[some (.int t),some (.int b),none,none] from rfl]
 simp only[ak]
 walk_at "x"
 refine⟨fun n σ S'=>S'=S/\∃x y:Int,σ=[some (.int t),some (.int b),some (.int x),some (.int y)]/\0<=x/\0<=y/\Int.gcd x y=Int.gcd t b/\y.toNat=n,⟨_,rfl,_,b,rfl,by split<;>omega,by omega,?_,rfl⟩,?_⟩
 ·split
  ·rw[show(0 - t) = -t by omega,Int.neg_gcd]
  ·rfl
 rintro n σ S' ⟨rfl,x,y,rfl,hx,hy,hg,rfl⟩
 walk_at "x"
 simp only[decide_eq_true_eq]
 split
 ·rename_i hp
  refine⟨fun σ' G6=>G6=S'/\∃x' y':Int,σ'=[some (.int t),some (.int b),some (.int x'),some (.int y')]/\0<=x'/\0<=y'/\Int.gcd x' y'=Int.gcd t b/\y'.toNat < y.toNat,?_,?_⟩
  ·rintro σ' G6 ⟨rfl,x',y',rfl,h1,h2,h3,h4⟩
   exact⟨_,h4,rfl,x',y',rfl,h1,h2,h3,rfl⟩
  ·walk_at "x"
   have e:x.fmod y=x % y:=jm hy
   have l1:=Int.emod_nonneg x (b:=y) (by omega)
   have l2:=Int.emod_lt_of_pos x hp
   refine⟨by omega,trivial,y,x.fmod y,rfl,hy,by omega,?_,by omega⟩
   rw[M3.mG];exact hg
 ·rename_i hp
  have HP:y=0:=by omega
  subst HP
  have JD:x=(Int.gcd t b:Int):=by
   rw[<-hg]
   rw[Int.gcd_zero_right]
   omega
  subst JD
  have gp:(0:Int) < (Int.gcd t b:Int):=Int.natCast_pos.mpr (M3.e8 (by omega))
  have gl:=M3.nX (t:=t) (b:=b) (by omega)
  have cd:∀z,jR z (Int.gcd t b:Int):=fun z=>⟨by omega,Nat.lt_of_le_of_lt (by omega) hs⟩
  refine⟨cd _,cd _,?_⟩
  have d1:=(M3.mF (t:=t) (b:=b) (by omega))
  rw[if_neg (by omega)]at d1
  rw[d1.1,d1.2]
  exact k
def kU{n:Nat}(h:n < 2 ^ 64):n < 2 ^ 8000:=Nat.lt_trans h (Nat.pow_lt_pow_right (by decide) (by decide))
def jy{α:Type}{xs:List α}{r:Int}(h0:0<=r)(h1:r < xs.length):∃v,Eh xs r=some v/\v∈xs:=by
 obtain⟨n,rfl⟩:=Int.eq_ofNat_of_zero_le h0
 have hn:n < xs.length:=by omega
 exact⟨xs[n],bD (by simp[hn]),List.getElem_mem hn⟩
end C
local macro_rules | `(tactic| walk_at "w")=>`(tactic| simp only [L3.ak,L3.am,L3.ap,L3.du,L3.cj,L3.br,L3.ai,L3.v3,L3.c3,L3.lk,L3.ag,L3.ah,L3.ad,L3.mM,L3.a8,L3.fK,L3.jP,L3.cU,L3.dF,L3.kM,L3.mJ,L3.iM,L3.mO,L3.a7,L3.cD,L3.jj,L3.df,L3.aj,L3.og,L3.bX,L3.pA,L3.lG,L3.iJ,L3.bx,L3.fv,L3.cH,L3.ik,L3.d3,L3.s9,L3.kr,L3.jk,L3.s_,L3.dG,L3.ki,L3.bo,L3.aQ,L3.aS,L3.qJ,L3.jT,L3.gj,L3.aT,L3.ic,List.set_cons_zero,List.set_cons_succ,List.set_nil,L3.uD,L3.e_,L3.mN,L3.aw,L3.aO,L3.cf,L3.bU,L3.bV,L3.Tg.put,L3.Tg.DV,L3.qL,L3.mQ,L3.iO,L3.mR,L3.ck,L3.gk,L3.kq,L3.cG,L3.e9,List.reduceReplicate,List.map_cons,List.map_nil,List.cons_append,List.nil_append,L3.gL,L3.mU,L3.wI,L3.yF,L3.yG,L3.yH,L3.yI,L3.yJ,L3.yK,L3.yL,L3.yM,L3.yN,L3.da,String.reduceEq,decide_true,decide_false,Bool.false_bne,Bool.true_bne,Bool.not_true,Bool.not_false,if_true,if_false,Bool.false_eq_true,reduceIte,ite_true,ite_false])
local macro_rules | `(tactic| walk_at "y")=>`(tactic| ((try walk_at "x"); (try walk_at "w")))
namespace C
open PySem L2 L3 Wd
end C
namespace C
open PySem L2 L3
end C
namespace C
open PySem L2 L3 Wd
def _root_.L3.Ext.put{p:Addr}{S S':av}{o:SO}(O:Ext S S')(h:S p=none):Ext S (Dd S' p o):=fun x u hx=>by rw[aq (fun e=>by rw[e,h]at hx;cases hx)];exact O x u hx
def tu{α:Type}{xs:List α}{n:Nat}(h:n<=xs.length):eB xs none (some (n:Int))=xs.take n:=by
 unfold eB
 rw[HT.jG,HT.lj,List.drop_zero,Nat.min_eq_left h]
 rfl
def tw{α:Type}{xs:List α}{n:Nat}(h:n<=xs.length):eB xs (some (n:Int)) none=xs.drop n:=by
 unfold eB
 rw[HT.jG,HT.lj,Nat.min_eq_left h,List.take_of_length_le]
 rw[List.length_drop]
 exact Nat.le_refl _
def cp{x:PV}{n:Nat}{a b:List PV}(e:bY 0 n=a++x::b):x = .int a.length/\a.length < n:=by
 have h1:(bY 0 n)[a.length]?=some x:=by rw[e];simp
 unfold bY at h1
 rw[List.getElem?_map]at h1
 have hl:a.length < n:=by
  have:=congrArg List.length e
  rw[bZ,List.length_append,List.length_cons]at this
  omega
 rw[List.getElem?_range hl]at h1
 simp at h1
 exact⟨h1.symm,hl⟩
def mW{xs:List PV}{x:PV}{a b:List PV}(e:L3.bf xs=a++x::b):∃y,x = .tup [.int a.length,y]/\xs[a.length]?=some y:=by
 have h1:(L3.bf xs)[a.length]?=some x:=by rw[e];simp
 unfold L3.bf at h1
 rw[List.getElem?_mapIdx]at h1
 cases h:xs[a.length]? with
 |none=>rw[h]at h1;cases h1
 |some y=>
  rw[h]at h1
  simp only[Option.map_some,Option.some.injEq]at h1
  exact⟨y,h1.symm,rfl⟩
end C
namespace C
open PySem L2 L3
end C
namespace C
open PySem L2 L3 Wd
section
variable {S:av} {Q:bP} {i:Int} {xs:List PV} {b:Bool}
def yO:iK [.int i,.ty "int"] S Q=Q (.bl true) S:=by simp[iK,vE,mK,cN]
def yP:iK [.int i,.ty "bool"] S Q=Q (.bl false) S:=by simp[iK,vE,mK,cN]
def lO:iK [.tup xs,.ty "tuple"] S Q=Q (.bl true) S:=by simp[iK,vE,mK,cN]
end
end C
namespace C
open PySem L2 L3
end C
namespace C
open PySem L2 L3 Wd
end C
namespace Zu
open PySem Zt
open Sem (wp)
section
variable {kd:Bool} {prog:Program} {w:World} {A:Around} {E:Vq} {s:Shared}
variable {n l1 l2 l3:Nat} {i:Nat} {xs ys zs:Vw} {x y z a b c:Value}
end
section
variable {kd:Bool} {prog:Program} {w:World} {A:Around} {E:Vq} {s:Shared}
end
end Zu
namespace L2
open PySem PySem.Spec PyProof.Rows
section
variable {X:Cx}
end
end L2
namespace L3
open PySem L2
section
variable {X:Cx} {a b c:Expr} {ta tb tc:aP} {p pos:Pos}
end
end L3
namespace L2
open PySem PySem.Spec PyProof.Rows
section
variable {X:Cx}
end
end L2
namespace L3
open PySem L2
section
variable {X:Cx}
end
end L3
namespace C
open PySem L2 L3
end C
namespace C
open PySem L2 L3 Wd
theorem aY{α:Type}{g:Tg}{te:aP}{σ':dq}{keep:av->Prop}{fin:List PV->av->Prop}{S:av}(enc f:α->PV)(hk:keep S):∀(xs:List α) (ys:List PV),
  (∀x∈xs,∃σ2,g.put (enc x) σ'=some σ2/\∀Q:bP,Q (f x) S->te σ2 S Q ga)->ys.length+xs.length<=sizeLine->fin (ys++xs.map f) S->eN g bz te σ' keep fin (xs.map enc) ys S
 |[],ys,_,hl,hf=>⟨hk,by simpa using hl,by simpa using hf⟩
 |x::r,ys,h,hl,hf=>by
  obtain⟨σ2,e,h1⟩:=h x (by simp)
  refine⟨hk,by simp at hl;omega,?_⟩
  rw[e]
  show te σ2 S (fun y S4=>eN g bz te σ' keep fin (r.map enc) (ys++[y]) S4) ga
  exact h1 _ (aY enc f hk r (ys++[f x]) (fun y hy=>h y (by simp[hy])) (by simp at hl ⊢;omega) (by simpa using hf))
def aV{n:Nat}(h:n<=1000):n<=sizeLine:=Nat.le_trans h (by decide)
end C
namespace C
open PySem L2 L3
end C
namespace Zv
open PySem
open Sem (wp)
section
variable {prog:Program} {w:World} {A:Around} {E:Vq} {s:Shared} {n l1 l2:Nat} {i:Nat} {xs ys:Vw} {x y:Value} {T:Nat} {oT:Obj} {f1:Value}
end
section
variable {prog:Program} {w:World} {A:Around} {R:Result->Shared->Prop} {n l1 l2:Nat} {xs ys:Vw}
end
section
variable {prog:Program} {w:World} {A:Around} {E:Vq} {s:Shared} {n l1 l2:Nat} {xs ys:Vw}
end
end Zv
namespace L2
open PySem PySem.Spec PyProof.Rows
section
variable {P:Program} {w:World} {K:Vo} {mg:Vr} {base:Heap}
end
section
variable {X:Cx}
end
end L2
namespace L3
open PySem L2
section
variable {P:Program} {w:World} {K:Vo} {mg:Vr} {base:Heap}
end
section
variable {X:Cx} {e o:Expr} {es:List Expr} {te to:aP} {ts:List aP} {x:Str} {p pos apos cpos:Pos} {k:Nat} {f:Addr} {fd:FuncData} {ps:Vs} {sp:aC}
end
section
variable {X:Cx} {a b:Expr} {ta tb:aP}
end
end L3
namespace L2
open PySem PySem.Spec PyProof.Rows
section
variable {X:Cx}
variable {o e:Expr} {es:List Expr} {to:TE} {t:TA} {name:Str} {apos cpos:Pos} {id:String} {r:V->List V->Hp->VK->Prop}
end
end L2
namespace L3
open PySem L2
section
variable {X:Cx}
variable {o e:Expr} {es:List Expr} {to:aP} {ts:List aP} {name:Str} {apos cpos:Pos} {id:String}
end
section
variable {X:Cx} {a b:Expr} {ta tb:aP} {p pos:Pos}
def gr(ta tb:aP):rC:=fun σ S R E=>ta σ S (fun v S1=>tb σ S1 (fun w S2=>match v,w with
 | .tup xs,.tup ys=>R ⟨aL xs ys,fun _=>True⟩ S2
 | .ref a,.ref b=>(match S2 a,S2 b with|some (.lst xs),some (.lst ys)=>R ⟨aL xs ys,fun S'=>S' a=some (.lst xs)/\S' b=some (.lst ys)⟩ S2|_,_=>False)
 | .ref a,.tup ys=>(match S2 a with|some (.lst xs)=>R ⟨aL xs ys,fun S'=>S' a=some (.lst xs)⟩ S2|_=>False)
 | .tup xs,.ref b=>(match S2 b with|some (.lst ys)=>R ⟨aL xs ys,fun S'=>S' b=some (.lst ys)⟩ S2|_=>False)
 |_,_=>False) E) E
def lP{elts:List Expr}{k0:Nat}{EV:Pos}(hs:starEach [a,b] X.env=[(false,eval a X.env),(false,eval b X.env)])(hs2:starEach [b] X.env=[(false,eval b X.env)])(hg:Gl X "zip")(hm:X.mg "zip" = none)(hv:bootBuiltins "zip" = some (.type "zip"))(ha:jO X [a,b] [ta,tb]) :
  uF X (.Tuple elts k0 EV) (.Call (.Name "zip" p) [a,b] [] pos) (gr ta tb):=
 ⟨jV (sE hg hm hv ha.ok hs hs2) fun σ H R ⟨σ3,S,R3,E3,rσ,rS,h,xo,k⟩=>⟨σ3,S,_,E3,rσ,rS,h,xo,fun v S1 v' H1 h1 rv Dq g1=>⟨σ3,S1,_,E3,rσ.mono g1,Dq,h1,xo.mono g1,fun w S2 w' H2 h2 rw' EU g2=>by
  have L:∀{a:Addr} {xs:List PV},S2 a=some (.lst xs)->∃vs,qE true X.K H2 a vs:=fun e=>let ⟨_,h,_⟩:=EU _ _ e;⟨_,SqL.of h⟩
  dsimp only at h2
  split at h2
  ·cases rv with
   |tup hq rs=>
    cases rw' with
    |tup hq2 HA=>exact⟨false,false,_,_,rfl,⟨_,g2.t _ _ hq⟩,⟨_,hq2⟩,k _ S2 _ H2 h2 (ii (.tup (g2.t _ _ hq) (rs.mono g2)) (.tup hq2 HA)) EU (g1.trans g2)⟩
  ·cases rv
   cases rw'
   split at h2
   ·rename_i ea eb
    exact⟨true,true,_,_,rfl,L ea,L eb,k _ S2 _ H2 h2 (ii (.lst fun _ q=>q.1) (.lst fun _ q=>q.2)) EU (g1.trans g2)⟩
   ·exact h2.elim
  ·cases rv
   cases rw' with
   |tup hq2 HA=>
    split at h2
    ·rename_i ea
     exact⟨true,false,_,_,rfl,L ea,⟨_,hq2⟩,k _ S2 _ H2 h2 (ii (.lst fun _ q=>q) (.tup hq2 HA)) EU (g1.trans g2)⟩
    ·exact h2.elim
  ·cases rv with
   |tup hq rs=>
    cases rw'
    split at h2
    ·rename_i eb
     exact⟨false,true,_,_,rfl,⟨_,g2.t _ _ hq⟩,L eb,k _ S2 _ H2 h2 (ii (.tup (g2.t _ _ hq) (rs.mono g2)) (.lst fun _ q=>q)) EU (g1.trans g2)⟩
    ·exact h2.elim
  ·exact h2.elim⟩⟩⟩
end
end L3
namespace C
open PySem L2 L3
end C
namespace L3
open PySem L2 Xc
section
variable {X:Cx} {e o:Expr} {es:List Expr} {te to:aP} {ts:List aP} {x:Str} {p pos apos cpos:Pos} {k:Nat} {f:Addr} {fd:FuncData} {ps:Vs} {sp:aC}
end
section
variable {P:Program} {w:World} {K:Vo} {mg:Vr} {base:Heap}
end
section
variable {X:Cx} {e:Expr} {es:List Expr} {ts:List aP} {x qual:Str} {st:Stmt} {p pos cpos:Pos} {f C:Addr} {fd:FuncData} {ps ks:Vs}
end
def ClsN.inj{K:Vo}{c:Str}{C D:Addr}(h1:ClsN K c C)(h2:ClsN K c D):C=D:=by
 have e:=(show PySem.W.nsIn K mainGlobals c=some (some (.ref C))from h1).symm.trans h2
 injection e with e;injection e with e;injection e
section
variable {X:Cx} {body suite:List Stmt} {b₀:Stmt} {n x:Str} {i:Nat} {np hpos pos:Pos} {tb th:bM} {Dc:Addr} {cs:Vs}
end
section
variable {X:Cx} {e:Expr} {te:aP} {f:Str} {pos:Pos} {l:List (Str×Str)}
end
noncomputable def vM(s:Stmt):List Stmt:=match s with
 | .ClassDef _ _ _ body _ _ _ _ _ _ _=>body
 |_=>[]
section
variable {P:Program} {w:World} {K:Vo} {mg:Vr} {base:Heap} {N:Vs} {qual:Str} {st:Stmt} {f:Addr} {cdv:Value} {A:Around} {outer:List Env} {s:Shared} {H:Hp} {E:XK}
end
end L3
namespace L3
open PySem L2
end L3
namespace L2
open PySem PySem.Spec PyProof.Rows Xc
section
variable {X:Cx} {k:Nat} {f C:Addr} {fd:FuncData} {ps:Vs} {sp:Sp} {m:Str} {pos apos:Pos} {e o:Expr} {es:List Expr} {ta:TE} {t:TA}
end
end L2
namespace L3
open PySem L2 Xc
section
variable {P:Program} {w:World} {K:Vo} {mg:Vr} {base:Heap}
structure bL (K:Vo) (mg:Vr) (x:Str) (st:Stmt) (ps:Vs):Prop where
 ex:∃f fd,Bj K mg x st ps f fd
structure mX (K:Vo) (c m q:Str) (st:Stmt) (ps:Vs):Prop where
 ex:∃C f fd,ClsN K c C/\Cls K C/\rV K C m f/\G3 K m q st f fd/\Binds K fd ps []
structure zp (K:Vo) (mg:Vr) (c:Str) (fl:Vs):Prop where
 ex:∃C,ClsN K c C/\mg c=some (.ref C)/\Cls K C/\PySem.W.makesIn K C=true/\PySem.W.keepIn K (.ref C)=true/\∀f∈fl,NoAttr K C f
structure fw (P:Program) (w:World) (K:Vo) (mg:Vr) (base:Heap) (k:Nat) (x:Str) (n:Nat) (sp:aC):Prop where
 ex:∃f fd ps,ps.length=n/\zo P w K mg base k f fd ps sp/\mg x=some (.ref f)/\PySem.W.keepIn K (.ref f)=true/\Binds K fd ps []
structure uG (P:Program) (w:World) (K:Vo) (mg:Vr) (base:Heap) (k:Nat) (c m:Str) (n:Nat) (sp:aC):Prop where
 ex:∃C f fd ps,ps.length=n/\zo P w K mg base k f fd ps sp/\ClsN K c C/\Cls K C/\rV K C m f/\Binds K fd ps []
def fE{x:Str}{st:Stmt}{ps:Vs}{k n:Nat}{t:bM}{sp:aC}(N:Vs)(O:bL K mg x st ps)
  (hbody:∀(f:Addr) (cdv:Value) (A:Around) (outer:List Env) (s:Shared) (H:Hp) (E:XK),Room k (A.deeper (PyProof.Rows.envOfC x (aK st) s.heap.objs.size f cdv))->N.Nodup->jr (Bh P w K mg base N x st f cdv A outer s H E) (bO st) t) (e:sp=bc N.length t)
  (hn:ps.length=n:=by rfl) (S:eZ N ps (aK st):=by exact⟨rfl,rfl,rfl,by decide +kernel,rfl,by decide +kernel,by decide +kernel⟩):fw P w K mg base (k+1) x n sp:=by
 subst e
 obtain⟨f,fd,o⟩:=O.ex
 exact⟨f,fd,ps,hn,B9 o.F S fun cdv A outer s H E hr=>hbody f cdv A outer s H E hr S.nd,o.m,o.k,o.b⟩
def zq{c m q:Str}{st:Stmt}{ps:Vs}{k n:Nat}{t:bM}{sp:aC}(N:Vs)(O:mX K c m q st ps)
  (hbody:∀(f:Addr) (cdv:Value) (A:Around) (outer:List Env) (s:Shared) (H:Hp) (E:XK),Room k (A.deeper (PyProof.Rows.envOfC q (aK st) s.heap.objs.size f cdv))->N.Nodup->jr (Bh P w K mg base N q st f cdv A outer s H E) (bO st) t) (e:sp=bc N.length t)
  (hn:ps.length=n:=by rfl) (S:eZ N ps (aK st):=by exact⟨rfl,rfl,rfl,by decide +kernel,rfl,by decide +kernel,by decide +kernel⟩):uG P w K mg base (k+1) c m n sp:=by
 subst e
 obtain⟨C,f,fd,o1,o2,o3,o4,o5⟩:=O.ex
 exact⟨C,f,fd,ps,hn,B9 o4 S fun cdv A outer s H E hr=>hbody f cdv A outer s H E hr S.nd,o1,o2,o3,o5⟩
def CV{x:Str}{st:Stmt}{ps:Vs}{k:Nat}{t:bM}{sp:aC}{f:Addr}{fd:FuncData}(N:Vs)(o:Bj K mg x st ps f fd)
  (hbody:∀(f:Addr) (cdv:Value) (A:Around) (outer:List Env) (s:Shared) (H:Hp) (E:XK),Room k (A.deeper (PyProof.Rows.envOfC x (aK st) s.heap.objs.size f cdv))->N.Nodup->jr (Bh P w K mg base N x st f cdv A outer s H E) (bO st) t) (e:sp=bc N.length t)
  (S:eZ N ps (aK st):=by exact⟨rfl,rfl,rfl,by decide +kernel,rfl,by decide +kernel,by decide +kernel⟩):zo P w K mg base (k+1) f fd ps sp:=by
 subst e
 exact B9 o.F S fun cdv A outer s H E hr=>hbody f cdv A outer s H E hr S.nd
end
section
variable {X:Cx} {a b e o:Expr} {es:List Expr} {ta tb te to:aP} {ts:List aP} {x c m f:Str} {p pos apos cpos:Pos} {j k n:Nat} {sp:aC}
def c4(O:fw X.prog X.w X.K X.mg X.base k x n sp)(hr:Room j X.A)(ha:jO X (e::es) ts)(hj:k<=j:=by omega)(hl:ts.length=n:=by rfl)(hg:Gl X x:=by rfl)(he:starEach (e::es) X.env=(false,eval e X.env)::starEach es X.env:=by rfl)(hdb:(x == ("__debug__":Str))=false:=by decide)(hpl:(backTo pos (starEach es X.env)).any (·.1)=false:=by rfl) :
  bh X (.Call (.Name x p) (e::es) [] pos) (ad sp ts):=by
 obtain⟨f,fd,ps,hn,F,h1,h2,h3⟩:=O.ex
 exact yx F (hr.mono hj) hg h1 h2 h3 he ha (hl.trans hn.symm) hdb hpl
def cB{id:String}{r:lH}(hc:dH X (.builtin id) r)(hm:X.mg x=none)(ha:jO X (e::es) ts)(hg:Gl X x:=by rfl)(hv:bootBuiltins x=some (.builtin id):=by decide +kernel)(he:starEach (e::es) X.env=(false,eval e X.env)::starEach es X.env:=by rfl)
  (hnn:x ≠ "__name__":=by decide) (hdb:(x == ("__debug__":Str))=false:=by decide) (hpl:(backTo pos (starEach es X.env)).any (·.1)=false:=by rfl):bh X (.Call (.Name x p) (e::es) [] pos) (ah r ts):=vB hc hg hm hv he ha hnn hdb hpl
def cT{id:String}{r:lH}(hc:dH X (.type id) r)(hm:X.mg x=none)(ha:jO X (e::es) ts)(hg:Gl X x:=by rfl)(hv:bootBuiltins x=some (.type id):=by decide +kernel)(he:starEach (e::es) X.env=(false,eval e X.env)::starEach es X.env:=by rfl)
  (hnn:x ≠ "__name__":=by decide) (hdb:(x == ("__debug__":Str))=false:=by decide) (hpl:(backTo pos (starEach es X.env)).any (·.1)=false:=by rfl):bh X (.Call (.Name x p) (e::es) [] pos) (ah r ts):=vC hc hg hm hv he ha hnn hdb hpl
def lc{r:List Expr}(ha:bh X a ta)(hr:jO X r ts)(hs:starEach (a::r) X.env=(false,eval a X.env)::starEach r X.env:=by rfl):jO X (a::r) (ta::ts):=sK hs ha hr
def l1(ha:bh X a ta)(hs:starEach [a] X.env=(false,eval a X.env)::starEach [] X.env:=by rfl):jO X [a] [ta]:=sK hs ha sJ
def bW{i:Int}{q:Nat}{p2:Pos}(hr:Room j X.A)(ha:bh X a ta)(hs:jw (.Constant (.int i) q p2):=by exact fun _ _=>rfl):bh X (.Subscript a (.Constant (.int i) q p2) pos) (ai aj ta (c3 (.int i))):=Al (CB (wH hr)) ha af hs
def fF(hr:Room j X.A)(ha:bh X a ta)(hb:bh X b tb)(hs:jw b:=by exact fun _ _=>rfl):bh X (.Subscript a b pos) (ai aj ta tb):=Al (CB (wH hr)) ha hb hs
def uH(hr:Room j X.A)(ha:bh X a ta)(hb:bh X b tb):nZ X (.Compare a [.Eq] [b] pos) (a8 (ai (dG false) ta tb)):=bB (kO (jl hr)) ha hb (aF _)
def zr(hr:Room j X.A)(ha:bh X a ta)(hb:bh X b tb):nZ X (.Compare a [.NotEq] [b] pos) (a8 (ai (dG true) ta tb)):=bB (Aj (jl hr)) ha hb (aF _)
def s4(i:Nat){pos':Pos}(nd:X.N.Nodup)(he:bh X e te)(hi:X.N[i]?=some x:=by rfl)(hx:wo X.env.scope x:=by first|exact Or.inl rfl|exact Or.inr rfl)(hs:swapsWith e (some (.Name x pos')) pos.line X.env=pure false:=by rfl)
  (hf:X.fn x=true\/X.env.scope.names.lookup x=some .local:=by first|exact .inl rfl|exact .inr rfl|assumption):n4 X (.Assign [.Name x pos'] e pos) (am i te):=Ar nd hi hx he hs hf
def gn(i:Nat)(nd:X.N.Nodup)(hi:X.N[i]?=some x:=by rfl)(hx:wo X.env.scope x:=by first|exact Or.inl rfl|exact Or.inr rfl)(hf:X.fn x=true\/X.env.scope.names.lookup x=some .local:=by first|exact .inl rfl|exact .inr rfl|assumption):uE X (.Name x pos) (.n i):=CU i nd hi hx hf
end
structure Aw (T:String) (name:Str) (id:String):Prop where
 pa:PlainAttrs T
 slot:Slot T name id
 ty:typeOf (.builtin id)=pure (.type "method_descriptor")
section
variable {X:Cx} {e o:Expr} {es:List Expr} {to:aP} {ts:List aP} {name:Str} {T id:String} {p pos apos cpos:Pos} {r:vG}
def iQ:Aw "list" "append" "list.append":=⟨PySem.F.plainAttrs_list,PySem.F.slot_list_append,PySem.F.type_list_append⟩
def qS:Aw "list" "extend" "list.extend":=⟨PySem.F.plainAttrs_list,PySem.F.slot_list_extend,PySem.F.type_list_extend⟩
def tz:Aw "list" "pop" "list.pop":=⟨PySem.F.plainAttrs_list,PySem.F.slot_list_pop,PySem.F.type_list_pop⟩
def Ax(k:Aw T name id)(hm:yp X id r)(ho:bh X o to)(ha:jO X (e::es) ts)(hs:starEach (e::es) X.env=(false,eval e X.env)::starEach es X.env:=by rfl)
  (hbase:attributeBase o name X.env (eval o X.env)=eval o X.env:=by rfl)
  (hfew:((backTo cpos (starEach (e::es) X.env)).all (fun x=>!x.1)&&(backToKw cpos (keywordEach [] X.env)).all (fun x=>x.1.isSome)
   && decide ((e::es).length+([]:List Keyword).length+(if ([]:List Keyword).isEmpty then 0 else 1) < 30))=true:=by rfl)
  (hline:(apos.endLine == cpos.line)=true:=by rfl) (hplain:(backTo cpos (starEach es X.env)).any (·.1)=false:=by rfl):bh X (.Call (.Attribute o name apos) (e::es) [] cpos) (mM T r to ts):=B5 k.pa k.slot k.ty hm hs ho ha hbase hfew hline hplain
def Ca(k:Aw T name id)(hm:yp X id r)(ho:bh X o to)
  (hbase:attributeBase o name X.env (eval o X.env)=eval o X.env:=by rfl) (hline:(apos.endLine == cpos.line)=true:=by rfl):bh X (.Call (.Attribute o name apos) [] [] cpos) (mM T r to []):=Aq k.pa k.slot k.ty hm ho hbase hline
end
section
variable {X:Cx} {tg iter elt:Expr} {ifs:List Expr} {scope:Scope} {pos:Pos} {ti:rC} {g:Tg} {tc:jh} {te:aP}
def ku(fs:Vs)(own:Nat)(fr:List Nat)(N:Vs)(hi:uF X tg iter ti)(hg:∀B,uE (X.EO N scope fs B) tg g)(hf:∀B,zn (X.EO N scope fs B) ifs tc)(he:∀B,bh (X.EO N scope fs B) elt te)
  (G5:g.under own=true:=by rfl) (hc:X.calm=true:=by rfl) (hclos:closureFor scope X.env=pure (cS X.env fs):=by rfl) (hcell:∀y∈scope.names,y.2 ≠ .cell:=by decide +kernel) (hkind:scope.kind = .function:=by rfl)
  (hnames:∀x∈scope.names,x.2 = .local->scope.names.lookup x.1=some .local:=by decide +kernel) (hcl:cF X.env fs:=by repeat' first|exact trivial|exact⟨_,rfl⟩|constructor) (hhas:lC (relabel scope X.env).names (cS X.env fs)=true:=by rfl)
  (hlen:N.length=own+fr.length:=by rfl) (hN:(N.drop own).map some=fr.map (fun j=>X.N[j]?):=by rfl) (hF:Eb X.env scope (cS X.env fs) (N.drop own):=by repeat' first|exact trivial|exact .inl rfl|exact .inr rfl|exact rfl|apply And.intro)
  (hs:∀x,foldedSetIterable iter X.env x=pure x:=by intro _;rfl):bh X (.ListComp elt [⟨tg,iter,ifs,0⟩] scope pos) (aw ti g tc te own fr):=yv fs own fr N G5 hc hclos hcell hkind hnames hcl hhas hlen hN hF hi hg hf he hs
def yQ(fs:Vs)(own:Nat)(fr:List Nat)(N:Vs)(i:Nat){y:Str}{py spos:Pos}(hX:X.N.Nodup)(hi:uF X tg iter ti)(hg:∀B,uE (X.EO N scope fs B) tg g)(hf:∀B,zn (X.EO N scope fs B) ifs tc)(he:∀B,bh (X.EO N scope fs B) elt te)
  (hix:X.N[i]?=some y:=by rfl) (hy:X.env.scope.names.lookup y=some .local:=by rfl) (hsw:swapsWith (.ListComp elt [⟨tg,iter,ifs,0⟩] scope pos) (some (.Name y py)) spos.line X.env=pure true:=by rfl)
  (G5:g.under own=true:=by rfl) (hc:X.calm=true:=by rfl) (hclos:closureFor scope X.env=pure (cS X.env fs):=by rfl) (hcell:∀y∈scope.names,y.2 ≠ .cell:=by decide +kernel) (hkind:scope.kind = .function:=by rfl)
  (hnames:∀x∈scope.names,x.2 = .local->scope.names.lookup x.1=some .local:=by decide +kernel) (hcl:cF X.env fs:=by repeat' first|exact trivial|exact⟨_,rfl⟩|constructor) (hhas:lC (relabel scope X.env).names (cS X.env fs)=true:=by rfl)
  (hlen:N.length=own+fr.length:=by rfl) (hN:(N.drop own).map some=fr.map (fun j=>X.N[j]?):=by rfl) (hF:Eb X.env scope (cS X.env fs) (N.drop own):=by repeat' first|exact trivial|exact .inl rfl|exact .inr rfl|exact rfl|apply And.intro)
  (hs:∀x,foldedSetIterable iter X.env x=pure x:=by intro _;rfl):n4 X (.Assign [.Name y py] (.ListComp elt [⟨tg,iter,ifs,0⟩] scope pos) spos) (am i (aw ti g tc te own fr)):=yw fs own fr N hX hix hy hsw G5 hc hclos hcell hkind hnames hcl hhas hlen hN hF hi hg hf he hs
end
noncomputable def putF3(f:Str)(v:PV):List (Str×PV)->List (Str×PV)
 |[]=>[(f,v)]
 |(g,x)::r=>if g=f then (g,v)::r else (g,x)::putF3 f v r
theorem Dn.look{K:Vo}{H:Hp}{f:Str}{p:PV}:∀{vs:List (Str×V)} {ps:List (Str×PV)},Dn K H vs ps->ps.lookup f=some p->∃v,vs.lookup f=some v/\Rep K H v p
 |_,_,.nil,e=>by simp at e
 |_,_,.cons a r,e=>by
  rw[List.lookup_cons]at e ⊢
  split at e
  ·cases e;exact⟨_,rfl,a⟩
  ·exact Dn.look r e
theorem Dn.GP{K:Vo}{H:Hp}{f:Str}:∀{vs:List (Str×V)} {ps:List (Str×PV)},Dn K H vs ps->ps.lookup f=none->vs.lookup f=none
 |_,_,.nil,_=>rfl
 |_,_,.cons a r,e=>by
  rw[List.lookup_cons]at e ⊢
  split at e
  ·cases e
  ·exact Dn.GP r e
theorem Dn.putF{K:Vo}{H:Hp}{f:Str}{v:V}{p:PV}(q:Rep K H v p):∀{vs:List (Str×V)} {ps:List (Str×PV)},Dn K H vs ps->Dn K H (L2.putF f v vs) (putF3 f p ps)
 |_,_,.nil=>.cons q .nil
 |_,_,.cons (k:=k) a r=>by
  unfold L2.putF putF3
  split
  ·exact .cons q r
  ·exact .cons a (Dn.putF q r)
def cm(c:Str)(S:av)(x:PV)(k:Addr->List (Str×PV)->Prop):Prop:=match x with
 | .ref a=>(match S a with|some (.ins c' fs)=>c'=c/\k a fs|_=>False)
 |_=>False
def jz{K:Vo}{H:Hp}{S:av}{c:Str}{C:Addr}{x:PV}{v:V}{k:Addr->List (Str×PV)->Prop}(hC:ClsN K c C)(rS:Di K H S)(r:Rep K H v x)(h:cm c S x k):∃a dx fs f',x = .ref a/\v = .ref a/\S a=some (.ins c fs)/\H a=some (.ins C dx f')/\Dn K H f' fs/\k a fs:=by
 unfold cm at h
 split at h
 ·rename_i a
  split at h
  ·rename_i c' fs e
   obtain⟨rfl,h⟩:=h
   obtain⟨C',dx,f',n,q,rf⟩:=(show FP K H a (.ins c' fs)from rS a _ e)
   cases hC.inj n
   cases r
   exact⟨a,dx,fs,f',rfl,rfl,e,q,rf,h⟩
  ·exact h.elim
 ·exact h.elim
def ci(c f:Str)(te:aP):aP:=fun σ S Q E=>te σ S (fun x S1=>cm c S1 x fun _ fs=>match fs.lookup f with|some v=>Q v S1|none=>False) E
def fS(c f:Str)(te to:aP):bM:=fun D σ S=>te σ S (fun v S1=>to σ S1 (fun x S2=>cm c S2 x fun a fs=>fs.length < 1000/\D.nx σ (Dd S2 a (.ins c (putF3 f v fs)))) D.ex) D.ex
def cR(c m:Str)(sp:aC)(to:aP)(ts:List aP):aP:=fun σ S Q E=>to σ S (fun x S1=>cm c S1 x fun _ fs=>fs.lookup m=none/\ag ts σ S1 (fun ps S2=>sp (x::ps) S2 Q E) E) E
def tD(c:Str)(sp:aC)(ts:List aP):aP:=fun σ S Q E=>ag ts σ S (fun ps S1=>∀x,S1 x=none->sp (.ref x::ps) (Dd S1 x (.ins c [])) (fun v S2=>v = .non/\Q (.ref x) S2) ga) E
section
variable {X:Cx} {e o value:Expr} {es:List Expr} {te to:aP} {ts:List aP} {x c m f:Str} {fl:Vs} {p pos pos' apos:Pos} {j k n:Nat} {sp:aC}
def mm(hC:zp X.K X.mg c fl)(he:bh X e te)(hf:f∈fl:=by decide)(hb:attributeBase e f X.env (eval e X.env)=eval e X.env:=by rfl):bh X (.Attribute e f pos) (ci c f te):=by
 obtain⟨C,hn,hm,hc,JE,hkp,na⟩:=hC.ex
 refine⟨aM (xN he.ok hb) fun σ H Q ⟨σ3,S,Q3,E3,rσ,rS,h,xo,k⟩=>⟨σ3,S,_,E3,rσ,rS,h,xo,fun p S1 v H1 h1 rv Dq g1=>?_⟩⟩
 obtain⟨a,dx,fs,f',rfl,rfl,e1,e2,rf,h2⟩:=jz hn Dq rv h1
 split at h2
 ·rename_i p' hp'
  obtain⟨v',hv',IM⟩:=rf.look hp'
  exact⟨a,C,dx,f',v',rfl,e2,hc,na _ hf,hv',k _ S1 _ H1 h2 IM Dq g1⟩
 ·exact h2.elim
def Ay(hC:zp X.K X.mg c fl)(he:bh X value te)(ho:bh X o to)(hf:f∈fl:=by decide)(hs:swapsWith value (some (.Attribute o f pos')) pos.line X.env=pure false:=by rfl):n4 X (.Assign [.Attribute o f pos'] value pos) (fS c f te to):=by
 obtain⟨C,hn,hm,hc,JE,hkp,na⟩:=hC.ex
 refine⟨dE (xO ho.ok he.ok hs) fun D σ H ⟨σ3,S,D3,rσ,rS,h,xo,nx,r,bk,ct⟩=>⟨σ3,S,_,D3.ex,rσ,rS,h,xo,fun v S1 v' H1 h1 rv Dq g1=>⟨σ3,S1,_,D3.ex,rσ.mono g1,Dq,h1,xo.mono g1,fun x S2 x' H2 h2 rx EU g2=>?_⟩⟩⟩
 obtain⟨a,dx,fs,f',rfl,rfl,e1,e2,rf,h3,h4⟩:=jz hn EU rx h2
 have gm:Grow X.K H2 (upd H2 a (.ins C dx (putF f v' f'))):=.mut e2 trivial
 refine⟨a,C,dx,f',rfl,e2,hc,na _ hf,by rw[rf.length];exact h3,nx _ _ _ _ h4 (rσ.mono (g1.trans (g2.trans gm))) (EU.put e2 trivial ⟨C,dx,_,hn,ay,((rf.mono gm).putF ((rv.mono g2).mono gm))⟩) (g1.trans (g2.trans gm))⟩
def zt{pl:Sem Bool}(O:uG X.prog X.w X.K X.mg X.base k c m n sp)(hr:Room j X.A)(ho:bh X o to)(ha:jO X (e::es) ts)(hj:k<=j:=by omega)(hl:ts.length+1=n:=by rfl)
  (hst:starEach (e::es) X.env=(false,eval e X.env)::starEach es X.env:=by rfl) (hpl:(backTo pos (starEach es X.env)).any (·.1)=false:=by rfl)
  (ht:eval (.Call (.Attribute o m apos) (e::es) [] pos) X.env=(do
   let ov <-eval o X.env
   standAt apos.atName
   let (f,first) <-holding [ov] (getMethod ov m pl)
   callWith pos f first (backTo pos (starEach (e::es) X.env)) (backToKw pos (keywordEach [] X.env))):=by rfl):bh X (.Call (.Attribute o m apos) (e::es) [] pos) (cR c m sp to ts):=by
 obtain⟨C,f,fd,ps,hn,F,h1,h2,h3,h4⟩:=O.ex
 refine⟨aM (u8 ho.ok h2 h3 F.ok (hr.mono hj) h4 .nil pk ha.ok hst hpl ht) fun σ H Q ⟨σ3,S,Q3,E3,rσ,rS,h,xo,k⟩=>⟨σ3,S,_,E3,rσ,rS,h,xo,fun p S1 v H1 q1 rv Dq g1=>?_⟩⟩
 obtain⟨a,dx,fs,f',rfl,rfl,e1,e2,rf,q2,q3⟩:=jz h1 Dq rv q1
 refine⟨a,dx,f',rfl,e2,rf.GP q2,cx (rσ.mono g1) Dq q3 (xo.mono g1) fun ps' S' vs H' hl' q IM EH g=>?_⟩
 rw[List.append_nil]
 exact⟨by rw[List.length_cons,IM.length,hl',hl,hn],.ref a::ps',S',Q3,E3,.cons (.ref a) IM,EH,q,k.mono (g1.trans g)⟩
def CZ(hC:zp X.K X.mg c fl)(O:uG X.prog X.w X.K X.mg X.base k c "__init__" n sp)(hr:Room j X.A)(ha:jO X (e::es) ts)(hj:k+1<=j:=by omega)(hl:ts.length+1=n:=by rfl)(hg:Gl X c:=by rfl)(he:starEach (e::es) X.env=(false,eval e X.env)::starEach es X.env:=by rfl)(hdb:(c == ("__debug__":Str))=false:=by decide)(hpl:(backTo pos (starEach es X.env)).any (·.1)=false:=by rfl) :
  bh X (.Call (.Name c p) (e::es) [] pos) (tD c sp ts):=by
 obtain⟨C,hn,hm,hc,JE,hkp,na⟩:=hC.ex
 obtain⟨C',f,fd,ps,hps,F,h1,h2,h3,h4⟩:=O.ex
 cases hn.inj h1
 refine⟨aM (u9 ⟨JE,h3.at_,h3.fn,hkp⟩ F.ok (hr.mono hj) hg hm h4 .nil pk ha.ok hdb he hpl) fun σ H Q ⟨σ3,S,Q3,E3,rσ,rS,h,xo,k⟩=>cx rσ rS h xo fun ps' S' vs H' hl' q rv EH g x dx hx hdx hne=>?_⟩
 rw[List.append_nil]
 have g1:Grow X.K H' (upd H' dx (.own x)):=.new hdx
 have Kg:upd H' dx (.own x) x=none:=by rw[az (Ne.symm hne)];exact hx
 have g2:Grow X.K (upd H' dx (.own x)) (upd (upd H' dx (.own x)) x (.ins C dx [])):=.new Kg
 refine⟨by rw[List.length_cons,rv.length,hl',hl,hps],.ref x::ps',Dd S' x (.ins c []),_,_,.cons (.ref x) (rv.mono (g1.trans g2)),(EH.other hdx).new Kg ⟨C,dx,[],hn,ay,.nil⟩,q x (EH.free hx),fun p S2 v H2 hq JB EU gg=>?_⟩
 obtain⟨rfl,q2⟩:=hq
 cases JB
 exact⟨rfl,k _ S2 _ H2 q2 (.ref x) EU (g.trans ((g1.trans g2).trans gg))⟩
end
section
variable {P:Program} {w:World} {K:Vo} {mg:Vr} {base:Heap}
end
section
variable {X:Cx} {e:Expr} {es:List Expr} {ts:List aP} {x:Str} {p pos cpos:Pos} {ks:Vs} {j:Nat}
def Az{n:String}(hm:X.mg x=none)(hg:Gl X x:=by rfl)(hv:bootBuiltins x=some (.type n):=by decide +kernel)(hn:x ≠ "__name__":=by decide)(hd:(x == ("__debug__":Str))=false:=by decide):bh X (.Name x pos) (c3 (.ty n)):=BZ hg hm hv hn hd
end
section
variable {X:Cx} {body suite:List Stmt} {b₀:Stmt} {n x:Str} {np hpos pos:Pos} {tb th:bM} {cs:Vs}
end
section
variable {P:Program} {w:World} {K:Vo} {mg:Vr} {base:Heap}
end
section
variable {X:Cx} {e:Expr} {es:List Expr} {ts:List aP} {x:Str} {p pos:Pos} {j k n:Nat} {sp:aC}
end
end L3
namespace L2
open PySem PySem.Spec PyProof.Rows
section
variable {X:Cx}
def qT(hc:X.calm=true):dW X (.builtin "min") (fun xs H Q=>∃(p:Addr) (ns:Vu),xs=[.ref p]/\SqL X.K H p (ns.map V.int)/\0 < ns.length/\∀M,M∈ns->(∀a∈ns,M<=a)->Q (.int M) H):=by
 intro pins s σ H xs us Q I r h
 obtain⟨p,ns,rfl,hp,hn,q⟩:=h
 obtain⟨u,rfl,rx⟩:=fu r
 cases rx
 obtain⟨its,rv,pl,hz⟩:=I.list hp
 have hi:IntsAre its ns:=gF rv
 obtain⟨xs,e⟩:=hi.allInts.items
 have hns:ns=xs.toList.map (·.1):=by rw[<-hi.numsOf,<-nums_intItems,<-e]
 have hsz:0 < xs.size:=by have h3:=hn;rw[hns,List.length_map,Array.length_toList]at h3;exact h3
 have hl:=pl.isList
 rw[e]at hl
 refine min_intList (I.ok.hd hc) hl hsz fun v h' tk hv hk=>?_
 obtain⟨t,rfl⟩:=intItems_at hv
 obtain⟨h1,h2⟩:=argBest_lt (numAt xs) (xs.size - 1)
 refine⟨.int _,H,(I.kept (t':=tk) (h':=h') hk),⟨_,rfl⟩,q _ ?_ fun a ha=>?_⟩
 ·rw[hns,numAt_eq];exact getD_mem (by rw[List.length_map,Array.length_toList];omega)
 ·rw[hns]at ha
  obtain⟨j,hj,rfl⟩:=mem_getD ha
  rw[List.length_map,Array.length_toList]at hj
  rw[<-numAt_eq];exact h2 j (by omega)
end
end L2
namespace L3
open PySem L2
section
variable {X:Cx}
def tE:lH:=fun ps S Q=>match ps with
 |[.ref a]=>(match S a with|some (.lst xs)=>(match fb xs with|some ns=>0 < ns.length/\∀M,M∈ns->(∀a∈ns,M<=a)->Q (.int M) S|none=>False)|_=>False)
 |_=>False
def yR(hc:X.calm=true):dH X (.builtin "min") tE:=⟨fun pins s σ H xs us Q I r ⟨ps,S,Q3,rp,rS,q,k⟩=>by
 unfold tE at q
 split at q
 ·cases rp with
  |cons a rr=>
   cases rr;cases a
   split at q
   ·rename_i e
    split at q
    ·rename_i eb
     obtain⟨vs,hv,rs⟩:=rS _ _ e
     have e2:=fZ rs eb
     subst e2
     exact qT hc pins s σ H _ us Q I r ⟨_,_,rfl,SqL.of hv,q.1,fun M h1 h2=>k _ S _ H (q.2 M h1 h2) (.int _) rS .refl⟩
    ·exact q.elim
   ·exact q.elim
 ·exact q.elim⟩
end
end L3
namespace CY
open PySem L2 L3
end CY
namespace L3
open PySem L2
section
variable {X:Cx} {o:Expr} {to:aP} {c m:Str} {pos apos:Pos} {j k n:Nat} {sp:aC}
def AA{pl:Sem Bool}(O:uG X.prog X.w X.K X.mg X.base k c m n sp)(hr:Room j X.A)(ho:bh X o to)(hj:k<=j:=by omega)(hl:1=n:=by rfl)
  (ht:eval (.Call (.Attribute o m apos) [] [] pos) X.env=(do
   let ov <-eval o X.env
   standAt apos.atName
   let (f,first) <-holding [ov] (getMethod ov m pl)
   callWith pos f first (backTo pos (starEach [] X.env)) (backToKw pos (keywordEach [] X.env))):=by rfl):bh X (.Call (.Attribute o m apos) [] [] pos) (cR c m sp to []):=by
 obtain⟨C,f,fd,ps,hn,F,h1,h2,h3,h4⟩:=O.ex
 refine⟨aM (rY ho.ok h2 h3 F.ok (hr.mono hj) h4 .nil pk ht) fun σ H Q ⟨σ3,S,Q3,E3,rσ,rS,h,xo,k⟩=>⟨σ3,S,_,E3,rσ,rS,h,xo,fun p S1 v H1 q1 rv Dq g1=>?_⟩⟩
 obtain⟨a,dx,fs,f',rfl,rfl,e1,e2,rf,q2,q3⟩:=jz h1 Dq rv q1
 refine⟨a,dx,f',rfl,e2,rf.GP q2,?_⟩
 have q3:sp [.ref a] S1 Q3 E3:=q3
 exact⟨by rw[<-hl]at hn;rw[hn];rfl,[.ref a],S1,Q3,E3,.cons (.ref a) .nil,Dq,q3,k.mono g1⟩
end
end L3
namespace L2
open PySem PySem.Spec PyProof.Rows
def om{prog:Program}{w:World}{A:Around}{E:Vq}{s:Shared}{l:Addr}{xs:Array (Int×Tok)}{Q:Vq}(hh:A.handled=none)(hl:s.heap.IsTuple l (intItems xs))(hne:0 < xs.size)
  (h:∀v h' tk,(intItems xs)[argBest (fun i j=>decide (numAt xs i < numAt xs j)) (xs.size - 1)]?=some v->(∀b o,s.heap.get? b=some o->h'.get? b=some o)->Q v { s with heap:=h',toks:=tk }) :
  wpAny (model prog w) A (call (.builtin "min") [.ref l]) Q E s:=by
 have hlt:l < s.heap.objs.size:=by obtain⟨_,e,_⟩:=hl;exact Heap.lt_size e
 refine call_min_walk (wpAny_pyIter_tuple hl ?_)
 refine⟨_,_,_,_,_,_,_,rfl,Walks.tuple (A:=A.in1) hh _ l (Nat.ne_of_lt hlt) (intItems xs),⟨⟨_,Heap.get?_push_size _ rfl,rfl,rfl⟩,hl.push _⟩,(fun b hb=>?_),by simpa [intItems]using hne,CmpOf.ints_lt (numAt xs) (fun _ _=>intItems_at),fun v h' tk hP hk=>?_⟩
 ·show b < (s.heap.push _).objs.size
  rw[Heap.size_push]
  rcases List.mem_cons.mp hb with rfl|hb
  ·exact Nat.lt_succ_self _
  ·rcases List.mem_cons.mp hb with rfl|hb
   ·exact Nat.lt_succ_of_lt hlt
   ·cases hb
 ·refine h v h' tk (by simpa [intItems]using hP) fun b o e=>hk b o (fun hm=>?_) (Heap.get?_push_of_some _ e)
  rcases List.mem_cons.mp hm with e1|hm
  ·exact absurd (e1▸Heap.lt_size e) (Nat.lt_irrefl _)
  ·cases hm
section
variable {X:Cx}
def qU(hc:X.calm=true):dW X (.builtin "min") (fun xs H Q=>∃(p:Addr) (ns:Vu),xs=[.ref p]/\SqT X.K H p (ns.map V.int)/\0 < ns.length/\∀M,M∈ns->(∀a∈ns,M<=a)->Q (.int M) H):=by
 intro pins s σ H xs us Q I r h
 obtain⟨p,ns,rfl,hp,hn,q⟩:=h
 obtain⟨u,rfl,rx⟩:=fu r
 cases rx
 obtain⟨its,rv,pl,hz⟩:=I.tuple hp
 have hi:IntsAre its ns:=gF rv
 obtain⟨xs,e⟩:=hi.allInts.items
 have hns:ns=xs.toList.map (·.1):=by rw[<-hi.numsOf,<-nums_intItems,<-e]
 have hsz:0 < xs.size:=by have h3:=hn;rw[hns,List.length_map,Array.length_toList]at h3;exact h3
 have hl:s.heap.IsTuple p its.toArray:=by
  obtain⟨o,ho,hc,n,hd⟩:=id pl
  exact⟨o,ho,hc,n,hd⟩
 rw[e]at hl
 refine om (I.ok.hd hc) hl hsz fun v h' tk hv hk=>?_
 obtain⟨t,rfl⟩:=intItems_at hv
 obtain⟨h1,h2⟩:=argBest_lt (numAt xs) (xs.size - 1)
 refine⟨.int _,H,(I.kept (t':=tk) (h':=h') hk),⟨_,rfl⟩,q _ ?_ fun a ha=>?_⟩
 ·rw[hns,numAt_eq];exact getD_mem (by rw[List.length_map,Array.length_toList];omega)
 ·rw[hns]at ha
  obtain⟨j,hj,rfl⟩:=mem_getD ha
  rw[List.length_map,Array.length_toList]at hj
  rw[<-numAt_eq];exact h2 j (by omega)
end
end L2
namespace L3
open PySem L2
section
variable {X:Cx}
def lQ:lH:=fun ps S Q=>match ps with
 |[.tup xs]=>(match fb xs with|some ns=>0 < ns.length/\∀M,M∈ns->(∀a∈ns,M<=a)->Q (.int M) S|none=>False)
 |_=>False
def vN(hc:X.calm=true):dH X (.builtin "min") lQ:=⟨fun pins s σ H xs us Q I r ⟨ps,S,Q3,rp,rS,q,k⟩=>by
 unfold lQ at q
 split at q
 ·cases rp with
  |cons a rr=>
   cases rr
   cases a with
   |tup hv rs=>
    split at q
    ·rename_i eb
     have e2:=fZ rs eb
     subst e2
     exact qU hc pins s σ H _ us Q I r ⟨_,_,rfl,hv,q.1,fun M h1 h2=>k _ S _ H (q.2 M h1 h2) (.int _) rS .refl⟩
    ·exact q.elim
 ·exact q.elim⟩
end
end L3
namespace L2
open PySem PySem.Spec PyProof.Rows
section
variable {prog:Program} {w:World} {A:Around} {E:Vq} {s:Shared}
def tF{a b:Addr}{i j k l:Int}{t1 t2 t3 t4:Tok}{P:Fin->Shared->Prop}(hx:s.heap.IsTuple a #[.int i t1,.int j t2])(hy:s.heap.IsTuple b #[.int k t3,.int l t4])(h:P (.done (.ret (.bool (decide (i < k\/(i=k/\j < l)))))) s) :
  wpAny (model prog w) A (Builtin.«tuple.__lt__» ⟨[.ref a,.ref b],[]⟩) P E s:=by
 obtain⟨oa,hoa,hca,na,hda⟩:=hx
 obtain⟨ob,hob,hcb,nb,hdb⟩:=hy
 have hTb:s.TypeIs (.ref b) "tuple":=⟨_,hob,hcb⟩
 show wpAny _ _ (isInstance (.ref b) (.type "tuple") >>= _) _ _ s
 refine wpAny_bind (wpAny_isInstance hTb isSubtype_tuple_tuple ?_)
 simp only[Bool.not_true,Bool.false_eq_true,if_false]
 refine wpAny_bind (wpAny_tupleItemsOf hoa hda (wpAny_bind (wpAny_tupleItemsOf hob hdb (wpAny_bind ?_))))
 refine wpAny_forIn_list _
  (fun rest r s'=>r.1=none/\s'=s/\(rest=[(.int i t1,.int k t3),(.int j t2,.int l t4)]\/(rest=[(.int j t2,.int l t4)]/\i=k)\/(rest=[]/\i=k/\j=l)))
  _ ?_ ?_ _ _ ⟨rfl,rfl,.inl rfl⟩
 ·rintro⟨u,v⟩ rest r s' ⟨hr,rfl,hz⟩
  rcases hz with hz|⟨hz,rfl⟩|⟨hz,_⟩
  ·cases hz
   refine wpAny_bind (wpAny_eqBool_int ?_)
   by_cases e:i=k
   ·subst e
    simp only[beq_self_eq_true,Bool.not_true,Bool.false_eq_true,if_false]
    exact wpAny_pure ⟨rfl,rfl,by simp⟩
   ·rw[show(i == k)=false by simpa using e]
    simp only[Bool.not_false,if_true]
    have e2:decide (i < k\/(i=k/\j < l))=decide (i < k):=by simp[e]
    rw[e2]at h
    refine wpAny_bind (wpAny_rule (wpAny_bind (wpAny_lt_int (show _ from ?_))))
    exact wpAny_bind (wpAny_pure (wpAny_pure (wpAny_pure h)))
  ·cases hz
   refine wpAny_bind (wpAny_eqBool_int ?_)
   by_cases e:j=l
   ·subst e
    simp only[beq_self_eq_true,Bool.not_true,Bool.false_eq_true,if_false]
    exact wpAny_pure ⟨rfl,rfl,by simp⟩
   ·rw[show(j == l)=false by simpa using e]
    simp only[Bool.not_false,if_true]
    have e2:decide (i < i\/(i=i/\j < l))=decide (j < l):=by simp
    rw[e2]at h
    refine wpAny_bind (wpAny_rule (wpAny_bind (wpAny_lt_int (show _ from ?_))))
    exact wpAny_bind (wpAny_pure (wpAny_pure (wpAny_pure h)))
  ·cases hz
 ·rintro⟨r1,r2⟩ s' ⟨hr,rfl,hz⟩
  simp only at hr
  subst hr
  rcases hz with hz|⟨hz,_⟩|⟨_,rfl,rfl⟩
  ·cases hz
  ·cases hz
  refine wpAny_pure ?_
  have e2:decide (i < i\/(i=i/\j < j))=false:=by simp
  rw[e2]at h
  exact h
def vO{a b:Addr}{i j k l:Int}{t1 t2 t3 t4:Tok}{Q:Vq}(hu:A.units < cLine)(hx:s.heap.IsTuple a #[.int i t1,.int j t2])(hy:s.heap.IsTuple b #[.int k t3,.int l t4])(h:Q (.bool (decide (i < k\/(i=k/\j < l)))) s) :
  wpAny (model prog w) A (compareOp .Lt (.ref a) (.ref b)) Q E s:=by
 have hTa:s.TypeIs (.ref a) "tuple":=by obtain⟨o,ho,hc,_⟩:=id hx;exact⟨_,ho,hc⟩
 have hTb:s.TypeIs (.ref b) "tuple":=by obtain⟨o,ho,hc,_⟩:=id hy;exact⟨_,ho,hc⟩
 show wpAny _ _ (richCompare .Lt (.ref a) (.ref b)) Q E s
 exact wpAny_richCompare_same_room (op:=.Lt) hTa hTb F.slot_tuple_lt (wpAny_call_entry F.slot_tuple_lt hTa F.entry_tuple_lt (tF hx hy ⟨_,rfl,(fun e=>nomatch e),h⟩) (F.args_tuple_lt_2 _ _)) hu
end
section
variable {X:Cx}
def yS(hu:X.A.units < cLine):gf X (compareOp .Lt) (fun x y H Q=>∃(p r:Addr) (i j k l:Int),x = .ref p/\y = .ref r/\SqT X.K H p [.int i,.int j]/\SqT X.K H r [.int k,.int l]/\Q (.bl (decide (i < k\/(i=k/\j < l)))) H):=by
 intro pins s σ H x y v u Q I r1 r2 h
 obtain⟨p,r,i,j,k,l,rfl,rfl,h1,h2,q⟩:=h
 cases r1;cases r2
 have pair:∀{p:Addr} {i j:Int},SqT X.K H p [.int i,.int j]->∃t1 t2,s.heap.IsTuple p #[.int i t1,.int j t2]:=fun{p i j} hp=>by
  obtain⟨its,rv,pl,hz⟩:=I.tuple hp
  cases rv with
  |cons a1 r1=>
   cases r1 with
   |cons a2 r2=>
    cases r2
    obtain⟨t1,rfl⟩:=a1
    obtain⟨t2,rfl⟩:=a2
    obtain⟨o,ho,hc,n,hd⟩:=id pl
    exact⟨t1,t2,o,ho,hc,n,hd⟩
 obtain⟨_,_,e1⟩:=pair h1
 obtain⟨_,_,e2⟩:=pair h2
 exact vO hu e1 e2 ⟨.bl _,H,I,rfl,q⟩
end
end L2
namespace L3
open PySem L2
section
variable {X:Cx}
def vP:R3:=fun x y S Q=>match x,y with
 | .tup [.int i,.int j],.tup [.int k,.int l]=>Q (.bl (decide (i < k\/(i=k/\j < l)))) S
 |_,_=>False
def AB(hu:X.A.units+150 < cLine):hU X (compareOp .Lt) vP:=⟨fun pins s σ H x y v u Q I rx ry ⟨px,py,S,Q3,r1,r2,rS,q,k⟩=>by
 unfold vP at q
 split at q
 ·cases r1 with
  |tup h1 K1=>
   cases r2 with
   |tup h2 HA=>
    have two:∀{vs:List V} {i j:Int},Reps X.K H vs [.int i,.int j]->vs=[.int i,.int j]:=fun r=>by
     cases r with
     |cons a b=>cases a;cases b with|cons c d=>cases c;cases d;rfl
    rw[two K1]at h1
    rw[two HA]at h2
    exact yS (by omega) pins s σ H _ _ v u Q I rx ry ⟨_,_,_,_,_,_,rfl,rfl,h1,h2,k _ S _ H q (.bl _) rS .refl⟩
 ·exact q.elim⟩
def pF:lH:=fun ps S Q=>match ps with
 |[.tup xs]=>lQ [.tup xs] S Q
 |ps=>tE ps S Q
def yT(hc:X.calm=true):dH X (.builtin "min") pF:=⟨fun pins s σ H xs us Q I r ⟨ps,S,Q3,rp,rS,q,k⟩=>by
 unfold pF at q
 split at q
 ·exact(vN hc).ok pins s σ H xs us Q I r ⟨_,S,Q3,rp,rS,q,k⟩
 ·exact(yR hc).ok pins s σ H xs us Q I r ⟨_,S,Q3,rp,rS,q,k⟩⟩
end
end L3
namespace L2
open PySem PySem.Spec PyProof.Rows
section
variable {X:Cx}
end
end L2
namespace L3
open PySem L2
section
variable {X:Cx}
end
end L3
namespace Md
open PySem PySem.Spec PyProof.Rows
noncomputable def AC(P:Nat->Value->Prop)(bt:Nat->Nat->Bool):Nat->Array Value->Prop
 |0,l=>l=#[]
 |j+1,l=>∃v,l=#[v,v]/\P (argBest bt j) v
def oo{prog:Program}{w:World}{A:Around}{E:Vq}{s:Shared}{id:String}{b:Builtin}{us:Vv}{kw:List (Str×Value)}{Q:Vq}(hk:builtinKind id=none)(hp:plainId id=true)(hb:entryFor table id=some b)(ha:argsOk id ⟨us,kw⟩)
  (hc:wpAny (model prog w) A.in1 (b ⟨us,kw⟩) (fun fin s'=>match fin with
   | .done f=>(match (Except.ok f:Result)with | .ok (.ret v)=>Q v s' | .ok _=>False | .error e=>E e s')
   | .again c'=>c'.quiet=true/\codeAny (model prog w) A c' (fun r s'=>match r with | .ok (.ret v)=>Q v s' | .ok _=>False | .error e=>E e s') s') E s):wpAny (model prog w) A (call (.builtin id) us kw) Q E s:=by
 refine wpAny_call (codeAny_call_builtin hp hb ?_)
 simp only[checkBuiltinCall,hk]
 cases hs:Manifest.signature? id with
 |none=>exact wpAny_pure hc
 |some sig=>
  have h2:Bind.checkArgs id sig ⟨us,kw⟩=pure ():=by simpa only [argsOk,hs]using ha
  simp only[h2]
  exact wpAny_pure hc
def kj(P:Nat->Value->Prop)(bt:Nat->Nat->Bool)(n:Nat)(d v:Value):Prop:=(n=0/\v=d)\/(0 < n/\P (argBest bt (n - 1)) v)
section
variable {prog:Program} {w:World} {A:Around} {R:Result->Shared->Prop} {I:Addr} {fp wr:List Addr} {n:Nat} {P:Nat->Value->Prop} {St:Nat->Heap->Prop}
end
section
variable {prog:Program} {w:World} {A:Around} {E:Vq} {s:Shared}
end
section
variable {prog:Program} {w:World} {A:Around} {R:Result->Shared->Prop} {I:Addr} {fp wr:List Addr} {n:Nat} {P:Nat->Value->Prop} {St:Nat->Heap->Prop}
def qV(a d:Value):argsOk "min" ⟨[a],[("default",d)]⟩:=by unfold argsOk;kernel_rfl
def tG(W:Walks prog w A.in1 I fp wr n P St)(bt:Nat->Nat->Bool)(hcmp:CmpOf prog w A.in1 .Lt P bt)(S:Addr)(hSf:S ∉ fp)(d:Value):∀(k j:Nat) (s:Shared) (its:Vw) (c:Nat),
  n - j=k->j<=n->St j s.heap->AC P bt j its->s.heap.get? S=some { cls:=.type "list",dict:=none,data:=.seq its c,slots:=#[] }->
  (∀v h' tk,kj P bt n d v->(∀b o,b ∉ wr->b≠S->s.heap.get? b=some o->h'.get? b=some o)->R (.ok (.ret v)) { s with heap:=h',toks:=tk })->
  codeAny (model prog w) A (.builtin "min.loop" ⟨[.ref I,.none,.ref S],[("default",d)]⟩) R s:=by
 have nw:S ∉ wr:=fun h=>hSf (W.sub _ h)
 have nm:(toString "min" ++ toString ".loop":String) = "min.loop":=by decide
 intro k
 induction k with
 |zero=>
  intro j s its c hk hj hst hb hS hR
  obtain rfl:j=n:=by omega
  refine codeAny_builtin F.entry_min_loop ?_
  rw[Around.under_plainId F.plain_min_loop _]
  show wpAny _ A.in1 (seqItems? (.ref S) >>= _) _ _ s
  refine wpAny_bind (wpAny_seqItems hS rfl (show wpAny _ A.in1 (tryCatch (pyNext (.ref I)) _ >>= _) _ _ s from ?_))
  refine wpAny_bind (wpAny_tryCatch (W.done s _ _ hst fun h1 tk kk=>?_))
  cases j with
  |zero=>
   have e:its=#[]:=hb
   subst e
   show wpAny _ A.in1 (rule _ >>= _) _ _ _
   refine wpAny_bind (wpAny_rule (wpAny_pure (hR d h1 tk (.inl ⟨rfl,rfl⟩) fun b o hw _ e=>kk b o hw e)))
  |succ i=>
   obtain⟨v,rfl,hv⟩:=hb
   show wpAny _ A.in1 (updateSeq S (fun _=>#[]) >>= _) _ _ _
   refine wpAny_bind (wpAny_updateSeq (kk S _ nw hS) rfl (wpAny_bind (wpAny_letGo (wpAny_pure ?_))))
   exact hR v _ tk (.inr ⟨Nat.succ_pos _,hv⟩) fun b o hw FI e=>(Heap.get?_update_other _ _ (Ne.symm FI)).trans (kk b o hw e)
 |succ k ih=>
  intro j s its c hk hj hst hb hS hR
  have hlt:j < n:=by omega
  refine codeAny_builtin F.entry_min_loop ?_
  rw[Around.under_plainId F.plain_min_loop _]
  show wpAny _ A.in1 (seqItems? (.ref S) >>= _) _ _ s
  refine wpAny_bind (wpAny_seqItems hS rfl (show wpAny _ A.in1 (tryCatch (pyNext (.ref I)) _ >>= _) _ _ s from ?_))
  refine wpAny_bind (wpAny_tryCatch (W.item j s _ _ hlt hst fun v h1 tk hP Ig kk=>?_))
  have hS1:=kk S _ nw hS
  -- the new one is kept
  have new:∀h2:Heap,h2=h1.update S (Obj.mapSeq fun _=>#[v,v])->AC P bt (j+1) #[v,v]->codeAny (model prog w) A (.builtin "min.loop" ⟨[.ref I,.none,.ref S],[("default",d)]⟩) R { s with heap:=h2,toks:=tk }:=fun h2 e2 hb2=>by
   refine ih (j+1) _ #[v,v] _ (by omega) hlt (W.frame _ h1 _ Ig fun b K3 o e=>?_) hb2 (by rw[e2];exact Heap.get?_update_self (Obj.mapSeq fun _=>#[v,v]) hS1 rfl) fun v' h3 JF hE k3=>?_
   ·rw[e2];exact(Heap.get?_update_other _ _ (fun h:S=b=>hSf (by rw[h];exact K3))).trans e
   ·exact hR v' h3 JF hE fun b o hw FI e=>k3 b o hw FI (by rw[e2];exact(Heap.get?_update_other _ _ (Ne.symm FI)).trans (kk b o hw e))
  cases j with
  |zero=>
   have e:its=#[]:=hb
   subst e
   show wpAny _ A.in1 (updateSeq S (fun _=>#[v,v]) >>= _) _ _ _
   refine wpAny_bind (wpAny_updateSeq hS1 rfl ?_)
   rw[nm]
   exact wpAny_pure ⟨plainId_quiet F.plain_min_loop _,new _ rfl ⟨v,rfl,hP⟩⟩
  |succ i=>
   obtain⟨u,rfl,hu⟩:=hb
   show wpAny _ A.in1 (tryCatch (holding [v,v] (richCompare .Lt v u >>= _)) _ >>= _) _ _ _
   refine wpAny_bind (wpAny_tryCatch (wpAny_holding (wpAny_bind (hcmp (i+1) (argBest bt i) v u _ _ _ hP hu ?_))))
   refine wpAny_bind (wpAny_holding (wpAny_truthy_bool (wpAny_bind (wpAny_letGo (wpAny_pure ?_)))))
   cases hy:bt (i+1) (argBest bt i)with
   |true=>
    simp only[if_true]
    refine wpAny_bind (wpAny_updateSeq hS1 rfl (wpAny_bind (wpAny_letGo ?_)))
    rw[nm]
    exact wpAny_pure ⟨plainId_quiet F.plain_min_loop _,new _ rfl ⟨v,rfl,by simp only[argBest,hy,if_true];exact hP⟩⟩
   |false=>
    simp only[Bool.false_eq_true,if_false]
    refine wpAny_bind (wpAny_letGo ?_)
    rw[nm]
    refine wpAny_pure ⟨plainId_quiet F.plain_min_loop _,ih (i+2) _ _ c (by omega) hlt Ig ⟨u,rfl,by simp only[argBest,hy,Bool.false_eq_true,if_false];exact hu⟩ hS1 fun v' h3 JF hE k3=>?_⟩
    exact hR v' h3 JF hE fun b o hw FI e=>k3 b o hw FI (kk b o hw e)
end
section
variable {prog:Program} {w:World} {A:Around} {E:Vq} {s:Shared}
def qW{x d:Value}{Q:Vq}
  (h:wpAny (model prog w) A.in1 (pyIter x) (fun it s1=>∃I fp wr n P St bt,it = .ref I/\Walks prog w A.in1 I fp wr n P St/\St 0 s1.heap/\(∀b∈fp,b < s1.heap.objs.size)/\CmpOf prog w A.in1 .Lt P bt/\
   ∀v h' tk,kj P bt n d v->(∀b o,b ∉ wr->s1.heap.get? b=some o->h'.get? b=some o)->Q v { s1 with heap:=h',toks:=tk }) E s) :
  wpAny (model prog w) A (call (.builtin "min") [x] [("default",d)]) Q E s:=by
 have nm:(toString "min" ++ toString ".loop":String) = "min.loop":=by decide
 refine oo F.kind_min F.plain_min F.entry_min (qV _ _) ?_
 show wpAny _ A.in1 (Builtin.Builtins.bindParams "min" ["key","default"] 0 ⟨[],[("default",d)]⟩ >>= _) _ _ s
 refine wpAny_bind (wpAny_of_eq (show Builtin.Builtins.bindParams "min" ["key","default"] 0 ⟨[],[("default",d)]⟩=pure [none,some d] from rfl) (wpAny_bind (wpAny_pure ?_)))
 refine wpAny_bind (wpAny_mono h (fun it s1 h1=>?_) fun _ _ e=>e)
 obtain⟨I,fp,wr,n,P,St,bt,rfl,W,hst,hfp,hcmp,hQ⟩:=h1
 refine wpAny_bind (wpAny_newObj_type ?_)
 have nf:s1.heap.objs.size ∉ fp:=fun hm=>Nat.lt_irrefl _ (hfp _ hm)
 rw[nm]
 refine wpAny_pure ⟨plainId_quiet F.plain_min_loop _,tG W bt hcmp s1.heap.objs.size nf d _ 0 _ #[] 0 rfl (Nat.zero_le _) (W.frame _ _ _ hst fun b _ o e=>Heap.get?_push_of_some _ e) rfl (Heap.get?_push_size _ rfl) fun v h' tk hE kk=>?_⟩
 exact hQ v h' tk hE fun b o hw e=>kk b o hw (Nat.ne_of_lt (Heap.lt_size e)) (Heap.get?_push_of_some _ e)
end
end Md
namespace L2
open PySem PySem.Spec PyProof.Rows
def yU(ns:Vu)(d M:Int):Prop:=(ns=[]/\M=d)\/(M∈ns/\∀a∈ns,M<=a)
section
variable {X:Cx}
def qX{id:String}{x:Str}{r:R2}{e ed:Expr}{ta td:TE}{p pos kp:Pos}(hc:gf X (fun v u=>call (.builtin id) [v] [("default",u)]) r)(hg:Gl X x)(hm:X.mg x=none)(hv:bootBuiltins x=some (.builtin id))(ha:PE X e ta)(hd:PE X ed td)
  (hs:starEach [e] X.env=[(false,eval e X.env)]) (hn:x ≠ "__name__":=by decide) (hdb:(x == ("__debug__":Str))=false:=by decide):PE X (.Call (.Name x p) [e] [⟨some "default",ed,kp⟩] pos) (zh r ta td):=by
 intro pins s σ H Q I h
 refine wpAny_Call_Name_kw (eX I hg hm hv ?_ hn hdb)
 refine PyProof.Rows.callWith_kw ?_ (by rw[hs];rfl) (by rw[hs];rfl) rfl rfl
 rw[hs]
 refine Calls.spliced_cons (bA (ha pins s σ H _ I h) fun v s1 ⟨x1,H1,I1,r1,q1⟩=>Calls.spliced_nil ?_)
 refine bA ((u_ (nm:=some "default") (kpos:=kp) hd xS) pos pins s1 σ H1 (fun zs H2=>match zs with|[y]=>r x1 y H2 Q|_=>False) I1 q1) fun ws s2 ⟨zs,H2,I2,rz,q2⟩=>?_
 cases rz with
 |nil=>exact q2.elim
 |cons a b=>
  cases b with
  |cons _ _=>exact q2.elim
  |nil=>exact hc pins s2 σ H2 _ _ _ _ Q I2 r1 a q2
def vQ(hc:X.calm=true):gf X (fun v u=>call (.builtin "min") [v] [("default",u)]) (fun x y H Q=>∃(p:Addr) (ns:Vu) (d:Int),x = .ref p/\y = .int d/\SqT X.K H p (ns.map V.int)/\∀M,yU ns d M->Q (.int M) H):=by
 intro pins s σ H x y v u Q I r1 r2 h
 obtain⟨p,ns,d,rfl,rfl,hp,q⟩:=h
 cases r1
 obtain⟨t,rfl⟩:=r2
 obtain⟨its,rv,pl,hz⟩:=I.tuple hp
 have hi:IntsAre its ns:=gF rv
 obtain⟨xs,e⟩:=hi.allInts.items
 have hns:ns=xs.toList.map (·.1):=by rw[<-hi.numsOf,<-nums_intItems,<-e]
 have hl:s.heap.IsTuple p its.toArray:=by
  obtain⟨o,ho,hc,n,hd⟩:=id pl
  exact⟨o,ho,hc,n,hd⟩
 rw[e]at hl
 have hlt:p < s.heap.objs.size:=by obtain⟨_,e,_⟩:=hl;exact Heap.lt_size e
 refine Md.qW (wpAny_pyIter_tuple hl ?_)
 refine⟨_,_,_,_,_,_,_,rfl,Walks.tuple (A:=X.A.in1) (I.ok.hd hc) _ p (Nat.ne_of_lt hlt) (intItems xs),⟨⟨_,Heap.get?_push_size _ rfl,rfl,rfl⟩,hl.push _⟩,(fun b hb=>?_),CmpOf.ints_lt (numAt xs) (fun _ _=>intItems_at),fun v h' tk hE hk=>?_⟩
 ·show b < (s.heap.push _).objs.size
  rw[Heap.size_push]
  simp only[List.mem_cons,List.not_mem_nil,or_false]at hb
  rcases hb with rfl|rfl
  ·exact Nat.lt_succ_self _
  ·exact Nat.lt_succ_of_lt hlt
 have hsz:(intItems xs).size=xs.size:=by simp[intItems]
 rw[hsz]at hE
 have hlen:ns.length=xs.size:=by rw[hns,List.length_map,Array.length_toList]
 have hk':∀b o,s.heap.get? b=some o->h'.get? b=some o:=fun b o e=>hk b o (fun hm=>by
  rcases List.mem_cons.mp hm with e1|hm
  ·exact absurd (e1▸Heap.lt_size e) (Nat.lt_irrefl _)
  ·cases hm) (Heap.get?_push_of_some _ e)
 rcases hE with⟨h0,rfl⟩|⟨h0,hv⟩
 ·exact⟨.int d,H,(I.kept (t':=tk) (h':=h') hk'),⟨_,rfl⟩,q _ (.inl ⟨List.eq_nil_of_length_eq_zero (by omega),rfl⟩)⟩
 ·obtain⟨t,rfl⟩:=intItems_at hv
  obtain⟨h1,h2⟩:=argBest_lt (numAt xs) (xs.size - 1)
  refine⟨.int _,H,(I.kept (t':=tk) (h':=h') hk'),⟨_,rfl⟩,q _ (.inr ⟨?_,fun a ha=>?_⟩)⟩
  ·rw[hns,numAt_eq];exact getD_mem (by rw[List.length_map,Array.length_toList];omega)
  ·rw[hns]at ha
   obtain⟨j,hj,rfl⟩:=mem_getD ha
   rw[List.length_map,Array.length_toList]at hj
   rw[<-numAt_eq];exact h2 j (by omega)
end
end L2
namespace L3
open PySem L2
section
variable {X:Cx} {e ed:Expr} {te td:aP} {x:Str} {p pos kp:Pos}
def pG:R3:=fun x y S Q=>match x,y with
 | .tup xs,.int d=>(match fb xs with|some ns=>∀M,yU ns d M->Q (.int M) S|none=>False)
 |_,_=>False
def yV(hc:X.calm=true):hU X (fun v u=>call (.builtin "min") [v] [("default",u)]) pG:=⟨fun pins s σ H x y v u Q I rx ry ⟨px,py,S,Q3,r1,r2,rS,q,k⟩=>by
 unfold pG at q
 split at q
 ·split at q
  ·rename_i eb
   cases r1 with
   |tup h rs=>
    cases r2
    have e2:=fZ rs eb
    subst e2
    exact vQ hc pins s σ H _ _ v u Q I rx ry ⟨_,_,_,rfl,rfl,h,fun M hM=>k _ S _ H (q M hM) (.int _) rS .refl⟩
  ·exact q.elim
 ·exact q.elim⟩
def C0{id:String}{r:R3}(hc:hU X (fun v u=>call (.builtin id) [v] [("default",u)]) r)(hm:X.mg x=none)(ha:bh X e te)(hd:bh X ed td)(hg:Gl X x:=by rfl)(hv:bootBuiltins x=some (.builtin id):=by decide +kernel)(hs:starEach [e] X.env=[(false,eval e X.env)]:=by rfl)
  (hnn:x ≠ "__name__":=by decide) (hdb:(x == ("__debug__":Str))=false:=by decide):bh X (.Call (.Name x p) [e] [⟨some "default",ed,kp⟩] pos) (ai r te td):=
 ⟨aM (qX hc.ok hg hm hv ha.ok hd.ok hs hnn hdb) fun _ _ _=>hW⟩
end
section
variable {X:Cx} {a b c:Expr} {ta tb tc:aP} {p pos:Pos}
end
end L3
namespace CW
open PySem L2 L3
def oq:bM:=(ap (ai kr (ai aQ (ai aj (v3 0) (c3 (.int 0))) (ai aj (v3 1) (c3 (.int 1)))) (ai aQ (ai aj (v3 1) (c3 (.int 0))) (ai aj (v3 0) (c3 (.int 1))))))
def iR(HB:aC):bM:=(ak (am 1 (ai aj (v3 0) (c3 (.int 0))))
  (ak (bU (aO (v3 0)) (.n 2) (cj (a8 (ad HB [(v3 1),(v3 2)])) (am 1 (v3 2)) br))
  (ap (v3 1))))
def gM(Gi:aC):bM:=(ak (am 1 (a7 [(c3 (.int 0)),(c3 (.int 1))]))
  (ak (bU (aO (v3 0)) (.n 2) (am 1 (ad Gi [(v3 1),(v3 2)])))
  (ap (v3 1))))
def gN(Gj G7:aC):bM:=(ap (ad Gj [(aw (kq (v3 0) (v3 1)) (.tp (.cons (.n 0) (.cons (.n 1) .nil))) bz (ad G7 [(a7 [(v3 0),(c3 (.int 1))]),(v3 1)]) 2 [])]))
def dk(Fv:aC):bM:=(ak (am 1 (c3 (.int 1)))
  (ak (bU (aO (v3 0)) (.n 2) (am 1 (ai d3 (ai aQ (v3 1) (ai aj (v3 2) (c3 (.int 1)))) (ad Fv [(v3 1),(ai aj (v3 2) (c3 (.int 1)))]))))
  (ap (v3 1))))
def eC:bM:=(ap (ai bo (ai bo (aw (aO (v3 0)) (.n 0) bz (mJ (a8 (ai (dG false) (ai aj (v3 0) (c3 (.int 0))) (v3 1))) (c3 (.int 1)) (c3 (.int 0))) 1 [3]) (ai aQ (cD [(c3 (.int 0))]) (v3 1))) (cD [(ai aj (v3 2) (v3 3))])))
def ff:bM:=(ak (am 3 (aw (ck (v3 1)) (.n 0) bz (mJ (a8 (ai (dG false) (v3 0) (v3 1))) (c3 (.int 1)) (c3 (.int 0))) 1 [2]))
  (ap (ai bo (ai bo (aw (aO (v3 0)) (.n 0) bz (jj df (ai aj (ai aj (v3 0) (c3 (.int 2))) (v3 1))) 1 [2]) (v3 3)) (cD [(c3 (.int 0))]))))
def iS:bM:=(ap (aw (gr (v3 0) (v3 1)) (.tp (.cons (.n 0) (.cons (.n 1) .nil))) bz (ai d3 (ai cH (ai aQ (v3 0) (ai aj (v3 3) (v3 4))) (ai aQ (ai aj (v3 5) (v3 4)) (v3 1))) (v3 2)) 2 [3,1,2,0]))
def cu:bM:=(ak (fS "Balance" "rows" (v3 1) (v3 0))
  (ak (fS "Balance" "held" (v3 2) (v3 0))
  (fS "Balance" "bottom" (c3 (.int 1)) (v3 0))))
def dI(GG:aC):bM:=(ak (am 3 (ai aj (ci "Balance" "rows" (v3 0)) (v3 1)))
  (ak (am 4 (aw (aO (ci "Balance" "rows" (v3 0))) (.n 0) bz (ad GG [(v3 0),(v3 1),(v3 2),(ci "Balance" "bottom" (v3 3))]) 1 [3,2,0]))
  (ak (fS "Balance" "rows" (ai bo (ai bo (bX (v3 4) pA (lG (v3 1))) (cD [(v3 3)])) (bX (v3 4) (lG (ai bo (v3 1) (c3 (.int 1)))) pA)) (v3 0))
  (ak (fS "Balance" "bottom" (ai aj (v3 3) (v3 2)) (v3 0))
  (iM (v3 2) (ci "Balance" "held" (v3 0)) (v3 1))))))
def cI:bM:=(ak (bU (gk (bX (ai aj (ci "Balance" "rows" (v3 0)) (jj df (c3 (.int 1)))) pA (lG (jj df (c3 (.int 1)))))) (.tp (.cons (.n 1) (.cons (.n 2) .nil))) (cj (a8 (ai kr (v3 2) (c3 (.int 0)))) (ap (v3 1)) br))
  (ap (c3 .non)))
def cV:bM:=(ak (am 4 (ai aQ (ai aj (ai aj (ci "Balance" "rows" (v3 0)) (v3 1)) (jj df (c3 (.int 1)))) (ai aj (ai aj (ci "Balance" "rows" (v3 0)) (v3 2)) (v3 3))))
  (ak (am 5 (ai aQ (ai aj (ai aj (ci "Balance" "rows" (v3 0)) (v3 2)) (jj df (c3 (.int 1)))) (ai aj (ai aj (ci "Balance" "rows" (v3 0)) (v3 1)) (v3 3))))
  (ap (ai vP (a7 [(v3 4),(ai aj (ci "Balance" "held" (v3 0)) (v3 1))]) (a7 [(v3 5),(ai aj (ci "Balance" "held" (v3 0)) (v3 2))])))))
def cJ(Fj:aC):bM:=(ak (am 2 (c3 .non))
  (ak (bU (ck (ah aS [(ci "Balance" "held" (v3 0))])) (.n 3) (cj (fK (a8 (ai jk (ai aj (ai aj (ci "Balance" "rows" (v3 0)) (v3 3)) (v3 1)) (c3 (.int 0)))) (jP (a8 (ai (ki false) (v3 2) (c3 .non))) (a8 (cR "Balance" "sooner" Fj (v3 0) [(v3 3),(v3 2),(v3 1)])))) (am 2 (v3 3)) br))
  (ap (v3 2))))
def cK(Dv:aC):bM:=(ak (am 4 (ai aQ (cD [(a7 [(c3 (.int 0)),(c3 (.int 1))])]) (v3 1)))
  (ak (bU (gr (ci "Balance" "rows" (v3 0)) (ci "Balance" "held" (v3 0))) (.tp (.cons (.n 5) (.cons (.n 6) .nil))) (cj (a8 (ai kr (v3 6) (v3 1))) (iM (ad Dv [(ai aQ (v3 3) (ai aj (v3 5) (v3 2))),(ci "Balance" "bottom" (v3 0))]) (v3 4) (v3 6)) br))
  (ap (v3 4))))
def bg:bM:=(ak (am 2 (aw (gk (v3 0)) (.tp (.cons (.n 0) (.cons (.n 1) .nil))) (fK (a8 (ai (dG false) (ai aj (v3 1) (c3 (.int 0))) (v3 2))) (a8 (ai s_ (ai pG (ai aj (v3 1) (c3 (.int 2))) (c3 (.int 0))) (c3 (.int 0))))) (v3 0) 2 [1]))
  (ap (ai aj (v3 2) (c3 (.int 0)))))
def fh(Ec FJ FS EW Ei Ej:aC):bM:=(ak (am 3 (ad Ec [(aw (aO (v3 0)) (.n 0) bz (ai aj (v3 0) (c3 (.int 1))) 1 [])]))
  (ak (am 4 (ai bo (aw (aO (v3 0)) (.n 0) bz (ai aQ (jj df (ai aj (ai aj (v3 0) (c3 (.int 1))) (c3 (.int 0)))) (ai d3 (v3 1) (ai aj (ai aj (v3 0) (c3 (.int 1))) (c3 (.int 1))))) 1 [3]) (ai aQ (cD [(c3 (.int 0))]) (ai bo (v3 1) (c3 (.int 1))))))
  (ak (am 6 (aw (ck (ah aS [(v3 2)])) (.n 0) bz (ad FJ [(v3 1),(v3 2),(v3 3),(v3 0)]) 1 [0,1,2]))
  (ak (du (mM "list" e9 (v3 6) [(aw (ck (v3 1)) (.n 0) bz (ad FS [(v3 1),(v3 2),(v3 0)]) 1 [0,1])]))
  (ak (am 7 (tD "Balance" EW [(ai bo (v3 6) (cD [(v3 4)])),(aw (ck (ah aS [(v3 6)])) (.n 0) bz (ai cH (ai bo (ah aS [(v3 1)]) (v3 0)) (ah aS [(v3 2)])) 1 [0,2])]))
  (ak (bU (ck (ah aS [(v3 2)])) (.n 5) (du (cR "Balance" "hold" Ei (v3 7) [(v3 5),(ad Ej [(v3 0),(v3 5)])])))
  (ap (v3 7))))))))
def gP(GH Gi Gk:aC):bM:=(ap (ad GH [(aw (aO (v3 0)) (.n 0) (a8 (ai (dG false) (ai aj (v3 0) (c3 (.int 0))) (v3 1))) (ad Gi [(ai aj (v3 0) (c3 (.int 1))),(ad Gk [(ai aj (v3 0) (c3 (.int 2))),(v3 2)])]) 1 [2,1])]))
def iT(DR:aC):bM:=(ak (am 3 (cR "Balance" "held_by" DR (v3 0) [(ah aS [(v3 1)]),(v3 2),(jj df (c3 (.int 1)))]))
  (ak (cj (a8 (ai kr (v3 2) (ah aS [(v3 1)]))) (iM (a7 [(c3 (.int 1)),(c3 (.int 1))]) (v3 3) (v3 2)) br)
  (ap (a7 [(c3 (.str "endless")),(ah aT [(v3 3)])]))))
def ot(Ec Dv Gm DR:aC):bM:=(ak (am 3 (ai aQ (ci "Balance" "bottom" (v3 0)) (ad Ec [(aw (aO (v3 1)) (.n 0) bz (ai aj (v3 0) (c3 (.int 1))) 1 [])])))
  (ak (am 4 (ai aj (ci "Balance" "rows" (v3 0)) (jj df (c3 (.int 1)))))
  (ak (am 5 (ah aT [(aw (aO (bX (v3 4) (lG (ah aS [(v3 1)])) (lG (jj df (c3 (.int 1)))))) (.n 0) bz (ad Dv [(v3 0),(v3 1)]) 1 [3])]))
  (ak (am 6 (ah aT [(aw (ck (ah aS [(v3 2)])) (.n 0) bz (ad Gm [(v3 1),(v3 2),(v3 0)]) 1 [1,5])]))
  (ak (am 7 (ah aT [(cR "Balance" "held_by" DR (v3 0) [(ah aS [(v3 1)]),(jj df (c3 (.int 1))),(c3 (.int 1))])]))
  (ap (a7 [(c3 (.str "most")),(ad Dv [(ai aj (v3 4) (jj df (c3 (.int 1)))),(v3 3)]),(v3 7),(v3 6),(v3 5)])))))))
def iU(FT Ep E5 GI Ei HC:aC):bM:=(ak (am 2 (ah aS [(ai aj (ai aj (v3 0) (c3 (.int 0))) (c3 (.int 2)))]))
  (ak (am 3 (ad FT [(v3 0),(v3 2),(v3 1)]))
  (ak (am 4 (cR "Balance" "gaining" Ep (v3 3) []))
  (ak (iN (a8 (ai (ki true) (v3 4) (c3 .non))) (ak (am 5 (cR "Balance" "used_up" E5 (v3 3) [(v3 4)]))
  (ak (cj (a8 (ai (ki false) (v3 5) (c3 .non))) (ap (ad GI [(v3 3),(v3 0),(v3 4)])) br)
  (ak (du (cR "Balance" "hold" Ei (v3 3) [(v3 5),(v3 4)]))
  (am 4 (cR "Balance" "gaining" Ep (v3 3) []))))))
  (ap (ad HC [(v3 3),(v3 0),(v3 1)]))))))
def cv(DW:aC):bM:=(ak (cj (jP (cU (a8 (ah iK [(v3 0),(c3 (.ty "tuple"))]))) (a8 (ai (dG true) (ah aS [(v3 0)]) (c3 (.int 2))))) (ap (c3 (.bl false))) br)
  (ak (cj (cU (a8 (ah qK [(aw (aO (v3 0)) (.n 0) bz (dF (ah iK [(v3 0),(c3 (.ty "int"))]) (kM (ah iK [(v3 0),(c3 (.ty "bool"))]))) 1 [])]))) (ap (c3 (.bl false))) br)
  (ap (dF (ai jk (ai aj (v3 0) (c3 (.int 1))) (c3 (.int 0))) (ai (dG false) (ad DW [(ai aj (v3 0) (c3 (.int 0))),(ai aj (v3 0) (c3 (.int 1)))]) (v3 0))))))
def bE(DI:aC):bM:=(ak (cj (jP (cU (a8 (ah iK [(v3 0),(c3 (.ty "tuple"))]))) (a8 (ai (dG true) (ah aS [(v3 0)]) (v3 1)))) (ap (c3 (.bl false))) br)
  (ap (ah qK [(aw (aO (v3 0)) (.n 0) bz (dF (ad DI [(v3 0)]) (ai s_ (ai aj (v3 0) (c3 (.int 0))) (c3 (.int 0)))) 1 [])])))
def gQ(DO:aC):bM:=(ak (am 2 (a7 [(c3 (.int 0)),(c3 (.int 1))]))
  (ak (bU (gr (v3 0) (v3 1)) (.tp (.cons (.n 3) (.cons (.n 4) .nil))) (am 2 (ad DO [(v3 2),(a7 [(ai aQ (v3 3) (ai aj (v3 4) (c3 (.int 0)))),(ai aj (v3 4) (c3 (.int 1)))])])))
  (ap (v3 2))))
end CW
namespace CW
open PySem L2 L3 Wd
open C
structure Sz (i:Int):Prop where
 lt:i.natAbs < 2 ^ 4000
def pI{k:Int}{n:Nat}(h:k.natAbs < 2 ^ n):Builtin.Int.intBits k<=n:=by
 unfold Builtin.Int.intBits
 split
 ·exact Nat.zero_le _
 ·rename_i hz
  have h0:k.natAbs≠0:=by intro e;apply hz;simp;omega
  have:k.natAbs.log2 < n:=(Nat.log2_lt h0).mpr h
  omega
def Sz.mul{a b:Int}(h:Sz a)(g:Sz b):IntMulOk a b:=by
 have h1:=pI h.lt
 have h2:=pI g.lt
 unfold IntMulOk
 have e:Builtin.Int.intTooBig ((Builtin.Int.intBits a:Int)+(Builtin.Int.intBits b:Int))=false:=by
  unfold Builtin.Int.intTooBig
  have:(bitsLine:Int)=2 ^ 27:=rfl
  simp only[gt_iff_lt,decide_eq_false_iff_not,Int.not_lt]
  omega
 rw[e];simp
def Sz.div{a b:Int}(h:b≠0)(g:Sz b):jR a b:=⟨h,Nat.lt_trans g.lt (Nat.pow_lt_pow_right (by decide) (by decide))⟩
def Sz.le{a b:Int}(h:Sz b)(g:a.natAbs<=b.natAbs):Sz a:=⟨Nat.lt_of_le_of_lt g h.lt⟩
noncomputable def dC:Nat:=2 ^ 2000
def jA:0 < dC:=Nat.pow_pos (by decide)
def yW:dC < 2 ^ 4000:=Nat.pow_lt_pow_right (by decide) (by decide)
def bv{a:Int}(h:a.natAbs<=dC):Sz a:=⟨Nat.lt_of_le_of_lt h yW⟩
def tH{a b:Int}(h:a.natAbs<=dC)(g:b.natAbs < dC):Sz (a * b):=by
 refine⟨?_⟩
 rw[Int.natAbs_mul]
 have h1:=Nat.mul_lt_mul_of_le_of_lt h g jA
 have e:dC * dC=2 ^ 4000:=by unfold dC;rw[<-Nat.pow_add]
 rw[e]at h1
 exact h1
noncomputable def cq(Q n:Int):PV:=.tup [.int (M3.aH n Q),.int (M3.aG n Q)]
def gv{Q R n m:Int}(hQ:0 < Q)(hR:0 < R)(e:n * R=m * Q):cq Q n=cq R m:=by
 have L:=M3.dX (t:=n) (b:=Q) (by omega)
 have w:=M3.a_ (t:=n) (b:=Q) (by omega)
 obtain⟨e1,e2⟩:=M3.jN (x:=m) (y:=R) L hR (by
  refine M3.yh (g:=Q) (by omega) ?_
  rw[Int.mul_right_comm,<-e,Int.mul_right_comm n,<-w]
  grind)
 unfold cq
 rw[e1,e2]
def ou{x y:Int}(L:M3.zk x y):PV.tup [.int x,.int y]=cq y x:=by
 obtain⟨e1,e2⟩:=M3.sG L
 unfold cq;rw[e1,e2]
def iV(n:Int):PV.tup [.int n,.int 1]=cq 1 n:=ou ⟨by decide,Int.gcd_one_right _⟩
def iW{Q n:Int}(hQ:0 < Q):(M3.aH n Q < 0↔n < 0)/\(0 < M3.aH n Q↔0 < n)/\(M3.aH n Q=0↔n=0):=by
 have w:=M3.a_ (t:=n) (b:=Q) (by omega)
 have L:=(M3.dX (t:=n) (b:=Q) (by omega)).pos
 have a1:M3.aH n Q < 0->n < 0:=fun h=>by
  have:=Int.mul_neg_of_neg_of_pos h hQ
  rw[w]at this
  exact Int.not_le.mp fun hn=>by have:=Int.mul_nonneg hn (show 0<=M3.aG n Q by omega);omega
 have a2:0 < M3.aH n Q->0 < n:=fun h=>by
  have:=Int.mul_pos h hQ
  rw[w]at this
  exact Int.not_le.mp fun hn=>by have:=Int.mul_nonneg (show 0 <= -n by omega) (show 0<=M3.aG n Q by omega);rw[Int.neg_mul]at this;omega
 have a3:M3.aH n Q=0->n=0:=fun h=>by
  rw[h,Int.zero_mul]at w
  rcases Int.mul_eq_zero.mp w.symm with h|h
  ·exact h
  ·omega
 refine⟨⟨a1,fun h=>?_⟩,⟨a2,fun h=>?_⟩,⟨a3,fun h=>?_⟩⟩<;>omega
structure Fq (Q n:Int):Prop where
 q0:0 < Q
 q1:Q.natAbs < dC
 n1:n.natAbs < dC
def Fq.sz{Q n:Int}(h:Fq Q n):(M3.aH n Q).natAbs<=n.natAbs/\(M3.aG n Q).natAbs<=Q.natAbs/\0 < M3.aG n Q:=by
 have q0:=h.q0
 have:=M3.hJ (t:=n) (b:=Q) (T:=n.natAbs) (B:=Q.natAbs) (by omega) (by omega) (by omega) (by omega) (by omega) (by omega) (by omega)
 omega
abbrev jB(w:aC):Prop:=∀{S:av} {a b:Int} {Q:bP} {E:cC},0<=b->Q (.int (Int.gcd a b)) S->w [.int a,.int b] S Q E
def ow:jB (bc 3 jY):=by
 intro S a b Q E hb k
 unfold jY
 refine eW ?_
 rw[show ar 3 [PV.int a,PV.int b]=[some (.int a),some (.int b),none] from rfl]
 refine ax fun N hN=>?_
 refine⟨fun n σ S'=>S'=S/\∃(x y:Int) (z:Option PV),σ=[some (.int x),some (.int y),z]/\0<=y/\Int.gcd x y=Int.gcd a b/\y.toNat=n,⟨_,rfl,a,b,none,rfl,hb,rfl,rfl⟩,?_⟩
 rintro n σ S' ⟨rfl,x,y,z,rfl,hy,hg,rfl⟩
 walk_at "x"
 simp only[Bool.true_bne,Bool.not_eq_true',decide_eq_false_iff_not]
 split
 ·rename_i hp
  refine⟨fun σ' G6=>G6=S'/\∃(x' y':Int) (z':Option PV),σ'=[some (.int x'),some (.int y'),z']/\0<=y'/\Int.gcd x' y'=Int.gcd a b/\y'.toNat < y.toNat,?_,?_⟩
  ·rintro σ' G6 ⟨rfl,x',y',z',rfl,h2,h3,h4⟩
   exact⟨_,h4,rfl,x',y',z',rfl,h2,h3,rfl⟩
  ·have e:x.fmod y=x % y:=jm hy
   have l1:=Int.emod_nonneg x (b:=y) hp
   have l2:=Int.emod_lt_of_pos x (show 0 < y by omega)
   refine⟨hp,rfl,y,x.fmod y,_,rfl,by omega,?_,by omega⟩
   rw[M3.mG];exact hg
 ·rename_i hp
  have HP:y=0:=by omega
  subst HP
  refine hN _ _ ?_
  walk_at "x"
  have JD:(if x < 0 then -x else x)=(Int.gcd a b:Int):=by
   rw[<-hg,Int.gcd_zero_right]
   split<;>omega
  rw[JD]
  exact k
abbrev jn(w:aC):Prop:=∀{S:av} {t b:Int} {Q:bP} {E:cC},0 < b->Sz b->Q (cq b t) S->w [.int t,.int b] S Q E
def tI{xc:aC}(Fk:jB xc):jn (bc 3 (gK xc)):=by
 intro S t b Q E hb hs k
 unfold gK
 refine eW ?_
 rw[show ar 3 [PV.int t,PV.int b]=[some (.int t),some (.int b),none] from rfl]
 refine ax fun N hN=>?_
 walk_at "x"
 refine Fk (by omega) (hN _ _ (ax fun N hN=>?_))
 walk_at "x"
 rw[if_neg (by rw[decide_eq_true_eq];omega)]
 refine hN _ _ ?_
 walk_at "x"
 have gp:(0:Int) < (Int.gcd t b:Int):=Int.natCast_pos.mpr (M3.e8 (by omega))
 have gl:=M3.nX (t:=t) (b:=b) (by omega)
 have cd:∀z,jR z (Int.gcd t b:Int):=fun z=>Sz.div (by omega) (hs.le (by omega))
 refine⟨cd _,cd _,?_⟩
 have d1:=(M3.mF (t:=t) (b:=b) (by omega))
 rw[if_neg (by omega)]at d1
 rw[d1.1,d1.2]
 exact k
abbrev vR(w:aC):Prop:=jn w
def vS{xl:aC}(h:jx xl):vR xl:=fun hb hs k=>h hb (Nat.lt_trans hs.lt (Nat.pow_lt_pow_right (by decide) (by decide))) k
def tJ{Q n m:Int}(h:Fq Q n)(g:Fq Q m):0 < M3.aG n Q * M3.aG m Q/\Sz (M3.aG n Q * M3.aG m Q)/\cq (M3.aG n Q * M3.aG m Q) (M3.aH n Q * M3.aG m Q+M3.aH m Q * M3.aG n Q)=cq Q (n+m):=by
 have a:=h.sz
 have c:=g.sz
 have q0:=h.q0
 have p:=Int.mul_pos a.2.2 c.2.2
 refine⟨p,tH (by have:=h.q1;omega) (by have:=h.q1;omega),gv p q0 ?_⟩
 have w1:=M3.a_ (t:=n) (b:=Q) (by omega)
 have w2:=M3.a_ (t:=m) (b:=Q) (by omega)
 calc (M3.aH n Q * M3.aG m Q+M3.aH m Q * M3.aG n Q) * Q=(M3.aH n Q * Q) * M3.aG m Q+(M3.aH m Q * Q) * M3.aG n Q:=by grind
  _=_:=by rw[w1,w2];grind
def Fq.ok{Q n R m:Int}(h:Fq Q n)(g:Fq R m):IntMulOk (M3.aH n Q) (M3.aG m R)/\IntMulOk (M3.aG n Q) (M3.aG m R)/\IntMulOk (M3.aH n Q) (M3.aH m R):=by
 have a:=h.sz
 have c:=g.sz
 have:=h.q1;have:=g.q1;have:=h.n1;have:=g.n1
 exact⟨(bv (by omega)).mul (bv (by omega)),(bv (by omega)).mul (bv (by omega)),(bv (by omega)).mul (bv (by omega))⟩
abbrev pJ(w:aC):Prop:=∀{S:av} {B n m:Int} {Q:bP} {E:cC},Fq B n->Fq B m->Q (cq B (n+m)) S->w [cq B n,cq B m] S Q E
def AD{xf:aC}{S:av}{B n m:Int}{Q:bP}{E:cC}(h:IntMulOk (M3.aH n B) (M3.aG m B)/\IntMulOk (M3.aH m B) (M3.aG n B)/\IntMulOk (M3.aG n B) (M3.aG m B))(k:xf [.int (M3.aH n B * M3.aG m B+M3.aH m B * M3.aG n B),.int (M3.aG n B * M3.aG m B)] S Q ga):bc 2 (fP xf) [cq B n,cq B m] S Q E:=by
 unfold fP
 refine eW ?_
 rw[show ar 2 [cq B n,cq B m]=[some (.tup [.int (M3.aH n B),.int (M3.aG n B)]),some (.tup [.int (M3.aH m B),.int (M3.aG m B)])] from rfl]
 walk_at "x"
 simp only[gL,mU]
 exact⟨h.1,h.2.1,h.2.2,k⟩
def tK{xf:aC}(DH:jn xf):pJ (bc 2 (fP xf)):=by
 intro S B n m Q E h g k
 obtain⟨p1,p2,p3⟩:=tJ h g
 exact AD ⟨(h.ok g).1,(g.ok h).1,(h.ok g).2.1⟩ (DH p1 p2 (by rw[p3];exact k))
abbrev tL(w:aC):Prop:=∀{S:av} {i B n:Int} {Q:bP} {E:cC},i.natAbs < dC->Fq B n->Q (cq B (i * n)) S->w [.tup [.int i,.int 1],cq B n] S Q E
def qY{xf:aC}(DH:jn xf):tL (bc 2 (lN xf)):=by
 intro S i B n Q E hi h k
 unfold lN
 refine eW ?_
 rw[show ar 2 [.tup [.int i,.int 1],cq B n]=[some (.tup [.int i,.int 1]),some (.tup [.int (M3.aH n B),.int (M3.aG n B)])] from rfl]
 have a:=h.sz
 have:=h.q1;have:=h.n1;have q0:=h.q0
 simp only[ap,ad,ag,ai,v3,lk,c3,aj,gL,mU,aQ]
 have one:(1:Int).natAbs<=dC:=jA
 refine⟨(bv (by omega)).mul (bv (by omega)),(bv one).mul (bv (by omega)),?_⟩
 rw[Int.one_mul]
 refine DH a.2.2 (bv (by omega)) ?_
 rw[gv (m:=i * n) a.2.2 q0 (by have w:=M3.a_ (t:=n) (b:=B) (by omega);rw[Int.mul_assoc,w];grind)]
 exact k
abbrev wJ(w:aC):Prop:=∀{S:av} {B n m:Int} {Q:bP} {E:cC},Fq B n->Fq B m->Q (.bl (decide (n < m))) S->w [cq B n,cq B m] S Q E
def tM:wJ (bc 2 oq):=by
 intro S B n m Q E h g k
 unfold oq
 refine eW ?_
 rw[show ar 2 [cq B n,cq B m]=[some (.tup [.int (M3.aH n B),.int (M3.aG n B)]),some (.tup [.int (M3.aH m B),.int (M3.aG m B)])] from rfl]
 simp only[ap,ai,v3,lk,c3,aj,gL,mU,aQ,kr,bx]
 refine⟨(h.ok g).1,(g.ok h).1,?_⟩
 have q0:=h.q0
 have w1:=M3.a_ (t:=n) (b:=B) (by omega)
 have w2:=M3.a_ (t:=m) (b:=B) (by omega)
 have b1:=h.sz.2.2
 have b2:=g.sz.2.2
 have e:(M3.aH n B * M3.aG m B < M3.aH m B * M3.aG n B)↔n < m:=by
  have pp:=Int.mul_pos b1 b2
  have e1:(M3.aH n B * M3.aG m B) * B=n * (M3.aG n B * M3.aG m B):=by rw[Int.mul_right_comm,w1];grind
  have e2:(M3.aH m B * M3.aG n B) * B=m * (M3.aG n B * M3.aG m B):=by rw[Int.mul_right_comm,w2];grind
  constructor
  ·intro hlt
   have:=Int.mul_lt_mul_of_pos_right hlt q0
   rw[e1,e2]at this
   exact Int.lt_of_mul_lt_mul_right this (by omega)
  ·intro hlt
   have:=Int.mul_lt_mul_of_pos_right hlt pp
   rw[<-e1,<-e2]at this
   exact Int.lt_of_mul_lt_mul_right this (by omega)
 rw[show decide (M3.aH n B * M3.aG m B < M3.aH m B * M3.aG n B)=decide (n < m)from decide_eq_decide.mpr e]
 exact k
abbrev jo(w:aC):Prop:=∀{S:av} {a b c d:Int} {Q:bP} {E:cC},0 < b->0 < d->a.natAbs<=dC->b.natAbs < dC->c.natAbs<=dC->d.natAbs < dC->Q (cq (b * d) (a * d+c * b)) S->w [.tup [.int a,.int b],.tup [.int c,.int d]] S Q E
def yX{xf:aC}{S:av}{a b c d:Int}{Q:bP}{E:cC}(h:IntMulOk a d/\IntMulOk c b/\IntMulOk b d)(k:xf [.int (a * d+c * b),.int (b * d)] S Q ga):bc 2 (fP xf) [.tup [.int a,.int b],.tup [.int c,.int d]] S Q E:=by
 unfold fP
 refine eW ?_
 rw[show ar 2 [PV.tup [.int a,.int b],.tup [.int c,.int d]]=[some (.tup [.int a,.int b]),some (.tup [.int c,.int d])] from rfl]
 walk_at "x"
 simp only[gL,mU]
 exact⟨h.1,h.2.1,h.2.2,k⟩
def tN{xf:aC}(DH:jn xf):jo (bc 2 (fP xf)):=by
 intro S a b c d Q E hb hd h1 h2 h3 h4 k
 exact yX ⟨(bv h1).mul (bv (by omega)),(bv h3).mul (bv (by omega)),(bv (by omega)).mul (bv (by omega))⟩ (DH (Int.mul_pos hb hd) (tH (by omega) h4) k)
def qZ{xf:aC}(DH:vR xf):jo (bc 2 (fQ xf)):=by
 have e:fQ xf=fP xf:=rfl
 rw[e]
 intro S a b c d Q E hb hd h1 h2 h3 h4 k
 exact tN (fun hb hs k=>DH hb hs k) hb hd h1 h2 h3 h4 k
noncomputable def eE(ns:Vu):Nat:=(ns.map Int.natAbs).sum
def im(ns:Vu):ns.sum.natAbs<=eE ns:=by
 induction ns with
 |nil=>simp[eE]
 |cons a r ih=>simp only[eE,List.map_cons,List.sum_cons]at *;have:=Int.natAbs_add_le a r.sum;omega
def iX(ns:Vu)(k:Nat):eE (ns.take k)<=eE ns:=by
 rw[<-List.take_append_drop k ns]
 simp only[eE,List.map_append,List.sum_append]
 rw[List.take_append_drop]
 simp only[List.map_take,List.map_drop]
 have:=List.take_append_drop k (ns.map Int.natAbs)
 have h2:=congrArg List.sum this
 rw[List.sum_append]at h2
 omega
def mY{ns:Vu}{a:Int}(h:a∈ns):a.natAbs<=eE ns:=by
 induction ns with
 |nil=>cases h
 |cons x r ih=>
  simp only[eE,List.map_cons,List.sum_cons]at *
  rcases List.mem_cons.mp h with rfl|h
  ·omega
  ·have:=ih h;omega
abbrev AE(w:aC):Prop:=∀{S:av} {p:Addr} {B:Int} {ns:Vu} {Q:bP} {E:cC},0 < B->B.natAbs < dC->eE ns < dC->S p=some (.lst (ns.map (cq B)))->Q (cq B ns.sum) S->w [.ref p] S Q E
def vT{xp:aC}(Dt:pJ xp):AE (bc 3 (gM xp)):=by
 intro S p B ns Q E hB GZ ha hp k
 unfold gM
 refine eW ?_
 rw[show ar 3 [PV.ref p]=[some (.ref p),none,none] from rfl]
 refine ax fun N hN=>?_
 walk_at "x"
 refine hN _ _ (ax fun N hN=>?_)
 simp only[bU,aO,v3,lk,cf,hp]
 refine bp (fun done σ S'=>S'=S/\done.length<=ns.length/\∃x2:Option PV,σ=[some (.ref p),some (cq B (ns.take done.length).sum),x2]) ⟨rfl,Nat.zero_le _,_,by rw[iV,gv (Q:=1) (R:=B) (n:=0) (m:=0) (by decide) hB (by simp)];rfl⟩ (fun _ _ _ ⟨e,_⟩=>by rw[e];exact hp) ?_ ?_
 ·rintro done x rest σ S' K e ⟨rfl,hl,x2,rfl⟩ hK
  have hget:(ns.map (cq B))[done.length]?=some x:=by rw[e];simp
  obtain⟨n,hn,rfl⟩:∃n,ns[done.length]?=some n/\cq B n=x:=by rw[List.getElem?_map]at hget;exact Option.map_eq_some_iff.mp hget
  have hlt:done.length < ns.length:=(List.getElem?_eq_some_iff.mp hn).1
  simp only[Tg.put,List.set_cons_succ,List.set_cons_zero,am,ad,ag,v3,lk]
  have t1:=im (ns.take done.length)
  have t2:=iX ns done.length
  have t3:=mY (List.mem_of_getElem? hn)
  refine Dt ⟨hB,GZ,by omega⟩ ⟨hB,GZ,by omega⟩ (hK _ _ ⟨rfl,by rw[List.length_append];exact hlt,some (cq B n),?_⟩)
  rw[List.length_append,List.length_singleton,List.take_succ,hn]
  simp
 ·rintro σ S' ⟨rfl,hl,x2,rfl⟩
  refine hN _ _ ?_
  rw[List.length_map,List.take_length]
  walk_at "x"
  exact k
noncomputable def fT:List Int->List Int->Int
 |a::r,b::s=>a * b+fT r s
 |_,_=>0
noncomputable def aW(is ns:Vu):List Int:=List.zipWith (· * ·) is ns
theorem dD:∀(is ns:Vu),(aW is ns).sum=fT is ns
 |[],_=>by simp[aW,fT]
 |_::_,[]=>by simp[aW,fT]
 |a::r,b::s=>by
  have:=dD r s
  simp only[aW,List.zipWith_cons_cons,List.sum_cons,fT]at *
  omega
abbrev tO(w:aC):Prop:=∀{S:av} {B:Int} {is ns:Vu} {Q:bP} {E:cC},0 < B->B.natAbs < dC->eE (aW is ns) < dC->is.length<=1000->is.length=ns.length->(∀i∈is,i.natAbs < dC)->(∀n∈ns,n.natAbs < dC)->(∀S',Ext S S'->Q (cq B (fT is ns)) S')->w [.tup (is.map PV.int),.tup (ns.map (cq B))] S Q E
def q9{xt xm:aC}(HD:AE xt)(GQ:tL xm):tO (bc 2 (gN xt xm)):=by
 intro S B is ns Q E hB GZ ha hl he hi hn k
 unfold gN
 refine eW ?_
 rw[show ar 2 [.tup (is.map PV.int),.tup (ns.map (cq B))]=[some (.tup (is.map PV.int)),some (.tup (ns.map (cq B)))] from rfl]
 simp only[ap,ad,ag,aw,kq,v3,lk]
 refine bK (fun done ys S'=>S'=S/\done.length<=is.length/\ys=((aW is ns).take done.length).map (cq B)) ⟨rfl,Nat.zero_le _,rfl⟩ ?_ ?_ ?_
 ·rintro done ys S' ⟨rfl,h,rfl⟩
  exact⟨trivial,aV (by rw[List.length_map,List.length_take];omega)⟩
 ·rintro done x rest ys S' K e ⟨rfl,h,rfl⟩ hK
  have hget:(aL (is.map PV.int) (ns.map (cq B)))[done.length]?=some x:=by rw[e];simp
  unfold aL at hget
  rw[List.getElem?_map]at hget
  obtain⟨⟨u,v⟩,hz,rfl⟩:=Option.map_eq_some_iff.mp hget
  obtain⟨h1,h2⟩:=List.getElem?_zip_eq_some.mp hz
  rw[List.getElem?_map]at h1 h2
  obtain⟨i,hi1,rfl⟩:=Option.map_eq_some_iff.mp h1
  obtain⟨n,hn1,rfl⟩:=Option.map_eq_some_iff.mp h2
  have hlt:done.length < is.length:=(List.getElem?_eq_some_iff.mp hi1).1
  simp only[Tg.put,Tg.DV,bV,List.reduceReplicate,List.map_nil,List.append_nil,List.set_cons_zero,List.set_cons_succ,bz,if_true,ad,ag,a7,v3,lk,c3]
  refine GQ (hi i (List.mem_of_getElem? hi1)) ⟨hB,GZ,hn n (List.mem_of_getElem? hn1)⟩ (hK _ _ ⟨rfl,by rw[List.length_append];exact hlt,?_⟩)
  have hp:(aW is ns)[done.length]?=some (i * n):=by
   unfold aW
   rw[List.getElem?_zipWith,hi1,hn1]
  rw[List.length_append,List.length_singleton,List.take_succ,hp]
  simp
 ·rintro ys S' ⟨rfl,h,rfl⟩ p hp
  have lz:(aL (is.map PV.int) (ns.map (cq B))).length=(aW is ns).length:=by
   unfold aL aW
   simp
  rw[lz,List.take_length]
  refine HD hB GZ ha aa ?_
  rw[dD]
  exact k _ (.new hp)
structure Cl where
 who:Option Nat
 x:Int
 y:Nat
 eff:List Int
noncomputable def mZ:Option Nat->PV
 |none=>.non
 |some d=>.int (d:Int)
noncomputable def Cl.pv(c:Cl):PV:=.tup [mZ c.who,.tup [.int c.x,.int (c.y:Int)],.tup (c.eff.map PV.int)]
def lR{o:Option Nat}{d:Nat}{S:av}{Q:bP}(q:Q (.bl (decide (o=some d))) S):dG false (mZ o) (.int (d:Int)) S Q:=by
 cases o with
 |none=>
  unfold dG
  exact⟨.none,.int d,.non,.int _,by simp[PyData.canLay0],by simp[PyData.canLay0],by simp[PyData.depth],by simpa [PyData.eqv]using q⟩
 |some e=>
  show Q (.bl (false != decide ((e:Int)=(d:Int)))) S
  rw[Bool.false_bne,show decide ((e:Int)=(d:Int))=decide (some e=some d)from decide_eq_decide.mpr ⟨fun h=>by rw[Int.ofNat.inj h],fun h=>by cases h;rfl⟩]
  exact q
abbrev wK(w:aC):Prop:=∀{S:av} {p:Addr} {B:Int} {ns:Vu} {Q:bP} {E:cC},0 < B->B.natAbs < dC->(∀n∈ns,n.natAbs < dC)->ns≠[]->S p=some (.lst (ns.map (cq B)))->(∀M,M∈ns->(∀a∈ns,a<=M)->Q (cq B M) S)->w [.ref p] S Q E
def tP{xl:aC}(G8:wJ xl):wK (bc 3 (iR xl)):=by
 intro S p B ns Q E hB GZ hn hne hp k
 unfold iR
 refine eW ?_
 rw[show ar 3 [PV.ref p]=[some (.ref p),none,none] from rfl]
 obtain⟨n0,r0,rfl⟩:=List.exists_cons_of_ne_nil hne
 refine ax fun N hN=>?_
 have e0:Eh ((n0::r0).map (cq B)) 0=some (cq B n0):=by simp only[List.map_cons,gL]
 simp only[am,ai,v3,lk,c3,aj,hp,e0,List.set_cons_succ,List.set_cons_zero]
 refine hN _ _ (ax fun N hN=>?_)
 simp only[bU,aO,v3,lk,cf,hp]
 refine bp (fun done σ S'=>S'=S/\∃M x2,M∈n0::r0/\σ=[some (.ref p),some (cq B M),x2]/\∀a∈(n0::r0).take done.length,a<=M) ⟨rfl,n0,_,by simp,rfl,by simp⟩ (fun _ _ _ ⟨e,_⟩=>by rw[e];exact hp) ?_ ?_
 ·rintro done x rest σ S' K e ⟨rfl,M,x2,hM,rfl,hd⟩ hK
  have hget:((n0::r0).map (cq B))[done.length]?=some x:=by rw[e];simp
  obtain⟨n,hn1,rfl⟩:∃n,(n0::r0)[done.length]?=some n/\cq B n=x:=by rw[List.getElem?_map]at hget;exact Option.map_eq_some_iff.mp hget
  have hm:=List.mem_of_getElem? hn1
  have tk:∀a∈(n0::r0).take (done++[cq B n]).length,a∈(n0::r0).take done.length\/a=n:=fun a ha=>by
   rw[List.length_append,List.length_singleton,List.take_succ,hn1,List.mem_append]at ha
   rcases ha with ha|ha
   ·exact .inl ha
   ·exact .inr (by simpa using ha)
  simp only[Tg.put,List.set_cons_succ,List.set_cons_zero,cj,a8,ad,ag,v3,lk]
  refine G8 ⟨hB,GZ,hn M hM⟩ ⟨hB,GZ,hn n hm⟩ ?_
  by_cases hlt:M < n
  ·rw[decide_eq_true hlt]
   simp only[if_true,am,v3,lk,List.set_cons_succ,List.set_cons_zero]
   exact hK _ _ ⟨rfl,n,_,hm,rfl,fun a ha=>(tk a ha).elim (fun h=>by have:=hd a h;omega) (fun h=>by omega)⟩
  ·rw[decide_eq_false hlt]
   simp only[Bool.false_eq_true,if_false]
   exact hK _ _ ⟨rfl,M,_,hM,rfl,fun a ha=>(tk a ha).elim (fun h=>hd a h) (fun h=>by omega)⟩
 ·rintro σ S' ⟨rfl,M,x2,hM,rfl,hd⟩
  rw[List.length_map,List.take_length]at hd
  refine hN _ _ ?_
  walk_at "x"
  exact k M hM hd
noncomputable def q_(f:Nat)(ys:List Nat):Nat:=ys.foldl Nat.lcm f
theorem j0(L:Nat)(hL:0 < L):∀(ys:List Nat) (f:Nat),0 < f->f ∣ L->(∀y∈ys,0 < y/\y ∣ L)->0 < q_ f ys/\q_ f ys ∣ L/\f ∣ q_ f ys/\∀y∈ys,y ∣ q_ f ys
 |[],f,h0,h1,_=>⟨h0,h1,Nat.dvd_refl _,fun y h=>by cases h⟩
 |y::r,f,h0,h1,h=>by
  have hy:=h y (by simp)
  have ih:=j0 L hL r (Nat.lcm f y) (Nat.lcm_pos h0 hy.1) (Nat.lcm_dvd h1 hy.2) fun z hz=>h z (by simp[hz])
  refine⟨ih.1,ih.2.1,Nat.dvd_trans (Nat.dvd_lcm_left f y) ih.2.2.1,fun z hz=>?_⟩
  rcases List.mem_cons.mp hz with rfl|hz
  ·exact Nat.dvd_trans (Nat.dvd_lcm_right f z) ih.2.2.1
  ·exact ih.2.2.2 z hz
noncomputable def dJ(c:Cl):PV:=.tup [.int c.x,.int (c.y:Int)]
def tQ(f y:Nat):((f:Int) * (y:Int)).fdiv (Int.gcd (f:Int) (y:Int):Int)=(Nat.lcm f y:Int):=by
 rw[Int.gcd_natCast_natCast,Int.fdiv_eq_ediv_of_nonneg _ (by omega)]
 show _=((f * y / Nat.gcd f y:Nat):Int)
 rw[Int.natCast_ediv,Int.natCast_mul]
abbrev lS(w:aC):Prop:=∀{S:av} {p:Addr} {cs:List Cl} {Q:bP} {E:cC},(∀c∈cs,0 < c.y/\c.y ∣ 2520)->S p=some (.lst (cs.map dJ))->Q (.int (q_ 1 (cs.map (·.y)):Int)) S->w [.ref p] S Q E
def gR{a:Nat}(h:a ∣ 2520):a<=2520:=Nat.le_of_dvd (by decide) h
def F9{xc:aC}(Fk:jB xc):lS (bc 3 (dk xc)):=by
 intro S p cs Q E hc hp k
 unfold dk
 refine eW ?_
 rw[show ar 3 [PV.ref p]=[some (.ref p),none,none] from rfl]
 refine ax fun N hN=>?_
 walk_at "x"
 refine hN _ _ (ax fun N hN=>?_)
 simp only[bU,aO,v3,lk,cf,hp]
 refine bp (fun done σ S'=>S'=S/\∃x2,σ=[some (.ref p),some (.int (q_ 1 ((cs.take done.length).map (·.y)):Int)),x2]) ⟨rfl,_,rfl⟩ (fun _ _ _ ⟨e,_⟩=>by rw[e];exact hp) ?_ ?_
 ·rintro done x rest σ S' K e ⟨rfl,x2,rfl⟩ hK
  have hget:(cs.map dJ)[done.length]?=some x:=by rw[e];simp
  obtain⟨c,hc1,rfl⟩:∃c,cs[done.length]?=some c/\dJ c=x:=by rw[List.getElem?_map]at hget;exact Option.map_eq_some_iff.mp hget
  have hy:=hc c (List.mem_of_getElem? hc1)
  have ok:=j0 2520 (by decide) ((cs.take done.length).map (·.y)) 1 (by decide) (Nat.one_dvd _) fun y hy=>by
   obtain⟨c,h,rfl⟩:=List.mem_map.mp hy
   exact hc c (List.mem_of_mem_take h)
  have l1:=gR ok.2.1
  have l2:=gR hy.2
  have en:q_ 1 ((cs.take (done++[dJ c]).length).map (·.y))=Nat.lcm (q_ 1 ((cs.take done.length).map (·.y))) c.y:=by
   rw[List.length_append,List.length_singleton,List.take_succ,hc1,List.map_append]
   unfold q_
   rw[List.foldl_append]
   rfl
  generalize q_ 1 ((cs.take done.length).map (·.y))=f at ok l1 en
  simp only[Tg.put,List.set_cons_succ,List.set_cons_zero,am,dJ]
  walk_at "x"
  simp only[mU]
  refine⟨ol (by omega) (by omega),?_⟩
  refine Fk (by omega) ?_
  have gp:0 < Int.gcd (f:Int) (c.y:Int):=M3.e8 (by omega)
  have gl:=M3.nX (t:=(f:Int)) (b:=(c.y:Int)) (by omega)
  refine⟨yC (by omega) (by omega),?_⟩
  rw[tQ,<-en]
  exact hK _ _ ⟨rfl,_,rfl⟩
 ·rintro σ S' ⟨rfl,x2,rfl⟩
  rw[List.length_map,List.take_length]
  refine hN _ _ ?_
  walk_at "x"
  exact k
noncomputable def w1(d:Nat)(c:Cl):Int:=if c.who=some d then 1 else 0
noncomputable def iY(cs:List Cl)(k:Nat)(mix:Vu)(d:Nat):List Int:=cs.map (w1 d)++List.replicate k 0++[mix.getD d 0]
noncomputable def iZ(cs:List Cl)(k:Nat)(t:Nat):List Int:=cs.map (fun c=>- c.eff.getD t 0)++(List.range k).map (fun o=>if o=t then 1 else 0)++[0]
noncomputable def oy(cs:List Cl)(k cb:Nat):List Int:=cs.map (fun c=>- c.x * ((cb / c.y:Nat):Int))++List.replicate (k+1) 0
def tR(k:Nat):(List.replicate k [PV.int 0]).flatten=(List.replicate k (0:Int)).map PV.int:=by
 induction k with
 |zero=>rfl
 |succ k ih=>rw[List.replicate_succ,List.flatten_cons,ih,List.replicate_succ,List.map_cons];rfl
def GC{S:av}{vs:List PV}{Q:bP}(k:∀p S',S p=none->Ext S S'->S' p=some (.lst vs)->Q (.ref p) S'):∀p,S p=none->Q (.ref p) (Dd S p (.lst vs)):=fun p hp=>k p _ hp (.new hp) aa
def m4{S:av}{a b:Addr}{xs ys:List PV}{Q:bP}(ha:S a=some (.lst xs))(hb:S b=some (.lst ys))(hl:xs.length+ys.length<=1000)(k:∀p S',S p=none->Ext S S'->S' p=some (.lst (xs++ys))->Q (.ref p) S'):bo (.ref a) (.ref b) S Q:=by
 simp only[bo,ha,hb]
 exact⟨aV hl,GC k⟩
def AF{S:av}{a:Addr}{k:Nat}{Q:bP}(ha:S a=some (.lst [.int 0]))(hk:k<=1000)(kk:∀p S',S p=none->Ext S S'->S' p=some (.lst ((List.replicate k (0:Int)).map PV.int))->Q (.ref p) S'):aQ (.ref a) (.int (k:Int)) S Q:=by
 simp only[aQ,ha]
 refine⟨by omega,by omega,aV (by simp;omega),?_⟩
 rw[Int.toNat_natCast,tR]
 exact GC kk
def oz{α:Type}(f:α->Int)(xs:List α):(xs.map fun c=>PV.int (f c))=(xs.map f).map PV.int:=by rw[List.map_map];rfl
abbrev m5(w:aC):Prop:=∀{S:av} {cs:List Cl} {k:Nat} {mix:Vu} {d:Nat} {Q:bP} {E:cC},cs.length<=500->k<=100->d < mix.length->(∀p S',S p=none->Ext S S'->S' p=some (.lst ((iY cs k mix d).map PV.int))->Q (.ref p) S')->w [.tup (cs.map Cl.pv),.int (k:Int),.tup (mix.map PV.int),.int (d:Int)] S Q E
def FU:m5 (bc 4 eC):=by
 intro S cs k mix d Q E hc hk hd kk
 unfold eC
 refine eW ?_
 rw[show ar 4 [.tup (cs.map Cl.pv),.int (k:Int),.tup (mix.map PV.int),.int (d:Int)]=[some (.tup (cs.map Cl.pv)),some (.int (k:Int)),some (.tup (mix.map PV.int)),some (.int (d:Int))] from rfl]
 simp only[ap,ai,aw,aO,v3,lk,cf]
 refine aY Cl.pv (fun c=>.int (w1 d c)) trivial cs [] (fun c hc=>⟨_,rfl,fun Q' q=>?_⟩) (aV (by simp;omega)) ?_
 ·simp only[bV,List.reduceReplicate,List.map_cons,List.map_nil,List.cons_append,List.nil_append,List.set_cons_zero,mJ,a8,ai,v3,lk,c3,aj,Cl.pv,gL]
  refine lR ?_
  by_cases h:c.who=some d
  ·simp only[w1,h,decide_true,if_true]at q ⊢;exact q
  ·simp only[w1,h,decide_false,Bool.false_eq_true,if_false]at q ⊢;exact q
 rw[List.nil_append,oz (w1 d)]
 intro p1 hp1
 have X1:Ext S (Dd S p1 (.lst ((cs.map (w1 d)).map PV.int))):=.new hp1
 have f1:(Dd S p1 (.lst ((cs.map (w1 d)).map PV.int))) p1=some (.lst ((cs.map (w1 d)).map PV.int)):=aa
 generalize Dd S p1 (.lst ((cs.map (w1 d)).map PV.int))=S1 at X1 f1
 simp only[cD,ag,c3]
 intro p2 hp2
 have X2:Ext S1 (Dd S1 p2 (.lst [.int 0])):=.new hp2
 have f2:(Dd S1 p2 (.lst [.int 0])) p2=some (.lst [.int 0]):=aa
 generalize Dd S1 p2 (.lst [.int 0])=S2 at X2 f2
 refine AF f2 (by omega) fun p3 S3 hp3 X3 f3=>?_
 refine m4 (X3 _ _ (X2 _ _ f1)) f3 (by simp;omega) fun p4 S4 Ih X4 f4=>?_
 simp only[cD,ag,ai,v3,lk,aj]
 rw[bD (v:=PV.int (mix.getD d 0)) (by rw[List.getElem?_map,List.getD_eq_getElem?_getD,List.getElem?_eq_getElem hd];rfl)]
 intro p5 Ii
 have X5:Ext S4 (Dd S4 p5 (.lst [.int (mix.getD d 0)])):=.new Ii
 have f5:(Dd S4 p5 (.lst [.int (mix.getD d 0)])) p5=some (.lst [.int (mix.getD d 0)]):=aa
 generalize Dd S4 p5 (.lst [.int (mix.getD d 0)])=S5 at X5 f5
 refine m4 (X5 _ _ f4) f5 (by simp;omega) fun p6 S6 IN X6 f6=>?_
 have XA:=X1.trans (X2.trans (X3.trans (X4.trans X5)))
 refine kk p6 _ (XA.free IN) (XA.trans X6) ?_
 rw[f6]
 unfold iY
 rw[List.map_append,List.map_append]
 rfl
abbrev m6(w:aC):Prop:=∀{S:av} {cs:List Cl} {k t:Nat} {Q:bP} {E:cC},cs.length<=500->k<=100->t < k->(∀c∈cs,c.eff.length=k)->(∀p S',S p=none->Ext S S'->S' p=some (.lst ((iZ cs k t).map PV.int))->Q (.ref p) S')->w [.tup (cs.map Cl.pv),.int (k:Int),.int (t:Int)] S Q E
def wL(k:Nat):bY 0 k=(List.range k).map fun o:Nat=>PV.int (o:Int):=by unfold bY;exact List.map_congr_left fun o _=>by simp
def FV:m6 (bc 4 ff):=by
 intro S cs k t Q E hc hk ht he kk
 unfold ff
 refine eW ?_
 rw[show ar 4 [.tup (cs.map Cl.pv),.int (k:Int),.int (t:Int)]=[some (.tup (cs.map Cl.pv)),some (.int (k:Int)),some (.int (t:Int)),none] from rfl]
 refine ax fun N hN=>?_
 simp only[am,aw,ck,v3,lk]
 refine⟨by omega,by omega,?_⟩
 rw[Int.toNat_natCast,wL]
 refine aY (fun o:Nat=>PV.int (o:Int)) (fun o:Nat=>.int (if o=t then 1 else 0)) trivial (List.range k) [] (fun o ho=>⟨_,rfl,fun Q' q=>?_⟩) (aV (by simp;omega)) ?_
 ·simp only[bV,List.reduceReplicate,List.map_cons,List.map_nil,List.cons_append,List.nil_append,List.set_cons_zero,mJ,a8,ai,v3,lk,c3,dG,Bool.false_bne]
  by_cases h:o=t
  ·simp only[h,decide_true,if_true]at q ⊢;exact q
  ·have h2:¬((o:Int)=(t:Int)):=fun e=>h (Int.ofNat.inj e)
   simp only[h,h2,decide_false,Bool.false_eq_true,if_false]at q ⊢;exact q
 rw[List.nil_append,oz (fun o:Nat=>if o=t then (1:Int) else 0)]
 intro p1 hp1
 have X1:Ext S (Dd S p1 (.lst (((List.range k).map fun o:Nat=>if o=t then (1:Int) else 0).map PV.int))):=.new hp1
 have f1:(Dd S p1 (.lst (((List.range k).map fun o:Nat=>if o=t then (1:Int) else 0).map PV.int))) p1=some (.lst (((List.range k).map fun o:Nat=>if o=t then (1:Int) else 0).map PV.int)):=aa
 generalize Dd S p1 (.lst (((List.range k).map fun o:Nat=>if o=t then (1:Int) else 0).map PV.int))=S1 at X1 f1
 simp only[List.set_cons_succ,List.set_cons_zero]
 refine hN _ _ ?_
 simp only[ap,ai,aw,aO,v3,lk,cf]
 refine aY Cl.pv (fun c=>.int (- c.eff.getD t 0)) trivial cs [] (fun c hc=>⟨_,rfl,fun Q' q=>?_⟩) (aV (by simp;omega)) ?_
 ·simp only[bV,List.reduceReplicate,List.map_cons,List.map_nil,List.cons_append,List.nil_append,List.set_cons_zero,jj,df,ai,v3,lk,c3,aj,Cl.pv,wI]
  rw[bD (v:=PV.int (c.eff.getD t 0)) (by rw[List.getElem?_map,List.getD_eq_getElem?_getD,List.getElem?_eq_getElem (by rw[he c hc];exact ht)];rfl)]
  exact q
 rw[List.nil_append,oz (fun c:Cl=>- c.eff.getD t 0)]
 intro p2 hp2
 have X2:Ext S1 (Dd S1 p2 (.lst ((cs.map fun c:Cl=>- c.eff.getD t 0).map PV.int))):=.new hp2
 have f2:(Dd S1 p2 (.lst ((cs.map fun c:Cl=>- c.eff.getD t 0).map PV.int))) p2=some (.lst ((cs.map fun c:Cl=>- c.eff.getD t 0).map PV.int)):=aa
 generalize Dd S1 p2 (.lst ((cs.map fun c:Cl=>- c.eff.getD t 0).map PV.int))=S2 at X2 f2
 refine m4 f2 (X2 _ _ f1) (by simp;omega) fun p3 S3 hp3 X3 f3=>?_
 simp only[cD,ag,c3]
 intro p4 Ih
 have X4:Ext S3 (Dd S3 p4 (.lst [.int 0])):=.new Ih
 have f4:(Dd S3 p4 (.lst [.int 0])) p4=some (.lst [.int 0]):=aa
 generalize Dd S3 p4 (.lst [.int 0])=S4 at X4 f4
 refine m4 (X4 _ _ f3) f4 (by simp;omega) fun p5 S5 Ii X5 f5=>?_
 have XA:=X1.trans (X2.trans (X3.trans X4))
 refine kk p5 _ (XA.free Ii) (XA.trans X5) ?_
 rw[f5]
 unfold iZ
 rw[List.map_append,List.map_append]
 rfl
noncomputable def lT(row ch:Vu)(c:Nat)(q:Int):List Int:=List.zipWith (fun one other=>(one * ch.getD c 0 - row.getD c 0 * other).fdiv q) row ch
abbrev m7(w:aC):Prop:=∀{S:av} {a b:Addr} {row ch:Vu} {c:Nat} {q:Int} {Q:bP} {E:cC},S a=some (.lst (row.map PV.int))->S b=some (.lst (ch.map PV.int))->row.length=ch.length->row.length<=1000->c < row.length->q≠0->Sz q->(∀x∈row,Sz x)->(∀x∈ch,Sz x)->(∀p S',S p=none->Ext S S'->S' p=some (.lst ((lT row ch c q).map PV.int))->Q (.ref p) S')->w [.ref a,.ref b,.int (c:Int),.int q] S Q E
def FW:m7 (bc 4 iS):=by
 intro S a b row ch c q Q E ha hb hl hn hc hq HE hr hch kk
 unfold iS
 refine eW ?_
 rw[show ar 4 [.ref a,.ref b,.int (c:Int),.int q]=[some (.ref a),some (.ref b),some (.int (c:Int)),some (.int q)] from rfl]
 simp only[ap,aw,gr,v3,lk,ha,hb]
 have er:Eh (row.map PV.int) (c:Int)=some (.int (row.getD c 0)):=bD (by rw[List.getElem?_map,List.getD_eq_getElem?_getD,List.getElem?_eq_getElem hc];rfl)
 have ec:Eh (ch.map PV.int) (c:Int)=some (.int (ch.getD c 0)):=bD (by rw[List.getElem?_map,List.getD_eq_getElem?_getD,List.getElem?_eq_getElem (by omega)];rfl)
 have mr:row.getD c 0∈row:=by rw[List.getD_eq_getElem?_getD,List.getElem?_eq_getElem hc];exact List.getElem_mem hc
 have mc:ch.getD c 0∈ch:=by rw[List.getD_eq_getElem?_getD,List.getElem?_eq_getElem (show c < ch.length by omega)];exact List.getElem_mem _
 have ez:aL (row.map PV.int) (ch.map PV.int)=(row.zip ch).map fun z=>PV.tup [.int z.1,.int z.2]:=by unfold aL;rw[List.zip_map,List.map_map];rfl
 rw[ez]
 refine aY (fun z:Int×Int=>PV.tup [.int z.1,.int z.2]) (fun z=>.int ((z.1 * ch.getD c 0 - row.getD c 0 * z.2).fdiv q)) ⟨ha,hb⟩ (row.zip ch) [] (fun z hz=>⟨_,rfl,fun Q' q'=>?_⟩) (aV (by simp;omega)) ?_
 ·obtain⟨z1,z2⟩:=z
  have hz':=List.of_mem_zip hz
  simp only[bV,List.reduceReplicate,List.map_cons,List.map_nil,List.cons_append,List.nil_append,List.set_cons_zero,List.set_cons_succ,ai,v3,lk,aj,ha,hb,er,ec,aQ,cH,bx,d3,fv]
  exact⟨(hr z1 hz'.1).mul (hch _ mc),(hr _ mr).mul (hch z2 hz'.2),Sz.div hq HE,q'⟩
 rw[List.nil_append,oz (fun z:Int×Int=>(z.1 * ch.getD c 0 - row.getD c 0 * z.2).fdiv q)]
 refine GC fun p S' hp X f=>kk p S' hp X ?_
 rw[f]
 unfold lT
 rw[List.zip,List.map_zipWith]
end CW
namespace Wg
noncomputable def sm:Nat->(Nat->Int)->Int
 |0,_=>0
 |n+1,f=>sm n f+f n
def aA{n:Nat}{f g:Nat->Int}(h:∀i,i < n->f i=g i):sm n f=sm n g:=by
 induction n with
 |zero=>rfl
 |succ n ih=>simp only[sm];rw[ih fun i hi=>h i (by omega),h n (by omega)]
def bR{n:Nat}{f:Nat->Int}(h:∀i,i < n->f i=0):sm n f=0:=by
 induction n with
 |zero=>rfl
 |succ n ih=>simp only[sm];rw[ih fun i hi=>h i (by omega),h n (by omega)];rfl
def i0(n:Nat)(f g:Nat->Int):sm n (fun i=>f i+g i)=sm n f+sm n g:=by
 induction n with
 |zero=>rfl
 |succ n ih=>simp only[sm,ih];omega
def dL(n:Nat)(c:Int)(f:Nat->Int):sm n (fun i=>c * f i)=c * sm n f:=by
 induction n with
 |zero=>simp[sm]
 |succ n ih=>simp only[sm,ih,Int.mul_add]
def tS(n:Nat)(a b:Int)(f g:Nat->Int):sm n (fun i=>a * f i+b * g i)=a * sm n f+b * sm n g:=by rw[i0,dL,dL]
def fU(n:Nat)(f:Nat->Int):sm n (fun i=>- f i) = - sm n f:=by
 have:=dL n (-1) f
 simpa using this
def bG{n i:Nat}{f:Nat->Int}(hi:i < n)(h:∀j,j < n->j≠i->f j=0):sm n f=f i:=by
 induction n with
 |zero=>omega
 |succ n ih=>
  simp only[sm]
  by_cases e:i=n
  ·subst e;rw[bR fun j hj=>h j (by omega) (by omega)];omega
  ·rw[ih (by omega) fun j hj hne=>h j (by omega) hne,h n (by omega) (fun e'=>e e'.symm)];omega
def tT{n i j:Nat}{f:Nat->Int}(hi:i < n)(hj:j < n)(hne:i≠j)(h:∀l,l < n->l≠i->l≠j->f l=0):sm n f=f i+f j:=by
 have e:∀l,l < n->f l=(if l=i then f l else 0)+(if l=i then 0 else f l):=fun l _=>by split<;>omega
 rw[aA e,i0,bG hi (fun l _ hl=>if_neg hl),bG hj (fun l hl K4=>by by_cases e:l=i;rw[if_pos e];rw[if_neg e];exact h l hl e K4),if_pos rfl,if_neg (Ne.symm hne)]
def lU(n m:Nat)(f:Nat->Nat->Int):sm n (fun i=>sm m fun j=>f i j)=sm m fun j=>sm n fun i=>f i j:=by
 induction n with
 |zero=>exact(bR fun _ _=>rfl).symm
 |succ n ih=>simp only[sm];rw[ih,<-i0]
def f_{n:Nat}{f:Nat->Int}(h:∀i,i < n->0<=f i):0<=sm n f:=by
 induction n with
 |zero=>exact Int.le_refl _
 |succ n ih=>simp only[sm];have:=ih fun i hi=>h i (by omega);have:=h n (by omega);omega
def oA{n:Nat}{f:Nat->Int}(h:0 < sm n f):∃i,i < n/\0 < f i:=by
 induction n with
 |zero=>simp[sm]at h
 |succ n ih=>
  simp only[sm]at h
  by_cases e:0 < f n
  ·exact⟨n,by omega,e⟩
  ·obtain⟨i,hi,h⟩:=ih (by omega);exact⟨i,by omega,h⟩
abbrev Vc:=Nat->Int
noncomputable def ud(b:Nat->Vc)(i:Nat)(v:Vc):Nat->Vc:=fun l=>if l=i then v else b l
def aE(b:Nat->Vc)(i:Nat)(v:Vc):ud b i v i=v:=if_pos rfl
def aX{b:Nat->Vc}{i l:Nat}{v:Vc}(h:l≠i):ud b i v l=b l:=if_neg h
noncomputable def sk(i:Nat)(b:Nat->Vc):Nat->Vc:=fun l=>b (if l < i then l else l+1)
noncomputable def sg(n:Nat):Int:=if n % 2=0 then 1 else -1
def vU(n:Nat):sg (n+1) = - sg n:=by unfold sg;split<;>split<;>first|rfl|omega
def AG(n:Nat):sg (n+n)=1:=by unfold sg;rw[if_pos (by omega)]
noncomputable def dt:Nat->(Nat->Vc)->Int
 |0,_=>1
 |M+1,b=>sm (M+1) fun i=>sg (i+M) * b i M * dt M (sk i b)
theorem cn:∀{M:Nat} {b c:Nat->Vc},(∀i k,i < M->k < M->b i k=c i k)->dt M b=dt M c
 |0,_,_,_=>rfl
 |M+1,b,c,h=>by
  simp only[dt]
  refine aA fun i hi=>?_
  rw[h i M hi (by omega),cn (b:=sk i b) (c:=sk i c) fun l k hl hk=>h _ k (by split<;>omega) (by omega)]
def lV(i:Nat)(b:Nat->Vc)(v:Vc):sk i (ud b i v)=sk i b:=by
 funext l
 unfold sk ud
 rw[if_neg (by split<;>omega)]
noncomputable def pl(l i:Nat):Nat:=if i < l then i else i - 1
def tU{l i:Nat}(h:i≠l)(b:Nat->Vc)(v:Vc):sk l (ud b i v)=ud (sk l b) (pl l i) v:=by
 funext x
 show(if (if x < l then x else x+1)=i then v else b (if x < l then x else x+1))=if x=pl l i then v else b (if x < l then x else x+1)
 have:((if x < l then x else x+1)=i)↔(x=pl l i):=by unfold pl;split<;>split<;>omega
 simp only[this]
theorem i3:∀(M:Nat) (b:Nat->Vc) (i:Nat) (u v:Vc) (x y:Int),i < M->dt M (ud b i fun k=>x * u k+y * v k)=x * dt M (ud b i u)+y * dt M (ud b i v)
 |0,_,_,_,_,_,_,h=>by omega
 |M+1,b,i,u,v,x,y,h=>by
  simp only[dt]
  rw[<-tS]
  refine aA fun l hl=>?_
  by_cases e:l=i
  ·subst e
   rw[lV,lV,lV,aE,aE,aE]
   simp only[Int.mul_add,Int.add_mul]
   rw[show sg (l+M) * (x * u M)=x * (sg (l+M) * u M) by rw[<-Int.mul_assoc,Int.mul_comm _ x,Int.mul_assoc],show sg (l+M) * (y * v M)=y * (sg (l+M) * v M) by rw[<-Int.mul_assoc,Int.mul_comm _ y,Int.mul_assoc],Int.mul_assoc x,Int.mul_assoc y]
  ·rw[aX e,aX e,aX e,tU (Ne.symm e),tU (Ne.symm e),tU (Ne.symm e),i3 M (sk l b) (pl l i) u v x y (by unfold pl;split<;>omega)]
   grind
def io{M:Nat}{b:Nat->Vc}{i:Nat}{u:Vc}{x:Int}(h:i < M):dt M (ud b i fun k=>x * u k)=x * dt M (ud b i u):=by
 have:=i3 M b i u u x 0 h
 rw[Int.zero_mul,Int.add_zero]at this
 rw[<-this]
 exact cn fun l k _ _=>by unfold ud;split<;>simp
theorem j1{M:Nat}(b:Nat->Vc){i:Nat}(h:i < M)(c:Nat->Int)(v:Nat->Vc):∀n,dt M (ud b i fun k=>sm n fun l=>c l * v l k)=sm n fun l=>c l * dt M (ud b i (v l))
 |0=>by
  have:=io (M:=M) (b:=b) (i:=i) (u:=fun _=>0) (x:=0) h
  simpa [sm]using this
 |n+1=>by
  have:=i3 M b i (fun k=>sm n fun l=>c l * v l k) (v n) 1 (c n) h
  simp only[sm]
  rw[<-j1 b h c v n,<-Int.one_mul (dt M (ud b i fun k=>sm n fun l=>c l * v l k)),<-this]
  exact cn fun l k _ _=>by unfold ud;split<;>simp
theorem lW:∀(M:Nat) (b:Nat->Vc) (i:Nat),i+1 < M->(∀k,b i k=b (i+1) k)->dt M b=0
 |0,_,_,h,_=>by omega
 |M+1,b,i,h,e=>by
  simp only[dt]
  rw[tT (i:=i) (j:=i+1) (by omega) h (by omega)]
  ·have es:sk i b=sk (i+1) b:=by
    funext l
    funext k
    unfold sk
    by_cases h1:l < i
    ·rw[if_pos h1,if_pos (by omega)]
    ·by_cases h2:l=i
     ·subst h2;rw[if_neg (by omega),if_pos (by omega)];exact(e k).symm
     ·rw[if_neg h1,if_neg (by omega)]
   rw[es,e M,show i+1+M=i+M+1 by omega,vU]
   rw[Int.neg_mul,Int.neg_mul]
   omega
  ·intro l hl h1 h2
   have z:dt M (sk l b)=0:=by
    by_cases hlt:l < i
    ·refine lW M (sk l b) (i - 1) (by omega) fun k=>?_
     unfold sk
     rw[if_neg (by omega),if_neg (by omega),show i - 1+1=i by omega]
     exact e k
    ·refine lW M (sk l b) i (by omega) fun k=>?_
     unfold sk
     rw[if_pos (by omega),if_pos (by omega)]
     exact e k
   rw[z,Int.mul_zero]
noncomputable def sw(b:Nat->Vc)(i j:Nat):Nat->Vc:=ud (ud b i (b j)) j (b i)
def pK{b:Nat->Vc}{i j:Nat}{u v:Vc}(h:i≠j):ud (ud b i u) j v=ud (ud b j v) i u:=by
 funext l;unfold ud
 by_cases e1:l=i
 ·subst e1;rw[if_neg h,if_pos rfl,if_pos rfl]
 ·by_cases e2:l=j
  ·rw[if_pos e2,if_neg e1,if_pos e2]
  ·rw[if_neg e2,if_neg e1,if_neg e1,if_neg e2]
def pL(b:Nat->Vc)(i:Nat):ud b i (b i)=b:=by funext l;unfold ud;split<;>simp_all
def m8{M i j:Nat}(hi:i < M)(hj:j < M)(hne:i≠j)(alt:∀b:Nat->Vc,(∀k,b i k=b j k)->dt M b=0)(b:Nat->Vc):dt M (sw b i j) = - dt M b:=by
 have s1:=i3 M (ud b j fun k=>b i k+b j k) i (b i) (b j) 1 1 hi
 have z:dt M (ud (ud b j fun k=>b i k+b j k) i fun k=>1 * b i k+1 * b j k)=0:=alt _ fun k=>by
  rw[aE,aX (Ne.symm hne),aE];omega
 rw[z]at s1
 have s2:=i3 M (ud b i (b i)) j (b i) (b j) 1 1 hj
 have s3:=i3 M (ud b i (b j)) j (b i) (b j) 1 1 hj
 have e1:∀u:Vc,ud (ud b j fun k=>b i k+b j k) i u=ud (ud b i u) j fun k=>1 * b i k+1 * b j k:=fun u=>by
  rw[pK (Ne.symm hne)]
  have:(fun k=>b i k+b j k)=fun k=>1 * b i k+1 * b j k:=by funext k;omega
  rw[this]
 rw[e1,e1,s2,s3]at s1
 have z1:dt M (ud (ud b i (b i)) j (b i))=0:=alt _ fun k=>by rw[aX hne,aE,aE]
 have z2:dt M (ud (ud b i (b j)) j (b j))=0:=alt _ fun k=>by rw[aX hne,aE,aE]
 rw[z1,z2,pL,pL]at s1
 unfold sw
 omega
theorem oB:∀(d:Nat) (M:Nat) (b:Nat->Vc) (i:Nat),i+1+d < M->(∀k,b i k=b (i+1+d) k)->dt M b=0
 |0,M,b,i,h,e=>lW M b i h e
 |d+1,M,b,i,h,e=>by
  have s:=m8 (M:=M) (i:=i+1+d) (j:=i+1+d+1) (by omega) (by omega) (by omega) (fun b e=>lW M b (i+1+d) (by omega) e) b
  have z:=oB d M (sw b (i+1+d) (i+1+d+1)) i (by omega) fun k=>by
   unfold sw
   rw[aX (by omega),aX (by omega),aX (by omega),aE]
   exact e k
  rw[z]at s
  omega
def tV{M i j:Nat}(hi:i < M)(hj:j < M)(hne:i≠j)(b:Nat->Vc)(e:∀k,b i k=b j k):dt M b=0:=by
 by_cases h:i < j
 ·obtain⟨d,rfl⟩:∃d,j=i+1+d:=⟨j - i - 1,by omega⟩
  exact oB d M b i hj e
 ·obtain⟨d,rfl⟩:∃d,i=j+1+d:=⟨i - j - 1,by omega⟩
  exact oB d M b j hi fun k=>(e k).symm
def AH{M i j:Nat}(hi:i < M)(hj:j < M)(hne:i≠j)(b:Nat->Vc):dt M (sw b i j) = - dt M b:=m8 hi hj hne (fun b e=>tV hi hj hne b e) b
noncomputable def eu(i:Nat):Vc:=fun k=>if k=i then 1 else 0
theorem wM:∀(M:Nat) (b:Nat->Vc),(∀i k,i < M->k < M->b i k=eu i k)->dt M b=1
 |0,_,_=>rfl
 |M+1,b,h=>by
  simp only[dt]
  rw[bG (i:=M) (by omega),AG,h M M (by omega) (by omega)]
  ·rw[wM M (sk M b) fun i k hi hk=>by unfold sk;rw[if_pos hi];exact h i k (by omega) (by omega)]
   simp[eu]
  ·intro j hj hne
   rw[h j M hj (by omega)]
   unfold eu
   rw[if_neg (fun e=>hne e.symm),Int.mul_zero,Int.zero_mul]
noncomputable def cl(A:Nat->Nat->Int)(j:Nat):Vc:=fun k=>A k j
structure Tab (m N:Nat) (A T:Nat->Nat->Int) (b:Nat->Vc) (q:Int):Prop where
 Ij:∀j k,j < N->k<=m->q * A k j=sm (m+1) fun i=>T i j * b i k
 det:dt (m+1) b=q
 pos:0 < q
 gl:∀k,b m k=eu m k
def wN{q x y:Int}(h:0 < q)(e:q * x=q * y):x=y:=Int.eq_of_mul_eq_mul_left (by omega) e
section
variable {m N:Nat} {A T:Nat->Nat->Int} {b:Nat->Vc} {q:Int}
def Tab.IP(h:Tab m N A T b q){i l:Nat}(hi:i<=m)(hl:l<=m):dt (m+1) (ud b i (b l))=if l=i then q else 0:=by
 by_cases e:l=i
 ·subst e;rw[if_pos rfl,pL,h.det]
 ·rw[if_neg e]
  exact tV (i:=i) (j:=l) (by omega) (by omega) (Ne.symm e) _ fun k=>by rw[aE,aX e]
def Tab.ent(h:Tab m N A T b q){i j:Nat}(hi:i<=m)(hj:j < N):T i j=dt (m+1) (ud b i (cl A j)):=by
 have e1:q * dt (m+1) (ud b i (cl A j))=dt (m+1) (ud b i fun k=>sm (m+1) fun l=>T l j * b l k):=by
  rw[<-io (by omega)]
  refine cn fun l k hl hk=>?_
  by_cases e:l=i
  ·subst e;rw[aE,aE];exact h.Ij j k hj (by omega)
  ·rw[aX e,aX e]
 rw[j1 b (by omega),bG (i:=i) (by omega) (fun l hl hne=>by rw[h.IP hi (by omega),if_neg hne,Int.mul_zero]),h.IP hi hi,if_pos rfl]at e1
 exact(wN h.pos (by rw[e1,Int.mul_comm])).symm
def Tab.Gf(h:Tab m N A T b q){l p:Nat}(hl:l < m)(hp:p < N)(hb:∀k,k<=m->b l k=A k p){i:Nat}(hi:i<=m):T i p=if i=l then q else 0:=by
 rw[h.ent hi hp,show(if i=l then q else 0)=if l=i then q else 0 by by_cases e:i=l;rw[if_pos e,if_pos e.symm];rw[if_neg e,if_neg (Ne.symm e)],<-h.IP hi (by omega:l<=m)]
 refine cn fun x k hx hk=>?_
 by_cases e:x=i
 ·subst e;rw[aE,aE];exact(hb k (by omega)).symm
 ·rw[aX e,aX e]
def Tab.rows(h:Tab m N A T b q)(x:Nat->Int)(hx:∀k,k < m->sm N (fun j=>A k j * x j)=0) :
  (∀i,i < m->sm N (fun j=>T i j * x j)=0)/\sm N (fun j=>T m j * x j)=q * sm N (fun j=>A m j * x j):=by
 have key:∀i,i<=m->sm N (fun j=>T i j * x j)=sm N (fun j=>A m j * x j) * if m=i then q else 0:=fun i hi=>by
  rw[<-h.IP hi (Nat.le_refl m),<-io (by omega),aA (g:=fun j=>x j * dt (m+1) (ud b i (cl A j))) (fun j hj=>by rw[h.ent hi hj,Int.mul_comm]),<-j1 b (by omega)]
  refine cn fun l k hl hk=>?_
  by_cases e:l=i
  ·subst e
   rw[aE,aE,h.gl k]
   unfold eu
   by_cases ek:k=m
   ·subst ek;rw[if_pos rfl,Int.mul_one];exact aA fun j _=>Int.mul_comm _ _
   ·rw[if_neg ek,Int.mul_zero,<-hx k (by omega)];exact aA fun j _=>Int.mul_comm _ _
  ·rw[aX e,aX e]
 refine⟨fun i hi=>?_,?_⟩
 ·rw[key i (by omega),if_neg (by omega),Int.mul_zero]
 ·rw[key m (Nat.le_refl _),if_pos rfl,Int.mul_comm]
def Tab.back(h:Tab m N A T b q)(x:Nat->Int)(hx:∀i,i < m->sm N (fun j=>T i j * x j)=0) :
  (∀k,k < m->sm N (fun j=>A k j * x j)=0)/\q * sm N (fun j=>A m j * x j)=sm N (fun j=>T m j * x j):=by
 have key:∀k,k<=m->q * sm N (fun j=>A k j * x j)=b m k * sm N (fun j=>T m j * x j):=fun k hk=>by
  rw[<-dL,aA (g:=fun j=>sm (m+1) fun i=>b i k * (T i j * x j)) (fun j hj=>by
   rw[<-Int.mul_assoc,h.Ij j k hj hk,Int.mul_comm,<-dL];exact aA fun i _=>by grind),lU]
  rw[aA (g:=fun i=>b i k * sm N fun j=>T i j * x j) (fun i _=>dL _ _ _),bG (i:=m) (by omega)]
  intro i hi hne
  rw[hx i (by omega),Int.mul_zero]
 refine⟨fun k hk=>?_,?_⟩
 ·have:=key k (by omega)
  rw[h.gl k]at this
  unfold eu at this
  rw[if_neg (by omega),Int.zero_mul]at this
  exact wN h.pos (by rw[this,Int.mul_zero])
 ·have:=key m (Nat.le_refl _)
  rw[h.gl m]at this
  unfold eu at this
  rw[if_pos rfl,Int.one_mul]at this
  exact this
def Tab.Fo(h:Tab m N A T b q){r c:Nat}(hr:r < m)(hc:c < N)(hp:0 < T r c){T2:Nat->Nat->Int}(h1:∀j,j < N->T2 r j=T r j)(h2:∀i j,i<=m->i≠r->j < N->T2 i j=(T i j * T r c - T i c * T r j).fdiv q) :
  (∀i j,i<=m->i≠r->j < N->q * T2 i j=T i j * T r c - T i c * T r j)/\Tab m N A T2 (ud b r (cl A c)) (T r c):=by
 have d':dt (m+1) (ud b r (cl A c))=T r c:=(h.ent (by omega) hc).symm
 have whole:∀i j,i<=m->i≠r->j < N->q * dt (m+1) (ud (ud b r (cl A c)) i (cl A j))=T i j * T r c - T i c * T r j:=fun i j hi hne hj=>by
  have e1:q * dt (m+1) (ud (ud b r (cl A c)) i (cl A j))=dt (m+1) (ud (ud b r (cl A c)) i fun k=>sm (m+1) fun l=>T l j * b l k):=by
   rw[<-io (by omega)]
   refine cn fun l k hl hk=>?_
   by_cases e:l=i
   ·subst e;rw[aE,aE];exact h.Ij j k hj (by omega)
   ·rw[aX e,aX e]
  rw[e1,j1 _ (by omega),tT (i:=i) (j:=r) (by omega) (by omega) hne]
  ·have ei:dt (m+1) (ud (ud b r (cl A c)) i (b i))=T r c:=by
    rw[pK (Ne.symm hne),pL];exact d'
   have er:dt (m+1) (ud (ud b r (cl A c)) i (b r)) = - T i c:=by
    rw[h.ent hi hc,<-AH (i:=i) (j:=r) (by omega) (by omega) hne]
    refine cn fun l k hl hk=>?_
    unfold sw
    by_cases e:l=r
    ·subst e;rw[aE,aE,aX (Ne.symm hne),aE]
    ·rw[aX (i:=r) e]
     by_cases e2:l=i
     ·subst e2;rw[aE,aE,aX (Ne.symm hne)]
     ·rw[aX e2,aX e2,aX e,aX e2]
   rw[ei,er]
   grind
  ·intro l hl h3 h4
   rw[tV (i:=i) (j:=l) (by omega) (by omega) (Ne.symm h3) _ fun k=>by rw[aE,aX h3,aX h4],Int.mul_zero]
 have w2:∀i j,i<=m->i≠r->j < N->T2 i j=dt (m+1) (ud (ud b r (cl A c)) i (cl A j)):=fun i j hi hne hj=>by
  rw[h2 i j hi hne hj,<-whole i j hi hne hj,Int.mul_fdiv_cancel_left _ (by have:=h.pos;omega)]
 have w3:∀i j,i<=m->i≠r->j < N->q * T2 i j=T i j * T r c - T i c * T r j:=fun i j hi hne hj=>by rw[w2 i j hi hne hj];exact whole i j hi hne hj
 refine⟨w3,⟨fun j k hj hk=>?_,d',hp,fun k=>by rw[aX (by omega)];exact h.gl k⟩⟩
 refine wN h.pos ?_
 have s1:q * sm (m+1) (fun i=>T2 i j * ud b r (cl A c) i k)=sm (m+1) fun i=>(T r c * (T i j * b i k)+(- T r j) * (T i c * b i k))+if i=r then q * T r j * A k c else 0:=by
  rw[<-dL]
  refine aA fun i hi=>?_
  by_cases e:i=r
  ·subst e
   rw[h1 j hj,aE,if_pos rfl]
   unfold cl
   grind
  ·rw[aX e,if_neg e,<-Int.mul_assoc,w3 i j (by omega) e hj]
   grind
 rw[s1,i0,tS,bG (i:=r) (by omega) (fun l _ hl=>if_neg hl),if_pos rfl,<-h.Ij j k hj hk,<-h.Ij c k hc hk]
 grind
end
structure Sx where
 T:Nat->Nat->Int
 held:Nat->Nat
 q:Int
noncomputable def Fo(s:Sx)(r c:Nat):Sx:=⟨fun i j=>if i=r then s.T r j else (s.T i j * s.T r c - s.T i c * s.T r j).fdiv s.q,fun i=>if i=r then c else s.held i,s.T r c⟩
structure Val (m V:Nat) (A:Nat->Nat->Int) (s:Sx) (b:Nat->Vc):Prop where
 tab:Tab m (V+1) A s.T b s.q
 hv:∀i,i < m->s.held i < V
 hb:∀i k,i < m->k<=m->b i k=A k (s.held i)
 fs:∀i,i < m->0<=s.T i V
section
variable {m V:Nat} {A:Nat->Nat->Int} {s:Sx} {b:Nat->Vc}
theorem Val.Gf(h:Val m V A s b){i l:Nat}(hi:i<=m)(hl:l < m):s.T i (s.held l)=if i=l then s.q else 0:=h.tab.Gf hl (by have:=h.hv l hl;omega) (fun k hk=>h.hb l k hl hk) hi
def Val.inj(h:Val m V A s b){i l:Nat}(hi:i < m)(hl:l < m)(e:s.held i=s.held l):i=l:=by
 have h1:=h.Gf (i:=i) (by omega) hi
 rw[e,h.Gf (by omega) hl,if_pos rfl]at h1
 by_cases e:i=l
 ·exact e
 ·rw[if_neg e]at h1;have:=h.tab.pos;omega
def ju(V:Nat)(s:Sx)(c i r:Nat):Prop:=s.T i V * s.T r c < s.T r V * s.T i c\/(s.T i V * s.T r c=s.T r V * s.T i c/\s.held i < s.held r)
structure Lv (m V:Nat) (s:Sx) (c r:Nat):Prop where
 lt:r < m
 ps:0 < s.T r c
 fst:∀i,i < m->0 < s.T i c->¬ju V s c i r
structure En (m V:Nat) (s:Sx) (c:Nat):Prop where
 lt:c < V
 ng:s.T m c < 0
 fst:∀j,j < c->0<=s.T m j
theorem Val.Fo(h:Val m V A s b){r c:Nat}(e:c < V)(l:Lv m V s c r):Val m V A (Fo s r c) (ud b r (cl A c))/\∀i j,i<=m->i≠r->j<=V->s.q * (Wg.Fo s r c).T i j=s.T i j * s.T r c - s.T i c * s.T r j:=by
 have hq:=h.tab.pos
 obtain⟨w,t⟩:=h.tab.Fo (T2:=(Wg.Fo s r c).T) l.lt (by omega:c < V+1) l.ps (fun j _=>if_pos rfl) (fun i j _ hne _=>if_neg hne)
 refine⟨⟨t,fun i hi=>?_,fun i k hi hk=>?_,fun i hi=>?_⟩,fun i j hi hne hj=>w i j hi hne (by omega)⟩
 ·show(if i=r then c else s.held i) < V
  split
  ·exact e
  ·exact h.hv i hi
 ·show _=A k (if i=r then c else s.held i)
  by_cases e:i=r
  ·subst e;rw[aE,if_pos rfl];rfl
  ·rw[aX e,if_neg e];exact h.hb i k hi hk
 ·by_cases e:i=r
  ·subst e;show 0<=(if i=i then s.T i V else _);rw[if_pos rfl];exact h.fs i hi
  ·have hw:=w i V (by omega) e (by omega)
   have nn:0<=s.T i V * s.T r c - s.T i c * s.T r V:=by
    have f1:=h.fs i hi
    have f2:=h.fs r l.lt
    have f3:=l.ps
    by_cases hp:0 < s.T i c
    ·have:=l.fst i hi hp
     unfold ju at this
     have:¬s.T i V * s.T r c < s.T r V * s.T i c:=fun h=>this (.inl h)
     rw[Int.mul_comm (s.T i c)]
     omega
    ·have a1:0<=s.T i V * s.T r c:=Int.mul_nonneg f1 (by omega)
     have a2:0<=(- s.T i c) * s.T r V:=Int.mul_nonneg (by omega) f2
     rw[Int.neg_mul]at a2
     omega
   rw[<-hw]at nn
   exact Int.nonneg_of_mul_nonneg_right nn hq |> fun h=>h
def Bs(m:Nat)(s:Sx)(j:Nat):Prop:=∃i,i < m/\s.held i=j
noncomputable def X(m V:Nat)(s:Sx)(j:Nat):Int:=sm m fun i=>if s.held i=j then s.T i V else 0
def Val.x(h:Val m V A s b){i:Nat}(hi:i < m):X m V s (s.held i)=s.T i V:=by
 unfold X
 rw[bG hi (fun l hl hne=>if_neg fun e=>hne (h.inj hl hi e)),if_pos rfl]
def tW{j:Nat}(h:¬Bs m s j):X m V s j=0:=bR fun i hi=>if_neg fun e=>h ⟨i,hi,e⟩
structure Rel (m V:Nat) (A:Nat->Nat->Int) (t:Nat) (s s':Sx):Prop where
 v1:∃b,Val m V A s b
 v2:∃b,Val m V A s' b
 x:∀j,X m V s j * s'.q=X m V s' j * s.q
 bs:∀j,t < j->(Bs m s j↔Bs m s' j)
theorem Rel.symm{t:Nat}{s s':Sx}(h:Rel m V A t s s'):Rel m V A t s' s:=⟨h.v2,h.v1,fun j=>(h.x j).symm,fun j hj=>(h.bs j hj).symm⟩
theorem Rel.trans{t:Nat}{s s' s2:Sx}(h:Rel m V A t s s')(g:Rel m V A t s' s2):Rel m V A t s s2:=⟨h.v1,g.v2,fun j=>by
 obtain⟨b,hb⟩:=h.v2
 have a:=h.x j
 have c:=g.x j
 refine wN hb.tab.pos ?_
 calc s'.q * (X m V s j * s2.q)=(X m V s j * s'.q) * s2.q:=by grind
  _=(X m V s' j * s2.q) * s.q:=by rw[a];grind
  _=_:=by rw[c];grind,fun j hj=>(h.bs j hj).trans (g.bs j hj)⟩
def Val.fresh(h:Val m V A s b){c:Nat}(hn:s.T m c < 0):¬Bs m s c:=fun⟨i,hi,e⟩=>by
 have:=h.Gf (Nat.le_refl m) hi
 rw[e,if_neg (by omega)]at this
 omega
def Rel.step(h:Val m V A s b){t r c:Nat}(e:En m V s c)(l:Lv m V s c r)(d:s.T r V=0)(hc:c<=t)(hr:s.held r<=t):Rel m V A t s (Wg.Fo s r c):=by
 obtain⟨v,w⟩:=h.Fo e.lt l
 refine⟨⟨b,h⟩,⟨_,v⟩,fun j=>?_,fun j hj=>⟨fun⟨i,hi,ei⟩=>⟨i,hi,?_⟩,fun⟨i,hi,ei⟩=>⟨i,hi,?_⟩⟩⟩
 ·unfold X
  rw[Int.mul_comm _ (Wg.Fo s r c).q,Int.mul_comm _ s.q,<-dL,<-dL]
  refine aA fun i hi=>?_
  by_cases er:i=r
  ·subst er
   have z:(Wg.Fo s i c).T i V=0:=by show(if i=i then s.T i V else _)=0;rw[if_pos rfl];exact d
   rw[z,d]
   split<;>split<;>simp
  ·have eh:(Wg.Fo s r c).held i=s.held i:=if_neg er
   have ew:=w i V (by omega) er (Nat.le_refl _)
   rw[d,Int.mul_zero,Int.sub_zero]at ew
   rw[eh]
   split
   ·rw[ew,Int.mul_comm];rfl
   ·simp
 ·show(if i=r then c else s.held i)=j
  rw[if_neg fun er=>by subst er;omega];exact ei
 ·have ei:(if i=r then c else s.held i)=j:=ei
  by_cases er:i=r
  ·rw[if_pos er]at ei;omega
  ·rw[if_neg er]at ei;exact ei
def wO{s u:Sx}{t r c:Nat}(R:Rel m V A t s u)(e:En m V s c)(l:Lv m V s c r)(ht:s.held r=t)(hc:c<=t)(e2:En m V u t):False:=by
 obtain⟨b,h⟩:=R.v1
 obtain⟨b2,h2⟩:=R.v2
 have hne:c≠t:=fun ec=>h.fresh (by rw[<-ec];exact e.ng) ⟨r,l.lt,ht⟩
 have q1:=h.tab.pos
 have q2:=h2.tab.pos
 -- more of the place that comes in
 let y:Nat->Int:=fun j=>(if j=c then s.q else 0) - sm m fun i=>if s.held i=j then s.T i c else 0
 have along:∀F:Nat->Int,sm (V+1) (fun j=>F j * y j)=F c * s.q - sm m fun i=>F (s.held i) * s.T i c:=fun F=>by
  have e1:∀j,F j * y j=(if j=c then F j * s.q else 0)+sm m fun i=>-(if s.held i=j then F (s.held i) * s.T i c else 0):=fun j=>by
   show F j * ((if j=c then s.q else 0) - sm m fun i=>if s.held i=j then s.T i c else 0)=_
   rw[Int.mul_sub,<-dL,fU,Int.sub_eq_add_neg]
   congr 1
   ·split<;>simp
   ·congr 1
    refine aA fun i _=>?_
    split
    ·rename_i e;rw[e]
    ·simp
  rw[aA fun j _=>e1 j,i0,lU,bG (i:=c) (by have:=e.lt;omega) (fun j _ hj=>if_neg hj),if_pos rfl]
  rw[aA (g:=fun i=>-(F (s.held i) * s.T i c)) (fun i hi=>by rw[fU,bG (i:=s.held i) (by have:=h.hv i hi;omega) (fun j _ hj=>if_neg fun e=>hj e.symm),if_pos rfl]),fU,Int.sub_eq_add_neg]
 have z1:∀i,i < m->sm (V+1) (fun j=>s.T i j * y j)=0:=fun i hi=>by
  rw[along (s.T i),bG hi (fun l hl hne=>by rw[h.Gf (by omega) hl,if_neg (Ne.symm hne),Int.zero_mul]),h.Gf (by omega) hi,if_pos rfl]
  rw[Int.mul_comm];omega
 have z2:sm (V+1) (fun j=>s.T m j * y j)=s.T m c * s.q:=by
  rw[along (s.T m),bR (fun l hl=>by rw[h.Gf (Nat.le_refl m) hl,if_neg (by omega),Int.zero_mul])];omega
 obtain⟨b1,b3⟩:=h.tab.back y z1
 obtain⟨_,b4⟩:=h2.tab.rows y b1
 rw[z2,Int.mul_comm _ s.q]at b3
 have b5:sm (V+1) (fun j=>A m j * y j)=s.T m c:=wN q1 b3
 rw[b5,along (u.T m)]at b4
 have f1:0<=u.T m c:=e2.fst c (by omega)
 have f2:u.q * s.T m c < 0:=by have:=Int.mul_pos q2 (show 0 < - s.T m c by have:=e.ng;omega);rw[Int.mul_neg]at this;omega
 have f3:0<=u.T m c * s.q:=Int.mul_nonneg f1 (by omega)
 obtain⟨i,hi,hp⟩:=oA (n:=m) (f:=fun i=>u.T m (s.held i) * s.T i c) (by omega)
 have Ik:u.T m (s.held i)≠0:=fun e0=>by rw[e0,Int.zero_mul]at hp;omega
 have nb:¬Bs m u (s.held i):=fun⟨l,hl,el⟩=>Ik (by rw[<-el,h2.Gf (Nat.le_refl m) hl,if_neg (by omega)])
 have hle:s.held i<=t:=Nat.not_lt.mp fun hlt=>nb ((R.bs _ hlt).mp ⟨i,hi,rfl⟩)
 have K5:i≠r:=fun er=>by
  subst er
  rw[ht]at hp
  have:=Int.mul_pos (show 0 < - u.T m t by have:=e2.ng;omega) l.ps
  rw[Int.neg_mul]at this
  omega
 have hlt:s.held i < t:=by
  have:s.held i≠t:=fun e0=>K5 (h.inj hi l.lt (by rw[e0,ht]))
  omega
 have g1:0<=u.T m (s.held i):=e2.fst _ hlt
 have g2:0 < s.T i c:=by
  refine Int.not_le.mp fun hn=>?_
  have:=Int.mul_nonneg g1 (show 0 <= - s.T i c by omega)
  rw[Int.mul_neg]at this
  omega
 have x1:s.T i V=0:=by
  have:=R.x (s.held i)
  rw[h.x hi,tW nb,Int.zero_mul]at this
  rcases Int.mul_eq_zero.mp this with h|h
  ·exact h
  ·omega
 have x2:s.T r V=0:=by
  have:=R.x t
  rw[tW (h2.fresh e2.ng),<-ht,h.x l.lt,Int.zero_mul]at this
  rcases Int.mul_eq_zero.mp this with h|h
  ·exact h
  ·omega
 refine l.fst i hi g2 (.inr ⟨by rw[x1,x2,Int.zero_mul,Int.zero_mul],by rw[ht];exact hlt⟩)
end
section
variable (m V:Nat) (A:Nat->Nat->Int)
structure yY (s s':Sx) (c r:Nat):Prop where
 en:En m V s c
 lv:Lv m V s c r
 eq:s'=Fo s r c
noncomputable def Hn:Nat->Sx->Prop
 |0,s=>∀s' c r,¬yY m V s s' c r
 |n+1,s=>∀s' c r,yY m V s s' c r->Hn n s'
def Ed(s:Sx):Prop:=∃n,Hn m V n s
end
section
variable {m V:Nat} {A:Nat->Nat->Int}
def i4{s:Sx}{c d:Nat}(h:En m V s c)(g:En m V s d):c=d:=by
 have h1:=h.fst d
 have g1:=g.fst c
 have:=h.ng
 have:=g.ng
 by_cases h2:c < d
 ·have:=g1 h2;omega
 ·by_cases h3:d < c
  ·have:=h1 h3;omega
  ·omega
def lX{s:Sx}{b:Nat->Vc}(v:Val m V A s b){c r l:Nat}(h:Lv m V s c r)(g:Lv m V s c l):r=l:=by
 have h1:=h.fst l g.lt g.ps
 have g1:=g.fst r h.lt h.ps
 unfold ju at h1 g1
 rw[not_or,not_and]at h1 g1
 have e:s.T l V * s.T r c=s.T r V * s.T l c:=by omega
 have a:=h1.2 e
 have c:=g1.2 e.symm
 exact v.inj h.lt g.lt (by omega)
def Ed.of{s:Sx}{b:Nat->Vc}(v:Val m V A s b)(h:∀s' c r,yY m V s s' c r->Ed m V s'):Ed m V s:=by
 by_cases e:∃s' c r,yY m V s s' c r
 ·obtain⟨s',c,r,st⟩:=e
  obtain⟨n,hn⟩:=h s' c r st
  refine⟨n+1,fun s2 c2 r2 st2=>?_⟩
  have ec:=i4 st.en st2.en
  subst ec
  have er:=lX v st.lv st2.lv
  subst er
  rw[st2.eq,<-st.eq]
  exact hn
 ·exact⟨0,fun s' c r st=>e ⟨s',c,r,st⟩⟩
inductive Rc (m V:Nat) (t:Nat):Sx->Sx->Prop
 |nil {s:Sx}:Rc m V t s s
 |snoc {s u u':Sx} {c r:Nat}:Rc m V t s u->yY m V u u' c r->u.T r V=0->c < t->u.held r < t->Rc m V t s u'
def Rc.mono{t t':Nat}(ht:t<=t'){s u:Sx}(h:Rc m V t s u):Rc m V t' s u:=by
 induction h with
 |nil=>exact .nil
 |snoc _ st d a c ih=>exact .snoc ih st d (by omega) (by omega)
def Rc.trans{t:Nat}{s u w:Sx}(h:Rc m V t s u)(g:Rc m V t u w):Rc m V t s w:=by
 induction g with
 |nil=>exact h
 |snoc _ st d a c ih=>exact .snoc ih st d a c
def Rc.rel{t:Nat}{s u:Sx}(v:∃b,Val m V A s b)(h:Rc m V (t+1) s u):Rel m V A t s u:=by
 induction h with
 |nil=>exact⟨v,v,fun _=>rfl,fun _ _=>Iff.rfl⟩
 |snoc _ st d a c ih=>
  obtain⟨b,hb⟩:=ih.v2
  have:=Rel.step (t:=t) hb st.en st.lv d (by omega) (by omega)
  rw[st.eq]
  exact ih.trans this
def Rc.keep{t:Nat}{s u:Sx}(h:Rc m V t s u){j:Nat}(hj:t<=j):Bs m s j↔Bs m u j:=by
 induction h with
 |nil=>exact Iff.rfl
 |@snoc u u' c r _ st d a cc ih=>
  refine ih.trans ?_
  rw[st.eq]
  constructor
  ·rintro⟨i,hi,ei⟩
   refine⟨i,hi,?_⟩
   show(if i=r then c else u.held i)=j
   rw[if_neg fun er=>by subst er;omega];exact ei
  ·rintro⟨i,hi,ei⟩
   have ei:(if i=r then c else u.held i)=j:=ei
   refine⟨i,hi,?_⟩
   by_cases er:i=r
   ·rw[if_pos er]at ei;omega
   ·rw[if_neg er]at ei;exact ei
def Rc.val{t:Nat}{s u:Sx}(v:∃b,Val m V A s b)(h:Rc m V t s u):∃b,Val m V A u b:=by
 induction h with
 |nil=>exact v
 |snoc _ st d a c ih=>obtain⟨b,hb⟩:=ih;rw[st.eq];exact⟨_,(hb.Fo st.en.lt st.lv).1⟩
def Rc.back{t:Nat}{s u:Sx}(v:∃b,Val m V A s b)(h:Rc m V t s u)(e:Ed m V u):Ed m V s:=by
 induction h with
 |nil=>exact e
 |@snoc u u' c r g st d a cc ih=>
  obtain⟨b,hb⟩:=g.val v
  refine ih (Ed.of hb fun s2 c2 r2 st2=>?_)
  have ec:=i4 st.en st2.en
  subst ec
  have er:=lX hb st.lv st2.lv
  subst er
  rw[st2.eq,<-st.eq]
  exact e
def pM{s:Sx}{b:Nat->Vc}(v:Val m V A s b){c r:Nat}(e:En m V s c)(l:Lv m V s c r):s.q * (Fo s r c).T m V=s.T m V * s.T r c - s.T m c * s.T r V:=(v.Fo e.lt l).2 m V (Nat.le_refl _) (by have:=l.lt;omega) (Nat.le_refl _)
def vV{g0 q0:Int}(K6:0 < q0)(H:∀s b,Val m V A s b->g0 * s.q < s.T m V * q0->Ed m V s):∀(t:Nat) (s:Sx),(∃b,Val m V A s b)->s.T m V * q0=g0 * s.q->
  Ed m V s\/∃u u' c r,Rc m V t s u/\u.T m V * q0=g0 * u.q/\yY m V u u' c r/\u.T r V=0/\(t<=c\/t<=u.held r):=by
 intro t
 induction t with
 |zero=>
  intro s ⟨b,v⟩ hg
  by_cases e:∃s' c r,yY m V s s' c r
  ·obtain⟨s',c,r,st⟩:=e
   by_cases d:s.T r V=0
   ·exact .inr ⟨s,s',c,r,.nil,hg,st,d,.inl (Nat.zero_le _)⟩
   ·refine .inl (Ed.of v fun s2 c2 r2 st2=>?_)
    have ec:=i4 st.en st2.en
    subst ec
    have er:=lX v st.lv st2.lv
    subst er
    obtain⟨v2,_⟩:=v.Fo st2.en.lt st2.lv
    rw[st2.eq]
    refine H _ _ v2 ?_
    have gw:=pM v st2.en st2.lv
    have q1:=v.tab.pos
    have f1:0 < s.T r V:=by have:=v.fs r st.lv.lt;omega
    have f2:0 < (- s.T m c) * s.T r V:=Int.mul_pos (by have:=st.en.ng;omega) f1
    rw[Int.neg_mul]at f2
    show g0 * s.T r c < (Fo s r c).T m V * q0
    refine Int.lt_of_mul_lt_mul_left (a:=s.q) ?_ (by omega)
    rw[<-Int.mul_assoc,<-Int.mul_assoc s.q ((Fo s r c).T m V),gw,Int.sub_mul]
    have e1:s.q * g0 * s.T r c=s.T m V * s.T r c * q0:=by
     rw[Int.mul_comm s.q,<-hg];grind
    have f3:0 < (- (s.T m c * s.T r V)) * q0:=Int.mul_pos (by omega) K6
    rw[Int.neg_mul]at f3
    omega
  ·exact .inl ⟨0,fun s' c r st=>e ⟨s',c,r,st⟩⟩
 |succ t ih=>
  intro s vs hg
  rcases ih s vs hg with h|⟨u,u',c,r,R,gu,st,d,ht⟩
  ·exact .inl h
  by_cases big:t+1<=c\/t+1<=u.held r
  ·exact .inr ⟨u,u',c,r,R.mono (by omega),gu,st,d,big⟩
  rw[not_or]at big
  obtain⟨b,vu⟩:=R.val vs
  have R1:Rc m V (t+1) s u':=(R.mono (by omega)).snoc st d (by omega) (by omega)
  obtain⟨b',JG⟩:=R1.val vs
  have K7:u'.T m V * q0=g0 * u'.q:=by
   have gw:=pM vu st.en st.lv
   rw[d,Int.mul_zero,Int.sub_zero]at gw
   refine wN vu.tab.pos ?_
   rw[st.eq,<-Int.mul_assoc,gw]
   show u.T m V * u.T r c * q0=u.q * (g0 * u.T r c)
   have:u.T m V * u.T r c * q0=(u.T m V * q0) * u.T r c:=by grind
   rw[this,gu];grind
  rcases ih u' ⟨b',JG⟩ K7 with h|⟨w,w',c2,r2,R2,gw,st2,d2,ht2⟩
  ·exact .inl (R1.back vs h)
  by_cases Il:t+1<=c2\/t+1<=w.held r2
  ·exact .inr ⟨w,w',c2,r2,R1.trans (R2.mono (by omega)),gw,st2,d2,Il⟩
  rw[not_or]at Il
  exfalso
  obtain⟨bw,vw⟩:=R2.val ⟨b',JG⟩
  have rel:Rel m V A t u w:=by
   have r1:=Rel.step (t:=t) vu st.en st.lv d (by omega) (by omega)
   rw[<-st.eq]at r1
   exact r1.trans ((R2.mono (Nat.le_succ t)).rel ⟨b',JG⟩)
  have k1:=R2.keep (Nat.le_refl t)
  by_cases hc:c=t
  ·-- t comes in at u
   have b1:Bs m u' t:=by rw[st.eq];exact⟨r,st.lv.lt,by show(if r=r then c else _)=t;rw[if_pos rfl];exact hc⟩
   have b2:=k1.mp b1
   by_cases hc2:c2=t
   ·exact vw.fresh (by rw[<-hc2];exact st2.en.ng) b2
   ·have hr2:w.held r2=t:=by omega
    exact wO rel.symm st2.en st2.lv hr2 (by omega) (by rw[<-hc];exact st.en)
  ·-- t goes out at u
   have hr:u.held r=t:=by omega
   have b1:¬Bs m u' t:=by
    rw[st.eq]
    rintro⟨i,hi,ei⟩
    have ei:(if i=r then c else u.held i)=t:=ei
    by_cases er:i=r
    ·rw[if_pos er]at ei;exact hc ei
    ·rw[if_neg er]at ei;exact er (vu.inj hi st.lv.lt (by rw[ei,hr]))
   by_cases hc2:c2=t
   ·exact wO rel st.en st.lv hr (by omega) (by rw[<-hc2];exact st2.en)
   ·have hr2:w.held r2=t:=by omega
    exact b1 (k1.mpr ⟨r2,st2.lv.lt,hr2⟩)
end
end Wg
namespace CW
open PySem L2 L3 Wd
open C
noncomputable def bF(R H:Addr)(q:Int):List (Str×PV):=[("rows",.ref R),("held",.ref H),("bottom",.int q)]
def fW(R H:Addr)(q:Int):(bF R H q).lookup ("rows":Str)=some (.ref R):=rfl
def lZ(R H:Addr)(q:Int):(bF R H q).lookup ("held":Str)=some (.ref H):=rfl
def tX(R H:Addr)(q:Int):(bF R H q).lookup ("bottom":Str)=some (.int q):=rfl
def yZ(R H R':Addr)(q:Int):putF3 ("rows":Str) (.ref R') (bF R H q)=bF R' H q:=by simp[putF3,bF]
def AI(R H:Addr)(q q':Int):putF3 ("bottom":Str) (.int q') (bF R H q)=bF R H q':=by simp[putF3,bF,da]
noncomputable def hV(held:List Nat):List PV:=held.map fun n:Nat=>PV.int (n:Int)
structure BalAt (S:av) (a R H:Addr) (rs:List Addr) (rows:List (List Int)) (held:List Nat) (q:Int):Prop where
 o:S a=some (.ins "Balance" (bF R H q))
 r:S R=some (.lst (rs.map PV.ref))
 rl:rs.length=rows.length
 rr:∀(i:Nat) r row,rs[i]?=some r->rows[i]?=some row->S r=some (.lst (row.map PV.int))
 h:S H=some (.lst (hV held))
 nR:R≠H
 nr:∀r∈rs,r≠H
def j2{n i:Nat}(h:i < n):o6 n (i:Int)=some i:=by unfold o6;rw[if_pos (by omega),if_pos (by omega)];simp
noncomputable def i5(rows:List (List Int))(r c:Nat)(q:Int):List (List Int):=(rows.map fun row=>lT row (rows.getD r []) c q).set r (rows.getD r [])
def C2(a H:Addr)(S S':av):Prop:=∀b o,S b=some o->b≠a->b≠H->S' b=some o
structure wP (rows:List (List Int)) (N:Nat):Prop where
 w:∀row∈rows,row.length=N
 n:N<=500
 l:rows.length<=500
 s:∀row∈rows,∀x∈row,Sz x
abbrev ip(w:aC):Prop:=∀{S:av} {a R H:Addr} {rs:List Addr} {rows:List (List Int)} {held:List Nat} {q:Int} {N r c:Nat} {Q:bP} {E:cC},BalAt S a R H rs rows held q->wP rows N->r < rows.length->r < held.length->c < N->q≠0->Sz q->
 (∀S' R' rs',BalAt S' a R' H rs' (i5 rows r c q) (held.set r c) ((rows.getD r []).getD c 0)->C2 a H S S'->Q .non S')->w [.ref a,.int (r:Int),.int (c:Int)] S Q E
def E6{xw:aC}(FW:m7 xw):ip (bc 5 (dI xw)):=by
 intro S a R H rs rows held q N r c Q E B sh hr hh hc hq HE k
 unfold dI
 refine eW ?_
 rw[show ar 5 [.ref a,.int (r:Int),.int (c:Int)]=[some (.ref a),some (.int (r:Int)),some (.int (c:Int)),none,none] from rfl]
 have hrl:=B.rl
 obtain⟨ch,hch⟩:∃ch,rows[r]?=some ch:=⟨_,List.getElem?_eq_getElem hr⟩
 obtain⟨pc,IQ⟩:∃pc,rs[r]?=some pc:=⟨_,List.getElem?_eq_getElem (by omega)⟩
 have HQ:rows.getD r []=ch:=by rw[List.getD_eq_getElem?_getD,hch];rfl
 have Kh:=List.mem_of_getElem? hch
 have Im:=sh.w ch Kh
 have Io:=B.rr r pc ch IQ hch
 rw[HQ]at k
 have hNn:=sh.n
 have hLl:=sh.l
 refine ax fun N1 hN=>?_
 simp only[am,ai,ci,v3,lk,cm,B.o,fW,true_and,aj,B.r]
 rw[bD (v:=PV.ref pc) (by rw[List.getElem?_map,IQ];rfl)]
 simp only[List.set_cons_succ,List.set_cons_zero]
 refine hN _ _ (ax fun N1 hN=>?_)
 simp only[am,aw,aO,ci,v3,lk,cm,B.o,fW,true_and,cf,B.r]
 refine bK (fun done ys S'=>∃ns:List Addr,ys=ns.map PV.ref/\done.length<=rs.length/\ns.length=done.length/\Ext S S'/\(∀n∈ns,S n=none)/\(∀(i:Nat) n row,ns[i]?=some n->rows[i]?=some row->S' n=some (.lst ((lT row ch c q).map PV.int)))) ⟨[],rfl,Nat.zero_le _,rfl,.refl,(fun n h=>by cases h),(fun i n row h=>by cases h)⟩ ?_ ?_ ?_
 ·rintro done ys S' ⟨ns,rfl,h1,h2,X,h3,h4⟩
  exact⟨X _ _ B.r,aV (by rw[List.length_map];omega)⟩
 ·rintro done x rest ys S' K e ⟨ns,rfl,h1,h2,X,h3,h4⟩ hK
  have hget:(rs.map PV.ref)[done.length]?=some x:=by rw[e];simp
  obtain⟨pr,IR,rfl⟩:∃p,rs[done.length]?=some p/\PV.ref p=x:=by rw[List.getElem?_map]at hget;exact Option.map_eq_some_iff.mp hget
  have hlt:done.length < rs.length:=(List.getElem?_eq_some_iff.mp IR).1
  obtain⟨row,ER⟩:∃row,rows[done.length]?=some row:=⟨_,List.getElem?_eq_getElem (by omega)⟩
  have GR:=List.mem_of_getElem? ER
  have K8:=sh.w row GR
  have HF:=X _ _ (B.rr _ pr row IR ER)
  simp only[Tg.put,bV,List.reduceReplicate,List.map_cons,List.map_nil,List.cons_append,List.nil_append,List.set_cons_zero,bz,if_true,ad,ag,ci,v3,lk,cm,X _ _ B.o,tX,true_and]
  refine FW HF (X _ _ Io) (by omega) (by omega) (by omega) hq HE (sh.s row GR) (sh.s ch Kh) fun p S2 hp X2 f2=>?_
  refine hK _ _ ⟨ns++[p],by simp,by rw[List.length_append];exact hlt,by simp[h2],X.trans X2,fun n hn=>?_,fun i n rw' hn hrw=>?_⟩
  ·rcases List.mem_append.mp hn with h|h
   ·exact h3 n h
   ·rw[List.mem_singleton.mp h];exact X.free hp
  ·by_cases hi:i < ns.length
   ·rw[List.getElem?_append_left hi]at hn
    exact X2 _ _ (h4 i n rw' hn hrw)
   ·rw[List.getElem?_append_right (by omega)]at hn
    have e0:i - ns.length=0:=by
     have:=(List.getElem?_eq_some_iff.mp hn).1
     rw[List.length_singleton]at this
     omega
    rw[e0]at hn
    cases hn
    have ei:i=done.length:=by omega
    rw[ei,ER]at hrw
    cases hrw
    exact f2
 rintro ys S1 ⟨ns,rfl,_,h2,X1,h3,h4⟩
 rw[List.length_map]at h2
 intro po Ki
 have Xo:Ext S1 (Dd S1 po (.lst (ns.map PV.ref))):=.new Ki
 have fo:(Dd S1 po (.lst (ns.map PV.ref))) po=some (.lst (ns.map PV.ref)):=aa
 have K9:S po=none:=X1.free Ki
 generalize Dd S1 po (.lst (ns.map PV.ref))=S2 at Xo fo
 have X2:=X1.trans Xo
 simp only[List.set_cons_succ,List.set_cons_zero]
 refine hN _ _ (ax fun N1 hN=>?_)
 simp only[fS,ai,bX,v3,lk,pA,lG,iJ,fo]
 rw[tu (by rw[List.length_map];omega)]
 intro p1 hp1
 have X3:Ext S2 (Dd S2 p1 (.lst ((ns.map PV.ref).take r))):=.new hp1
 have f1:(Dd S2 p1 (.lst ((ns.map PV.ref).take r))) p1=some (.lst ((ns.map PV.ref).take r)):=aa
 generalize Dd S2 p1 (.lst ((ns.map PV.ref).take r))=S3 at X3 f1
 simp only[cD,ag,v3,lk]
 intro p2 hp2
 have X4:Ext S3 (Dd S3 p2 (.lst [.ref pc])):=.new hp2
 have f2:(Dd S3 p2 (.lst [.ref pc])) p2=some (.lst [.ref pc]):=aa
 generalize Dd S3 p2 (.lst [.ref pc])=S4 at X4 f2
 refine m4 (X4 _ _ f1) f2 (by simp;omega) fun p3 S5 hp3 X5 f3=>?_
 have K_:=X5 _ _ (X4 _ _ (X3 _ _ fo))
 have e1:∀Q:bP,bo (.int (r:Int)) (.int 1) S5 Q=Q (.int ((r:Int)+1)) S5:=fun _=>rfl
 simp only[c3,e1,iJ,K_]
 rw[show((r:Int)+1)=((r+1:Nat):Int) by omega,tw (by rw[List.length_map];omega)]
 intro p4 Ih
 have X6:Ext S5 (Dd S5 p4 (.lst ((ns.map PV.ref).drop (r+1)))):=.new Ih
 have f4:(Dd S5 p4 (.lst ((ns.map PV.ref).drop (r+1)))) p4=some (.lst ((ns.map PV.ref).drop (r+1))):=aa
 generalize Dd S5 p4 (.lst ((ns.map PV.ref).drop (r+1)))=S6 at X6 f4
 refine m4 (X6 _ _ f3) f4 (by simp;omega) fun p5 S7 Ii X7 f5=>?_
 have Kj:Ext S2 S7:=X3.trans (X4.trans (X5.trans (X6.trans X7)))
 have XS:Ext S S7:=X2.trans Kj
 have G9:S p5=none:=(X2.trans (X3.trans (X4.trans (X5.trans X6)))).free Ii
 have JH:(ns.map PV.ref).take r++[PV.ref pc]++(ns.map PV.ref).drop (r+1)=(ns.set r pc).map PV.ref:=by
  rw[List.map_set,List.set_eq_take_append_cons_drop,if_pos (by rw[List.length_map];omega),List.append_assoc];rfl
 rw[JH]at f5
 have o7:=XS _ _ B.o
 simp only[cm,o7,true_and]
 refine⟨by simp[bF],?_⟩
 rw[yZ]
 have La:p5≠a:=fun h=>by rw[h,B.o]at G9;cases G9
 have Kk:p5≠H:=fun h=>by rw[h,B.h]at G9;cases G9
 have JI:a≠H:=fun h=>by have:=B.o;rw[h,B.h]at this;cases this
 have o8:(Dd S7 a (.ins "Balance" (bF p5 H q))) a=some (.ins "Balance" (bF p5 H q)):=aa
 have k8:∀b o,S7 b=some o->b≠a->(Dd S7 a (.ins "Balance" (bF p5 H q))) b=some o:=fun b o h hb=>by rw[aq hb];exact h
 generalize Dd S7 a (.ins "Balance" (bF p5 H q))=S8 at o8 k8
 have Kl:pc≠a:=fun h=>by rw[h,B.o]at Io;cases Io
 have Lb:=k8 _ _ (XS _ _ Io) Kl
 have ec:Eh (ch.map PV.int) (c:Int)=some (.int (ch.getD c 0)):=bD (by rw[List.getElem?_map,List.getD_eq_getElem?_getD,List.getElem?_eq_getElem (by omega)];rfl)
 refine hN _ _ (ax fun N1 hN=>?_)
 simp only[fS,ai,v3,lk,aj,Lb,ec,cm,o8,true_and]
 refine⟨by simp[bF],?_⟩
 rw[AI]
 have o9:(Dd S8 a (.ins "Balance" (bF p5 H (ch.getD c 0)))) a=some (.ins "Balance" (bF p5 H (ch.getD c 0))):=aa
 have k9:∀b o,S8 b=some o->b≠a->(Dd S8 a (.ins "Balance" (bF p5 H (ch.getD c 0)))) b=some o:=fun b o h hb=>by rw[aq hb];exact h
 generalize Dd S8 a (.ins "Balance" (bF p5 H (ch.getD c 0)))=S9 at o9 k9
 have Lc:=k9 _ _ (k8 _ _ (XS _ _ B.h) (Ne.symm JI)) (Ne.symm JI)
 refine hN _ _ ?_
 simp only[iM,ci,v3,lk,cm,o9,lZ,true_and,e_,Lc]
 rw[show o6 (hV held).length (r:Int)=some r from j2 (by unfold hV;rw[List.length_map];exact hh)]
 have Ld:(hV held).set r (.int (c:Int))=hV (held.set r c):=by unfold hV;rw[List.map_set]
 simp only[Ld]
 have kk:∀b o,S7 b=some o->b≠a->b≠H->(Dd S9 H (.lst (hV (held.set r c)))) b=some o:=fun b o h h1 h2=>by rw[aq h2];exact k9 _ _ (k8 _ _ h h1) h1
 refine k _ p5 (ns.set r pc) ⟨?_,kk _ _ f5 La Kk,?_,fun i n row hn hrw=>?_,aa,Kk,fun n hn=>?_⟩ fun b o h h1 h2=>kk b o (XS _ _ h) h1 h2
 ·rw[aq JI];exact o9
 ·unfold i5;rw[List.length_set,List.length_set,List.length_map];omega
 ·unfold i5 at hrw
  rw[HQ]at hrw
  rw[List.getElem?_set]at hn hrw
  by_cases e:r=i
  ·rw[if_pos e,if_pos (by omega)]at hn
   rw[if_pos e,if_pos (by rw[List.length_map];omega)]at hrw
   cases hn;cases hrw
   exact kk _ _ (XS _ _ Io) Kl (B.nr _ (List.mem_of_getElem? IQ))
  ·rw[if_neg e]at hn hrw
   rw[List.getElem?_map]at hrw
   obtain⟨G_,hr0,rfl⟩:=Option.map_eq_some_iff.mp hrw
   have fn:=h4 i n G_ hn hr0
   have nS:=h3 n (List.mem_of_getElem? hn)
   exact kk _ _ (Kj _ _ (Xo _ _ fn)) (fun h=>by rw[h,B.o]at nS;cases nS) (fun h=>by rw[h,B.h]at nS;cases nS)
 ·rcases List.mem_or_eq_of_mem_set hn with h|h
  ·have nS:=h3 n h
   exact fun h'=>by rw[h',B.h]at nS;cases nS
  ·rw[h];exact B.nr _ (List.mem_of_getElem? IQ)
end CW
namespace Wg
noncomputable def Kb(C:Nat):Nat->Nat
 |0=>1
 |M+1=>(M+1) * (C * Kb C M)
def oC{n B:Nat}{f:Nat->Int}(h:∀i,i < n->(f i).natAbs<=B):(sm n f).natAbs<=n * B:=by
 induction n with
 |zero=>simp[sm]
 |succ n ih=>
  simp only[sm]
  have:=ih fun i hi=>h i (by omega)
  have:=h n (by omega)
  have:=Int.natAbs_add_le (sm n f) (f n)
  rw[Nat.succ_mul]
  omega
theorem l5(C:Nat):∀(M:Nat) (b:Nat->Vc),(∀i k,i < M->k < M->(b i k).natAbs<=C)->(dt M b).natAbs<=Kb C M
 |0,_,_=>by simp[dt,Kb]
 |M+1,b,h=>by
  simp only[dt,Kb]
  refine oC fun i hi=>?_
  have sgn:(sg (i+M)).natAbs=1:=by unfold sg;split<;>rfl
  rw[Int.natAbs_mul,Int.natAbs_mul,sgn,Nat.one_mul]
  exact Nat.mul_le_mul (h i M hi (by omega)) (l5 C M (sk i b) fun l k hl hk=>h _ k (by split<;>omega) (by omega))
section
variable {m V:Nat} {A:Nat->Nat->Int} {s:Sx} {b:Nat->Vc}
def Val.bnd(h:Val m V A s b){C:Nat}(h1:1<=C)(hA:∀k j,k<=m->j<=V->(A k j).natAbs<=C):(∀i j,i<=m->j<=V->(s.T i j).natAbs<=Kb C (m+1))/\s.q.natAbs<=Kb C (m+1):=by
 have hb:∀i k,i<=m->k<=m->(b i k).natAbs<=C:=fun i k hi hk=>by
  by_cases e:i=m
  ·subst e;rw[h.tab.gl k];unfold eu;split<;>simp<;>omega
  ·rw[h.hb i k (by omega) hk];exact hA k _ hk (by have:=h.hv i (by omega);omega)
 refine⟨fun i j hi hj=>?_,?_⟩
 ·rw[h.tab.ent hi (by omega)]
  refine l5 C _ _ fun l k hl hk=>?_
  by_cases e:l=i
  ·subst e;rw[aE];exact hA k j (by omega) hj
  ·rw[aX e];exact hb l k (by omega) (by omega)
 ·rw[<-h.tab.det]
  exact l5 C _ _ fun l k hl hk=>hb l k (by omega) (by omega)
noncomputable def mu(m V:Nat)(K:Int)(s:Sx):Int:=((K * s.q - s.T m V) * (K * K)) / s.q
def vW{K g q g' q':Int}(hq:0 < q)(hq':0 < q')(k1:q<=K)(k2:q'<=K)(h:g * q' < g' * q):((K * q' - g') * (K * K)) / q'+1<=((K * q - g) * (K * K)) / q:=by
 rw[Int.le_ediv_iff_mul_le hq]
 refine Int.le_of_mul_le_mul_right (a:=q') ?_ hq'
 have e1:((K * q' - g') * (K * K)) / q' * q'<=(K * q' - g') * (K * K):=Int.ediv_mul_le _ (by omega)
 have e2:q * q'<=K * K:=Int.mul_le_mul k1 k2 (by omega) (by omega)
 have e3:K * K<=(g' * q - g * q') * (K * K):=by
  have:0<=K * K:=Int.mul_nonneg (by omega) (by omega)
  have:=Int.mul_le_mul_of_nonneg_right (show 1<=g' * q - g * q' by omega) this
  omega
 have e4:(((K * q' - g') * (K * K)) / q'+1) * q * q'=(((K * q' - g') * (K * K)) / q' * q') * q+q * q':=by grind
 have e5:=Int.mul_le_mul_of_nonneg_right e1 (show 0<=q by omega)
 have e6:(K * q - g) * (K * K) * q'=(K * q' - g') * (K * K) * q+(g' * q - g * q') * (K * K):=by grind
 rw[e4,e6]
 omega
def ends{C:Nat}(h1:1<=C)(hA:∀k j,k<=m->j<=V->(A k j).natAbs<=C):∀(n:Nat) (s:Sx) (b:Nat->Vc),Val m V A s b->mu m V (Kb C (m+1)) s < n->Ed m V s:=by
 intro n
 induction n with
 |zero=>
  intro s b v Km
  exfalso
  obtain⟨b1,b2⟩:=v.bnd h1 hA
  have q1:=v.tab.pos
  have:=b1 m V (Nat.le_refl _) (Nat.le_refl _)
  have k0:(s.T m V)<=(Kb C (m+1):Int) * s.q:=by
   have a1:s.T m V<=(Kb C (m+1):Int):=by omega
   have:=Int.mul_le_mul_of_nonneg_left (show 1<=s.q by omega) (show 0<=(Kb C (m+1):Int) by omega)
   omega
  have:0<=mu m V (Kb C (m+1)) s:=Int.ediv_nonneg (Int.mul_nonneg (by omega) (Int.mul_nonneg (by omega) (by omega))) (by omega)
  omega
 |succ n ih=>
  intro s b v Km
  obtain⟨b1,b2⟩:=v.bnd h1 hA
  have q1:=v.tab.pos
  have H:∀s' b',Val m V A s' b'->s.T m V * s'.q < s'.T m V * s.q->Ed m V s':=fun s' b' v' hg=>by
   refine ih s' b' v' ?_
   have q2:=v'.tab.pos
   have:=(v'.bnd h1 hA).2
   have:=vW (K:=Kb C (m+1)) q1 q2 (by omega) (by omega) hg
   unfold mu at Km ⊢
   omega
  rcases vV (A:=A) (g0:=s.T m V) (q0:=s.q) q1 H V s ⟨b,v⟩ rfl with h|⟨u,u',c,r,R,gu,st,d,ht⟩
  ·exact h
  ·exfalso
   obtain⟨bu,vu⟩:=R.val ⟨b,v⟩
   have:=st.en.lt
   have:=vu.hv r st.lv.lt
   omega
theorem Val.ends(v:Val m V A s b){C:Nat}(h1:1<=C)(hA:∀k j,k<=m->j<=V->(A k j).natAbs<=C):Ed m V s:=Wg.ends h1 hA ((mu m V (Kb C (m+1)) s).toNat+1) s b v (by omega)
end
end Wg
namespace CW
open PySem L2 L3 Wd
open C
noncomputable def toS(rows:List (List Int))(held:List Nat)(q:Int):Wg.Sx:=⟨fun i j=>(rows.getD i []).getD j 0,fun i=>held.getD i 0,q⟩
structure Dim (rows:List (List Int)) (held:List Nat) (m V:Nat):Prop where
 rl:rows.length=m+1
 hl:held.length=m
 w:∀row∈rows,row.length=V+1
 m1:m<=400
 v1:V<=400
 s:∀row∈rows,∀x∈row,Sz x
def Dim.sh{rows:List (List Int)}{held:List Nat}{m V:Nat}(h:Dim rows held m V):wP rows (V+1):=⟨h.w,by have:=h.v1;omega,by have:=h.rl;have:=h.m1;omega,h.s⟩
def kW{α:Type}{xs:List α}{n:Nat}{y:α}(hl:xs.length=n+1)(h:xs[n]?=some y):Eh xs (-1)=some y:=by
 unfold Eh o6
 rw[if_neg (by omega),if_pos (by omega)]
 have:(-1+(xs.length:Int)).toNat=n:=by omega
 rw[this]
 exact h
def vX{α:Type}{xs:List α}:eB xs none (some (-1))=xs.take (xs.length - 1):=by
 unfold eB
 rw[HT.jG,List.drop_zero,Nat.sub_zero]
 have:HT.Dz xs.length xs.length (some (-1))=if (-1:Int) < 0 then (-1+((xs.length:Nat):Int)).toNat else min (-1:Int).toNat xs.length:=rfl
 rw[this,if_pos (by decide)]
 congr 1
 omega
def aD{α:Type}{xs:List α}{i:Nat}{y d:α}(h:xs[i]?=some y):xs.getD i d=y:=by rw[List.getD_eq_getElem?_getD,h];rfl
section
variable {S:av} {a R H:Addr} {rs:List Addr} {rows:List (List Int)} {held:List Nat} {q:Int} {m V:Nat}
def j3(B:BalAt S a R H rs rows held q)(D:Dim rows held m V){i:Nat}(hi:i<=m):∃p row,rs[i]?=some p/\rows[i]?=some row/\S p=some (.lst (row.map PV.int))/\row.length=V+1/\(∀x∈row,Sz x)/\(∀j,(toS rows held q).T i j=row.getD j 0):=by
 have h1:=B.rl
 have h2:=D.rl
 obtain⟨row,ER⟩:∃row,rows[i]?=some row:=⟨_,List.getElem?_eq_getElem (by omega)⟩
 obtain⟨p,hp⟩:∃p,rs[i]?=some p:=⟨_,List.getElem?_eq_getElem (by omega)⟩
 have mr:=List.mem_of_getElem? ER
 exact⟨p,row,hp,ER,B.rr i p row hp ER,D.w row mr,D.s row mr,fun j=>by show(rows.getD i []).getD j 0=_;rw[aD ER]⟩
def fX{row:Vu}{j:Nat}(h:j < row.length):Eh (row.map PV.int) (j:Int)=some (.int (row.getD j 0))/\row.getD j 0∈row:=by
 have e:=List.getElem?_eq_getElem h
 refine⟨bD (by rw[List.getElem?_map,e,aD e];rfl),?_⟩
 rw[aD e]
 exact List.getElem_mem h
end
abbrev m9(w:aC):Prop:=∀{S:av} {a R H:Addr} {rs:List Addr} {rows:List (List Int)} {held:List Nat} {q:Int} {m V:Nat} {Q:bP} {E:cC},BalAt S a R H rs rows held q->Dim rows held m V->
 (∀S',Ext S S'->(∀j,j < V->0<=(toS rows held q).T m j)->Q .non S')->(∀(c:Nat) S',Ext S S'->Wg.En m V (toS rows held q) c->Q (.int (c:Int)) S')->w [.ref a] S Q E
def FX:m9 (bc 3 cI):=by
 intro S a R H rs rows held q m V Q E B D k0 k1
 unfold cI
 refine eW ?_
 rw[show ar 3 [PV.ref a]=[some (.ref a),none,none] from rfl]
 obtain⟨p,row,hp,ER,fp,hl,_,hT⟩:=j3 B D (Nat.le_refl m)
 have hv:=D.v1
 refine ax fun N hN=>?_
 simp only[bU,gk,bX,ai,ci,v3,lk,c3,jj,df,pA,lG,cm,B.o,fW,true_and,aj,B.r]
 rw[kW (n:=m) (by rw[List.length_map,B.rl,D.rl]) (show(rs.map PV.ref)[m]?=some (.ref p) by rw[List.getElem?_map,hp];rfl)]
 simp only[iJ,fp]
 rw[vX,List.length_map,hl,Nat.add_sub_cancel,<-List.map_take]
 intro p2 hp2
 have X2:Ext S (Dd S p2 (.lst ((row.take V).map PV.int))):=.new hp2
 have f2:(Dd S p2 (.lst ((row.take V).map PV.int))) p2=some (.lst ((row.take V).map PV.int)):=aa
 generalize Dd S p2 (.lst ((row.take V).map PV.int))=S2 at X2 f2
 simp only[f2]
 refine bp (fun done σ S'=>S'=S2/\done.length<=V/\(∃x1 x2,σ=[some (.ref a),x1,x2])/\∀j,j < done.length->0<=row.getD j 0) ⟨rfl,Nat.zero_le _,⟨_,_,rfl⟩,fun j hj=>absurd hj (Nat.not_lt_zero _)⟩ (fun _ _ _ ⟨e,_⟩=>by rw[e];exact f2) ?_ ?_
 ·rintro done x rest σ S' K e ⟨rfl,hd,⟨x1,x2,rfl⟩,hn⟩ hK
  obtain⟨y,rfl,hy⟩:=mW e
  rw[List.getElem?_map]at hy
  obtain⟨n,hn1,rfl⟩:=Option.map_eq_some_iff.mp hy
  have hlt:done.length < V:=by have:=(List.getElem?_eq_some_iff.mp hn1).1;rw[List.length_take]at this;omega
  rw[List.getElem?_take_of_lt hlt]at hn1
  have en:=aD (d:=0) hn1
  simp only[Tg.put,Tg.DV,List.set_cons_succ,List.set_cons_zero,cj,a8,ai,v3,lk,c3,kr,bx,decide_eq_true_eq]
  split
  ·rename_i hneg
   simp only[ap,v3,lk]
   exact k1 done.length S' X2 ⟨hlt,by rw[hT,en];exact hneg,fun j hj=>by rw[hT];exact hn j hj⟩
  ·rename_i hneg
   refine hK _ _ ⟨rfl,by rw[List.length_append];exact hlt,⟨_,_,rfl⟩,fun j hj=>?_⟩
   rw[List.length_append,List.length_singleton]at hj
   by_cases ej:j=done.length
   ·subst ej;rw[en];omega
   ·exact hn j (by omega)
 ·rintro σ S' ⟨rfl,hd,⟨x1,x2,rfl⟩,hn⟩
  refine hN _ _ ?_
  walk_at "x"
  have ln:(L3.bf ((row.take V).map PV.int)).length=V:=by unfold L3.bf;rw[List.length_mapIdx,List.length_map,List.length_take];omega
  rw[ln]at hn
  exact k0 S' X2 fun j hj=>by rw[hT];exact hn j hj
abbrev m_(w:aC):Prop:=∀{S:av} {a R H:Addr} {rs:List Addr} {rows:List (List Int)} {held:List Nat} {q:Int} {m V i r c:Nat} {Q:bP} {E:cC},BalAt S a R H rs rows held q->Dim rows held m V->i < m->r < m->c<=V->
 (∀b:Bool,(b=true↔Wg.ju V (toS rows held q) c i r)->Q (.bl b) S)->w [.ref a,.int (i:Int),.int (r:Int),.int (c:Int)] S Q E
def FY:m_ (bc 6 cV):=by
 intro S a R H rs rows held q m V i r c Q E B D hi hr hc k
 unfold cV
 refine eW ?_
 rw[show ar 6 [PV.ref a,.int (i:Int),.int (r:Int),.int (c:Int)]=[some (.ref a),some (.int (i:Int)),some (.int (r:Int)),some (.int (c:Int)),none,none] from rfl]
 obtain⟨p1,F_,hp1,hr1,f1,l1,s1,T1⟩:=j3 B D (show i<=m by omega)
 obtain⟨p2,row2,hp2,hr2,f2,l2,s2,T2⟩:=j3 B D (show r<=m by omega)
 have e1:Eh (rs.map PV.ref) (i:Int)=some (.ref p1):=bD (by rw[List.getElem?_map,hp1];rfl)
 have e2:Eh (rs.map PV.ref) (r:Int)=some (.ref p2):=bD (by rw[List.getElem?_map,hp2];rfl)
 have v1:=fX (row:=F_) (j:=V) (by omega)
 have v2:=fX (row:=row2) (j:=V) (by omega)
 have c1:=fX (row:=F_) (j:=c) (by omega)
 have c2:=fX (row:=row2) (j:=c) (by omega)
 have m1:Eh (F_.map PV.int) (-1)=some (.int (F_.getD V 0)):=kW (n:=V) (by rw[List.length_map,l1]) (by rw[List.getElem?_map,List.getElem?_eq_getElem (by omega),List.getD_eq_getElem?_getD,List.getElem?_eq_getElem (by omega)];rfl)
 have m2:Eh (row2.map PV.int) (-1)=some (.int (row2.getD V 0)):=kW (n:=V) (by rw[List.length_map,l2]) (by rw[List.getElem?_map,List.getElem?_eq_getElem (by omega),List.getD_eq_getElem?_getD,List.getElem?_eq_getElem (by omega)];rfl)
 have hel:∀j,j < m->Eh (hV held) (j:Int)=some (.int ((held.getD j 0:Nat):Int)):=fun j hj=>bD (by
  unfold hV
  have:j < held.length:=by rw[D.hl];exact hj
  rw[List.getElem?_map,List.getElem?_eq_getElem this,List.getD_eq_getElem?_getD,List.getElem?_eq_getElem this];rfl)
 refine ax fun N hN=>?_
 simp only[am,ai,ci,v3,lk,c3,jj,df,cm,B.o,fW,true_and,aj,B.r,e1,e2,f1,f2,m1,c2.1,aQ]
 refine⟨(s1 _ v1.2).mul (s2 _ c2.2),?_⟩
 simp only[List.set_cons_succ,List.set_cons_zero]
 refine hN _ _ (ax fun N hN=>?_)
 simp only[am,ai,ci,v3,lk,c3,jj,df,cm,B.o,fW,true_and,aj,B.r,e1,e2,f1,f2,m2,c1.1,aQ]
 refine⟨(s2 _ v2.2).mul (s1 _ c1.2),?_⟩
 simp only[List.set_cons_succ,List.set_cons_zero]
 refine hN _ _ ?_
 simp only[ap,ai,a7,ag,ci,v3,lk,cm,B.o,lZ,true_and,aj,B.h,hel i hi,hel r hr,vP]
 refine k _ ?_
 rw[decide_eq_true_eq]
 unfold Wg.ju
 rw[T1,T1,T2,T2]
 show _↔F_.getD V 0 * row2.getD c 0 < row2.getD V 0 * F_.getD c 0\/(F_.getD V 0 * row2.getD c 0=row2.getD V 0 * F_.getD c 0/\held.getD i 0 < held.getD r 0)
 constructor
 ·rintro(h|⟨h,h2⟩)
  ·exact .inl h
  ·exact .inr ⟨h,by omega⟩
 ·rintro(h|⟨h,h2⟩)
  ·exact .inl h
  ·exact .inr ⟨h,by omega⟩
def oE{s:Wg.Sx}{V c i r l:Nat}(hi:0 < s.T i c)(hr:0 < s.T r c)(hl:0 < s.T l c)(h:Wg.ju V s c i r)(g:Wg.ju V s c r l):Wg.ju V s c i l:=by
 unfold Wg.ju at *
 have cmp:∀{x y:Int},s.T r c * x<=s.T r c * y->x<=y:=fun h=>Int.le_of_mul_le_mul_left h hr
 have A:s.T r c * (s.T i V * s.T l c)=(s.T i V * s.T r c) * s.T l c:=by grind
 have C:s.T r c * (s.T l V * s.T i c)=(s.T l V * s.T r c) * s.T i c:=by grind
 have M:(s.T r V * s.T i c) * s.T l c=(s.T r V * s.T l c) * s.T i c:=by grind
 rcases h with h|⟨h,h2⟩
 ·have h3:=Int.mul_lt_mul_of_pos_right h hl
  rcases g with g|⟨g,g2⟩
  ·have g3:=Int.mul_lt_mul_of_pos_right g hi
   exact .inl (Int.lt_of_mul_lt_mul_left (a:=s.T r c) (by rw[A,C];omega) (by omega))
  ·refine .inl (Int.lt_of_mul_lt_mul_left (a:=s.T r c) (by rw[A,C,<-g];omega) (by omega))
 ·rcases g with g|⟨g,g2⟩
  ·have g3:=Int.mul_lt_mul_of_pos_right g hi
   exact .inl (Int.lt_of_mul_lt_mul_left (a:=s.T r c) (by rw[A,C,h];omega) (by omega))
  ·exact .inr ⟨Int.eq_of_mul_eq_mul_left (a:=s.T r c) (by omega) (by rw[A,C,h,<-g];exact M),by omega⟩
noncomputable def fV:Option Nat->PV
 |none=>.non
 |some r=>.int (r:Int)
abbrev ni(w:aC):Prop:=∀{S:av} {a R H:Addr} {rs:List Addr} {rows:List (List Int)} {held:List Nat} {q:Int} {m V c:Nat} {Q:bP} {E:cC},BalAt S a R H rs rows held q->Dim rows held m V->c<=V->
 ((∀i,i < m->(toS rows held q).T i c<=0)->Q .non S)->(∀r:Nat,Wg.Lv m V (toS rows held q) c r->Q (.int (r:Int)) S)->w [.ref a,.int (c:Int)] S Q E
def FZ{xs:aC}(FY:m_ xs):ni (bc 4 (cJ xs)):=by
 intro S a R H rs rows held q m V c Q E B D hc k0 k1
 unfold cJ
 refine eW ?_
 rw[show ar 4 [PV.ref a,.int (c:Int)]=[some (.ref a),some (.int (c:Int)),none,none] from rfl]
 have hm:=D.m1
 refine ax fun N hN=>?_
 walk_at "x"
 refine hN _ _ (ax fun N hN=>?_)
 simp only[bU,ck,ah,ag,ci,v3,lk,cm,B.o,lZ,true_and,aS,B.h]
 rw[show(hV held).length=m by unfold hV;rw[List.length_map,D.hl]]
 refine⟨by omega,by omega,?_⟩
 rw[Int.toNat_natCast]
 let T:=(toS rows held q).T
 refine bp (fun done σ S'=>S'=S/\done.length<=m/\∃(f:Option Nat) (x3:Option PV),σ=[some (.ref a),some (.int (c:Int)),some (fV f),x3]/\
   (match f with|none=>∀i,i < done.length->(toS rows held q).T i c<=0|some r=>r < done.length/\0 < (toS rows held q).T r c/\∀i,i < done.length->0 < (toS rows held q).T i c->¬Wg.ju V (toS rows held q) c i r)) ⟨rfl,Nat.zero_le _,none,_,rfl,fun i hi=>absurd hi (Nat.not_lt_zero _)⟩ (fun _ _ _ _=>trivial) ?_ ?_
 ·rintro done x rest σ S' K e ⟨rfl,hd,f,x3,rfl,hf⟩ hK
  obtain⟨rfl,hi⟩:=cp e
  obtain⟨p,row,hp,ER,fp,hl,_,hT⟩:=j3 B D (show done.length<=m by omega)
  have e1:Eh (rs.map PV.ref) (done.length:Int)=some (.ref p):=bD (by rw[List.getElem?_map,hp];rfl)
  have c1:=fX (row:=row) (j:=c) (by omega)
  have tl:∀i,i < (done++[PV.int (done.length:Int)]).length->i < done.length\/i=done.length:=fun i hi=>by rw[List.length_append,List.length_singleton]at hi;omega
  have dl:(done++[PV.int (done.length:Int)]).length=done.length+1:=by simp
  have keep:¬0 < (toS rows held q).T done.length c->K [some (.ref a),some (.int (c:Int)),some (fV f),some (.int (done.length:Int))] S':=fun hn=>by
   refine hK _ _ ⟨rfl,by rw[dl];omega,f,_,rfl,?_⟩
   cases f with
   |none=>exact fun i hi'=>(tl i hi').elim (fun h=>hf i h) (fun h=>by rw[h];omega)
   |some r=>exact⟨by have:=hf.1;rw[dl];omega,hf.2.1,fun i hi' hp'=>(tl i hi').elim (fun h=>hf.2.2 i h hp') (fun h=>by rw[h]at hp';exact absurd hp' hn)⟩
  have take:0 < (toS rows held q).T done.length c->(∀i,i < done.length->0 < (toS rows held q).T i c->¬Wg.ju V (toS rows held q) c i done.length)->K [some (.ref a),some (.int (c:Int)),some (.int (done.length:Int)),some (.int (done.length:Int))] S':=fun hp' hs=>by
   refine hK _ _ ⟨rfl,by rw[dl];omega,some done.length,_,rfl,⟨by rw[dl];omega,hp',fun i hi' JJ=>(tl i hi').elim (fun h=>hs i h JJ) (fun h=>?_)⟩⟩
   subst h
   unfold Wg.ju
   omega
  simp only[Tg.put,List.set_cons_succ,List.set_cons_zero,cj,fK,jP,a8,ai,ci,v3,lk,c3,cm,B.o,fW,true_and,aj,B.r,e1,fp,c1.1,jk,bx,decide_eq_true_eq]
  rw[<-hT c]
  by_cases hpos:0 < (toS rows held q).T done.length c
  ·simp only[hpos,if_true]
   cases f with
   |none=>
    simp only[fV,ki,bne_self_eq_false,Bool.not_false,if_true,Bool.false_bne,am,v3,lk,List.set_cons_succ,List.set_cons_zero]
    exact take hpos fun i hi' hp'=>by have:=hf i hi';omega
   |some r=>
    simp only[fV,ki,cR,ag,v3,lk,cm,B.o,true_and]
    have hm':(bF R H q).lookup ("sooner":Str)=none:=rfl
    simp only[hm',true_and,Bool.false_bne,Bool.false_eq_true,if_false]
    refine FY B D hi (by have:=hf.1;omega) hc fun b hb=>?_
    cases b with
    |true=>
     simp only[if_true,am,v3,lk,List.set_cons_succ,List.set_cons_zero]
     have sn:=hb.mp rfl
     exact take hpos fun i hi' hp' hs=>hf.2.2 i hi' hp' (oE hp' hpos hf.2.1 hs sn)
    |false=>
     simp only[Bool.false_eq_true,if_false]
     refine hK _ _ ⟨rfl,by rw[dl];omega,some r,_,rfl,⟨by have:=hf.1;rw[dl];omega,hf.2.1,fun i hi' hp'=>(tl i hi').elim (fun h=>hf.2.2 i h hp') (fun h=>?_)⟩⟩
     subst h
     exact fun hs=>by have:=hb.mpr hs;cases this
  ·simp only[hpos,if_false,Bool.false_eq_true]
   exact keep hpos
 ·rintro σ S' ⟨rfl,hd,f,x3,rfl,hf⟩
  rw[bZ]at hf
  refine hN _ _ ?_
  cases f with
  |none=>simp only[fV,ap,v3,lk];exact k0 hf
  |some r=>simp only[fV,ap,v3,lk];exact k1 r ⟨hf.1,hf.2.1,hf.2.2⟩
end CW
namespace C
open PySem L2 L3 Wd
def rc(n:Nat):fL (List.replicate n (.bl true))=some (List.replicate n true):=by
 induction n with
 |zero=>rfl
 |succ n ih=>rw[List.replicate_succ,List.replicate_succ];show(fL (List.replicate n (.bl true))).map _=_;rw[ih];rfl
theorem gS{α:Type}{g:Tg}{tc:jh}{te:aP}{σ':dq}{keep:av->Prop}{fin:List PV->av->Prop}{S:av}(enc f:α->PV)(c:α->Bool)(hk:keep S):∀(xs:List α) (ys:List PV),
  (∀x∈xs,∃σ2,g.put (enc x) σ'=some σ2/\(∀K:Bool->av->Prop,K (c x) S->tc σ2 S K ga)/\(c x=true->∀Q:bP,Q (f x) S->te σ2 S Q ga))->ys.length+xs.length<=sizeLine->fin (ys++(xs.filter c).map f) S->eN g tc te σ' keep fin (xs.map enc) ys S
 |[],ys,_,hl,hf=>⟨hk,by simpa using hl,by simpa using hf⟩
 |x::r,ys,h,hl,hf=>by
  obtain⟨σ2,e,h1,h2⟩:=h x (by simp)
  refine⟨hk,by simp at hl;omega,?_⟩
  rw[e]
  refine h1 _ ?_
  by_cases hc:c x=true
  ·rw[if_pos hc]
   refine h2 hc _ (gS enc f c hk r (ys++[f x]) (fun y hy=>h y (by simp[hy])) (by simp at hl ⊢;omega) ?_)
   rw[List.filter_cons_of_pos hc]at hf
   simpa using hf
  ·rw[if_neg hc]
   refine gS enc f c hk r ys (fun y hy=>h y (by simp[hy])) (by simp at hl;omega) ?_
   rw[List.filter_cons_of_neg hc]at hf
   exact hf
end C
namespace CW
open PySem L2 L3 Wd
open C
noncomputable def FI(n:Nat)(j:Nat)(q sg:Int)(acc:List PV)(z:List Int×Nat):List PV:=if z.2 < n then acc.set z.2 (cq q (sg * z.1.getD j 0)) else acc
noncomputable def vY(n:Nat)(rows:List (List Int))(held:List Nat)(q sg:Int)(j:Nat):List PV:=(rows.zip held).foldl (FI n j q sg) (List.replicate n (cq q 0))
theorem l6(n j:Nat)(q sg:Int):∀(zs:List (List Int×Nat)) (acc:List PV),(zs.foldl (FI n j q sg) acc).length=acc.length
 |[],acc=>rfl
 |z::r,acc=>by rw[List.foldl_cons,l6 n j q sg r];unfold FI;split<;>simp
def AJ(V:Nat)(pz:Int)(j:Nat):Prop:=(pz=(j:Int)/\j<=V)\/(pz = -1/\j=V)
def AK{V:Nat}{pz:Int}{j:Nat}(h:AJ V pz j){row:Vu}(hl:row.length=V+1):Eh (row.map PV.int) pz=some (.int (row.getD j 0))/\row.getD j 0∈row:=by
 rcases h with⟨rfl,hj⟩|⟨rfl,rfl⟩
 ·exact fX (by omega)
 ·refine⟨kW (n:=j) (by rw[List.length_map,hl]) (by rw[List.getElem?_map,List.getElem?_eq_getElem (by omega),List.getD_eq_getElem?_getD,List.getElem?_eq_getElem (by omega)];rfl),(fX (by omega)).2⟩
def vZ(v:PV)(k:Nat):(List.replicate k [v]).flatten=List.replicate k v:=by
 induction k with
 |zero=>rfl
 |succ k ih=>rw[List.replicate_succ,List.flatten_cons,ih,List.replicate_succ];rfl
abbrev iq(w:aC):Prop:=∀{S:av} {a R H:Addr} {rs:List Addr} {rows:List (List Int)} {held:List Nat} {q:Int} {m V n j:Nat} {pz sg:Int} {Q:bP} {E:cC},BalAt S a R H rs rows held q->Dim rows held m V->0 < q->Sz q->n<=500->AJ V pz j->(sg=1\/sg = -1)->
 (∀p S',S p=none->Ext S S'->S' p=some (.lst (vY n rows held q sg j))->Q (.ref p) S')->w [.ref a,.int (n:Int),.int pz,.int sg] S Q E
def E7{xf:aC}(DH:jn xf):iq (bc 7 (cK xf)):=by
 intro S a R H rs rows held q m V n j pz sg Q E B D hq HE hn hp hs k
 unfold cK
 refine eW ?_
 rw[show ar 7 [PV.ref a,.int (n:Int),.int pz,.int sg]=[some (.ref a),some (.int (n:Int)),some (.int pz),some (.int sg),none,none,none] from rfl]
 have z0:PV.tup [.int 0,.int 1]=cq q 0:=by rw[iV,gv (Q:=1) (R:=q) (n:=0) (m:=0) (by decide) hq (by simp)]
 refine ax fun N hN=>?_
 simp only[am,ai,cD,ag,a7,c3,v3,lk]
 intro p0 hp0
 simp only[aQ,aa]
 refine⟨by omega,by omega,aV (by simp;omega),fun p1 hp1=>?_⟩
 rw[Int.toNat_natCast,vZ]
 rw[z0]at hp1 ⊢
 have X1:Ext S (Dd (Dd S p0 (.lst [cq q 0])) p1 (.lst (List.replicate n (cq q 0)))):=(Ext.new hp0).trans (.new hp1)
 have f1:(Dd (Dd S p0 (.lst [cq q 0])) p1 (.lst (List.replicate n (cq q 0)))) p1=some (.lst (List.replicate n (cq q 0))):=aa
 have Ga:S p1=none:=(Ext.new hp0).free hp1
 generalize Dd (Dd S p0 (.lst [cq q 0])) p1 (.lst (List.replicate n (cq q 0)))=S1 at X1 f1
 simp only[List.set_cons_succ,List.set_cons_zero]
 refine hN _ _ (ax fun N hN=>?_)
 have o1:=X1 _ _ B.o
 have r1:=X1 _ _ B.r
 have h1:=X1 _ _ B.h
 simp only[bU,gr,ci,v3,lk,cm,o1,fW,lZ,true_and,r1,h1]
 have nr:p1≠R:=fun h=>by rw[h,B.r]at Ga;cases Ga
 have nh:p1≠H:=fun h=>by rw[h,B.h]at Ga;cases Ga
 have no:p1≠a:=fun h=>by rw[h,B.o]at Ga;cases Ga
 refine bp (fun done σ S'=>Ext S S'/\S' p1=some (.lst (((rows.zip held).take done.length).foldl (FI n j q sg) (List.replicate n (cq q 0))))/\∃x5 x6,σ=[some (.ref a),some (.int (n:Int)),some (.int pz),some (.int sg),some (.ref p1),x5,x6]) ⟨X1,f1,_,_,rfl⟩ (fun _ _ _ ⟨X,_⟩=>⟨X _ _ B.r,X _ _ B.h⟩) ?_ ?_
 ·rintro done x rest σ S' K e ⟨X,f,x5,x6,rfl⟩ hK
  have hget:(aL (rs.map PV.ref) (hV held))[done.length]?=some x:=by rw[e];simp
  unfold aL at hget
  rw[List.getElem?_map]at hget
  obtain⟨⟨u,v⟩,hz,rfl⟩:=Option.map_eq_some_iff.mp hget
  obtain⟨g1,g2⟩:=List.getElem?_zip_eq_some.mp hz
  unfold hV at g2
  rw[List.getElem?_map]at g1 g2
  obtain⟨p,hp',rfl⟩:=Option.map_eq_some_iff.mp g1
  obtain⟨hd,hd',rfl⟩:=Option.map_eq_some_iff.mp g2
  have hlt:done.length < rs.length:=(List.getElem?_eq_some_iff.mp hp').1
  obtain⟨row,ER⟩:∃row,rows[done.length]?=some row:=⟨_,List.getElem?_eq_getElem (by rw[<-B.rl];exact hlt)⟩
  have GR:=List.mem_of_getElem? ER
  have HF:=X _ _ (B.rr _ p row hp' ER)
  have pa:=AK hp (D.w row GR)
  have JK:(rows.zip held)[done.length]?=some (row,hd):=List.getElem?_zip_eq_some.mpr ⟨ER,hd'⟩
  have ef:((rows.zip held).take (done++[PV.tup [.ref p,.int (hd:Int)]]).length).foldl (FI n j q sg) (List.replicate n (cq q 0))=FI n j q sg (((rows.zip held).take done.length).foldl (FI n j q sg) (List.replicate n (cq q 0))) (row,hd):=by
   rw[List.length_append,List.length_singleton,List.take_succ,JK,List.foldl_append];rfl
  have hlen:(((rows.zip held).take done.length).foldl (FI n j q sg) (List.replicate n (cq q 0))).length=n:=by rw[l6,List.length_replicate]
  generalize ((rows.zip held).take done.length).foldl (FI n j q sg) (List.replicate n (cq q 0))=acc at f ef hlen
  simp only[Tg.put,Tg.DV,List.set_cons_succ,List.set_cons_zero,cj,a8,ai,v3,lk,kr,bx,decide_eq_true_eq]
  by_cases Ip:(hd:Int) < (n:Int)
  ·rw[if_pos Ip]
   simp only[iM,ad,ag,ai,ci,v3,lk,cm,X _ _ B.o,tX,true_and,aj,HF,pa.1,aQ]
   have Le:Sz sg:=by rcases hs with rfl|rfl<;>exact bv jA
   refine⟨Le.mul (D.s row GR _ pa.2),DH hq HE ?_⟩
   simp only[e_,f]
   rw[hlen,j2 (by omega)]
   refine hK _ _ ⟨X.put Ga,?_,_,_,rfl⟩
   rw[aa,ef]
   unfold FI
   rw[if_pos (by show hd < n;omega)]
  ·rw[if_neg Ip]
   refine hK _ _ ⟨X,?_,_,_,rfl⟩
   rw[f,ef]
   unfold FI
   rw[if_neg (by show ¬hd < n;omega)]
 ·rintro σ S' ⟨X,f,x5,x6,rfl⟩
  refine hN _ _ ?_
  have ll:(aL (rs.map PV.ref) (hV held)).length=(rows.zip held).length:=by unfold aL hV;simp[B.rl]
  rw[ll,List.take_length]at f
  simp only[ap,v3,lk]
  exact k p1 S' Ga X f
noncomputable def i6(d:Nat)(c:Cl):Bool:=decide (c.who=some d)&&c.eff.all fun e=>decide (0<=e)
noncomputable def oF(cs:List Cl)(d:Nat):List Nat:=(cs.zipIdx.filter fun p=>i6 d p.1).map (·.2)
noncomputable def DP(cs:List Cl)(d:Nat):Nat:=(oF cs d).getD 0 0
def pN{cs:List Cl}{d:Nat}(h:∃c∈cs,i6 d c=true):∃c,cs[DP cs d]?=some c/\i6 d c=true/\oF cs d≠[]:=by
 obtain⟨c,hc,hf⟩:=h
 obtain⟨i,hi⟩:=List.getElem?_of_mem hc
 have hm:(c,i)∈cs.zipIdx:=by rw[List.mem_zipIdx_iff_getElem?];exact hi
 have hne:oF cs d≠[]:=fun e=>by
  have:i∈oF cs d:=List.mem_map.mpr ⟨(c,i),List.mem_filter.mpr ⟨hm,hf⟩,rfl⟩
  rw[e]at this;cases this
 obtain⟨x,r,e⟩:=List.exists_cons_of_ne_nil hne
 have hx:x∈oF cs d:=by rw[e];simp
 obtain⟨⟨c',i'⟩,hp,rfl⟩:=List.mem_map.mp hx
 obtain⟨h1,h2⟩:=List.mem_filter.mp hp
 rw[List.mem_zipIdx_iff_getElem?]at h1
 refine⟨c',?_,h2,hne⟩
 unfold DP
 rw[e]
 exact h1
def Cc(cs:List Cl):L3.bf (cs.map Cl.pv)=cs.zipIdx.map fun p=>PV.tup [.int (p.2:Int),p.1.pv]:=by
 unfold L3.bf
 refine List.ext_getElem? fun i=>?_
 rw[List.getElem?_mapIdx,List.getElem?_map,List.getElem?_map,List.getElem?_zipIdx]
 cases cs[i]?<;>simp
def v4{ns:Vu}{M:Int}(h:L2.yU ns 0 M):decide (0<=M)=ns.all fun e=>decide (0<=e):=by
 rw[Bool.eq_iff_iff,decide_eq_true_eq,List.all_eq_true]
 rcases h with⟨rfl,rfl⟩|⟨h1,h2⟩
 ·exact⟨(fun _ x hx=>by cases hx),fun _=>Int.le_refl _⟩
 ·constructor
  ·intro h x hx
   have:=h2 x hx
   exact decide_eq_true (by omega)
  ·intro h
   exact of_decide_eq_true (h M h1)
abbrev kX(w:aC):Prop:=∀{S:av} {cs:List Cl} {d:Nat} {Q:bP} {E:cC},cs.length<=500->(∃c∈cs,i6 d c=true)->(∀S',Ext S S'->Q (.int (DP cs d:Int)) S')->w [.tup (cs.map Cl.pv),.int (d:Int)] S Q E
def Fx:kX (bc 3 bg):=by
 intro S cs d Q E hl hex k
 unfold bg
 refine eW ?_
 rw[show ar 3 [.tup (cs.map Cl.pv),.int (d:Int)]=[some (.tup (cs.map Cl.pv)),some (.int (d:Int)),none] from rfl]
 refine ax fun N hN=>?_
 simp only[am,aw,gk,v3,lk]
 rw[Cc]
 refine gS (fun p:Cl×Nat=>PV.tup [.int (p.2:Int),p.1.pv]) (fun p=>.int (p.2:Int)) (fun p=>i6 d p.1) trivial cs.zipIdx [] (fun p hp=>⟨_,rfl,fun K hK=>?_,fun _ Q' q=>?_⟩) (aV (by simp;omega)) ?_
 ·simp only[bV,List.reduceReplicate,List.map_cons,List.map_nil,List.cons_append,List.nil_append,List.set_cons_zero,List.set_cons_succ,fK,a8,ai,v3,lk,c3,aj,Cl.pv,gL,wI]
  refine lR ?_
  unfold i6 at hK
  by_cases hw:p.1.who=some d
  ·simp only[hw,decide_true,if_true,Bool.true_and]at hK ⊢
   simp only[pG,jX,s_,bx]
   intro M hM
   rw[v4 hM]
   exact hK
  ·simp only[hw,decide_false,Bool.false_eq_true,if_false,Bool.false_and]at hK ⊢
   exact hK
 ·simp only[v3,lk,bV,List.reduceReplicate,List.map_cons,List.map_nil,List.cons_append,List.nil_append,List.set_cons_zero,List.set_cons_succ]
  exact q
 intro p1 hp1
 have X1:Ext S (Dd S p1 (.lst ([]++(cs.zipIdx.filter fun p=>i6 d p.1).map fun p=>PV.int (p.2:Int)))):=.new hp1
 have f1:(Dd S p1 (.lst ([]++(cs.zipIdx.filter fun p=>i6 d p.1).map fun p=>PV.int (p.2:Int)))) p1=some (.lst ((oF cs d).map fun i:Nat=>PV.int (i:Int))):=by rw[aa,List.nil_append];unfold oF;rw[List.map_map];rfl
 generalize Dd S p1 (.lst ([]++(cs.zipIdx.filter fun p=>i6 d p.1).map fun p=>PV.int (p.2:Int)))=S1 at X1 f1
 obtain⟨c,_,_,hne⟩:=pN hex
 obtain⟨x,r,e⟩:=List.exists_cons_of_ne_nil hne
 have ex:DP cs d=x:=by unfold DP;rw[e];rfl
 rw[e]at f1
 simp only[List.set_cons_succ,List.set_cons_zero]
 refine hN _ _ ?_
 simp only[ap,ai,v3,lk,c3,aj,f1,List.map_cons,gL]
 rw[ex]at k
 exact k S1 X1
structure Dm (rows:List (List Int)) (held:List Nat) (m V:Nat):Prop where
 rl:rows.length=m+1
 hl:held.length=m
 w:∀row∈rows,row.length=V+1
def tY{row ch:Vu}{c:Nat}{q:Int}(h:row.length=ch.length):(lT row ch c q).length=row.length:=by unfold lT;rw[List.length_zipWith];omega
def Dm.Fo{rows:List (List Int)}{held:List Nat}{m V r c:Nat}{q:Int}(h:Dm rows held m V)(hr:r<=m):Dm (i5 rows r c q) (held.set r c) m V:=by
 have h1:=h.rl
 obtain⟨ch,hch⟩:∃ch,rows[r]?=some ch:=⟨_,List.getElem?_eq_getElem (by omega)⟩
 have HQ:=aD (d:=[]) hch
 have Im:=h.w ch (List.mem_of_getElem? hch)
 refine⟨by unfold i5;rw[List.length_set,List.length_map,h1],by rw[List.length_set,h.hl],fun row hm=>?_⟩
 unfold i5 at hm
 rw[HQ]at hm
 rcases List.mem_or_eq_of_mem_set hm with hm|rfl
 ·obtain⟨G_,h0,rfl⟩:=List.mem_map.mp hm
  rw[tY (by rw[h.w G_ h0,Im]),h.w G_ h0]
 ·exact Im
def rd(row ch:Vu)(c:Nat)(q:Int)(h:row.length=ch.length)(j:Nat):(lT row ch c q).getD j 0=(row.getD j 0 * ch.getD c 0 - row.getD c 0 * ch.getD j 0).fdiv q:=by
 unfold lT
 rw[List.getD_eq_getElem?_getD (l:=List.zipWith _ _ _),List.getElem?_zipWith]
 by_cases hj:j < row.length
 ·have e1:=List.getElem?_eq_getElem hj
  have e2:=List.getElem?_eq_getElem (show j < ch.length by omega)
  rw[e1,e2,aD e1,aD e2]
  rfl
 ·have e1:row[j]?=none:=List.getElem?_eq_none (by omega)
  have e2:ch[j]?=none:=List.getElem?_eq_none (by omega)
  rw[e1,List.getD_eq_getElem?_getD (i:=j),e1,List.getD_eq_getElem?_getD (i:=j),e2]
  simp
def l7{rows:List (List Int)}{held:List Nat}{m V r c:Nat}{q:Int}(h:Dm rows held m V)(hr:r < m):toS (i5 rows r c q) (held.set r c) ((rows.getD r []).getD c 0)=Wg.Fo (toS rows held q) r c:=by
 have h1:=h.rl
 have h2:=h.hl
 obtain⟨ch,hch⟩:∃ch,rows[r]?=some ch:=⟨_,List.getElem?_eq_getElem (by omega)⟩
 have HQ:=aD (d:=[]) hch
 have Im:=h.w ch (List.mem_of_getElem? hch)
 have eT:(toS (i5 rows r c q) (held.set r c) ((rows.getD r []).getD c 0)).T=(Wg.Fo (toS rows held q) r c).T:=by
  funext i j
  show((i5 rows r c q).getD i []).getD j 0=if i=r then (rows.getD r []).getD j 0 else ((rows.getD i []).getD j 0 * (rows.getD r []).getD c 0 - (rows.getD i []).getD c 0 * (rows.getD r []).getD j 0).fdiv q
  unfold i5
  rw[HQ,List.getD_eq_getElem?_getD (l:=List.set _ _ _),List.getElem?_set]
  by_cases e:i=r
  ·subst e
   rw[if_pos rfl,if_pos rfl,if_pos (by rw[List.length_map];omega)];rfl
  ·rw[if_neg (Ne.symm e),if_neg e,List.getElem?_map]
   by_cases hi:i < rows.length
   ·have ei:=List.getElem?_eq_getElem hi
    rw[ei,aD ei]
    show(lT rows[i] ch c q).getD j 0=_
    rw[rd _ _ _ _ (by rw[h.w _ (List.getElem_mem hi),Im])]
   ·have ei:rows[i]?=none:=List.getElem?_eq_none (by omega)
    rw[ei,List.getD_eq_getElem?_getD (l:=rows),ei]
    simp
 have eH:(toS (i5 rows r c q) (held.set r c) ((rows.getD r []).getD c 0)).held=(Wg.Fo (toS rows held q) r c).held:=by
  funext i
  show(held.set r c).getD i 0=if i=r then c else held.getD i 0
  rw[List.getD_eq_getElem?_getD,List.getElem?_set]
  by_cases e:i=r
  ·subst e;rw[if_pos rfl,if_pos rfl,if_pos (by omega)];rfl
  ·rw[if_neg (Ne.symm e),if_neg e,List.getD_eq_getElem?_getD]
 have eq:∀x y:Wg.Sx,x.T=y.T->x.held=y.held->x.q=y.q->x=y:=fun x y a b c=>by cases x;cases y;cases a;cases b;cases c;rfl
 exact eq _ _ eT eH rfl
structure bn (cs:List Cl) (mix:Vu) (k:Nat):Prop where
 n1:1<=cs.length
 n2:cs.length<=100
 k1:k<=8
 d1:mix.length<=8
 ef:∀c∈cs,c.eff.length=k
 eb:∀c∈cs,∀e∈c.eff,e.natAbs<=2 ^ 30
 lo:∀c∈cs,M3.zk c.x (c.y:Int)
 x0:∀c∈cs,0<=c.x/\c.x<=2 ^ 30
 yd:∀c∈cs,0 < c.y/\c.y ∣ 2520
 wd:∀c∈cs,∀d,c.who=some d->d < mix.length
 fx:∀d,d < mix.length->∃c∈cs,i6 d c=true
 m0:∀x∈mix,0<=x/\x<=2 ^ 30
noncomputable def cbO(cs:List Cl):Nat:=q_ 1 (cs.map (·.y))
noncomputable def dM(cs:List Cl)(mix:Vu)(k:Nat):List (List Int):=(List.range mix.length).map (iY cs k mix)++(List.range k).map (iZ cs k)++[oy cs k (cbO cs)]
noncomputable def eP(cs:List Cl)(mix:Vu)(k:Nat):List Nat:=(List.range (mix.length+k)).map fun i=>cs.length+i - mix.length
noncomputable def re(cs:List Cl)(mix:Vu)(k:Nat):Nat->List (List Int)
 |0=>dM cs mix k
 |d+1=>i5 (re cs mix k d) d (DP cs d) 1
noncomputable def rD(cs:List Cl)(mix:Vu)(k:Nat):Nat->List Nat
 |0=>eP cs mix k
 |d+1=>(rD cs mix k d).set d (DP cs d)
noncomputable def Ao(cs:List Cl)(mix:Vu)(k:Nat)(i j:Nat):Int:=((dM cs mix k).getD i []).getD j 0
section
variable {cs:List Cl} {mix:Vu} {k:Nat}
def Cd{d:Nat}(h:d < mix.length):(dM cs mix k)[d]?=some (iY cs k mix d):=by
 unfold dM
 rw[List.getElem?_append_left (by simp;omega),List.getElem?_append_left (by simp;omega),List.getElem?_map,List.getElem?_range h];rfl
def Ce{t:Nat}(h:t < k):(dM cs mix k)[mix.length+t]?=some (iZ cs k t):=by
 unfold dM
 rw[List.getElem?_append_left (by simp;omega),List.getElem?_append_right (by simp),List.length_map,List.length_range,Nat.add_sub_cancel_left,List.getElem?_map,List.getElem?_range h];rfl
def Cf:(dM cs mix k)[mix.length+k]?=some (oy cs k (cbO cs)):=by
 unfold dM
 rw[List.getElem?_append_right (by simp)]
 simp
def Cg{d j:Nat}(h:d < mix.length):Ao cs mix k d j=(iY cs k mix d).getD j 0:=by unfold Ao;rw[aD (Cd h)]
def Ch{t j:Nat}(h:t < k):Ao cs mix k (mix.length+t) j=(iZ cs k t).getD j 0:=by unfold Ao;rw[aD (Ce h)]
def CC{j:Nat}:Ao cs mix k (mix.length+k) j=(oy cs k (cbO cs)).getD j 0:=by unfold Ao;rw[aD Cf]
def oG{xs ys:Vu}{j:Nat}(h:j < xs.length):(xs++ys).getD j 0=xs.getD j 0:=by rw[List.getD_eq_getElem?_getD,List.getElem?_append_left h,List.getD_eq_getElem?_getD]
def tZ{xs ys:Vu}{j n:Nat}(h:xs.length=n):(xs++ys).getD (n+j) 0=ys.getD j 0:=by rw[List.getD_eq_getElem?_getD,List.getElem?_append_right (by omega),List.getD_eq_getElem?_getD,show n+j - xs.length=j by omega]
def fi{f:Cl->Int}{j:Nat}{c:Cl}(h:cs[j]?=some c):(cs.map f).getD j 0=f c:=aD (by rw[List.getElem?_map,h];rfl)
def rg{d j:Nat}(h:d < mix.length){c:Cl}(hc:cs[j]?=some c):Ao cs mix k d j=w1 d c:=by
 have hj:=(List.getElem?_eq_some_iff.mp hc).1
 rw[Cg h];unfold iY
 rw[oG (by simp;omega),oG (by simp;exact hj),fi hc]
def v5{d t:Nat}(h:d < mix.length)(ht:t < k):Ao cs mix k d (cs.length+t)=0:=by
 rw[Cg h];unfold iY
 rw[oG (by simp;omega),tZ (by simp)]
 rw[List.getD_eq_getElem?_getD,List.getElem?_replicate];split<;>rfl
def t0{d:Nat}(h:d < mix.length):Ao cs mix k d (cs.length+k)=mix.getD d 0:=by
 rw[Cg h];unfold iY
 have:=tZ (xs:=cs.map (w1 d)++List.replicate k 0) (ys:=[mix.getD d 0]) (j:=0) (n:=cs.length+k) (by simp)
 rw[Nat.add_zero]at this
 rw[this];rfl
def v6{t j:Nat}(h:t < k){c:Cl}(hc:cs[j]?=some c):Ao cs mix k (mix.length+t) j = - c.eff.getD t 0:=by
 have hj:=(List.getElem?_eq_some_iff.mp hc).1
 rw[Ch h];unfold iZ
 rw[oG (by simp;omega),oG (by simp;exact hj),fi hc]
def rh{t u:Nat}(h:t < k)(hu:u < k):Ao cs mix k (mix.length+t) (cs.length+u)=if u=t then 1 else 0:=by
 rw[Ch h];unfold iZ
 rw[oG (by simp;omega),tZ (by simp)]
 exact aD (by rw[List.getElem?_map,List.getElem?_range hu];rfl)
def v7{t:Nat}(h:t < k):Ao cs mix k (mix.length+t) (cs.length+k)=0:=by
 rw[Ch h];unfold iZ
 have:=tZ (xs:=cs.map (fun c=>- c.eff.getD t 0)++(List.range k).map (fun o=>if o=t then (1:Int) else 0)) (ys:=[0]) (j:=0) (n:=cs.length+k) (by simp)
 rw[Nat.add_zero]at this
 rw[this];rfl
def y3{j:Nat}{c:Cl}(hc:cs[j]?=some c):Ao cs mix k (mix.length+k) j = - c.x * ((cbO cs / c.y:Nat):Int):=by
 have hj:=(List.getElem?_eq_some_iff.mp hc).1
 rw[CC];unfold oy
 rw[oG (by simp;exact hj),fi hc]
def oH{t:Nat}(ht:t<=k):Ao cs mix k (mix.length+k) (cs.length+t)=0:=by
 rw[CC];unfold oy
 rw[tZ (by simp),List.getD_eq_getElem?_getD,List.getElem?_replicate];split<;>rfl
end
section
variable {cs:List Cl} {mix:Vu} {k:Nat}
def y4:∀(hs:List Nat) (n:Nat),hs.Nodup->(∀z∈hs,z < n)->hs.length<=n:=by
 intro hs n hn hl
 have:∀(n:Nat) (hs:List Nat),hs.Nodup->(∀z∈hs,z < n)->hs.length<=n:=by
  intro n
  induction n with
  |zero=>intro hs _ h;cases hs with|nil=>exact Nat.le_refl _|cons a r=>exact absurd (h a (by simp)) (Nat.not_lt_zero _)
  |succ n ih=>
   intro hs hn h
   have h1:=ih (hs.erase n) (hn.erase n) fun z hz=>by
    have h2:=(List.Nodup.mem_erase_iff hn).mp hz
    have:=h z h2.2
    have:=h2.1
    omega
   have:=List.length_erase_le (a:=n) (l:=hs)
   by_cases hm:n∈hs
   ·rw[List.length_erase_of_mem hm]at h1;omega
   ·rw[List.erase_of_not_mem hm]at h1;omega
 exact this n hs hn hl
def dm(P:bn cs mix k){d:Nat}(hd:d < mix.length):∃c,cs[DP cs d]?=some c/\c∈cs/\c.who=some d/\(∀e∈c.eff,0<=e)/\DP cs d < cs.length:=by
 obtain⟨c,hc,hf,_⟩:=pN (P.fx d hd)
 unfold i6 at hf
 rw[Bool.and_eq_true,decide_eq_true_eq,List.all_eq_true]at hf
 exact⟨c,hc,List.mem_of_getElem? hc,hf.1,fun e he=>of_decide_eq_true (hf.2 e he),(List.getElem?_eq_some_iff.mp hc).1⟩
def nj(P:bn cs mix k):mix.length<=cs.length:=by
 have:=y4 ((List.range mix.length).map (DP cs)) cs.length (by
  refine List.pairwise_map.mpr (List.Pairwise.imp_of_mem (fun{a b} ha hb hne e=>hne ?_) (List.nodup_range (n:=mix.length)))
  obtain⟨c,h1,_,h2,_⟩:=dm P (List.mem_range.mp ha)
  obtain⟨c',h3,_,h4,_⟩:=dm P (List.mem_range.mp hb)
  rw[e,h3]at h1
  cases h1
  rw[h2]at h4
  exact Option.some.inj h4) (fun z hz=>by
  obtain⟨d,hd,rfl⟩:=List.mem_map.mp hz
  obtain⟨_,_,_,_,_,h⟩:=dm P (List.mem_range.mp hd)
  exact h)
 rw[List.length_map,List.length_range]at this
 exact this
def CD(P:bn cs mix k):Dm (dM cs mix k) (eP cs mix k) (mix.length+k) (cs.length+k):=by
 refine⟨by simp[dM];omega,by simp[eP],fun row hm=>?_⟩
 unfold dM at hm
 rw[List.mem_append,List.mem_append,List.mem_map,List.mem_map,List.mem_singleton]at hm
 rcases hm with(⟨d,_,rfl⟩|⟨t,_,rfl⟩)|rfl
 ·simp[iY];omega
 ·simp[iZ];omega
 ·simp[oy];omega
theorem AL(P:bn cs mix k):∀d,d<=mix.length->Dm (re cs mix k d) (rD cs mix k d) (mix.length+k) (cs.length+k)
 |0,_=>CD P
 |d+1,h=>(AL P d (by omega)).Fo (by omega)
noncomputable def bb(cs:List Cl)(mix:Vu)(k d:Nat)(i:Nat):Wg.Vc:=if i < d then Wg.cl (Ao cs mix k) (DP cs i) else Wg.eu i
noncomputable def Ts(cs:List Cl)(mix:Vu)(k d i j:Nat):Int:=((re cs mix k d).getD i []).getD j 0
def Tab.bnd{m N:Nat}{A T:Nat->Nat->Int}{b:Nat->Wg.Vc}{q:Int}{C:Nat}(h:Wg.Tab m N A T b q)(hA:∀i j,i<=m->j < N->(A i j).natAbs<=C)(hb:∀i kk,i<=m->kk<=m->(b i kk).natAbs<=C):∀i j,i<=m->j < N->(T i j).natAbs<=Wg.Kb C (m+1):=fun i j hi hj=>by
 rw[h.ent hi hj]
 refine Wg.l5 C _ _ fun l kk hl hk=>?_
 by_cases e:l=i
 ·subst e;rw[Wg.aE];exact hA kk j (by omega) hj
 ·rw[Wg.aX e];exact hb l kk (by omega) (by omega)
structure Bl (cs:List Cl) (mix:Vu) (k d:Nat):Prop where
 tab:Wg.Tab (mix.length+k) (cs.length+k+1) (Ao cs mix k) (Ts cs mix k d) (bb cs mix k d) 1
 Fl:∀i j,i < mix.length->Ts cs mix k d i j=Ao cs mix k i j
 Hg:∀t j,t < k->Ts cs mix k d (mix.length+t) j=Ao cs mix k (mix.length+t) j+Wg.sm d fun e=>(cs.getD (DP cs e) ⟨none,0,1,[]⟩).eff.getD t 0 * Ao cs mix k e j
def pO(P:bn cs mix k){d e:Nat}(hd:d < mix.length)(he:e < mix.length):Ao cs mix k e (DP cs d)=if e=d then 1 else 0:=by
 obtain⟨c,h1,_,h2,_⟩:=dm P hd
 rw[rg he h1]
 unfold w1
 rw[h2]
 by_cases h:e=d
 ·subst h;rw[if_pos rfl,if_pos rfl]
 ·rw[if_neg h,if_neg fun h'=>h (Option.some.inj h').symm]
def Ci(P:bn cs mix k):Bl cs mix k 0 where
 tab:=⟨fun j kk hj hk=>by
   rw[Int.one_mul,Wg.bG (i:=kk) (by omega)]
   ·show _=Ao cs mix k kk j * bb cs mix k 0 kk kk
    unfold bb Wg.eu
    simp
   ·intro l hl hne
    unfold bb Wg.eu
    simp[Ne.symm hne],Wg.wM _ _ fun i kk hi hk=>by unfold bb;rw[if_neg (Nat.not_lt_zero _)],by decide,fun kk=>by unfold bb;rw[if_neg (Nat.not_lt_zero _)]⟩
 Fl:=fun i j h=>rfl
 Hg:=fun t j h=>by show Ao cs mix k (mix.length+t) j=_+0;rw[Int.add_zero]
def t5(P:bn cs mix k){d:Nat}(hd:d < mix.length)(h:Bl cs mix k d):Bl cs mix k (d+1):=by
 have D:=AL P d (by omega)
 obtain⟨c,hc,hcm,hw,he,hlt⟩:=dm P hd
 have p1:Ts cs mix k d d (DP cs d)=1:=by rw[h.Fl d _ hd,pO P hd hd,if_pos rfl]
 have q1:((re cs mix k d).getD d []).getD (DP cs d) 0=1:=p1
 have eS:=l7 (q:=1) (c:=DP cs d) D (show d < mix.length+k by omega)
 have eT:∀i j,Ts cs mix k (d+1) i j=if i=d then Ts cs mix k d d j else (Ts cs mix k d i j * Ts cs mix k d d (DP cs d) - Ts cs mix k d i (DP cs d) * Ts cs mix k d d j).fdiv 1:=fun i j=>by
  have:=congrFun (congrFun (congrArg Wg.Sx.T eS) i) j
  exact this
 have Kn:∀i j,i≠d->Ts cs mix k (d+1) i j=Ts cs mix k d i j - Ts cs mix k d i (DP cs d) * Ao cs mix k d j:=fun i j hne=>by
  rw[eT i j,if_neg hne,p1,Int.mul_one,h.Fl d j hd,Int.fdiv_one]
 have Ko:∀j,Ts cs mix k (d+1) d j=Ts cs mix k d d j:=fun j=>by rw[eT d j,if_pos rfl]
 obtain⟨_,tb⟩:=h.tab.Fo (r:=d) (c:=DP cs d) (T2:=Ts cs mix k (d+1)) (by omega) (by omega) (by rw[p1];decide) (fun j _=>Ko j) (fun i j _ hne _=>by rw[eT i j,if_neg hne])
 refine⟨?_,fun i j hi=>?_,fun t j ht=>?_⟩
 ·rw[p1]at tb
  have eb:Wg.ud (bb cs mix k d) d (Wg.cl (Ao cs mix k) (DP cs d))=bb cs mix k (d+1):=by
   funext i
   unfold Wg.ud bb
   by_cases e:i=d
   ·subst e;rw[if_pos rfl,if_pos (by omega)]
   ·rw[if_neg e]
    by_cases h2:i < d
    ·rw[if_pos h2,if_pos (by omega)]
    ·rw[if_neg h2,if_neg (by omega)]
  rw[eb]at tb
  exact tb
 ·by_cases e:i=d
  ·subst e;rw[Ko];exact h.Fl i j hi
  ·rw[Kn i j e,h.Fl i j hi,h.Fl i _ hi,pO P hd hi,if_neg e,Int.zero_mul,Int.sub_zero]
 ·rw[Kn _ j (by omega),h.Hg t j ht,h.Hg t _ ht,v6 ht hc]
  have z:Wg.sm d (fun e=>(cs.getD (DP cs e) ⟨none,0,1,[]⟩).eff.getD t 0 * Ao cs mix k e (DP cs d))=0:=Wg.bR (fun e he'=>by rw[pO P hd (show e < mix.length by omega),if_neg (by omega),Int.mul_zero])
  rw[z]
  simp only[Wg.sm]
  rw[show cs.getD (DP cs d) ⟨none,0,1,[]⟩=c from aD hc,Int.add_zero,Int.neg_mul]
  omega
theorem v8(P:bn cs mix k):∀d,d<=mix.length->Bl cs mix k d
 |0,_=>Ci P
 |d+1,h=>t5 P (by omega) (v8 P d (by omega))
noncomputable def Cb:Nat:=2 ^ 42
def pP(P:bn cs mix k):∀i j,i<=mix.length+k->j<=cs.length+k->(Ao cs mix k i j).natAbs<=Cb:=by
 intro i j hi hj
 have col:j < cs.length->∃c,cs[j]?=some c/\c∈cs:=fun h=>⟨_,List.getElem?_eq_getElem h,List.getElem_mem h⟩
 have one:(1:Int).natAbs<=Cb:=by decide
 have nought:(0:Int).natAbs<=Cb:=by decide
 have big:(2:Nat) ^ 30<=Cb:=by decide
 have sp:j < cs.length\/(∃t,t < k/\j=cs.length+t)\/j=cs.length+k:=by
  by_cases h1:j < cs.length
  ·exact .inl h1
  ·by_cases h2:j=cs.length+k
   ·exact .inr (.inr h2)
   ·exact .inr (.inl ⟨j - cs.length,by omega,by omega⟩)
 by_cases h1:i < mix.length
 ·rcases sp with h|⟨t,ht,rfl⟩|rfl
  ·obtain⟨c,hc,_⟩:=col h
   rw[rg h1 hc];unfold w1;split
   ·exact one
   ·exact nought
  ·rw[v5 h1 ht];exact nought
  ·rw[t0 h1]
   have e:=List.getElem?_eq_getElem h1
   rw[aD e]
   have:=P.m0 _ (List.getElem_mem h1)
   omega
 ·by_cases h2:i=mix.length+k
  ·subst h2
   rcases sp with h|⟨t,ht,rfl⟩|rfl
   ·obtain⟨c,hc,hm⟩:=col h
    rw[y3 hc]
    have x0:=P.x0 c hm
    have ok:=j0 2520 (by decide) (cs.map (·.y)) 1 (by decide) (Nat.one_dvd _) fun y hy=>by obtain⟨c,h,rfl⟩:=List.mem_map.mp hy;exact P.yd c h
    have l1:cbO cs<=2520:=gR ok.2.1
    have l2:cbO cs / c.y<=2520:=Nat.le_trans (Nat.div_le_self _ _) l1
    rw[Int.natAbs_mul]
    have a1:(-c.x).natAbs<=2 ^ 30:=by omega
    have a2:(((cbO cs / c.y:Nat):Int)).natAbs<=2 ^ 12:=by rw[Int.natAbs_natCast];exact Nat.le_trans l2 (by decide)
    exact Nat.le_trans (Nat.mul_le_mul a1 a2) (by decide)
   ·rw[oH (by omega)];exact nought
   ·rw[oH (Nat.le_refl _)];exact nought
  ·obtain⟨u,hu,rfl⟩:∃u,u < k/\i=mix.length+u:=⟨i - mix.length,by omega,by omega⟩
   rcases sp with h|⟨t,ht,rfl⟩|rfl
   ·obtain⟨c,hc,hm⟩:=col h
    rw[v6 hu hc,Int.natAbs_neg]
    have hl:u < c.eff.length:=by rw[P.ef c hm];exact hu
    rw[aD (List.getElem?_eq_getElem hl)]
    exact Nat.le_trans (P.eb c hm _ (List.getElem_mem hl)) big
   ·rw[rh hu ht];split
    ·exact one
    ·exact nought
   ·rw[v7 hu];exact nought
def t6:∀m,m<=16->Wg.Kb Cb (m+1) < dC:=by
 have:∀m,m<=17->Wg.Kb Cb m<=2 ^ (50 * m):=by
  intro m
  induction m with
  |zero=>intro _;exact Nat.le_refl _
  |succ m ih=>
   intro h
   show(m+1) * (Cb * Wg.Kb Cb m)<=2 ^ (50 * (m+1))
   have h1:=ih (by omega)
   have e:(2:Nat) ^ (50 * (m+1))=2 ^ 8 * (2 ^ 42 * 2 ^ (50 * m)):=by rw[<-Nat.pow_add,<-Nat.pow_add];congr 1;omega
   rw[e]
   exact Nat.mul_le_mul (by omega) (Nat.mul_le_mul (Nat.le_refl _) h1)
 intro m hm
 refine Nat.lt_of_le_of_lt (this (m+1) (by omega)) ?_
 unfold dC
 exact Nat.pow_lt_pow_right (by decide) (by omega)
def y6(P:bn cs mix k){d:Nat}(hd:d<=mix.length):∀i kk,i<=mix.length+k->kk<=mix.length+k->(bb cs mix k d i kk).natAbs<=Cb:=fun i kk hi hk=>by
 unfold bb
 split
 ·rename_i h
  obtain⟨_,_,_,_,_,hlt⟩:=dm P (show i < mix.length by omega)
  exact pP P kk _ hk (by omega)
 ·unfold Wg.eu;split<;>decide
def t7{rows:List (List Int)}{held:List Nat}{m V:Nat}(D:Dm rows held m V)(hm:m<=16)(hv:V<=400)(hb:∀i j,i<=m->j<=V->((rows.getD i []).getD j 0).natAbs < dC):Dim rows held m V:=by
 refine⟨D.rl,D.hl,D.w,by omega,hv,fun row hr x hx=>?_⟩
 obtain⟨i,hi⟩:=List.getElem?_of_mem hr
 obtain⟨j,hj⟩:=List.getElem?_of_mem hx
 have h1:=(List.getElem?_eq_some_iff.mp hi).1
 have h2:=(List.getElem?_eq_some_iff.mp hj).1
 have:=hb i j (by rw[D.rl]at h1;omega) (by rw[D.w row hr]at h2;omega)
 rw[aD hi,aD hj]at this
 exact bv (by omega)
def Cj(P:bn cs mix k){d:Nat}(hd:d<=mix.length):Dim (re cs mix k d) (rD cs mix k d) (mix.length+k) (cs.length+k):=by
 have a:=P.k1;have b:=P.d1;have c:=P.n2
 refine t7 (AL P d hd) (by omega) (by omega) fun i j hi hj=>?_
 refine Nat.lt_of_le_of_lt (Tab.bnd (v8 P d hd).tab (C:=Cb) (fun i j hi hj=>pP P i j hi (by omega)) (y6 P hd) i j hi (by omega)) (t6 _ (by omega))
theorem t8(P:bn cs mix k):∀d,d<=mix.length->∀i,i < mix.length+k->(rD cs mix k d).getD i 0=if i < d then DP cs i else cs.length+i - mix.length
 |0,_,i,hi=>by
  rw[if_neg (Nat.not_lt_zero _)]
  show(eP cs mix k).getD i 0=_
  unfold eP
  exact aD (by rw[List.getElem?_map,List.getElem?_range hi];rfl)
 |d+1,h,i,hi=>by
  show((rD cs mix k d).set d (DP cs d)).getD i 0=_
  have hl:=(AL P d (by omega)).hl
  have ih:=t8 P d (by omega) i hi
  rw[List.getD_eq_getElem?_getD,List.getElem?_set]
  by_cases e:i=d
  ·subst e;rw[if_pos rfl,if_pos (by omega),if_pos (by omega)];rfl
  ·rw[if_neg (Ne.symm e),<-List.getD_eq_getElem?_getD,ih]
   by_cases h2:i < d
   ·rw[if_pos h2,if_pos (by omega)]
   ·rw[if_neg h2,if_neg (by omega)]
def Ck(P:bn cs mix k):Wg.Val (mix.length+k) (cs.length+k) (Ao cs mix k) (toS (re cs mix k mix.length) (rD cs mix k mix.length) 1) (bb cs mix k mix.length):=by
 have I:=v8 P mix.length (Nat.le_refl _)
 have hn:=nj P
 have hh:∀i,i < mix.length+k->(toS (re cs mix k mix.length) (rD cs mix k mix.length) 1).held i=if i < mix.length then DP cs i else cs.length+i - mix.length:=fun i hi=>t8 P _ (Nat.le_refl _) i hi
 refine⟨I.tab,fun i hi=>?_,fun i kk hi hk=>?_,fun i hi=>?_⟩
 ·rw[hh i hi]
  split
  ·rename_i h
   obtain⟨_,_,_,_,_,hlt⟩:=dm P h
   omega
  ·omega
 ·rw[hh i hi]
  unfold bb
  by_cases h:i < mix.length
  ·rw[if_pos h,if_pos h];rfl
  ·rw[if_neg h,if_neg h]
   obtain⟨t,ht,rfl⟩:∃t,t < k/\i=mix.length+t:=⟨i - mix.length,by omega,by omega⟩
   rw[show cs.length+(mix.length+t) - mix.length=cs.length+t by omega]
   unfold Wg.eu
   by_cases h1:kk < mix.length
   ·rw[v5 h1 ht,if_neg (by omega)]
   ·by_cases h2:kk=mix.length+k
    ·rw[h2,oH (by omega),if_neg (by omega)]
    ·obtain⟨u,hu,rfl⟩:∃u,u < k/\kk=mix.length+u:=⟨kk - mix.length,by omega,by omega⟩
     rw[rh hu ht]
     by_cases h3:t=u
     ·rw[if_pos h3,if_pos (by omega)]
     ·rw[if_neg h3,if_neg (by omega)]
 ·show 0<=Ts cs mix k mix.length i (cs.length+k)
  by_cases h:i < mix.length
  ·rw[I.Fl i _ h,t0 h,aD (List.getElem?_eq_getElem h)]
   exact(P.m0 _ (List.getElem_mem h)).1
  ·obtain⟨t,ht,rfl⟩:∃t,t < k/\i=mix.length+t:=⟨i - mix.length,by omega,by omega⟩
   rw[I.Hg t _ ht,v7 ht,Int.zero_add]
   refine Wg.f_ fun e he=>?_
   obtain⟨c,hc,hm,_,hpos,_⟩:=dm P he
   rw[aD hc,t0 he,aD (List.getElem?_eq_getElem he)]
   have hl:t < c.eff.length:=by rw[P.ef c hm];exact ht
   rw[aD (List.getElem?_eq_getElem hl)]
   exact Int.mul_nonneg (hpos _ (List.getElem_mem hl)) (P.m0 _ (List.getElem_mem he)).1
end
abbrev nk(w:aC):Prop:=∀{S:av} {x R H:Addr} {Q:bP} {E:cC},S x=some (.ins "Balance" [])->(∀S',S' x=some (.ins "Balance" (bF R H 1))->(∀b o,S b=some o->b≠x->S' b=some o)->Q .non S')->w [.ref x,.ref R,.ref H] S Q E
def F0:nk (bc 3 cu):=by
 intro S x R H Q E h k
 unfold cu
 refine eW ?_
 rw[show ar 3 [PV.ref x,.ref R,.ref H]=[some (.ref x),some (.ref R),some (.ref H)] from rfl]
 refine ax fun N hN=>?_
 simp only[fS,v3,lk,cm,h,true_and]
 refine⟨by simp,hN _ _ (ax fun N hN=>?_)⟩
 have h1:(Dd S x (.ins "Balance" (putF3 ("rows":Str) (.ref R) []))) x=some (.ins "Balance" [("rows",.ref R)]):=aa
 have k1:∀b o,S b=some o->b≠x->(Dd S x (.ins "Balance" (putF3 ("rows":Str) (.ref R) []))) b=some o:=fun b o hb hn=>by rw[aq hn];exact hb
 generalize Dd S x (.ins "Balance" (putF3 ("rows":Str) (.ref R) []))=S1 at h1 k1
 simp only[fS,v3,lk,cm,h1,true_and]
 refine⟨by simp,hN _ _ ?_⟩
 have p2:putF3 ("held":Str) (.ref H) [(("rows":Str),PV.ref R)]=[(("rows":Str),PV.ref R),(("held":Str),PV.ref H)]:=by simp[putF3,da]
 rw[p2]
 have h2:(Dd S1 x (.ins "Balance" [("rows",.ref R),("held",.ref H)])) x=some (.ins "Balance" [("rows",.ref R),("held",.ref H)]):=aa
 have k2:∀b o,S1 b=some o->b≠x->(Dd S1 x (.ins "Balance" [("rows",.ref R),("held",.ref H)])) b=some o:=fun b o hb hn=>by rw[aq hn];exact hb
 generalize Dd S1 x (.ins "Balance" [("rows",.ref R),("held",.ref H)])=S2 at h2 k2
 simp only[fS,v3,lk,c3,cm,h2,true_and]
 refine⟨by simp,?_⟩
 have p3:putF3 ("bottom":Str) (.int 1) [(("rows":Str),PV.ref R),(("held":Str),PV.ref H)]=bF R H 1:=by simp[putF3,da,bF]
 rw[p3]
 exact k _ aa fun b o hb hn=>by rw[aq hn];exact k2 _ _ (k1 _ _ hb hn) hn
structure News (S S':av) (ns:List Addr) (rows:List (List Int)):Prop where
 l:ns.length=rows.length
 x:Ext S S'
 f:∀n∈ns,S n=none
 r:∀(i:Nat) n row,ns[i]?=some n->rows[i]?=some row->S' n=some (.lst (row.map PV.int))
def News.snoc{S S1 S2:av}{ns:List Addr}{rows:List (List Int)}{p:Addr}{row:Vu}(h:News S S1 ns rows)(hp:S1 p=none)(X:Ext S1 S2)(f:S2 p=some (.lst (row.map PV.int))):News S S2 (ns++[p]) (rows++[row]):=by
 refine⟨by simp[h.l],h.x.trans X,fun n hn=>?_,fun i n rw' hn hr=>?_⟩
 ·rcases List.mem_append.mp hn with h'|h'
  ·exact h.f n h'
  ·rw[List.mem_singleton.mp h'];exact h.x.free hp
 ·by_cases hi:i < ns.length
  ·rw[List.getElem?_append_left hi]at hn
   rw[List.getElem?_append_left (by rw[<-h.l];exact hi)]at hr
   exact X _ _ (h.r i n rw' hn hr)
  ·rw[List.getElem?_append_right (by omega)]at hn
   rw[List.getElem?_append_right (by rw[<-h.l];omega)]at hr
   have e0:i - ns.length=0:=by have:=(List.getElem?_eq_some_iff.mp hn).1;rw[List.length_singleton]at this;omega
   rw[e0]at hn
   rw[<-h.l,e0]at hr
   cases hn;cases hr
   exact f
def News.ext{S S1 S2:av}{ns:List Addr}{rows:List (List Int)}(h:News S S1 ns rows)(X:Ext S1 S2):News S S2 ns rows:=⟨h.l,h.x.trans X,h.f,fun i n row a b=>X _ _ (h.r i n row a b)⟩
def News.both{S S1 S2:av}{ns ms:List Addr}{rows Iq:List (List Int)}(h:News S S1 ns rows)(g:News S1 S2 ms Iq):News S S2 (ns++ms) (rows++Iq):=by
 refine⟨by simp[h.l,g.l],h.x.trans g.x,fun n hn=>?_,fun i n row hn hr=>?_⟩
 ·rcases List.mem_append.mp hn with h'|h'
  ·exact h.f n h'
  ·exact h.x.free (g.f n h')
 ·by_cases hi:i < ns.length
  ·rw[List.getElem?_append_left hi]at hn
   rw[List.getElem?_append_left (by rw[<-h.l];exact hi)]at hr
   exact g.x _ _ (h.r i n row hn hr)
  ·rw[List.getElem?_append_right (by omega)]at hn
   rw[List.getElem?_append_right (by rw[<-h.l];omega)]at hr
   rw[<-h.l]at hr
   exact g.r _ n row hn hr
def j4{f:Nat->List Int}{n i:Nat}(h:i < n):((List.range n).map f).take (i+1)=((List.range n).map f).take i++[f i]:=by
 rw[List.take_succ,List.getElem?_map,List.getElem?_range h];rfl
def i7{α:Type}{f:Nat->α}{n:Nat}:((List.range n).map f).take n=(List.range n).map f:=List.take_of_length_le (by simp)
abbrev i8(w:aC):Prop:=∀{S:av} {cs:List Cl} {mix:Vu} {k:Nat} {Q:bP} {E:cC},bn cs mix k->
 (∀S' a R H rs,S a=none->S H=none->Ext S S'->BalAt S' a R H rs (re cs mix k mix.length) (rD cs mix k mix.length) 1->Q (.ref a) S')->w [.tup (cs.map Cl.pv),.int (k:Int),.tup (mix.map PV.int)] S Q E
def t9{x0 x1 x2 x3 x4 x5:aC}(F9:lS x0)(FU:m5 x1)(FV:m6 x2)(F0:nk x3)(E6:ip x4)(Fx:kX x5):i8 (bc 8 (fh x0 x1 x2 x3 x4 x5)):=by
 intro S cs mix k Q E P kk
 unfold fh
 refine eW ?_
 rw[show ar 8 [.tup (cs.map Cl.pv),.int (k:Int),.tup (mix.map PV.int)]=[some (.tup (cs.map Cl.pv)),some (.int (k:Int)),some (.tup (mix.map PV.int)),none,none,none,none,none] from rfl]
 have n2:=P.n2;have k1:=P.k1;have d1:=P.d1;have dn:=nj P
 refine ax fun N hN=>?_
 simp only[am,ad,ag,aw,aO,v3,lk,cf]
 refine aY Cl.pv dJ trivial cs [] (fun c hc=>⟨_,rfl,fun Q' q=>?_⟩) (aV (by simp;omega)) ?_
 ·simp only[bV,List.reduceReplicate,List.map_nil,List.append_nil,List.set_cons_zero,ai,v3,lk,c3,aj,Cl.pv,mU]
  exact q
 intro p0 hp0
 rw[List.nil_append]
 refine F9 (fun c hc=>P.yd c hc) aa ?_
 have X0:Ext S (Dd S p0 (.lst (cs.map dJ))):=.new hp0
 generalize Dd S p0 (.lst (cs.map dJ))=S0 at X0
 have ok:=j0 2520 (by decide) (cs.map (·.y)) 1 (by decide) (Nat.one_dvd _) fun y hy=>by obtain⟨c,h,rfl⟩:=List.mem_map.mp hy;exact P.yd c h
 have l1:cbO cs<=2520:=gR ok.2.1
 rw[show q_ 1 (cs.map (·.y))=cbO cs from rfl]
 simp only[List.set_cons_succ,List.set_cons_zero]
 refine hN _ _ (ax fun N hN=>?_)
 simp only[am,ai,aw,aO,v3,lk,cf]
 refine aY Cl.pv (fun c=>.int (- c.x * ((cbO cs / c.y:Nat):Int))) trivial cs [] (fun c hc=>⟨_,rfl,fun Q' q=>?_⟩) (aV (by simp;omega)) ?_
 ·simp only[bV,List.reduceReplicate,List.map_cons,List.map_nil,List.cons_append,List.nil_append,List.set_cons_zero,ai,jj,df,v3,lk,c3,aj,Cl.pv,gL,mU,d3,fv]
  have y1:=P.yd c hc
  have y2:=gR y1.2
  refine⟨yC (by omega) (by omega),?_⟩
  rw[show((cbO cs:Nat):Int).fdiv (c.y:Int)=((cbO cs / c.y:Nat):Int) by rw[Int.fdiv_eq_ediv_of_nonneg _ (by omega),Int.natCast_ediv]]
  simp only[aQ]
  have l2:cbO cs / c.y<=2520:=Nat.le_trans (Nat.div_le_self _ _) l1
  generalize cbO cs / c.y=z at l2 q
  exact⟨ol (by omega) (by omega),q⟩
 intro p1 hp1
 rw[List.nil_append,oz (fun c:Cl=>- c.x * ((cbO cs / c.y:Nat):Int))]at *
 have X1:Ext S0 (Dd S0 p1 (.lst ((cs.map fun c:Cl=>- c.x * ((cbO cs / c.y:Nat):Int)).map PV.int))):=.new hp1
 have f1:(Dd S0 p1 (.lst ((cs.map fun c:Cl=>- c.x * ((cbO cs / c.y:Nat):Int)).map PV.int))) p1=some (.lst ((cs.map fun c:Cl=>- c.x * ((cbO cs / c.y:Nat):Int)).map PV.int)):=aa
 generalize Dd S0 p1 (.lst ((cs.map fun c:Cl=>- c.x * ((cbO cs / c.y:Nat):Int)).map PV.int))=S1 at X1 f1
 simp only[cD,ag,c3]
 intro p2 hp2
 have X2:Ext S1 (Dd S1 p2 (.lst [.int 0])):=.new hp2
 have f2:(Dd S1 p2 (.lst [.int 0])) p2=some (.lst [.int 0]):=aa
 generalize Dd S1 p2 (.lst [.int 0])=S2 at X2 f2
 have e1:∀Q:bP,bo (.int (k:Int)) (.int 1) S2 Q=Q (.int ((k+1:Nat):Int)) S2:=fun _=>rfl
 simp only[e1]
 refine AF f2 (by omega) fun p3 S3 hp3 X3 f3=>?_
 refine m4 (X3 _ _ (X2 _ _ f1)) f3 (by simp;omega) fun pg S4 Lf X4 fg=>?_
 rw[<-List.map_append,show cs.map (fun c:Cl=>- c.x * ((cbO cs / c.y:Nat):Int))++List.replicate (k+1) 0=oy cs k (cbO cs)from rfl]at fg
 have XA:Ext S S4:=X0.trans (X1.trans (X2.trans (X3.trans X4)))
 have Lg:S pg=none:=(X0.trans (X1.trans (X2.trans X3))).free Lf
 simp only[List.set_cons_succ,List.set_cons_zero]
 refine hN _ _ (ax fun N hN=>?_)
 simp only[am,aw,ck,ah,ag,v3,lk,aS,List.length_map]
 refine⟨by omega,by omega,?_⟩
 rw[Int.toNat_natCast]
 refine bK (fun done ys S'=>done.length<=mix.length/\∃ns,ys=ns.map PV.ref/\News S4 S' ns (((List.range mix.length).map (iY cs k mix)).take done.length)) ⟨Nat.zero_le _,[],rfl,⟨by simp,.refl,(fun n h=>by cases h),(fun i n row h=>by cases h)⟩⟩ ?_ ?_ ?_
 ·rintro done ys S' ⟨h,ns,rfl,nw⟩
  exact⟨trivial,aV (by rw[List.length_map,nw.l];simp;omega)⟩
 ·rintro done x rest ys S' K e ⟨h,ns,rfl,nw⟩ hK
  obtain⟨rfl,hi⟩:=cp e
  simp only[Tg.put,bV,List.reduceReplicate,List.map_cons,List.map_nil,List.cons_append,List.nil_append,List.set_cons_zero,bz,if_true,ad,ag,v3,lk]
  refine FU (by omega) (by omega) hi fun p S' hp X f=>hK _ _ ⟨by rw[List.length_append];exact hi,ns++[p],by simp,?_⟩
  rw[List.length_append,List.length_singleton,j4 hi]
  exact nw.snoc hp X f
 rintro ys S5 ⟨_,ns,rfl,nw⟩ p6 IN
 rw[bZ,i7]at nw
 have X6:Ext S5 (Dd S5 p6 (.lst (ns.map PV.ref))):=.new IN
 have f6:(Dd S5 p6 (.lst (ns.map PV.ref))) p6=some (.lst (ns.map PV.ref)):=aa
 have Kp:=nw.ext X6
 have JL:S4 p6=none:=nw.x.free IN
 generalize Dd S5 p6 (.lst (ns.map PV.ref))=S6 at X6 f6 Kp
 simp only[List.set_cons_succ,List.set_cons_zero]
 refine hN _ _ (ax fun N hN=>?_)
 simp only[du,mM,uD,ag,aw,ck,v3,lk,f6,true_and]
 refine⟨by omega,by omega,?_⟩
 rw[Int.toNat_natCast]
 refine bK (fun done ys S'=>done.length<=k/\∃ms,ys=ms.map PV.ref/\News S6 S' ms (((List.range k).map (iZ cs k)).take done.length)) ⟨Nat.zero_le _,[],rfl,⟨by simp,.refl,(fun n h=>by cases h),(fun i n row h=>by cases h)⟩⟩ ?_ ?_ ?_
 ·rintro done ys S' ⟨h,ms,rfl,mw⟩
  exact⟨trivial,aV (by rw[List.length_map,mw.l];simp;omega)⟩
 ·rintro done x rest ys S' K e ⟨h,ms,rfl,mw⟩ hK
  obtain⟨rfl,hi⟩:=cp e
  simp only[Tg.put,bV,List.reduceReplicate,List.map_cons,List.map_nil,List.cons_append,List.nil_append,List.set_cons_zero,bz,if_true,ad,ag,v3,lk]
  refine FV (by omega) (by omega) hi (fun c hc=>P.ef c hc) fun p S' hp X f=>hK _ _ ⟨by rw[List.length_append];exact hi,ms++[p],by simp,?_⟩
  rw[List.length_append,List.length_singleton,j4 hi]
  exact mw.snoc hp X f
 rintro ys S7 ⟨_,ms,rfl,mw⟩ p7 Kr
 rw[bZ,i7]at mw
 have both:=Kp.both mw
 have IS:=mw.x _ _ f6
 have Lh:(Dd S7 p7 (.lst (ms.map PV.ref))) p6=some (.lst (ns.map PV.ref)):=by rw[aq (fun h=>by rw[h,Kr]at IS;cases IS)];exact IS
 simp only[e9,Lh,aa]
 have lb:=both.l
 simp only[List.length_append,List.length_map,List.length_range]at lb
 refine⟨aV (by simp only[List.length_map];omega),?_⟩
 rw[<-List.map_append]
 have f8:(Dd (Dd S7 p7 (.lst (ms.map PV.ref))) p6 (.lst ((ns++ms).map PV.ref))) p6=some (.lst ((ns++ms).map PV.ref)):=aa
 have X8:∀b o,S7 b=some o->b≠p6->(Dd (Dd S7 p7 (.lst (ms.map PV.ref))) p6 (.lst ((ns++ms).map PV.ref))) b=some o:=fun b o h hb=>by rw[aq hb,aq (fun e=>by rw[e,Kr]at h;cases h)];exact h
 generalize Dd (Dd S7 p7 (.lst (ms.map PV.ref))) p6 (.lst ((ns++ms).map PV.ref))=S8 at f8 X8
 have Ir:Ext S4 S8:=fun b o h=>X8 b o (both.x _ _ h) (fun e=>by rw[e,JL]at h;cases h)
 have Hh:∀(i:Nat) n row,(ns++ms)[i]?=some n->((List.range mix.length).map (iY cs k mix)++(List.range k).map (iZ cs k))[i]?=some row->S8 n=some (.lst (row.map PV.int)):=fun i n row hn hr=>by
  have f:=both.r i n row hn hr
  refine X8 _ _ f fun e=>?_
  rw[e,IS]at f
  injection f with f
  injection f with f
  cases ns with
  |nil=>
   cases ms with
   |nil=>simp at hn
   |cons a r=>
    -- no Fl: the Ks rows have lists of numbers
    rw[List.map_nil]at f
    have:row=[]:=by cases row with|nil=>rfl|cons _ _=>cases f
    subst this
    have hl:=(CD P).w [] (by unfold dM;exact List.mem_append_left _ (List.mem_of_getElem? hr))
    simp at hl
  |cons a r=>
   cases row with
   |nil=>cases f
   |cons _ _=>injection f with f1 _;cases f1
 refine hN _ _ (ax fun N hN=>?_)
 simp only[am,tD,ag,ai,cD,v3,lk]
 intro p9 hp9
 have X9:Ext S8 (Dd S8 p9 (.lst [.ref pg])):=.new hp9
 have f9:(Dd S8 p9 (.lst [.ref pg])) p9=some (.lst [.ref pg]):=aa
 generalize Dd S8 p9 (.lst [.ref pg])=S9 at X9 f9
 refine m4 (X9 _ _ f8) f9 (by simp;omega) fun pR HG hpR Li fR=>?_
 have lnm:(ns++ms).length=mix.length+k:=by rw[List.length_append];omega
 have IU:HG pR=some (.lst ((ns++ms++[pg]).map PV.ref)):=by rw[fR,List.map_append (l₂:=[pg])];rfl
 have Ha:Ext S8 HG:=X9.trans Li
 simp only[aw,ck,ah,ag,v3,lk,aS,Ha _ _ f8,List.length_map]
 refine⟨by omega,by omega,?_⟩
 rw[Int.toNat_natCast,wL]
 refine aY (fun o:Nat=>PV.int (o:Int)) (fun o=>.int ((cs.length+o - mix.length:Nat):Int)) trivial (List.range (ns++ms).length) [] (fun o ho=>⟨_,rfl,fun Q' q=>?_⟩) (aV (by simp only[List.length_nil,List.length_range,List.length_append];omega)) ?_
 ·simp only[bV,List.reduceReplicate,List.map_cons,List.map_nil,List.cons_append,List.nil_append,List.set_cons_zero,ai,ah,ag,v3,lk,aS,List.length_map,bo,cH,bx]
  rw[show((cs.length:Int)+(o:Int) - (mix.length:Int))=((cs.length+o - mix.length:Nat):Int) by omega]
  exact q
 rw[List.nil_append,show(List.range (ns++ms).length).map (fun o=>PV.int ((cs.length+o - mix.length:Nat):Int))=hV (eP cs mix k) by unfold hV eP;rw[List.map_map,List.length_append,lb];rfl]
 intro pH IV
 have Hi:Ext HG (Dd HG pH (.lst (hV (eP cs mix k)))):=.new IV
 have IW:(Dd HG pH (.lst (hV (eP cs mix k)))) pH=some (.lst (hV (eP cs mix k))):=aa
 generalize Dd HG pH (.lst (hV (eP cs mix k)))=Kt at Hi IW
 intro a ha
 have IY:Ext Kt (Dd Kt a (.ins "Balance" [])):=.new ha
 refine F0 aa fun HR Lj k12=>⟨rfl,?_⟩
 have Ku:Ext S4 HR:=fun b o h=>k12 _ _ (IY _ _ (Hi _ _ (Ha _ _ (Ir _ _ h)))) (fun e=>by have:=Hi _ _ (Ha _ _ (Ir _ _ h));rw[e,ha]at this;cases this)
 have Lk:∀b o,S8 b=some o->HR b=some o:=fun b o h=>k12 _ _ (IY _ _ (Hi _ _ (Ha _ _ h))) (fun e=>by have:=Hi _ _ (Ha _ _ h);rw[e,ha]at this;cases this)
 have IZ:S a=none:=(XA.trans (Ir.trans (Ha.trans Hi))).free ha
 have I9:S pH=none:=(XA.trans (Ir.trans Ha)).free IV
 have XS:Ext S HR:=XA.trans Ku
 have Ll:pH≠a:=fun e=>by rw[e,ha]at IW;cases IW
 have JM:=Ku _ _ fg
 have B0:BalAt HR a pR pH (ns++ms++[pg]) (dM cs mix k) (eP cs mix k) 1:=by
  have JN:HR pR=some (.lst ((ns++ms++[pg]).map PV.ref)):=k12 _ _ (IY _ _ (Hi _ _ IU)) (fun e=>by have:=Hi _ _ IU;rw[e,ha]at this;cases this)
  have JO:HR pH=some (.lst (hV (eP cs mix k))):=k12 _ _ (IY _ _ IW) Ll
  have old:∀r∈ns++ms++[pg],∃o,HG r=some o:=fun r hr=>by
   rcases List.mem_append.mp hr with h|h
   ·obtain⟨i,hi⟩:=List.getElem?_of_mem h
    have hlt:=(List.getElem?_eq_some_iff.mp hi).1
    have:i < ((List.range mix.length).map (iY cs k mix)++(List.range k).map (iZ cs k)).length:=by simp only[List.length_append,List.length_map,List.length_range]at hlt ⊢;omega
    exact⟨_,Ha _ _ (Hh i r _ hi (List.getElem?_eq_getElem this))⟩
   ·rw[List.mem_singleton.mp h];exact⟨_,Ha _ _ (Ir _ _ fg)⟩
  refine⟨Lj,JN,?_,fun i n row hn hr=>?_,JO,(fun e=>by rw[e,IV]at IU;cases IU),fun r hr e=>?_⟩
  ·unfold dM
   simp only[List.length_append,List.length_map,List.length_range,List.length_singleton]
   omega
  ·unfold dM at hr
   by_cases hi:i < (ns++ms).length
   ·rw[List.getElem?_append_left hi]at hn
    rw[List.getElem?_append_left (by simp only[List.length_append,List.length_map,List.length_range]at hi ⊢;omega)]at hr
    exact Lk _ _ (Hh i n row hn hr)
   ·have e0:i=(ns++ms).length:=by have:=(List.getElem?_eq_some_iff.mp hn).1;rw[List.length_append (bs:=[pg]),List.length_singleton]at this;omega
    rw[List.getElem?_append_right (by omega),e0,Nat.sub_self]at hn
    rw[List.getElem?_append_right (by simp only[List.length_append,List.length_map,List.length_range]at e0 ⊢;omega)]at hr
    have e2:i - ((List.range mix.length).map (iY cs k mix)++(List.range k).map (iZ cs k)).length=0:=by simp only[List.length_append,List.length_map,List.length_range]at e0 ⊢;omega
    rw[e2]at hr
    cases hn;cases hr
    exact JM
  ·obtain⟨o,ho⟩:=old r hr
   rw[e,IV]at ho;cases ho
 simp only[List.set_cons_succ,List.set_cons_zero]
 refine hN _ _ (ax fun N hN=>?_)
 simp only[bU,ck,ah,ag,v3,lk,aS,List.length_map]
 refine⟨by omega,by omega,?_⟩
 rw[Int.toNat_natCast]
 refine bp (fun done σ S'=>done.length<=mix.length/\Ext S S'/\(∃R rs,BalAt S' a R pH rs (re cs mix k done.length) (rD cs mix k done.length) 1)/\∃x3 x4 x5 x6,σ=[some (.tup (cs.map Cl.pv)),some (.int (k:Int)),some (.tup (mix.map PV.int)),x3,x4,x5,x6,some (.ref a)]) ⟨Nat.zero_le _,XS,⟨_,_,B0⟩,_,_,_,_,rfl⟩ (fun _ _ _ _=>trivial) ?_ ?_
 ·rintro done x rest σ S' K e ⟨hd,X,⟨R,rs,B⟩,x3,x4,x5,x6,rfl⟩ hK
  obtain⟨rfl,hi⟩:=cp e
  have hm':(bF R pH 1).lookup ("hold":Str)=none:=rfl
  simp only[Tg.put,List.set_cons_succ,List.set_cons_zero,du,cR,ag,ad,v3,lk,cm,B.o,hm',true_and]
  refine Fx (by omega) (P.fx _ hi) fun S2 X2=>?_
  have B2:BalAt S2 a R pH rs (re cs mix k done.length) (rD cs mix k done.length) 1:=⟨X2 _ _ B.o,X2 _ _ B.r,B.rl,fun i r row a b=>X2 _ _ (B.rr i r row a b),X2 _ _ B.h,B.nR,B.nr⟩
  obtain⟨_,hc,_,_,_,hlt⟩:=dm P hi
  have D:=Cj P hd
  have q1:((re cs mix k done.length).getD done.length []).getD (DP cs done.length) 0=1:=by
   show Ts cs mix k done.length done.length (DP cs done.length)=1
   rw[(v8 P done.length hd).Fl _ _ hi,pO P hi hi,if_pos rfl]
  refine E6 B2 D.sh (by rw[D.rl];omega) (by rw[D.hl];omega) (show DP cs done.length < cs.length+k+1 by omega) (by decide) (bv jA) fun S3 R3 JP B3 fr=>?_
  rw[q1]at B3
  refine hK _ _ ⟨by rw[List.length_append];exact hi,fun b o h=>fr b o (X2 _ _ (X _ _ h)) (fun e=>by rw[e,IZ]at h;cases h) (fun e=>by rw[e,I9]at h;cases h),⟨R3,JP,by rw[List.length_append,List.length_singleton];exact B3⟩,_,_,_,_,rfl⟩
 ·rintro σ S' ⟨hd,X,⟨R,rs,B⟩,x3,x4,x5,x6,rfl⟩
  rw[bZ]at B
  refine hN _ _ ?_
  simp only[ap,v3,lk]
  exact kk S' a R pH rs IZ I9 X B
noncomputable def Kq:Nat:=2 ^ 850
def AM:∀m,m<=16->Wg.Kb Cb (m+1)<=Kq:=by
 have:∀m,m<=17->Wg.Kb Cb m<=2 ^ (50 * m):=by
  intro m
  induction m with
  |zero=>intro _;exact Nat.le_refl _
  |succ m ih=>
   intro h
   show(m+1) * (Cb * Wg.Kb Cb m)<=2 ^ (50 * (m+1))
   have h1:=ih (by omega)
   have e:(2:Nat) ^ (50 * (m+1))=2 ^ 8 * (2 ^ 42 * 2 ^ (50 * m)):=by rw[<-Nat.pow_add,<-Nat.pow_add];congr 1;omega
   rw[e]
   exact Nat.mul_le_mul (by omega) (Nat.mul_le_mul (Nat.le_refl _) h1)
 intro m hm
 refine Nat.le_trans (this (m+1) (by omega)) ?_
 unfold Kq
 exact Nat.pow_le_pow_right (by decide) (by omega)
def l8:Kq * 2 ^ 100 < dC:=by unfold Kq dC;rw[<-Nat.pow_add];exact Nat.pow_lt_pow_right (by decide) (by decide)
def aR{x:Int}{c:Nat}(h:x.natAbs<=Kq * c)(hc:c<=2 ^ 100):x.natAbs < dC:=Nat.lt_of_le_of_lt (Nat.le_trans h (Nat.mul_le_mul (Nat.le_refl _) hc)) l8
noncomputable def Cn(cs:List Cl)(c:Cl):Int:=c.x * ((cbO cs / c.y:Nat):Int)
def kY{cs:List Cl}{mix:Vu}{k:Nat}(P:bn cs mix k):0 < cbO cs/\cbO cs<=2520/\∀c∈cs,c.y ∣ cbO cs:=by
 have ok:=j0 2520 (by decide) (cs.map (·.y)) 1 (by decide) (Nat.one_dvd _) fun y hy=>by obtain⟨c,h,rfl⟩:=List.mem_map.mp hy;exact P.yd c h
 exact⟨ok.1,gR ok.2.1,fun c hc=>ok.2.2.2 c.y (List.mem_map.mpr ⟨c,hc,rfl⟩)⟩
def pQ{cs:List Cl}{mix:Vu}{k:Nat}(P:bn cs mix k){c:Cl}(hc:c∈cs){q:Int}(hq:0 < q):dJ c=cq (q * (cbO cs:Int)) (q * Cn cs c):=by
 obtain⟨h0,_,hd⟩:=kY P
 have hy:=(P.yd c hc).1
 unfold dJ
 rw[ou (P.lo c hc)]
 refine gv (by omega) (Int.mul_pos hq (by omega)) ?_
 unfold Cn
 obtain⟨z,hz⟩:=hd c hc
 rw[hz,Nat.mul_div_cancel_left _ hy,Int.natCast_mul]
 grind
noncomputable def G0(cs:List Cl)(q:Int)(Y:Vu)(c:Cl):Int:=q * Cn cs c+fT c.eff Y
noncomputable def pS(cs:List Cl)(q:Int)(Y:Vu)(d:Nat):List Int:=(cs.filter fun c=>decide (c.who=some d)).map (G0 cs q Y)
noncomputable def pT:List Int->Int
 |[]=>0
 |a::r=>r.foldl max a
theorem kZ:∀(r:Vu) (a:Int),a<=r.foldl max a/\(∀x∈r,x<=r.foldl max a)/\(r.foldl max a=a\/r.foldl max a∈r)
 |[],a=>⟨Int.le_refl _,(fun x h=>by cases h),.inl rfl⟩
 |b::r,a=>by
  have h:=kZ r (max a b)
  rw[List.foldl_cons]
  refine⟨by omega,fun x hx=>?_,?_⟩
  ·rcases List.mem_cons.mp hx with rfl|hx
   ·omega
   ·exact h.2.1 x hx
  ·rcases h.2.2 with h2|h2
   ·rw[h2]
    by_cases hab:a<=b
    ·exact .inr (by rw[Int.max_eq_right hab];simp)
    ·exact .inl (Int.max_eq_left (by omega))
   ·exact .inr (List.mem_cons_of_mem _ h2)
def l9{ns:Vu}(h:ns≠[]):pT ns∈ns/\∀a∈ns,a<=pT ns:=by
 obtain⟨a,r,rfl⟩:=List.exists_cons_of_ne_nil h
 have:=kZ r a
 refine⟨?_,fun x hx=>?_⟩
 ·show r.foldl max a∈a::r
  rcases this.2.2 with h|h
  ·rw[h];simp
  ·exact List.mem_cons_of_mem _ h
 ·rcases List.mem_cons.mp hx with rfl|hx
  ·exact this.1
  ·exact this.2.1 x hx
def t_{ns:Vu}{M:Int}(h:M∈ns)(hm:∀a∈ns,a<=M):M=pT ns:=by
 have h1:=l9 (ns:=ns) (fun e=>by rw[e]at h;cases h)
 have:=hm _ h1.1
 have:=h1.2 _ h
 omega
def jC{is ns:Vu}{a b:Nat}(hi:∀i∈is,i.natAbs<=a)(hn:∀n∈ns,n.natAbs<=b):eE (aW is ns)<=is.length * (a * b):=by
 induction is generalizing ns with
 |nil=>simp[aW,eE]
 |cons i r ih=>
  cases ns with
  |nil=>simp[aW,eE]
  |cons n s=>
   have h1:=ih (fun x hx=>hi x (by simp[hx])) (ns:=s) (fun x hx=>hn x (by simp[hx]))
   have h2:=Nat.mul_le_mul (hi i (by simp)) (hn n (by simp))
   simp only[aW,eE,List.zipWith_cons_cons,List.map_cons,List.sum_cons,List.length_cons,Int.natAbs_mul]at *
   rw[Nat.succ_mul]
   omega
def C3:(2:Nat) ^ 42<=2 ^ 100:=Nat.pow_le_pow_right (by decide) (by decide)
def CF:(2:Nat) ^ 33<=2 ^ 100:=Nat.pow_le_pow_right (by decide) (by decide)
def C4:(2:Nat) ^ 42+2 ^ 33<=2 ^ 100:=by omega
structure Qy (q:Int) (Y:Vu) (k:Nat):Prop where
 q0:0 < q
 q1:q.natAbs<=Kq
 l:Y.length=k
 y:∀n∈Y,n.natAbs<=Kq
section
variable {cs:List Cl} {mix:Vu} {k:Nat} {q:Int} {Y:Vu}
def v9(P:bn cs mix k)(h:Qy q Y k):0 < q * (cbO cs:Int)/\(q * (cbO cs:Int)).natAbs < dC:=by
 obtain⟨h0,h1,_⟩:=kY P
 refine⟨Int.mul_pos h.q0 (by omega),aR (c:=2520) ?_ (by decide)⟩
 rw[Int.natAbs_mul]
 exact Nat.mul_le_mul h.q1 (by omega)
def l_(P:bn cs mix k){c:Cl}(hc:c∈cs):(Cn cs c).natAbs<=2 ^ 42/\0<=Cn cs c:=by
 obtain⟨h0,h1,_⟩:=kY P
 have l2:cbO cs / c.y<=2520:=Nat.le_trans (Nat.div_le_self _ _) h1
 have x0:=P.x0 c hc
 unfold Cn
 refine⟨?_,Int.mul_nonneg x0.1 (Int.natCast_nonneg _)⟩
 rw[Int.natAbs_mul,Int.natAbs_natCast]
 exact Nat.le_trans (Nat.mul_le_mul (show c.x.natAbs<=2 ^ 30 by omega) l2) (by decide)
def i9(P:bn cs mix k)(h:Qy q Y k){c:Cl}(hc:c∈cs):(q * Cn cs c).natAbs < dC/\eE (aW c.eff Y) < dC/\(fT c.eff Y).natAbs < dC/\(q * Cn cs c+fT c.eff Y).natAbs < dC:=by
 have a1:(q * Cn cs c).natAbs<=Kq * 2 ^ 42:=by rw[Int.natAbs_mul];exact Nat.mul_le_mul h.q1 (l_ P hc).1
 have a2:=jC (is:=c.eff) (ns:=Y) (P.eb c hc) h.y
 rw[P.ef c hc]at a2
 have k1:=P.k1
 have a3:eE (aW c.eff Y)<=Kq * 2 ^ 33:=by
  have k8:=Nat.mul_le_mul k1 (Nat.le_refl (2 ^ 30 * Kq))
  refine Nat.le_trans a2 (Nat.le_trans k8 ?_)
  generalize Kq=z
  omega
 have a4:(fT c.eff Y).natAbs<=Kq * 2 ^ 33:=by rw[<-dD];exact Nat.le_trans (im _) a3
 have a5:=Int.natAbs_add_le (q * Cn cs c) (fT c.eff Y)
 have a6:(q * Cn cs c+fT c.eff Y).natAbs<=Kq * (2 ^ 42+2 ^ 33):=Nat.le_trans a5 (Nat.le_trans (Nat.add_le_add a1 a4) (Nat.le_of_eq (Nat.mul_add _ _ _).symm))
 exact⟨aR a1 C3,Nat.lt_of_le_of_lt (Nat.le_trans a3 (Nat.mul_le_mul (Nat.le_refl _) CF)) l8,aR a4 CF,aR a6 C4⟩
abbrev i_(w:aC):Prop:=∀{S:av} {cs:List Cl} {mix:Vu} {k:Nat} {q:Int} {Y:Vu} {d:Nat} {Q:bP} {E:cC},bn cs mix k->Qy q Y k->d < mix.length->(∀S',Ext S S'->Q (cq (q * (cbO cs:Int)) (pT (pS cs q Y d))) S')->w [.tup (cs.map Cl.pv),.tup (Y.map (cq (q * (cbO cs:Int)))),.int (d:Int)] S Q E
def Fy{x0 x1 x2:aC}(Hb:wK x0)(Dt:pJ x1)(GS:tO x2):i_ (bc 3 (gP x0 x1 x2)):=by
 intro S cs mix k q Y d Q E P h hd kk
 unfold gP
 refine eW ?_
 rw[show ar 3 [.tup (cs.map Cl.pv),.tup (Y.map (cq (q * (cbO cs:Int)))),.int (d:Int)]=[some (.tup (cs.map Cl.pv)),some (.tup (Y.map (cq (q * (cbO cs:Int))))),some (.int (d:Int))] from rfl]
 have n2:=P.n2
 obtain⟨B0,B1⟩:=v9 P h
 simp only[ap,ad,ag,aw,aO,v3,lk,cf]
 refine bK (fun done ys S'=>done.length<=cs.length/\Ext S S'/\ys=(((cs.take done.length).filter fun c=>decide (c.who=some d)).map (G0 cs q Y)).map (cq (q * (cbO cs:Int)))) ⟨Nat.zero_le _,.refl,rfl⟩ ?_ ?_ ?_
 ·rintro done ys S' ⟨hl,X,rfl⟩
  refine⟨trivial,aV ?_⟩
  rw[List.length_map,List.length_map]
  have:=List.length_filter_le (fun c:Cl=>decide (c.who=some d)) (cs.take done.length)
  rw[List.length_take]at this
  omega
 ·rintro done x rest ys S' K e ⟨hl,X,rfl⟩ hK
  have hget:(cs.map Cl.pv)[done.length]?=some x:=by rw[e];simp
  obtain⟨c,hc1,rfl⟩:∃c,cs[done.length]?=some c/\c.pv=x:=by rw[List.getElem?_map]at hget;exact Option.map_eq_some_iff.mp hget
  have hc:=List.mem_of_getElem? hc1
  have hlt:=(List.getElem?_eq_some_iff.mp hc1).1
  have et:(cs.take (done++[c.pv]).length)=cs.take done.length++[c]:=by rw[List.length_append,List.length_singleton,List.take_succ,hc1];rfl
  simp only[Tg.put,bV,List.reduceReplicate,List.map_cons,List.map_nil,List.cons_append,List.nil_append,List.set_cons_zero,a8,ai,v3,lk,c3,aj,Cl.pv,gL]
  refine lR ?_
  by_cases hw:c.who=some d
  ·simp only[hw,decide_true,if_true,ad,ag,ai,v3,lk,c3,aj,mU,wI]
   obtain⟨b1,b2,b3,b4⟩:=i9 P h hc
   refine GS B0 B1 b2 (by rw[P.ef c hc];have:=P.k1;omega) (by rw[P.ef c hc,h.l]) (fun i hi=>Nat.lt_of_le_of_lt (P.eb c hc i hi) (Nat.lt_of_lt_of_le (show 2 ^ 30 < 2 ^ 2000 from Nat.pow_lt_pow_right (by decide) (by decide)) (Nat.le_refl _))) (fun n hn=>aR (c:=1) (by rw[Nat.mul_one];exact h.y n hn) (by decide)) fun S2 X2=>?_
   rw[show PV.tup [.int c.x,.int (c.y:Int)]=dJ c from rfl,pQ P hc h.q0]
   refine Dt ⟨B0,B1,b1⟩ ⟨B0,B1,b3⟩ (hK _ _ ⟨by rw[List.length_append];exact hlt,X.trans X2,?_⟩)
   rw[et,List.filter_append,List.map_append,List.map_append]
   simp[hw,G0]
  ·simp only[hw,decide_false,Bool.false_eq_true,if_false]
   refine hK _ _ ⟨by rw[List.length_append];exact hlt,X,?_⟩
   rw[et,List.filter_append,List.map_append,List.map_append]
   simp[hw]
 ·rintro ys S' ⟨hl,X,rfl⟩ p hp
  rw[List.length_map,List.take_length]
  have hne:pS cs q Y d≠[]:=by
   obtain⟨c,_,hm,hw,_⟩:=dm P hd
   intro e
   have:G0 cs q Y c∈pS cs q Y d:=List.mem_map.mpr ⟨c,List.mem_filter.mpr ⟨hm,decide_eq_true hw⟩,rfl⟩
   rw[e]at this;cases this
  refine Hb B0 B1 (fun n hn=>?_) hne aa fun M hM JQ=>?_
  ·obtain⟨c,hc,rfl⟩:=List.mem_map.mp hn
   exact(i9 P h (List.mem_filter.mp hc).1).2.2.2
  ·rw[t_ hM JQ]
   exact kk _ (X.trans (.new hp))
end
noncomputable def v_(n:Nat)(rows:List (List Int))(held:List Nat)(q:Int)(c:Nat):List PV:=if c < n then (vY n rows held q (-1) c).set c (cq q q) else vY n rows held q (-1) c
noncomputable def oI(n:Nat)(rows:List (List Int))(held:List Nat)(q:Int)(c:Nat):PV:=.tup [.str "endless",.tup (v_ n rows held q c)]
abbrev pU(w:aC):Prop:=∀{S:av} {a R H:Addr} {rs:List Addr} {rows:List (List Int)} {held:List Nat} {q:Int} {m V c:Nat} {cs:List Cl} {Q:bP} {E:cC},BalAt S a R H rs rows held q->Dim rows held m V->0 < q->Sz q->cs.length<=500->c<=V->(∀S',Ext S S'->Q (oI cs.length rows held q c) S')->w [.ref a,.tup (cs.map Cl.pv),.int (c:Int)] S Q E
def Gn{xh:aC}(E7:iq xh):pU (bc 4 (iT xh)):=by
 intro S a R H rs rows held q m V c cs Q E B D hq HE hn hc k
 unfold iT
 refine eW ?_
 rw[show ar 4 [PV.ref a,.tup (cs.map Cl.pv),.int (c:Int)]=[some (.ref a),some (.tup (cs.map Cl.pv)),some (.int (c:Int)),none] from rfl]
 have hm':(bF R H q).lookup ("held_by":Str)=none:=rfl
 refine ax fun N hN=>?_
 simp only[am,cR,ag,ah,jj,df,c3,v3,lk,cm,B.o,hm',true_and,aS,List.length_map]
 refine E7 (n:=cs.length) (sg:=-1) B D hq HE hn (.inl ⟨rfl,hc⟩) (.inr rfl) fun p S1 hp X1 f1=>?_
 have hlen:(vY cs.length rows held q (-1) c).length=cs.length:=by unfold vY;rw[l6,List.length_replicate]
 simp only[List.set_cons_succ,List.set_cons_zero]
 refine hN _ _ (ax fun N hN=>?_)
 simp only[cj,a8,ai,ah,ag,v3,lk,aS,List.length_map,kr,bx,decide_eq_true_eq]
 have Lm:PV.tup [.int 1,.int 1]=cq q q:=by rw[iV,gv (Q:=1) (R:=q) (n:=1) (m:=q) (by decide) hq (by omega)]
 by_cases h:c < cs.length
 ·rw[if_pos (by omega)]
  simp only[iM,a7,ag,c3,v3,lk,e_,f1]
  rw[hlen,j2 h,Lm]
  refine hN _ _ ?_
  simp only[ap,a7,ag,c3,ah,v3,lk,aT,ic,aa]
  have:=k _ (X1.put hp (o:=.lst ((vY cs.length rows held q (-1) c).set c (cq q q))))
  unfold oI v_ at this
  rw[if_pos h]at this
  exact this
 ·rw[if_neg (by omega)]
  refine hN _ _ ?_
  simp only[ap,a7,ag,c3,ah,v3,lk,aT,ic,f1]
  have:=k _ X1
  unfold oI v_ at this
  rw[if_neg h]at this
  exact this
def wa{xs:List PV}{n k:Nat}(h:xs.length=n+k+1):eB xs (some (n:Int)) (some (-1))=(xs.drop n).take k:=by
 unfold eB
 have e1:HT.Dz xs.length 0 (some (n:Int))=n:=by rw[HT.lj];omega
 have e2:HT.Dz xs.length xs.length (some (-1))=if (-1:Int) < 0 then (-1+((xs.length:Nat):Int)).toNat else min (-1:Int).toNat xs.length:=rfl
 rw[e1,e2,if_pos (by decide)]
 congr 1
 omega
def y7{row:Vu}{n k:Nat}(h:row.length=n+k+1):(row.drop n).take k=(List.range k).map fun t=>row.getD (n+t) 0:=by
 refine List.ext_getElem? fun i=>?_
 by_cases hi:i < k
 ·rw[List.getElem?_take_of_lt hi,List.getElem?_drop,List.getElem?_map,List.getElem?_range hi,List.getElem?_eq_getElem (by omega)]
  show some _=some (row.getD (n+i) 0)
  rw[aD (List.getElem?_eq_getElem (show n+i < row.length by omega))]
 ·rw[List.getElem?_eq_none (by rw[List.length_take,List.length_drop];omega),List.getElem?_eq_none (by simp;omega)]
noncomputable def Yl(rows:List (List Int))(n m k:Nat):List Int:=(List.range k).map fun t=>(rows.getD m []).getD (n+t) 0
noncomputable def k4(cs:List Cl)(mix:Vu)(k:Nat)(rows:List (List Int))(held:List Nat)(q:Int):PV:=
 .tup [.str "most",cq (q * (cbO cs:Int)) ((rows.getD (mix.length+k) []).getD (cs.length+k) 0),.tup (vY cs.length rows held q 1 (cs.length+k)),
  .tup ((List.range mix.length).map fun d=>cq (q * (cbO cs:Int)) (pT (pS cs q (Yl rows cs.length (mix.length+k) k) d))),.tup ((Yl rows cs.length (mix.length+k) k).map (cq (q * (cbO cs:Int))))]
abbrev nq(w:aC):Prop:=∀{S:av} {a R H:Addr} {rs:List Addr} {rows:List (List Int)} {held:List Nat} {q:Int} {cs:List Cl} {mix:Vu} {k:Nat} {Q:bP} {E:cC},bn cs mix k->BalAt S a R H rs rows held q->Dim rows held (mix.length+k) (cs.length+k)->Qy q (Yl rows cs.length (mix.length+k) k) k->
 (∀S',Ext S S'->Q (k4 cs mix k rows held q) S')->w [.ref a,.tup (cs.map Cl.pv),.tup (mix.map PV.int)] S Q E
def BalAt.ext{S S':av}{a R H:Addr}{rs:List Addr}{rows:List (List Int)}{held:List Nat}{q:Int}(B:BalAt S a R H rs rows held q)(X:Ext S S'):BalAt S' a R H rs rows held q:=⟨X _ _ B.o,X _ _ B.r,B.rl,fun i r row a b=>X _ _ (B.rr i r row a b),X _ _ B.h,B.nR,B.nr⟩
def F1{x0 x1 x2 x3:aC}(F9:lS x0)(DH:jn x1)(Fy:i_ x2)(E7:iq x3):nq (bc 8 (ot x0 x1 x2 x3)):=by
 intro S a R H rs rows held q cs mix k Q E P B D Y kk
 unfold ot
 refine eW ?_
 rw[show ar 8 [PV.ref a,.tup (cs.map Cl.pv),.tup (mix.map PV.int)]=[some (.ref a),some (.tup (cs.map Cl.pv)),some (.tup (mix.map PV.int)),none,none,none,none,none] from rfl]
 have n2:=P.n2;have k1:=P.k1;have d1:=P.d1
 obtain⟨B0,B1⟩:=v9 P Y
 obtain⟨Ln,Lo,_⟩:=kY P
 have qs:Sz q:=bv (by have:=aR (c:=1) (x:=q) (by rw[Nat.mul_one];exact Y.q1) (by decide);omega)
 obtain⟨p,row,hp,ER,fp,hl,_,hT⟩:=j3 B D (Nat.le_refl (mix.length+k))
 have Iu:rows.getD (mix.length+k) []=row:=aD ER
 have eY:Yl rows cs.length (mix.length+k) k=(List.range k).map fun t=>row.getD (cs.length+t) 0:=by unfold Yl;rw[Iu]
 refine ax fun N hN=>?_
 simp only[am,ai,ci,v3,lk,cm,B.o,tX,true_and,ad,ag,aw,aO,cf]
 refine aY Cl.pv dJ trivial cs [] (fun c hc=>⟨_,rfl,fun Q' q=>?_⟩) (aV (by simp;omega)) ?_
 ·simp only[bV,List.reduceReplicate,List.map_nil,List.append_nil,List.set_cons_zero,ai,v3,lk,c3,aj,Cl.pv,mU]
  exact q
 intro p0 hp0
 rw[List.nil_append]
 refine F9 (fun c hc=>P.yd c hc) aa ?_
 have X0:Ext S (Dd S p0 (.lst (cs.map dJ))):=.new hp0
 generalize Dd S p0 (.lst (cs.map dJ))=S0 at X0
 rw[show q_ 1 (cs.map (·.y))=cbO cs from rfl]
 simp only[aQ]
 refine⟨ol (by omega) (by omega),?_⟩
 have Ba:=B.ext X0
 simp only[List.set_cons_succ,List.set_cons_zero]
 refine hN _ _ (ax fun N hN=>?_)
 simp only[am,ai,ci,v3,lk,c3,jj,df,cm,Ba.o,fW,true_and,aj,Ba.r]
 rw[kW (n:=mix.length+k) (by rw[List.length_map,B.rl,D.rl]) (show(rs.map PV.ref)[mix.length+k]?=some (.ref p) by rw[List.getElem?_map,hp];rfl)]
 have Lp:=X0 _ _ fp
 simp only[List.set_cons_succ,List.set_cons_zero]
 refine hN _ _ (ax fun N hN=>?_)
 simp only[am,ah,ag,aw,aO,bX,lG,jj,df,c3,v3,lk,aS,List.length_map,iJ,Lp]
 rw[wa (k:=k) (by rw[List.length_map,hl]),<-List.map_drop,<-List.map_take,y7 (by rw[hl]),<-eY]
 intro p1 hp1
 have X1:Ext S0 (Dd S0 p1 (.lst ((Yl rows cs.length (mix.length+k) k).map PV.int))):=.new hp1
 have f1:(Dd S0 p1 (.lst ((Yl rows cs.length (mix.length+k) k).map PV.int))) p1=some (.lst ((Yl rows cs.length (mix.length+k) k).map PV.int)):=aa
 generalize Dd S0 p1 (.lst ((Yl rows cs.length (mix.length+k) k).map PV.int))=S1 at X1 f1
 simp only[cf,f1]
 have lY:(Yl rows cs.length (mix.length+k) k).length=k:=by unfold Yl;simp
 refine aY PV.int (cq (q * (cbO cs:Int))) f1 (Yl rows cs.length (mix.length+k) k) [] (fun c hc=>⟨_,rfl,fun Q' q'=>?_⟩) (aV (by rw[lY];simp;omega)) ?_
 ·simp only[bV,List.reduceReplicate,List.map_cons,List.map_nil,List.cons_append,List.nil_append,List.set_cons_zero,ad,ag,v3,lk]
  exact DH B0 (bv (by omega)) q'
 intro p2 hp2
 simp only[List.nil_append,aT,ic,aa]
 have X2:Ext S1 (Dd S1 p2 (.lst ((Yl rows cs.length (mix.length+k) k).map (cq (q * (cbO cs:Int)))))):=.new hp2
 generalize Dd S1 p2 (.lst ((Yl rows cs.length (mix.length+k) k).map (cq (q * (cbO cs:Int)))))=S2 at X2
 simp only[List.set_cons_succ,List.set_cons_zero]
 refine hN _ _ (ax fun N hN=>?_)
 simp only[am,ah,ag,aw,ck,v3,lk,aS,List.length_map]
 refine⟨by omega,by omega,?_⟩
 rw[Int.toNat_natCast]
 refine bK (fun done ys S'=>done.length<=mix.length/\Ext S2 S'/\ys=((List.range mix.length).map fun d=>cq (q * (cbO cs:Int)) (pT (pS cs q (Yl rows cs.length (mix.length+k) k) d))).take done.length) ⟨Nat.zero_le _,.refl,rfl⟩ ?_ ?_ ?_
 ·rintro done ys S' ⟨h,X,rfl⟩
  exact⟨trivial,aV (by rw[List.length_take];simp;omega)⟩
 ·rintro done x rest ys S' K e ⟨h,X,rfl⟩ hK
  obtain⟨rfl,hi⟩:=cp e
  simp only[Tg.put,bV,List.reduceReplicate,List.map_cons,List.map_nil,List.cons_append,List.nil_append,List.set_cons_zero,bz,if_true,ad,ag,v3,lk]
  refine Fy P Y hi fun S3 X3=>hK _ _ ⟨by rw[List.length_append];exact hi,X.trans X3,?_⟩
  rw[List.length_append,List.length_singleton,List.take_succ,List.getElem?_map,List.getElem?_range hi];rfl
 rintro ys S3 ⟨_,X3,rfl⟩ p3 hp3
 rw[bZ,i7]
 simp only[aT,ic,aa]
 have X4:Ext S3 (Dd S3 p3 (.lst ((List.range mix.length).map fun d=>cq (q * (cbO cs:Int)) (pT (pS cs q (Yl rows cs.length (mix.length+k) k) d))))):=.new hp3
 generalize Dd S3 p3 (.lst ((List.range mix.length).map fun d=>cq (q * (cbO cs:Int)) (pT (pS cs q (Yl rows cs.length (mix.length+k) k) d))))=S4 at X4
 have XA:Ext S S4:=X0.trans (X1.trans (X2.trans (X3.trans X4)))
 have B4:=B.ext XA
 have hm':(bF R H q).lookup ("held_by":Str)=none:=rfl
 simp only[List.set_cons_succ,List.set_cons_zero]
 refine hN _ _ (ax fun N hN=>?_)
 simp only[am,ah,cR,ag,jj,df,c3,v3,lk,cm,B4.o,hm',true_and,aS,List.length_map]
 refine E7 (n:=cs.length) (sg:=1) B4 D Y.q0 qs (by omega) (.inr ⟨rfl,rfl⟩) (.inl rfl) fun p4 S5 Ih X5 f4=>?_
 simp only[aT,ic,f4,List.set_cons_succ,List.set_cons_zero]
 refine hN _ _ ?_
 have Lq:=X5 _ _ (XA _ _ fp)
 simp only[ap,a7,ag,ad,ai,jj,df,c3,v3,lk,aj,Lq]
 rw[kW (n:=cs.length+k) (by rw[List.length_map,hl]) (show(row.map PV.int)[cs.length+k]?=some (.int (row.getD (cs.length+k) 0)) by rw[List.getElem?_map,List.getElem?_eq_getElem (by omega),List.getD_eq_getElem?_getD,List.getElem?_eq_getElem (by omega)];rfl)]
 refine DH B0 (bv (by omega)) ?_
 have:=kk S5 (XA.trans X5)
 unfold k4 at this
 rw[Iu]at this
 exact this
inductive FH (cs:List Cl) (mix:Vu) (k:Nat):Nat->List (List Int)->List Nat->Int->Prop
 |ini:FH cs mix k 0 (re cs mix k mix.length) (rD cs mix k mix.length) 1
 |step {n:Nat} {rows:List (List Int)} {held:List Nat} {q:Int} {c r:Nat}:FH cs mix k n rows held q->Wg.En (mix.length+k) (cs.length+k) (toS rows held q) c->Wg.Lv (mix.length+k) (cs.length+k) (toS rows held q) c r->FH cs mix k (n+1) (i5 rows r c q) (held.set r c) ((rows.getD r []).getD c 0)
section
variable {cs:List Cl} {mix:Vu} {k:Nat}
def FH.ok(P:bn cs mix k){n:Nat}{rows:List (List Int)}{held:List Nat}{q:Int}(h:FH cs mix k n rows held q):Dm rows held (mix.length+k) (cs.length+k)/\∃b,Wg.Val (mix.length+k) (cs.length+k) (Ao cs mix k) (toS rows held q) b:=by
 induction h with
 |ini=>exact⟨AL P _ (Nat.le_refl _),_,Ck P⟩
 |step h e l ih=>
  obtain⟨D,b,v⟩:=ih
  have v2:=(v.Fo e.lt l).1
  rw[<-l7 D l.lt]at v2
  exact⟨D.Fo (by have:=l.lt;omega),_,v2⟩
theorem FH.bnd(P:bn cs mix k){n:Nat}{rows:List (List Int)}{held:List Nat}{q:Int}(h:FH cs mix k n rows held q):Dim rows held (mix.length+k) (cs.length+k)/\Qy q (Yl rows cs.length (mix.length+k) k) k/\Sz q/\∀i j,i<=mix.length+k->j<=cs.length+k->((rows.getD i []).getD j 0).natAbs<=Kq:=by
 obtain⟨D,b,v⟩:=h.ok P
 have a:=P.k1;have b':=P.d1;have c:=P.n2
 obtain⟨b1,b2⟩:=v.bnd (C:=Cb) (by decide) (fun i j hi hj=>pP P i j hi hj)
 have kb:=AM (mix.length+k) (by omega)
 have sm:∀{x:Int},x.natAbs<=Kq->x.natAbs < dC:=fun{x} h=>aR (c:=1) (by rw[Nat.mul_one];exact h) (by decide)
 have bT:∀i j,i<=mix.length+k->j<=cs.length+k->((rows.getD i []).getD j 0).natAbs<=Kq:=fun i j hi hj=>Nat.le_trans (b1 i j hi hj) kb
 have bq:q.natAbs<=Kq:=Nat.le_trans b2 kb
 refine⟨t7 D (by omega) (by omega) fun i j hi hj=>sm (bT i j hi hj),⟨v.tab.pos,bq,by unfold Yl;simp,fun y hy=>?_⟩,bv (by have:=sm bq;omega),bT⟩
 unfold Yl at hy
 obtain⟨t,ht,rfl⟩:=List.mem_map.mp hy
 exact bT _ _ (Nat.le_refl _) (by have:=List.mem_range.mp ht;omega)
def Out(cs:List Cl)(mix:Vu)(k:Nat)(v:PV):Prop:=∃n rows held q,FH cs mix k n rows held q/\
  (((∀j,j < cs.length+k->0<=(toS rows held q).T (mix.length+k) j)/\v=k4 cs mix k rows held q) \/
   ∃c,Wg.En (mix.length+k) (cs.length+k) (toS rows held q) c/\(∀i,i < mix.length+k->(toS rows held q).T i c<=0)/\v=oI cs.length rows held q c)
end
abbrev ja(w:aC):Prop:=∀{S:av} {cs:List Cl} {mix:Vu} {k:Nat} {Q:bP} {E:cC},bn cs mix k->(∀v S',Ext S S'->Out cs mix k v->Q v S')->w [.tup (cs.map Cl.pv),.tup (mix.map PV.int)] S Q E
def E8{x0 x1 x2 x3 x4 x5:aC}(HH:i8 x0)(FX:m9 x1)(FZ:ni x2)(Gn:pU x3)(E6:ip x4)(F1:nq x5):ja (bc 6 (iU x0 x1 x2 x3 x4 x5)):=by
 intro S cs mix k Q E P kk
 unfold iU
 refine eW ?_
 rw[show ar 6 [.tup (cs.map Cl.pv),.tup (mix.map PV.int)]=[some (.tup (cs.map Cl.pv)),some (.tup (mix.map PV.int)),none,none,none,none] from rfl]
 have n1:=P.n1
 obtain⟨c0,r0,Hj⟩:=List.exists_cons_of_ne_nil (show cs≠[] from fun e=>by rw[e]at n1;simp at n1)
 have e0:Eh (cs.map Cl.pv) 0=some c0.pv:=by rw[Hj,List.map_cons];exact gL
 have l0:c0.eff.length=k:=P.ef c0 (by rw[Hj];simp)
 refine ax fun N hN=>?_
 simp only[am,ah,ag,ai,v3,lk,c3,aj,e0,Cl.pv,wI,aS,List.length_map,l0,List.set_cons_succ,List.set_cons_zero]
 refine hN _ _ (ax fun N hN=>?_)
 simp only[am,ad,ag,v3,lk]
 refine HH P fun S1 a R H rs IZ I9 X1 B1=>?_
 simp only[List.set_cons_succ,List.set_cons_zero]
 refine hN _ _ (ax fun N hN=>?_)
 have p0:FH cs mix k 0 (re cs mix k mix.length) (rD cs mix k mix.length) 1:=.ini
 -- how it is asked what comes in
 have ask:∀{S1:av} {R:Addr} {rs:List Addr} {rows:List (List Int)} {held:List Nat} {q:Int} {n:Nat} {Q':bP},FH cs mix k n rows held q->BalAt S1 a R H rs rows held q->(∀(pl:Option Nat) S2,Ext S1 S2->(match pl with|none=>∀j,j < cs.length+k->0<=(toS rows held q).T (mix.length+k) j|some c=>Wg.En (mix.length+k) (cs.length+k) (toS rows held q) c)->Q' (fV pl) S2)->x1 [.ref a] S1 Q' ga:=fun{S1 R rs rows held q n Q'} pt B k'=>FX B (pt.bnd P).1 (fun S2 X2 h=>k' none S2 X2 h) (fun c S2 X2 h=>k' (some c) S2 X2 h)
 have hm1:∀R q,(bF R H q).lookup ("gaining":Str)=none:=fun _ _=>rfl
 have hm2:∀R q,(bF R H q).lookup ("used_up":Str)=none:=fun _ _=>rfl
 have Lr:∀R q,(bF R H q).lookup ("hold":Str)=none:=fun _ _=>rfl
 simp only[am,cR,ag,v3,lk,cm,B1.o,hm1,true_and]
 refine ask p0 B1 fun pl S2 X2 hpl=>?_
 simp only[List.set_cons_succ,List.set_cons_zero]
 refine hN _ _ (ax fun N hN=>?_)
 have C1:1<=Cb:=by decide
 have fin:∀{rows:List (List Int)} {held:List Nat} {q:Int} {n:Nat},FH cs mix k n rows held q->∃m,Wg.Hn (mix.length+k) (cs.length+k) m (toS rows held q):=fun pt=>by
  obtain⟨_,b,v⟩:=pt.ok P
  exact v.ends C1 (fun i j hi hj=>pP P i j hi hj)
 obtain⟨m0,hm0⟩:=fin p0
 refine⟨fun m σ S'=>∃(n:Nat) (R:Addr) (rs:List Addr) (rows:List (List Int)) (held:List Nat) (q:Int) (pl:Option Nat) (x5:Option PV),FH cs mix k n rows held q/\Wg.Hn (mix.length+k) (cs.length+k) m (toS rows held q)/\BalAt S' a R H rs rows held q/\Ext S S'/\
  (match pl with|none=>∀j,j < cs.length+k->0<=(toS rows held q).T (mix.length+k) j|some c=>Wg.En (mix.length+k) (cs.length+k) (toS rows held q) c)/\
  σ=[some (.tup (cs.map Cl.pv)),some (.tup (mix.map PV.int)),some (.int (k:Int)),some (.ref a),some (fV pl),x5],⟨m0,0,R,rs,_,_,_,pl,_,p0,hm0,B1.ext X2,X1.trans X2,hpl,rfl⟩,?_⟩
 rintro m σ S' ⟨n,R,rs,rows,held,q,pl,x5,pt,hn,B,X,hpl,rfl⟩
 obtain⟨D,Y,qs,_⟩:=pt.bnd P
 cases pl with
 |none=>
  simp only[fV,a8,ai,v3,lk,c3,ki,bne_self_eq_false,Bool.false_eq_true,if_false]
  refine hN _ _ ?_
  simp only[ap,ad,ag,v3,lk]
  exact F1 P B D Y fun S2 X2=>kk _ S2 (X.trans X2) ⟨n,rows,held,q,pt,.inl ⟨hpl,rfl⟩⟩
 |some c=>
  have hpl:Wg.En (mix.length+k) (cs.length+k) (toS rows held q) c:=hpl
  have hcl:=hpl.lt
  simp only[fV,a8,ai,v3,lk,c3,ki,Bool.bne_false,if_true]
  refine⟨fun σ' G6=>∃(m':Nat),m' < m/\∃(n:Nat) (R:Addr) (rs:List Addr) (rows:List (List Int)) (held:List Nat) (q:Int) (pl:Option Nat) (x5:Option PV),FH cs mix k n rows held q/\Wg.Hn (mix.length+k) (cs.length+k) m' (toS rows held q)/\BalAt G6 a R H rs rows held q/\Ext S G6/\
   (match pl with|none=>∀j,j < cs.length+k->0<=(toS rows held q).T (mix.length+k) j|some c=>Wg.En (mix.length+k) (cs.length+k) (toS rows held q) c)/\
   σ'=[some (.tup (cs.map Cl.pv)),some (.tup (mix.map PV.int)),some (.int (k:Int)),some (.ref a),some (fV pl),x5],fun σ' G6 h=>h,?_⟩
  refine ax fun N2 Go=>?_
  simp only[am,cR,ag,v3,lk,cm,B.o,hm2,true_and]
  refine FZ B D (by omega) (fun hno=>?_) (fun r lv=>?_)
  ·simp only[List.set_cons_succ,List.set_cons_zero]
   refine Go _ _ (ax fun N2 Go=>?_)
   simp only[cj,a8,ai,v3,lk,c3,ki,Bool.false_bne,if_true,ap,ad,ag]
   exact Gn B D Y.q0 qs (by have:=P.n2;omega) (by omega) fun S2 X2=>kk _ S2 (X.trans X2) ⟨n,rows,held,q,pt,.inr ⟨c,hpl,hno,rfl⟩⟩
  ·simp only[List.set_cons_succ,List.set_cons_zero]
   refine Go _ _ (ax fun N2 Go=>?_)
   simp only[cj,a8,ai,v3,lk,c3,ki,Bool.false_bne,Bool.false_eq_true,if_false]
   refine Go _ _ (ax fun N2 Go=>?_)
   simp only[du,cR,ag,v3,lk,cm,B.o,Lr,true_and]
   have lr:=lv.lt
   refine E6 B D.sh (by rw[D.rl];omega) (by rw[D.hl];omega) (show c < cs.length+k+1 by omega) (by have:=Y.q0;omega) qs fun S3 R3 JP B3 fr=>?_
   have Kv:=FH.step pt hpl lv
   have X3:Ext S S3:=fun b o h=>fr b o (X _ _ h) (fun e=>by rw[e,IZ]at h;cases h) (fun e=>by rw[e,I9]at h;cases h)
   refine Go _ _ ?_
   simp only[am,cR,ag,v3,lk,cm,B3.o,hm1,true_and]
   refine ask Kv B3 fun Ls S4 X4 JR=>?_
   simp only[List.set_cons_succ,List.set_cons_zero]
   cases m with
   |zero=>exact absurd ⟨hpl,lv,rfl⟩ (hn _ c r)
   |succ m=>
    have Kw:=hn _ c r ⟨hpl,lv,rfl⟩
    rw[<-l7 ⟨D.rl,D.hl,D.w⟩ lr]at Kw
    exact⟨m,Nat.lt_succ_self _,n+1,R3,JP,_,_,_,Ls,_,Kv,Kw,B3.ext X4,X3.trans X4,JR,rfl⟩
noncomputable def Xj(s:Wg.Sx)(m j x:Nat):Int:=Wg.sm m fun i=>if s.held i=x then s.T i j else 0
def wQ{rows:List (List Int)}{held:List Nat}{m V n j:Nat}{q sg:Int}(D:Dm rows held m V)(inj:∀i l,i < m->l < m->held.getD i 0=held.getD l 0->i=l):vY n rows held q sg j=(List.range n).map fun x=>cq q (sg * Xj (toS rows held q) m j x):=by
 have h1:=D.rl
 have h2:=D.hl
 have key:∀p,p<=m->((rows.zip held).take p).foldl (FI n j q sg) (List.replicate n (cq q 0))=(List.range n).map fun x=>cq q (sg * Xj (toS rows held q) p j x):=by
  intro p
  induction p with
  |zero=>
   intro _
   refine List.ext_getElem? fun x=>?_
   show(List.replicate n (cq q 0))[x]?=_
   rw[List.getElem?_map,List.getElem?_replicate]
   by_cases hx:x < n
   ·rw[if_pos hx,List.getElem?_range hx]
    show some (cq q 0)=some (cq q (sg * 0))
    rw[Int.mul_zero]
   ·rw[if_neg hx,List.getElem?_eq_none (by simp;omega)];rfl
  |succ p ih=>
   intro hp
   have hz:(rows.zip held)[p]?=some (rows[p]'(by omega),held[p]'(by omega)):=List.getElem?_zip_eq_some.mpr ⟨List.getElem?_eq_getElem _,List.getElem?_eq_getElem _⟩
   rw[List.take_succ,hz,List.foldl_append,ih (by omega)]
   have eh:held.getD p 0=held[p]'(by omega):=aD (List.getElem?_eq_getElem _)
   have er:(toS rows held q).T p j=(rows[p]'(by omega)).getD j 0:=by show(rows.getD p []).getD j 0=_;rw[aD (List.getElem?_eq_getElem (show p < rows.length by omega))]
   have Kx:(toS rows held q).held p=held[p]'(by omega):=eh
   show FI n j q sg ((List.range n).map fun x=>cq q (sg * Xj (toS rows held q) p j x)) (rows[p]'(by omega),held[p]'(by omega))=_
   refine List.ext_getElem? fun x=>?_
   unfold FI
   have old:∀x,x≠held[p]'(by omega)->Xj (toS rows held q) (p+1) j x=Xj (toS rows held q) p j x:=fun x hx=>by
    unfold Xj
    simp only[Wg.sm]
    rw[Kx,if_neg (Ne.symm hx),Int.add_zero]
   have new:Xj (toS rows held q) (p+1) j (held[p]'(by omega))=(rows[p]'(by omega)).getD j 0:=by
    unfold Xj
    simp only[Wg.sm]
    rw[Kx,if_pos rfl,er,Wg.bR (fun i hi=>if_neg fun e=>by
     have e:held.getD i 0=held.getD p 0:=by rw[eh];exact e
     have:=inj i p (by omega) (by omega) e
     omega),Int.zero_add]
   by_cases hx:x < n
   ·rw[List.getElem?_map,List.getElem?_range hx]
    by_cases he:x=held[p]'(by omega)
    ·have hlt:held[p]'(by omega) < n:=by omega
     show(if held[p]'(by omega) < n then ((List.range n).map fun x=>cq q (sg * Xj (toS rows held q) p j x)).set (held[p]'(by omega)) (cq q (sg * (rows[p]'(by omega)).getD j 0)) else (List.range n).map fun x=>cq q (sg * Xj (toS rows held q) p j x))[x]?=some (cq q (sg * Xj (toS rows held q) (p+1) j x))
     rw[if_pos hlt,List.getElem?_set,if_pos he.symm,if_pos (by simp;exact hlt),he,new]
    ·have:(if held[p]'(by omega) < n then ((List.range n).map fun x=>cq q (sg * Xj (toS rows held q) p j x)).set (held[p]'(by omega)) (cq q (sg * (rows[p]'(by omega)).getD j 0)) else (List.range n).map fun x=>cq q (sg * Xj (toS rows held q) p j x))[x]?=((List.range n).map fun x=>cq q (sg * Xj (toS rows held q) p j x))[x]?:=by
      split
      ·rw[List.getElem?_set,if_neg (Ne.symm he)]
      ·rfl
     refine this.trans ?_
     rw[List.getElem?_map,List.getElem?_range hx]
     show some (cq q (sg * Xj (toS rows held q) p j x))=some (cq q (sg * Xj (toS rows held q) (p+1) j x))
     rw[old x he]
   ·rw[List.getElem?_eq_none (by split<;>simp<;>omega),List.getElem?_eq_none (by simp;omega)]
 have:=key m (Nat.le_refl _)
 unfold vY
 rw[<-this,List.take_of_length_le (by rw[List.length_zip];omega)]
section
variable {cs:List Cl} {mix:Vu} {k:Nat}
noncomputable def cQ(cs:List Cl)(f:Cl->Int)(X:Nat->Int):Int:=fT (cs.map f) ((List.range cs.length).map X)
def ua(n:Nat)(f:Nat->Int):Wg.sm (n+1) f=f 0+Wg.sm n fun j=>f (j+1):=by
 induction n with
 |zero=>simp[Wg.sm]
 |succ n ih=>show Wg.sm (n+1) f+f (n+1)=f 0+((Wg.sm n fun j=>f (j+1))+f (n+1));rw[ih];omega
theorem ma:∀(xs ys:Vu),xs.length=ys.length->fT xs ys=Wg.sm xs.length fun j=>xs.getD j 0 * ys.getD j 0
 |[],[],_=>rfl
 |a::r,b::s,h=>by
  rw[List.length_cons,ua]
  have:=ma r s (by simpa using h)
  show a * b+fT r s=a * b+Wg.sm r.length fun j=>r.getD j 0 * s.getD j 0
  rw[this]
def dz(f:Cl->Int)(X:Nat->Int):cQ cs f X=Wg.sm cs.length fun j=>(cs.map f).getD j 0 * X j:=by
 unfold cQ
 rw[ma _ _ (by simp),List.length_map]
 refine Wg.aA fun j hj=>?_
 rw[show((List.range cs.length).map X).getD j 0=X j from aD (by rw[List.getElem?_map,List.getElem?_range hj];rfl)]
def eQ(n k:Nat)(f:Nat->Int):Wg.sm (n+k) f=Wg.sm n f+Wg.sm k fun t=>f (n+t):=by
 induction k with
 |zero=>simp[Wg.sm]
 |succ k ih=>show Wg.sm (n+k) f+f (n+k)=_+(_+f (n+k));rw[ih];omega
def wR{d:Nat}(hd:d < mix.length)(y:Nat->Int):Wg.sm (cs.length+k+1) (fun j=>Ao cs mix k d j * y j)=cQ cs (w1 d) y+mix.getD d 0 * y (cs.length+k):=by
 simp only[Wg.sm]
 rw[eQ,t0 hd,Wg.bR (n:=k) (fun t ht=>by rw[v5 hd ht,Int.zero_mul]),Int.add_zero,dz]
 congr 1
 refine Wg.aA fun j hj=>?_
 have hc:=List.getElem?_eq_getElem hj
 rw[rg hd hc,fi hc]
def wS{t:Nat}(ht:t < k)(y:Nat->Int):Wg.sm (cs.length+k+1) (fun j=>Ao cs mix k (mix.length+t) j * y j) = - cQ cs (fun c=>c.eff.getD t 0) y+y (cs.length+t):=by
 simp only[Wg.sm]
 rw[eQ,v7 ht,Int.zero_mul,Int.add_zero,Wg.bG (n:=k) (i:=t) ht (fun u hu hne=>by rw[rh ht hu,if_neg hne,Int.zero_mul]),rh ht ht,if_pos rfl,Int.one_mul,dz,<-Wg.fU]
 congr 1
 refine Wg.aA fun j hj=>?_
 have hc:=List.getElem?_eq_getElem hj
 rw[v6 ht hc,fi hc,Int.neg_mul]
def wT(y:Nat->Int):Wg.sm (cs.length+k+1) (fun j=>Ao cs mix k (mix.length+k) j * y j) = - cQ cs (Cn cs) y:=by
 simp only[Wg.sm]
 rw[eQ,oH (Nat.le_refl _),Int.zero_mul,Int.add_zero,Wg.bR (n:=k) (fun t ht=>by rw[oH (by omega),Int.zero_mul]),Int.add_zero,dz,<-Wg.fU]
 refine Wg.aA fun j hj=>?_
 have hc:=List.getElem?_eq_getElem hj
 rw[y3 hc,fi hc]
 unfold Cn
 grind
def along{m V:Nat}{A:Nat->Nat->Int}{s:Wg.Sx}{b:Nat->Wg.Vc}(v:Wg.Val m V A s b)(F:Nat->Int)(G:Nat->Int)(j:Nat):Wg.sm V (fun x=>F x * Xj s m j x)=Wg.sm m fun i=>F (s.held i) * s.T i j:=by
 unfold Xj
 rw[Wg.aA (g:=fun x=>Wg.sm m fun i=>if s.held i=x then F (s.held i) * s.T i j else 0) (fun x _=>by
  rw[<-Wg.dL];refine Wg.aA fun i _=>?_;split
  ·rename_i e;rw[e]
  ·simp),Wg.lU]
 refine Wg.aA fun i hi=>?_
 rw[Wg.bG (i:=s.held i) (v.hv i hi) (fun x _ hx=>if_neg fun e=>hx e.symm),if_pos rfl]
def C6{b:Nat->Wg.Vc}{s:Wg.Sx}(v:Wg.Val (mix.length+k) (cs.length+k) (Ao cs mix k) s b) :
  (∀d,d < mix.length->cQ cs (w1 d) (Xj s (mix.length+k) (cs.length+k))=mix.getD d 0 * s.q)/\
  (∀t,t < k->cQ cs (fun c=>c.eff.getD t 0) (Xj s (mix.length+k) (cs.length+k))=Xj s (mix.length+k) (cs.length+k) (cs.length+t))/\
  cQ cs (Cn cs) (Xj s (mix.length+k) (cs.length+k))=s.T (mix.length+k) (cs.length+k):=by
 let y:Nat->Int:=fun j=>if j=cs.length+k then - s.q else Xj s (mix.length+k) (cs.length+k) j
 have y1:∀j,j < cs.length+k->y j=Xj s (mix.length+k) (cs.length+k) j:=fun j hj=>if_neg (by omega)
 have y2:y (cs.length+k) = - s.q:=if_pos rfl
 have GT:∀i,i<=mix.length+k->Wg.sm (cs.length+k+1) (fun j=>s.T i j * y j)=(Wg.sm (mix.length+k) fun l=>s.T i (s.held l) * s.T l (cs.length+k)) - s.T i (cs.length+k) * s.q:=fun i hi=>by
  simp only[Wg.sm]
  rw[y2,Wg.aA (g:=fun j=>s.T i j * Xj s (mix.length+k) (cs.length+k) j) (fun j hj=>by rw[y1 j hj]),along v (s.T i) (fun _=>0)]
  grind
 have z:∀i,i < mix.length+k->Wg.sm (cs.length+k+1) (fun j=>s.T i j * y j)=0:=fun i hi=>by
  rw[GT i (by omega),Wg.bG hi (fun l hl hne=>by rw[v.Gf (by omega) hl,if_neg (Ne.symm hne),Int.zero_mul]),v.Gf (by omega) hi,if_pos rfl]
  grind
 obtain⟨b1,b2⟩:=v.tab.back y z
 have cy:∀f:Cl->Int,cQ cs f y=cQ cs f (Xj s (mix.length+k) (cs.length+k)):=fun f=>by
  rw[dz,dz]
  exact Wg.aA fun j hj=>by rw[y1 j (by omega)]
 refine⟨fun d hd=>?_,fun t ht=>?_,?_⟩
 ·have:=b1 d (by omega)
  rw[wR hd,cy,y2]at this
  grind
 ·have:=b1 (mix.length+t) (by omega)
  rw[wS ht,cy,y1 _ (by omega)]at this
  omega
 ·rw[wT,cy,GT _ (Nat.le_refl _),Wg.bR (fun l hl=>by rw[v.Gf (Nat.le_refl _) hl,if_neg (by omega),Int.zero_mul])]at b2
  refine Wg.wN v.tab.pos ?_
  grind
def wU{b:Nat->Wg.Vc}{s:Wg.Sx}(v:Wg.Val (mix.length+k) (cs.length+k) (Ao cs mix k) s b)(x:Nat):0<=Xj s (mix.length+k) (cs.length+k) x:=Wg.f_ fun i hi=>by
 split
 ·exact v.fs i hi
 ·exact Int.le_refl _
def wb{b:Nat->Wg.Vc}{s:Wg.Sx}(v:Wg.Val (mix.length+k) (cs.length+k) (Ao cs mix k) s b):∃Z:Nat->Int,(∀j,j<=cs.length+k->s.T (mix.length+k) j=s.q * Ao cs mix k (mix.length+k) j+Wg.sm (mix.length+k) fun i=>Z i * Ao cs mix k i j):=by
 refine⟨fun i=>Wg.dt (mix.length+k+1) (Wg.ud b (mix.length+k) (Wg.eu i)),fun j hj=>?_⟩
 rw[v.tab.ent (Nat.le_refl _) (by omega)]
 have e:Wg.dt (mix.length+k+1) (Wg.ud b (mix.length+k) (Wg.cl (Ao cs mix k) j))=Wg.dt (mix.length+k+1) (Wg.ud b (mix.length+k) fun kk=>Wg.sm (mix.length+k+1) fun l=>Ao cs mix k l j * Wg.eu l kk):=by
  refine Wg.cn fun l kk hl hk=>?_
  by_cases el:l=mix.length+k
  ·subst el
   rw[Wg.aE,Wg.aE,Wg.bG (i:=kk) hk (fun u _ hu=>by unfold Wg.eu;rw[if_neg (Ne.symm hu),Int.mul_zero])]
   unfold Wg.cl Wg.eu
   rw[if_pos rfl,Int.mul_one]
  ·rw[Wg.aX el,Wg.aX el]
 rw[e,Wg.j1 b (by omega)]
 simp only[Wg.sm]
 have eg:Wg.dt (mix.length+k+1) (Wg.ud b (mix.length+k) (Wg.eu (mix.length+k)))=s.q:=by
  rw[<-v.tab.det]
  refine Wg.cn fun l kk hl hk=>?_
  by_cases el:l=mix.length+k
  ·subst el;rw[Wg.aE,v.tab.gl kk]
  ·rw[Wg.aX el]
 rw[eg,Int.mul_comm,Int.add_comm]
 congr 1
 exact Wg.aA fun i _=>Int.mul_comm _ _
end
section
variable {cs:List Cl} {mix:Vu} {k:Nat}
structure ub (cs:List Cl) (mix:Vu) (k:Nat) (v:PV) (q g:Int) (X:Nat->Int) (Y:Vu) (pr:Nat->Int):Prop where
 v:v = .tup [.str "most",cq (q * (cbO cs:Int)) g,.tup ((List.range cs.length).map fun x=>cq q (X x)),.tup ((List.range mix.length).map fun d=>cq (q * (cbO cs:Int)) (pr d)),.tup (Y.map (cq (q * (cbO cs:Int))))]
 qy:Qy q Y k
 x0:∀x,0<=X x
 x1:∀x,(X x).natAbs<=Kq * 16
 Fl:∀d,d < mix.length->cQ cs (w1 d) X=mix.getD d 0 * q
 Hg:∀t,t < k->0<=cQ cs (fun c=>c.eff.getD t 0) X
 cost:cQ cs (Cn cs) X=g
 g1:g.natAbs<=Kq
 y0:∀y∈Y,0<=y
 non:∀c∈cs,c.who=none->q * Cn cs c+fT c.eff Y<=0
 Lu:∀c∈cs,∀d,c.who=some d->q * Cn cs c+fT c.eff Y<=pr d
 Lw:∀d,d < mix.length->0<=pr d
 G0:∀d,d < mix.length->(pr d).natAbs<=Kq * 2 ^ 43
 sum:fT mix ((List.range mix.length).map pr)=g
structure y8 (cs:List Cl) (k:Nat) (v:PV) (q:Int) (y:Nat->Int):Prop where
 v:v = .tup [.str "endless",.tup ((List.range cs.length).map fun x=>cq q (y x))]
 q0:0 < q
 q1:q.natAbs<=Kq
 y0:∀x,0<=y x
 y1:∀x,(y x).natAbs<=Kq * 17
 Fl:∀j c,cs[j]?=some c->c.who≠none->y j=0
 Hg:∀t,t < k->0<=cQ cs (fun c=>c.eff.getD t 0) y
 cost:0 < cQ cs (Cn cs) y
theorem uc:∀(xs ys:Vu),(∀x∈xs,0<=x)->(∀y∈ys,0<=y)->0<=fT xs ys
 |[],_,_,_=>by simp[fT]
 |_::_,[],_,_=>by simp[fT]
 |a::r,b::s,h,g=>by
  have:=uc r s (fun x hx=>h x (by simp[hx])) (fun y hy=>g y (by simp[hy]))
  have:=Int.mul_nonneg (h a (by simp)) (g b (by simp))
  show 0<=a * b+fT r s
  omega
def y9(P:bn cs mix k){q:Int}{Y:Vu}(h:Qy q Y k){c:Cl}(hc:c∈cs):(q * Cn cs c+fT c.eff Y).natAbs<=Kq * 2 ^ 43:=by
 have a1:(q * Cn cs c).natAbs<=Kq * 2 ^ 42:=by rw[Int.natAbs_mul];exact Nat.mul_le_mul h.q1 (l_ P hc).1
 have a2:=jC (is:=c.eff) (ns:=Y) (P.eb c hc) h.y
 rw[P.ef c hc]at a2
 have k8:=Nat.mul_le_mul P.k1 (Nat.le_refl (2 ^ 30 * Kq))
 have a4:(fT c.eff Y).natAbs<=eE (aW c.eff Y):=by rw[<-dD];exact im _
 have a5:=Int.natAbs_add_le (q * Cn cs c) (fT c.eff Y)
 have a6:=Nat.le_trans a5 (Nat.add_le_add a1 (Nat.le_trans a4 (Nat.le_trans a2 k8)))
 refine Nat.le_trans a6 ?_
 generalize Kq=z
 omega
def ue(P:bn cs mix k){b:Nat->Wg.Vc}{s:Wg.Sx}{Z:Nat->Int}(hZ:∀j,j<=cs.length+k->s.T (mix.length+k) j=s.q * Ao cs mix k (mix.length+k) j+Wg.sm (mix.length+k) fun i=>Z i * Ao cs mix k i j) :
  (∀t,t < k->s.T (mix.length+k) (cs.length+t)=Z (mix.length+t))/\
  (∀j c,cs[j]?=some c->s.T (mix.length+k) j=(match c.who with|some d=>Z d|none=>0) - s.q * Cn cs c - fT c.eff ((List.range k).map fun t=>Z (mix.length+t)))/\
  s.T (mix.length+k) (cs.length+k)=Wg.sm mix.length fun d=>mix.getD d 0 * Z d:=by
 refine⟨fun t ht=>?_,fun j c hc=>?_,?_⟩
 ·rw[hZ _ (by omega),oH (by omega),Int.mul_zero,Int.zero_add,eQ,Wg.bR (n:=mix.length) (fun d hd=>by rw[v5 hd ht,Int.mul_zero]),Int.zero_add,Wg.bG (i:=t) ht (fun u hu hne=>by rw[rh hu ht,if_neg (Ne.symm hne),Int.mul_zero]),rh ht ht,if_pos rfl,Int.mul_one]
 ·have hj:=(List.getElem?_eq_some_iff.mp hc).1
  have hm:=List.mem_of_getElem? hc
  rw[hZ _ (by omega),y3 hc,eQ]
  have e1:Wg.sm mix.length (fun d=>Z d * Ao cs mix k d j)=match c.who with|some d=>Z d|none=>0:=by
   cases hw:c.who with
   |none=>exact Wg.bR fun d hd=>by rw[rg hd hc];unfold w1;rw[hw,if_neg (by simp),Int.mul_zero]
   |some d=>
    have hd:=P.wd c hm d hw
    rw[Wg.bG hd (fun e he hne=>by rw[rg he hc];unfold w1;rw[hw,if_neg (fun h=>hne (Option.some.inj h).symm),Int.mul_zero]),rg hd hc]
    unfold w1
    rw[hw,if_pos rfl,Int.mul_one]
  have e2:Wg.sm k (fun t=>Z (mix.length+t) * Ao cs mix k (mix.length+t) j) = - fT c.eff ((List.range k).map fun t=>Z (mix.length+t)):=by
   rw[ma _ _ (by rw[P.ef c hm];simp),P.ef c hm,<-Wg.fU]
   refine Wg.aA fun t ht=>?_
   rw[v6 ht hc,show((List.range k).map fun t=>Z (mix.length+t)).getD t 0=Z (mix.length+t)from aD (by rw[List.getElem?_map,List.getElem?_range ht];rfl)]
   grind
  rw[e1,e2]
  unfold Cn
  grind
 ·rw[hZ _ (Nat.le_refl _),oH (Nat.le_refl _),Int.mul_zero,Int.zero_add,eQ,Wg.bR (n:=k) (fun t ht=>by rw[v7 ht,Int.mul_zero]),Int.add_zero]
  exact Wg.aA fun d hd=>by rw[t0 hd,Int.mul_comm]
def oJ(P:bn cs mix k){n:Nat}{rows:List (List Int)}{held:List Nat}{q:Int}(pt:FH cs mix k n rows held q)(hg:∀j,j < cs.length+k->0<=(toS rows held q).T (mix.length+k) j) :
  ∃g X Y pr,ub cs mix k (k4 cs mix k rows held q) q g X Y pr:=by
 obtain⟨D,b,v⟩:=pt.ok P
 obtain⟨_,Yq,_,bT⟩:=pt.bnd P
 obtain⟨s1,s2,s3⟩:=C6 v
 obtain⟨Z,hZ⟩:=wb v
 obtain⟨g1,g2,g3⟩:=ue (b:=b) P hZ
 have hq:0 < q:=v.tab.pos
 have eY:Yl rows cs.length (mix.length+k) k=(List.range k).map fun t=>Z (mix.length+t):=by
  unfold Yl
  exact List.map_congr_left fun t ht=>g1 t (List.mem_range.mp ht)
 have y0:∀y∈Yl rows cs.length (mix.length+k) k,0<=y:=fun y hy=>by
  unfold Yl at hy
  obtain⟨t,ht,rfl⟩:=List.mem_map.mp hy
  exact hg _ (by have:=List.mem_range.mp ht;omega)
 have inj:∀i l,i < mix.length+k->l < mix.length+k->held.getD i 0=held.getD l 0->i=l:=fun i l hi hl e=>v.inj hi hl e
 have col:∀j c,cs[j]?=some c->q * Cn cs c+fT c.eff (Yl rows cs.length (mix.length+k) k)=(match c.who with|some d=>Z d|none=>0) - (toS rows held q).T (mix.length+k) j:=fun j c hc=>by
  rw[g2 j c hc,eY]
  show q * Cn cs c+_=_
  have:(toS rows held q).q=q:=rfl
  rw[this]
  omega
 have le:∀c∈cs,∀d,c.who=some d->q * Cn cs c+fT c.eff (Yl rows cs.length (mix.length+k) k)<=Z d:=fun c hc d hw=>by
  obtain⟨j,hj⟩:=List.getElem?_of_mem hc
  have:=col j c hj
  rw[hw]at this
  have:=hg j (by have:=(List.getElem?_eq_some_iff.mp hj).1;omega)
  simp only at *
  omega
 have ne:∀d,d < mix.length->pS cs q (Yl rows cs.length (mix.length+k) k) d≠[]:=fun d hd e=>by
  obtain⟨c,_,hm,hw,_⟩:=dm P hd
  have:G0 cs q (Yl rows cs.length (mix.length+k) k) c∈pS cs q (Yl rows cs.length (mix.length+k) k) d:=List.mem_map.mpr ⟨c,List.mem_filter.mpr ⟨hm,decide_eq_true hw⟩,rfl⟩
  rw[e]at this;cases this
 have JS:∀d,d < mix.length->mix.getD d 0 * pT (pS cs q (Yl rows cs.length (mix.length+k) k) d)=mix.getD d 0 * Z d:=fun d hd=>by
  by_cases hz:mix.getD d 0=0
  ·rw[hz,Int.zero_mul,Int.zero_mul]
  ·congr 1
   have hmp:0 < mix.getD d 0:=by
    have e:=List.getElem?_eq_getElem hd
    rw[aD e]at hz ⊢
    have:=P.m0 _ (List.getElem_mem hd)
    omega
   have hs:=s1 d hd
   rw[dz]at hs
   obtain⟨x,hx,hp⟩:=Wg.oA (n:=cs.length) (f:=fun j=>(cs.map (w1 d)).getD j 0 * Xj (toS rows held q) (mix.length+k) (cs.length+k) j) (by rw[hs];exact Int.mul_pos hmp hq)
   have hc:=List.getElem?_eq_getElem hx
   rw[fi hc]at hp
   have hw:(cs[x]).who=some d:=by
    unfold w1 at hp
    by_cases h:(cs[x]).who=some d
    ·exact h
    ·rw[if_neg h,Int.zero_mul]at hp;omega
   have hX:0 < Xj (toS rows held q) (mix.length+k) (cs.length+k) x:=by
    unfold w1 at hp
    rw[if_pos hw,Int.one_mul]at hp
    exact hp
   obtain⟨i,hi,JJ⟩:=Wg.oA hX
   have hh:(toS rows held q).held i=x:=by
    by_cases h:(toS rows held q).held i=x
    ·exact h
    ·simp only[h,if_false]at JJ;omega
   have Lx:(toS rows held q).T (mix.length+k) x=0:=by rw[<-hh,v.Gf (Nat.le_refl _) hi,if_neg (by omega)]
   have Iw:=col x _ hc
   rw[hw,Lx,Int.sub_zero]at Iw
   refine(t_ (ns:=pS cs q (Yl rows cs.length (mix.length+k) k) d) ?_ fun a ha=>?_).symm
   ·exact List.mem_map.mpr ⟨cs[x],List.mem_filter.mpr ⟨List.getElem_mem hx,decide_eq_true hw⟩,Iw⟩
   ·obtain⟨c,hc',rfl⟩:=List.mem_map.mp ha
    obtain⟨h1,h2⟩:=List.mem_filter.mp hc'
    exact le c h1 d (of_decide_eq_true h2)
 refine⟨(rows.getD (mix.length+k) []).getD (cs.length+k) 0,Xj (toS rows held q) (mix.length+k) (cs.length+k),Yl rows cs.length (mix.length+k) k,fun d=>pT (pS cs q (Yl rows cs.length (mix.length+k) k) d),⟨?_,Yq,wU v,fun x=>?_,s1,fun t ht=>by rw[s2 t ht];exact wU v _,s3,bT _ _ (Nat.le_refl _) (Nat.le_refl _),y0,fun c hc hw=>?_,fun c hc d hw=>?_,fun d hd=>?_,fun d hd=>?_,?_⟩⟩
 ·unfold k4
  rw[wQ D inj]
  simp only[Int.one_mul]
 ·have:=Wg.oC (n:=mix.length+k) (B:=Kq) (f:=fun i=>if (toS rows held q).held i=x then (toS rows held q).T i (cs.length+k) else 0) (fun i hi=>by
   show(if (toS rows held q).held i=x then (toS rows held q).T i (cs.length+k) else 0).natAbs<=Kq
   split
   ·exact bT i _ (by omega) (Nat.le_refl _)
   ·exact Nat.zero_le _)
  refine Nat.le_trans this ?_
  rw[Nat.mul_comm]
  exact Nat.mul_le_mul (Nat.le_refl _) (by have:=P.k1;have:=P.d1;omega)
 ·obtain⟨j,hj⟩:=List.getElem?_of_mem hc
  have h1:=col j c hj
  rw[hw]at h1
  have h2:=hg j (by have:=(List.getElem?_eq_some_iff.mp hj).1;omega)
  simp only at h1
  omega
 ·exact(l9 (ne d (P.wd c hc d hw))).2 _ (List.mem_map.mpr ⟨c,List.mem_filter.mpr ⟨hc,decide_eq_true hw⟩,rfl⟩)
 ·obtain⟨c,_,hm,hw,hpos,_⟩:=dm P hd
  have h1:=(l9 (ne d hd)).2 _ (List.mem_map.mpr ⟨c,List.mem_filter.mpr ⟨hm,decide_eq_true hw⟩,rfl⟩)
  have h2:=uc c.eff _ hpos y0
  have h3:=Int.mul_nonneg (show 0<=q by omega) (l_ P hm).2
  unfold G0 at h1
  show 0<=pT _
  omega
 ·obtain⟨c,hc,e⟩:=List.mem_map.mp (l9 (ne d hd)).1
  show(pT _).natAbs<=_
  rw[<-e]
  exact y9 P Yq (List.mem_filter.mp hc).1
 ·rw[ma _ _ (by simp)]
  refine Eq.trans ?_ g3.symm
  refine Wg.aA fun d hd=>?_
  rw[show((List.range mix.length).map fun d=>pT (pS cs q (Yl rows cs.length (mix.length+k) k) d)).getD d 0=pT (pS cs q (Yl rows cs.length (mix.length+k) k) d)from aD (by rw[List.getElem?_map,List.getElem?_range hd];rfl)]
  exact JS d hd
end
section
variable {cs:List Cl} {mix:Vu} {k:Nat}
def oK{n:Nat}{f:Nat->Int}(h0:∀i,i < n->0<=f i)(h:Wg.sm n f=0):∀i,i < n->f i=0:=by
 induction n with
 |zero=>intro i hi;omega
 |succ n ih=>
  have h1:=Wg.f_ (n:=n) (f:=f) fun i hi=>h0 i (by omega)
  have h2:=h0 n (by omega)
  have h:Wg.sm n f+f n=0:=h
  intro i hi
  by_cases e:i=n
  ·subst e;omega
  ·exact ih (fun i hi=>h0 i (by omega)) (by omega) i (by omega)
def rj(P:bn cs mix k){n:Nat}{rows:List (List Int)}{held:List Nat}{q:Int}{c:Nat}(pt:FH cs mix k n rows held q)(en:Wg.En (mix.length+k) (cs.length+k) (toS rows held q) c)(hno:∀i,i < mix.length+k->(toS rows held q).T i c<=0) :
  ∃y,y8 cs k (oI cs.length rows held q c) q y:=by
 obtain⟨D,b,v⟩:=pt.ok P
 obtain⟨_,Yq,_,bT⟩:=pt.bnd P
 have hq:0 < q:=v.tab.pos
 have hcl:=en.lt
 have inj:∀i l,i < mix.length+k->l < mix.length+k->held.getD i 0=held.getD l 0->i=l:=fun i l hi hl e=>v.inj hi hl e
 have fr:=v.fresh en.ng
 have x0:∀x,Xj (toS rows held q) (mix.length+k) c x<=0:=fun x=>by
  have:=Wg.f_ (n:=mix.length+k) (f:=fun i=>-(if (toS rows held q).held i=x then (toS rows held q).T i c else 0)) (fun i hi=>by
   split
   ·have:=hno i hi;omega
   ·simp)
  rw[Wg.fU]at this
  unfold Xj
  omega
 have xc:Xj (toS rows held q) (mix.length+k) c c=0:=Wg.bR fun i hi=>if_neg fun e=>fr ⟨i,hi,e⟩
 let y:Nat->Int:=fun x=>(if x=c then q else 0) - Xj (toS rows held q) (mix.length+k) c x
 have y0:∀x,0<=y x:=fun x=>by
  show 0<=(if x=c then q else 0) - _
  have:=x0 x
  split<;>omega
 let y':Nat->Int:=fun j=>if j=cs.length+k then 0 else y j
 have y1:∀j,j < cs.length+k->y' j=y j:=fun j hj=>if_neg (by omega)
 have y2:y' (cs.length+k)=0:=if_pos rfl
 have GT:∀i,i<=mix.length+k->Wg.sm (cs.length+k+1) (fun j=>(toS rows held q).T i j * y' j)=(toS rows held q).T i c * q - Wg.sm (mix.length+k) fun l=>(toS rows held q).T i ((toS rows held q).held l) * (toS rows held q).T l c:=fun i hi=>by
  simp only[Wg.sm]
  rw[y2,Int.mul_zero,Int.add_zero,Wg.aA (g:=fun j=>(if j=c then (toS rows held q).T i j * q else 0) + -((toS rows held q).T i j * Xj (toS rows held q) (mix.length+k) c j)) (fun j hj=>by
   rw[y1 j hj]
   show(toS rows held q).T i j * ((if j=c then q else 0) - _)=_
   rw[Int.mul_sub,Int.sub_eq_add_neg]
   congr 1
   split<;>simp),Wg.i0,Wg.fU,along v ((toS rows held q).T i) (fun _=>0),Wg.bG hcl (fun j _ hj=>if_neg hj),if_pos rfl,Int.sub_eq_add_neg]
 have z:∀i,i < mix.length+k->Wg.sm (cs.length+k+1) (fun j=>(toS rows held q).T i j * y' j)=0:=fun i hi=>by
  rw[GT i (by omega),Wg.bG hi (fun l hl hne=>by rw[v.Gf (by omega) hl,if_neg (Ne.symm hne),Int.zero_mul]),v.Gf (by omega) hi,if_pos rfl]
  show _ * q - q * _=0
  rw[Int.mul_comm];omega
 obtain⟨b1,b2⟩:=v.tab.back y' z
 have cy:∀f:Cl->Int,cQ cs f y'=cQ cs f y:=fun f=>by
  rw[dz,dz]
  exact Wg.aA fun j hj=>by rw[y1 j (by omega)]
 refine⟨y,⟨?_,hq,Yq.q1,y0,fun x=>?_,fun j cl hj hw=>?_,fun t ht=>?_,?_⟩⟩
 ·unfold oI v_
  rw[wQ D inj]
  congr 2
  refine congrArg (fun l=>[PV.tup l]) ?_
  have e1:∀x,x≠c->cq q (-1 * Xj (toS rows held q) (mix.length+k) c x)=cq q (y x):=fun x hx=>by
   have:y x = -1 * Xj (toS rows held q) (mix.length+k) c x:=by show(if x=c then q else 0) - _=_;rw[if_neg hx];omega
   rw[this]
  refine List.ext_getElem? fun x=>?_
  by_cases hx:x < cs.length
  ·rw[List.getElem?_map,List.getElem?_range hx]
   by_cases hc:c < cs.length
   ·rw[if_pos hc,List.getElem?_set]
    by_cases e:c=x
    ·rw[if_pos e,if_pos (by simp;exact hc)]
     have:y x=q:=by show(if x=c then q else 0) - _=_;rw[if_pos e.symm,<-e,xc];omega
     show some (cq q q)=some (cq q (y x))
     rw[this]
    ·rw[if_neg e,List.getElem?_map,List.getElem?_range hx]
     exact congrArg some (e1 x (Ne.symm e))
   ·rw[if_neg hc,List.getElem?_map,List.getElem?_range hx]
    exact congrArg some (e1 x (by omega))
  ·rw[List.getElem?_eq_none (by split<;>simp<;>omega),List.getElem?_eq_none (by simp;omega)]
 ·have a:=Wg.oC (n:=mix.length+k) (B:=Kq) (f:=fun i=>if (toS rows held q).held i=x then (toS rows held q).T i c else 0) (fun i hi=>by
   show(if (toS rows held q).held i=x then (toS rows held q).T i c else 0).natAbs<=Kq
   split
   ·exact bT i _ (by omega) (by omega)
   ·exact Nat.zero_le _)
  have a2:(Xj (toS rows held q) (mix.length+k) c x).natAbs<=16 * Kq:=Nat.le_trans a (Nat.mul_le_mul (by have:=P.k1;have:=P.d1;omega) (Nat.le_refl _))
  have a3:=Yq.q1
  show((if x=c then q else 0) - Xj (toS rows held q) (mix.length+k) c x).natAbs<=Kq * 17
  generalize Kq=z at a2 a3
  split<;>omega
 ·cases hw':cl.who with
  |none=>exact absurd hw' hw
  |some d=>
   have hd:=P.wd cl (List.mem_of_getElem? hj) d hw'
   have hlt:=(List.getElem?_eq_some_iff.mp hj).1
   have:=b1 d (by omega)
   rw[wR hd,cy,y2,Int.mul_zero,Int.add_zero,dz]at this
   have hz:=oK (fun i hi=>Int.mul_nonneg (by
    rw[fi (List.getElem?_eq_getElem hi)];unfold w1;split<;>decide) (y0 i)) this j hlt
   rw[fi hj]at hz
   unfold w1 at hz
   rw[if_pos hw',Int.one_mul]at hz
   exact hz
 ·have:=b1 (mix.length+t) (by omega)
  rw[wS ht,cy,y1 _ (by omega)]at this
  have:=y0 (cs.length+t)
  omega
 ·rw[wT,cy,GT _ (Nat.le_refl _),Wg.bR (fun l hl=>by rw[v.Gf (Nat.le_refl _) hl,if_neg (by omega),Int.zero_mul]),Int.sub_zero,Int.mul_comm _ q]at b2
  have:=Wg.wN hq b2
  have:=en.ng
  omega
def Out.right(P:bn cs mix k){v:PV}(h:Out cs mix k v):(∃q g X Y pr,ub cs mix k v q g X Y pr)\/∃q y,y8 cs k v q y:=by
 obtain⟨n,rows,held,q,pt,⟨hg,rfl⟩|⟨c,en,hno,rfl⟩⟩:=h
 ·obtain⟨g,X,Y,pr,h⟩:=oJ P pt hg
  exact .inl ⟨q,g,X,Y,pr,h⟩
 ·obtain⟨y,h⟩:=rj P pt en hno
  exact .inr ⟨q,y,h⟩
def FH.one(P:bn cs mix k){n:Nat}{rows:List (List Int)}{held:List Nat}{q:Int}(h:FH cs mix k n rows held q):∀{rows' held' q'},FH cs mix k n rows' held' q'->rows=rows'/\held=held'/\q=q':=by
 induction h with
 |ini=>intro _ _ _ g;cases g;exact⟨rfl,rfl,rfl⟩
 |step h e l ih=>
  intro _ _ _ g
  cases g with
  |step h' e' l'=>
   obtain⟨rfl,rfl,rfl⟩:=ih h'
   obtain⟨_,b,v⟩:=h.ok P
   have ec:=Wg.i4 e e'
   subst ec
   have er:=Wg.lX v l l'
   subst er
   exact⟨rfl,rfl,rfl⟩
def FH.on(P:bn cs mix k){n:Nat}{rows:List (List Int)}{held:List Nat}{q:Int}(h:FH cs mix k n rows held q):∀i,i < n->∃rows' held' q' c r,FH cs mix k i rows' held' q'/\Wg.En (mix.length+k) (cs.length+k) (toS rows' held' q') c/\Wg.Lv (mix.length+k) (cs.length+k) (toS rows' held' q') c r:=by
 induction h with
 |ini=>intro i hi;omega
 |@step n rows held q c r h e l ih=>
  intro i hi
  by_cases e':i=n
  ·subst e';exact⟨rows,held,q,c,r,h,e,l⟩
  ·exact ih i (by omega)
theorem Out.one(P:bn cs mix k){v w:PV}(h:Out cs mix k v)(g:Out cs mix k w):v=w:=by
 obtain⟨n,rows,held,q,pt,ht⟩:=h
 obtain⟨n',rows',held',q',pt',ht'⟩:=g
 have stop:∀{rows:List (List Int)} {held:List Nat} {q:Int} {v:PV} {c r:Nat},(((∀j,j < cs.length+k->0<=(toS rows held q).T (mix.length+k) j)/\v=k4 cs mix k rows held q)\/∃c,Wg.En (mix.length+k) (cs.length+k) (toS rows held q) c/\(∀i,i < mix.length+k->(toS rows held q).T i c<=0)/\v=oI cs.length rows held q c)->Wg.En (mix.length+k) (cs.length+k) (toS rows held q) c->Wg.Lv (mix.length+k) (cs.length+k) (toS rows held q) c r->False:=fun{rows held q v c r} ht e l=>by
  rcases ht with⟨hg,_⟩|⟨c',e',hno,_⟩
  ·have:=hg c e.lt;have:=e.ng;omega
  ·have:=Wg.i4 e e'
   subst this
   have:=hno r l.lt;have:=l.ps;omega
 have en:n=n':=by
  by_cases h1:n < n'
  ·obtain⟨r1,h1',q1,c,r,p1,e,l⟩:=pt'.on P n h1
   obtain⟨rfl,rfl,rfl⟩:=pt.one P p1
   exact(stop ht e l).elim
  ·by_cases h2:n' < n
   ·obtain⟨r1,h1',q1,c,r,p1,e,l⟩:=pt.on P n' h2
    obtain⟨rfl,rfl,rfl⟩:=pt'.one P p1
    exact(stop ht' e l).elim
   ·omega
 subst en
 obtain⟨rfl,rfl,rfl⟩:=pt.one P pt'
 rcases ht with⟨hg,rfl⟩|⟨c,e,hno,rfl⟩
 ·rcases ht' with⟨_,rfl⟩|⟨c',e',_,_⟩
  ·rfl
  ·have:=hg c' e'.lt;have:=e'.ng;omega
 ·rcases ht' with⟨hg,_⟩|⟨c',e',_,rfl⟩
  ·have:=hg c e.lt;have:=e.ng;omega
  ·rw[Wg.i4 e e']
end
def wc{i j k l:Int}{neg:Bool}{S:av}{Q:bP}(q:Q (.bl (neg != decide (i=k/\j=l))) S):dG neg (.tup [.int i,.int j]) (.tup [.int k,.int l]) S Q:=by
 unfold dG
 refine⟨.tuple [.int i,.int j],.tuple [.int k,.int l],.tup (.cons (.int _) (.cons (.int _) .nil)),.tup (.cons (.int _) (.cons (.int _) .nil)),by simp[PyData.canLay0,PyData.canLayAll0],by simp[PyData.canLay0,PyData.canLayAll0],by simp[PyData.depth,PyData.depthAll],?_⟩
 have e:PyData.eqv (.tuple [.int i,.int j]) (.tuple [.int k,.int l])=decide (i=k/\j=l):=by
  simp only[PyData.eqv,PyData.eqvAll,Bool.and_true]
  rw[Bool.eq_iff_iff]
  simp
 rw[e]
 exact q
def pV{neg:Bool}{A B n m:Int}{S:av}{Q:bP}(e:cq A n=cq B m)(q:Q (.bl (!neg)) S):dG neg (cq A n) (cq B m) S Q:=by
 rw[<-e]
 unfold cq
 refine wc ?_
 simpa using q
abbrev jD(w:aC):Prop:=∀{S:av} {B n:Int} {Q:bP} {E:cC},Fq B n->(∀S',Ext S S'->Q (.bl true) S')->w [cq B n] S Q E
def Fz{xl:aC}(Fi:vR xl):jD (bc 1 (cv xl)):=by
 intro S B n Q E h k
 unfold cv
 refine eW ?_
 have sz:=h.sz
 have hq1:=h.q1;have q0:=h.q0
 rw[show ar 1 [cq B n]=[some (.tup [.int (M3.aH n B),.int (M3.aG n B)])] from rfl]
 refine ax fun N hN=>?_
 simp only[cj,jP,cU,a8,ah,ai,ag,v3,lk,c3,lO,Bool.not_true,Bool.false_eq_true,if_false,aS,dG,List.length_cons,List.length_nil]
 simp only[Nat.zero_add,Nat.reduceAdd,Int.cast_ofNat_Int,decide_true,bne_self_eq_false,Bool.false_eq_true,if_false]
 refine hN _ _ (ax fun N hN=>?_)
 simp only[cj,cU,a8,ah,ag,aw,aO,v3,lk,cf]
 refine aY PV.int (fun _=>.bl true) trivial [M3.aH n B,M3.aG n B] [] (fun i hi=>⟨_,rfl,fun Q' q=>?_⟩) (aV (by simp)) ?_
 ·simp only[bV,List.reduceReplicate,List.map_nil,List.append_nil,List.set_cons_zero,dF,kM,ah,ag,v3,lk,c3,yO,yP,if_true,Bool.not_false]
  exact q
 intro p hp
 have eb:fL [PV.bl true,PV.bl true]=some [true,true]:=rfl
 simp only[qK,List.nil_append,List.map_cons,List.map_nil,aa,eb]
 simp only[List.all_cons,List.all_nil,id,Bool.and_true,Bool.not_true,Bool.false_eq_true,if_false]
 refine hN _ _ ?_
 simp only[ap,dF,ai,v3,lk,c3,aj,gL,mU,jk,bx]
 rw[decide_eq_true sz.2.2]
 simp only[if_true,ad,ag,v3,lk,ai,c3,aj,gL,mU]
 refine Fi sz.2.2 (bv (by omega)) ?_
 have L:=M3.dX (t:=n) (b:=B) (by omega)
 have e:cq (M3.aG n B) (M3.aH n B)=cq B n:=(ou L).symm
 refine pV e ?_
 exact k _ (.new hp)
abbrev ir(w:aC):Prop:=∀{S:av} {vs:List PV} {Q:bP} {E:cC},vs.length<=1000->(∀v∈vs,∃B n,v=cq B n/\Fq B n/\0<=n)->(∀S',Ext S S'->Q (.bl true) S')->w [.tup vs,.int (vs.length:Int)] S Q E
def Ew{xf:aC}(Fz:jD xf):ir (bc 2 (bE xf)):=by
 intro S vs Q E hl hv k
 unfold bE
 refine eW ?_
 rw[show ar 2 [PV.tup vs,.int (vs.length:Int)]=[some (.tup vs),some (.int (vs.length:Int))] from rfl]
 refine ax fun N hN=>?_
 simp only[cj,jP,cU,a8,ah,ai,ag,v3,lk,c3,lO,Bool.not_true,Bool.false_eq_true,if_false,aS,dG,decide_true,bne_self_eq_false]
 refine hN _ _ ?_
 simp only[ap,ah,ag,aw,aO,v3,lk,cf]
 refine bK (fun done ys S'=>Ext S S'/\done.length<=vs.length/\ys=List.replicate done.length (.bl true)) ⟨.refl,Nat.zero_le _,rfl⟩ (fun done ys S' ⟨X,l,e⟩=>⟨trivial,aV (by rw[e,List.length_replicate];omega)⟩) ?_ ?_
 ·rintro done x rest ys S' K e ⟨X,l,rfl⟩ hK
  obtain⟨B,n,rfl,hf,h0⟩:=hv x (by rw[e];simp)
  simp only[Tg.put,bV,List.reduceReplicate,List.map_nil,List.append_nil,List.set_cons_zero,bz,if_true,dF,ad,ag,v3,lk]
  refine Fz hf fun S2 X2=>?_
  have e0:(cq B n) = .tup [.int (M3.aH n B),.int (M3.aG n B)]:=rfl
  simp only[if_true,ai,v3,lk,c3,aj,e0,gL,s_,bx]
  have ct:=iW (n:=n) hf.q0
  rw[decide_eq_true (show 0<=M3.aH n B from Int.not_lt.mp fun h=>by have:=ct.1.mp h;omega)]
  refine hK _ _ ⟨X.trans X2,?_,?_⟩
  ·have:vs.length=done.length+(rest.length+1):=by rw[e,List.length_append,List.length_cons]
   rw[List.length_append,List.length_singleton];omega
  ·rw[List.length_append,List.length_singleton,List.replicate_succ']
 ·rintro ys S' ⟨X,_,rfl⟩ p hp
  simp only[qK,aa,rc]
  rw[show(List.replicate vs.length true).all id=true by simp]
  exact k _ (X.trans (.new hp))
def pW{xp:aC}(Dt:jo xp){S:av}{B f m c d:Int}{Q:bP}{E:cC}(hf:Fq B f)(hd:0 < d)(h1:c.natAbs<=dC)(h2:d.natAbs < dC)(e:c * B=m * d)(k:Q (cq B (f+m)) S):xp [cq B f,.tup [.int c,.int d]] S Q E:=by
 have sz:=hf.sz
 have:=hf.q1;have:=hf.n1;have q0:=hf.q0
 refine Dt sz.2.2 hd (by omega) (by omega) h1 h2 ?_
 have w:=M3.a_ (t:=f) (b:=B) (by omega)
 rw[gv (m:=f+m) (R:=B) (Int.mul_pos sz.2.2 hd) q0 (by
  calc (M3.aH f B * d+c * M3.aG f B) * B=(M3.aH f B * B) * d+(c * B) * M3.aG f B:=by grind
   _=_:=by rw[w,e];grind)]
 exact k
inductive oM (S:av) (is:Vu):PV->Prop
 |tup:oM S is (.tup (is.map PV.int))
 |lst {p:Addr}:S p=some (.lst (is.map PV.int))->oM S is (.ref p)
abbrev eR(w:aC):Prop:=∀{S:av} {v:PV} {B:Int} {is ns:Vu} {Q:bP} {E:cC},oM S is v->0 < B->B.natAbs < dC->is.length=ns.length->eE (aW is ns) < dC->(∀i∈is,i.natAbs < dC)->(∀n∈ns,n.natAbs < dC)->Q (cq B (fT is ns)) S->w [v,.tup (ns.map (cq B))] S Q E
def we{xp:aC}(Dt:jo xp):eR (bc 5 (gQ xp)):=by
 intro S v B is ns Q E hv hB GZ hl ha his hns k
 unfold gQ
 refine eW ?_
 rw[show ar 5 [v,.tup (ns.map (cq B))]=[some v,some (.tup (ns.map (cq B))),none,none,none] from rfl]
 have z0:PV.tup [.int 0,.int 1]=cq B 0:=by rw[iV,gv (Q:=1) (R:=B) (n:=0) (m:=0) (by decide) hB (by simp)]
 refine ax fun N hN=>?_
 simp only[am,a7,ag,c3,List.set_cons_succ,List.set_cons_zero]
 rw[z0]
 refine hN _ _ (ax fun N hN=>?_)
 -- the walk,by either kind
 have walk:∀keep:av->Prop,keep S->lJ (.tp (.cons (.n 3) (.cons (.n 4) .nil))) (am 2 (ad xp [v3 2,a7 [ai aQ (v3 3) (ai aj (v3 4) (c3 (.int 0))),ai aj (v3 4) (c3 (.int 1))]])) { nx:=N,rt:=Q,ex:=ga } keep (aL (is.map PV.int) (ns.map (cq B))) [some v,some (.tup (ns.map (cq B))),some (cq B 0),none,none] S:=by
  intro keep hk
  refine bp (fun done σ S'=>S'=S/\done.length<=is.length/\∃x3 x4,σ=[some v,some (.tup (ns.map (cq B))),some (cq B ((aW is ns).take done.length).sum),x3,x4]) ⟨rfl,Nat.zero_le _,_,_,rfl⟩ (fun _ _ _ ⟨e,_⟩=>by rw[e];exact hk) ?_ ?_
  ·rintro done x rest σ S' K e ⟨rfl,hd,x3,x4,rfl⟩ hK
   have hget:(aL (is.map PV.int) (ns.map (cq B)))[done.length]?=some x:=by rw[e];simp
   unfold aL at hget
   rw[List.getElem?_map]at hget
   obtain⟨⟨u,w⟩,hz,rfl⟩:=Option.map_eq_some_iff.mp hget
   obtain⟨h1,h2⟩:=List.getElem?_zip_eq_some.mp hz
   rw[List.getElem?_map]at h1 h2
   obtain⟨i,hi1,rfl⟩:=Option.map_eq_some_iff.mp h1
   obtain⟨n,hn1,rfl⟩:=Option.map_eq_some_iff.mp h2
   have hlt:done.length < is.length:=(List.getElem?_eq_some_iff.mp hi1).1
   have hp:(aW is ns)[done.length]?=some (i * n):=by unfold aW;rw[List.getElem?_zipWith,hi1,hn1]
   have t1:=im ((aW is ns).take done.length)
   have t2:=iX (aW is ns) done.length
   have t3:=mY (List.mem_of_getElem? hp)
   have L:=(M3.dX (t:=n) (b:=B) (by omega)).pos
   have ls:=M3.hJ (t:=n) (b:=B) (T:=n.natAbs) (B:=B.natAbs) (by omega) (by omega) (by omega) (by omega) (by omega) (by omega) (by omega)
   have le1:(i * M3.aH n B).natAbs<=(i * n).natAbs:=by rw[Int.natAbs_mul,Int.natAbs_mul];exact Nat.mul_le_mul (Nat.le_refl _) (by omega)
   have e0:cq B n = .tup [.int (M3.aH n B),.int (M3.aG n B)]:=rfl
   simp only[Tg.put,Tg.DV,List.set_cons_succ,List.set_cons_zero,am,ad,ag,a7,ai,v3,lk,c3,aj,e0,gL,mU]
   have mi:=his i (List.mem_of_getElem? hi1)
   have mn:=hns n (List.mem_of_getElem? hn1)
   have mo:IntMulOk i (M3.aH n B):=(bv (by omega)).mul (bv (by omega))
   simp only[aQ]
   refine⟨mo,pW Dt (m:=i * n) ⟨hB,GZ,by omega⟩ L (by omega) (by omega) (by
    have w:=M3.a_ (t:=n) (b:=B) (by omega)
    rw[Int.mul_assoc,w];grind) (hK _ _ ⟨rfl,by rw[List.length_append];exact hlt,some (.int i),some (.tup [.int (M3.aH n B),.int (M3.aG n B)]),?_⟩)⟩
   rw[List.length_append,List.length_singleton,List.take_succ,hp]
   simp
  ·rintro σ S' ⟨rfl,hd,x3,x4,rfl⟩
   refine hN _ _ ?_
   have lz:(aL (is.map PV.int) (ns.map (cq B))).length=(aW is ns).length:=by unfold aL aW;simp
   rw[lz,List.take_length,dD]
   simp only[ap,v3,lk]
   exact k
 cases hv with
 |tup=>simp only[bU,gr,v3,lk];exact walk _ trivial
 |lst hp=>simp only[bU,gr,v3,lk,hp];exact walk _ hp
end CW
namespace G34
open PySem L2 L3
noncomputable def bN(i:Nat):Stmt:=PySem.Challenge.pw_dueworth_k34_columns_weighed.main.body.getD i (.Pass ⟨0,0,0,0⟩)
noncomputable def mt(i j:Nat):Stmt:=(vM (bN i)).getD j (.Pass ⟨0,0,0,0⟩)
structure Txt (P:Program) (w:World) (K:Vo) (mg:Vr):Prop where
 o_common:bL K mg "common" (bN 1) ["one","other"]
 o_fraction:bL K mg "fraction" (bN 2) ["top","bottom"]
 o_plus:bL K mg "plus" (bN 3) ["one","other"]
 o_times:bL K mg "times" (bN 4) ["one","other"]
 o_less:bL K mg "less" (bN 5) ["one","other"]
 o_highest:bL K mg "highest" (bN 6) ["fractions"]
 o_together:bL K mg "together" (bN 7) ["fractions"]
 o_worth_of:bL K mg "worth_of" (bN 8) ["numbers","fractions"]
 o_common_bottom:bL K mg "common_bottom" (bN 10) ["fractions"]
 o_row_of_deed:bL K mg "row_of_deed" (bN 11) ["columns","jars","mix","d"]
 o_row_of_jar:bL K mg "row_of_jar" (bN 12) ["columns","jars","jar"]
 o_without:bL K mg "without" (bN 13) ["row","chosen","place","bottom"]
 o_Balance___init__:mX K "Balance" "__init__" "Balance.__init__" (mt 14 0) ["self","rows","held"]
 o_Balance_hold:mX K "Balance" "hold" "Balance.hold" (mt 14 1) ["self","number","place"]
 o_Balance_gaining:mX K "Balance" "gaining" "Balance.gaining" (mt 14 2) ["self"]
 o_Balance_sooner:mX K "Balance" "sooner" "Balance.sooner" (mt 14 3) ["self","one","other","place"]
 o_Balance_used_up:mX K "Balance" "used_up" "Balance.used_up" (mt 14 4) ["self","place"]
 o_Balance_held_by:mX K "Balance" "held_by" "Balance.held_by" (mt 14 5) ["self","count","place","sign"]
 o_balance_of:bL K mg "balance_of" (bN 15) ["columns","jars","mix"]
 o_first_that_takes_nothing:bL K mg "first_that_takes_nothing" (bN 16) ["columns","d"]
 o_price_of:bL K mg "price_of" (bN 17) ["columns","worths","d"]
 o_endless:bL K mg "endless" (bN 18) ["balance","columns","place"]
 o_most:bL K mg "most" (bN 19) ["balance","columns","mix"]
 o_weighed:bL K mg "weighed" (bN 20) ["columns","mix"]
 o__law_deal:bL K mg "_law_deal" (bN 22) ["_law_script","_law_base"]
 o__law_draw:bL K mg "_law_draw" (bN 23) ["_law_deal_here","_law_many"]
 o__law_low:bL K mg "_law_low" (bN 24) ["_law_top","_law_bottom"]
 o__law_plus:bL K mg "_law_plus" (bN 25) ["_law_one","_law_other"]
 o__law_fine_cost:bL K mg "_law_fine_cost" (bN 26) ["_law_deal_here"]
 o__law_effect:bL K mg "_law_effect" (bN 27) ["_law_deal_here","_law_jars","_law_wide"]
 o__law_column:bL K mg "_law_column" (bN 28) ["_law_deal_here","_law_jars","_law_deeds","_law_wide"]
 o__law_columns:bL K mg "_law_columns" (bN 29) ["_law_deal_here","_law_most"]
 o__law_is_fraction:bL K mg "_law_is_fraction" (bN 30) ["_law_one"]
 o__law_are_from_nought:bL K mg "_law_are_from_nought" (bN 31) ["_law_row","_law_many"]
 o__law_sum:bL K mg "_law_sum" (bN 32) ["_law_numbers","_law_shares"]
 o__law_cost_of:bL K mg "_law_cost_of" (bN 33) ["_law_columns_here","_law_shares"]
 o__law_jars_hold:bL K mg "_law_jars_hold" (bN 34) ["_law_columns_here","_law_shares"]
 o__law_deeds_hold:bL K mg "_law_deeds_hold" (bN 35) ["_law_columns_here","_law_mix","_law_shares"]
 o__law_prices_hold:bL K mg "_law_prices_hold" (bN 36) ["_law_columns_here","_law_prices","_law_worths"]
 o__law_endless_right:bL K mg "_law_endless_right" (bN 37) ["_law_columns_here","_law_shares"]
 o__law_most_right:bL K mg "_law_most_right" (bN 38) ["_law_columns_here","_law_mix","_law_answer"]
 o__law_right:bL K mg "_law_right" (bN 39) ["_law_columns_here","_law_mix","_law_answer"]
 Df:zp K mg "Balance" ["rows","held","bottom"]
 Ix:mg "abs" = none
 Hk:mg "all" = none
 Iy:mg "any" = none
 HI:mg "bool" = none
 EI:mg "enumerate" = none
 GU:mg "int" = none
 DS:mg "isinstance" = none
 Ds:mg "len" = none
 HJ:mg "list" = none
 Hl:mg "max" = none
 Hm:mg "min" = none
 Du:mg "range" = none
 Gp:mg "reversed" = none
 DT:mg "tuple" = none
 FA:mg "zip" = none
section
variable {P:Program} {w:World} {K:Vo} {mg:Vr} {base:Heap}
def AN:(["number","one"]:Vs).Nodup:=by decide +kernel
def Cm:(["column","d"]:Vs).Nodup:=by decide +kernel
def Cp:(["other","jar"]:Vs).Nodup:=by decide +kernel
def Cq:(["column","jar"]:Vs).Nodup:=by decide +kernel
def AO:(["one","other","bottom","chosen","place","row"]:Vs).Nodup:=by decide +kernel
def Cr:(["row","chosen","place","self"]:Vs).Nodup:=by decide +kernel
def AQ:(["place","column","d"]:Vs).Nodup:=by decide +kernel
def AR:(["column"]:Vs).Nodup:=by decide +kernel
def Ct:(["column","bottom"]:Vs).Nodup:=by decide +kernel
def Cu:(["d","columns","jars","mix"]:Vs).Nodup:=by decide +kernel
def AS:(["jar","columns","jars"]:Vs).Nodup:=by decide +kernel
def AT:(["number","columns","mix"]:Vs).Nodup:=by decide +kernel
def AU:(["column","d","worths"]:Vs).Nodup:=by decide +kernel
def AV:(["number","bottom"]:Vs).Nodup:=by decide +kernel
def AW:(["d","columns","worths"]:Vs).Nodup:=by decide +kernel
def uf:(["_law_one"]:Vs).Nodup:=by decide +kernel
def wV:(["_law_j","_law_deal_here","_law_wide"]:Vs).Nodup:=by decide +kernel
def AX:(["_law_deed","_law_deal_here"]:Vs).Nodup:=by decide +kernel
def AY:(["_law_number"]:Vs).Nodup:=by decide +kernel
def AZ:(["_law_column_here","_law_j"]:Vs).Nodup:=by decide +kernel
def A0:(["_law_column_here","_law_deed"]:Vs).Nodup:=by decide +kernel
def wW:(["_law_column_here","_law_share"]:Vs).Nodup:=by decide +kernel
def A1:(["_law_k","_law_deal_here"]:Vs).Nodup:=by decide +kernel
def wX:(["_law_columns_here","_law_mix"]:Vs).Nodup:=by decide +kernel
def iu:aC:=bc 3 C.jY
def k5(T:Txt P w K mg):fw P w K mg base 1 "common" 2 iu:=fE ["one","other","left"] T.o_common (fun _ _ _ _ _ _ _ hr nd=>(ae (ij PassesOwn.never (zr hr (ac 1) af) (ae (s4 2 nd (aB gq (ac 0) (ac 1)))
  (ae (s4 0 nd (ac 1))
  (al (s4 1 nd (ac 2))))))
  (al (au (cB Am T.Ix (l1 (ac 0))))))) rfl
def cW:aC:=bc 3 (C.gK iu)
def dg(T:Txt P w K mg):fw P w K mg base 2 "fraction" 2 cW:=fE ["top","bottom","part"] T.o_fraction (fun _ _ _ _ _ _ _ hr nd=>(ae (s4 2 nd (c4 (k5 T) hr (lc (ac 0) (l1 (ac 1)))))
  (ae (cE (bB lM (ac 1) af (aF _)) (al (s4 2 nd (jt dj (ac 2)))) bi)
  (al (au (bQ (lc (aB fM (ac 0) (ac 2)) (l1 (aB fM (ac 1) (ac 2)))))))))) rfl
def md:aC:=bc 2 (C.fP cW)
def pX(T:Txt P w K mg):fw P w K mg base 3 "plus" 2 md:=fE ["one","other"] T.o_plus (fun _ _ _ _ _ _ _ hr nd=>(al (au (c4 (dg T) hr (lc (aB aU (aB aI (bW hr (ac 0)) (bW hr (ac 1))) (aB aI (bW hr (ac 1)) (bW hr (ac 0)))) (l1 (aB aI (bW hr (ac 0)) (bW hr (ac 1))))))))) rfl
def pY:aC:=bc 2 (C.lN cW)
def ug(T:Txt P w K mg):fw P w K mg base 3 "times" 2 pY:=fE ["one","other"] T.o_times (fun _ _ _ _ _ _ _ hr nd=>(al (au (c4 (dg T) hr (lc (aB aI (bW hr (ac 0)) (bW hr (ac 1))) (l1 (aB aI (bW hr (ac 0)) (bW hr (ac 1))))))))) rfl
def uh:aC:=bc 2 CW.oq
def wf(T:Txt P w K mg):fw P w K mg base 1 "less" 2 uh:=fE ["one","other"] T.o_less (fun _ _ _ _ _ _ _ hr nd=>(al (au (eL lM (aB aI (bW hr (ac 0)) (bW hr (ac 1))) (aB aI (bW hr (ac 1)) (bW hr (ac 0))) (aF _))))) rfl
def k6:aC:=bc 3 (CW.iR uh)
def oN(T:Txt P w K mg):fw P w K mg base 2 "highest" 1 k6:=fE ["fractions","found","one"] T.o_highest (fun _ _ _ _ _ _ _ hr nd=>(ae (s4 1 nd (bW hr (ac 0)))
  (ae (dv PassesOwn.never rfl (cz (ac 0)) (gn 2 nd) (al (cE (dr (c4 (wf T) hr (lc (ac 1) (l1 (ac 2))))) (al (s4 1 nd (ac 2))) bi)))
  (al (au (ac 1)))))) rfl
def j5:aC:=bc 3 (CW.gM md)
def nu(T:Txt P w K mg):fw P w K mg base 4 "together" 1 j5:=fE ["fractions","found","one"] T.o_together (fun _ _ _ _ _ _ _ hr nd=>(ae (s4 1 nd (bQ (lc af (l1 af))))
  (ae (dv PassesOwn.never rfl (cz (ac 0)) (gn 2 nd) (al (s4 1 nd (c4 (pX T) hr (lc (ac 1) (l1 (ac 2)))))))
  (al (au (ac 1)))))) rfl
def j6:aC:=bc 2 (CW.gN j5 pY)
def nv(T:Txt P w K mg):fw P w K mg base 5 "worth_of" 2 j6:=fE ["numbers","fractions"] T.o_worth_of (fun _ _ _ _ _ _ _ hr nd=>(al (au (c4 (nu T) hr (l1 (ku [] 2 [] ["number","one"] (sY rfl rfl rfl T.FA (by decide +kernel) (lc (ac 0) (l1 (ac 1)))) (fun _=>(pD rfl (aN (gn 0 AN) (aN (gn 1 AN) d0)))) (fun _=>bJ) (fun _=>(c4 (ug T) hr (lc (bQ (lc (ac 0) (l1 af))) (l1 (ac 1))))))))))) rfl
def cr:aC:=bc 3 (CW.dk iu)
def eU(T:Txt P w K mg):fw P w K mg base 2 "common_bottom" 1 cr:=fE ["fractions","found","one"] T.o_common_bottom (fun _ _ _ _ _ _ _ hr nd=>(ae (s4 1 nd af)
  (ae (dv PassesOwn.never rfl (cz (ac 0)) (gn 2 nd) (al (s4 1 nd (aB fM (aB aI (ac 1) (bW hr (ac 2))) (c4 (k5 T) hr (lc (ac 1) (l1 (bW hr (ac 2)))))))))
  (al (au (ac 1)))))) rfl
def gx:aC:=bc 4 CW.eC
def j7(T:Txt P w K mg):fw P w K mg base 1 "row_of_deed" 4 gx:=fE ["columns","jars","mix","d"] T.o_row_of_deed (fun _ _ _ _ _ _ _ hr nd=>(al (au (aB aU (aB aU (ku ["d"] 1 [3] ["column","d"] (cz (ac 0)) (fun _=>(gn 0 Cm)) (fun _=>bJ) (fun _=>(wC (uH hr (bW hr (ac 0)) (ac 1)) af af))) (aB aI (eK (l1 af)) (ac 1))) (eK (l1 (fF hr (ac 2) (ac 3)))))))) rfl
def iw:aC:=bc 4 CW.ff
def kx(T:Txt P w K mg):fw P w K mg base 1 "row_of_jar" 3 iw:=fE ["columns","jars","jar","over"] T.o_row_of_jar (fun _ _ _ _ _ _ _ hr nd=>(ae (yQ ["jar"] 1 [2] ["other","jar"] 3 nd (bm rfl rfl T.Du (l1 (ac 1))) (fun _=>(gn 0 Cp)) (fun _=>bJ) (fun _=>(wC (uH hr (ac 0) (ac 1)) af af)))
  (al (au (aB aU (aB aU (ku ["jar"] 1 [2] ["column","jar"] (cz (ac 0)) (fun _=>(gn 0 Cq)) (fun _=>bJ) (fun _=>(jt dj (fF hr (bW hr (ac 0)) (ac 1))))) (ac 3)) (eK (l1 af))))))) rfl
def k7:aC:=bc 4 CW.iS
def oO(T:Txt P w K mg):fw P w K mg base 1 "without" 4 k7:=fE ["row","chosen","place","bottom"] T.o_without (fun _ _ _ _ _ _ _ hr nd=>(al (au (ku ["row","place","chosen","bottom"] 2 [3,1,2,0] ["one","other","bottom","chosen","place","row"] (lP rfl rfl rfl T.FA (by decide +kernel) (lc (ac 0) (l1 (ac 1)))) (fun _=>(pD rfl (aN (gn 0 AO) (aN (gn 1 AO) d0)))) (fun _=>bJ) (fun _=>(aB fM (aB il (aB aI (ac 0) (fF hr (ac 3) (ac 4))) (aB aI (fF hr (ac 5) (ac 4)) (ac 1))) (ac 2))))))) rfl
def dN:aC:=bc 3 CW.cu
def gb(T:Txt P w K mg):uG P w K mg base 1 "Balance" "__init__" 3 dN:=zq ["self","rows","held"] T.o_Balance___init__ (fun _ _ _ _ _ _ _ hr nd=>(ae (Ay T.Df (ac 1) (ac 0))
  (ae (Ay T.Df (ac 2) (ac 0))
  (al (Ay T.Df af (ac 0)))))) rfl
def cL:aC:=bc 5 (CW.dI k7)
def fy(T:Txt P w K mg):uG P w K mg base 2 "Balance" "hold" 3 cL:=zq ["self","number","place","chosen","others"] T.o_Balance_hold (fun _ _ _ _ _ _ _ hr nd=>(ae (s4 3 nd (fF hr (mm T.Df (ac 0)) (ac 1)))
  (ae (yQ ["self","place","chosen"] 1 [3,2,0] ["row","chosen","place","self"] 4 nd (cz (mm T.Df (ac 0))) (fun _=>(gn 0 Cr)) (fun _=>bJ) (fun _=>(c4 (oO T) hr (lc (ac 0) (lc (ac 1) (lc (ac 2) (l1 (mm T.Df (ac 3)))))))))
  (ae (Ay T.Df (aB aU (aB aU (dY (ac 4) iI (eA (ac 1))) (eK (l1 (ac 3)))) (dY (ac 4) (eA (aB aU (ac 1) af)) iI)) (ac 0))
  (ae (Ay T.Df (fF hr (ac 3) (ac 2)) (ac 0))
  (al (kP (wH hr) (ac 2) (mm T.Df (ac 0)) (ac 1)))))))) rfl
def d4:aC:=bc 3 CW.cI
def dO(T:Txt P w K mg):uG P w K mg base 1 "Balance" "gaining" 1 d4:=zq ["self","place","number"] T.o_Balance_gaining (fun _ _ _ _ _ _ _ hr nd=>(ae (dv PassesOwn.never rfl (oi rfl rfl T.EI (by decide +kernel) (l1 (dY (fF hr (mm T.Df (ac 0)) (jt dj af)) iI (eA (jt dj af))))) (pD rfl (aN (gn 1 nd) (aN (gn 2 nd) d0))) (al (cE (bB lM (ac 2) af (aF _)) (al (au (ac 1))) bi)))
  (al (au ji)))) rfl
def eV:aC:=bc 6 CW.cV
def ix(T:Txt P w K mg):uG P w K mg base 1 "Balance" "sooner" 4 eV:=zq ["self","one","other","place","first","second"] T.o_Balance_sooner (fun _ _ _ _ _ _ _ hr nd=>(ae (s4 4 nd (aB aI (fF hr (fF hr (mm T.Df (ac 0)) (ac 1)) (jt dj af)) (fF hr (fF hr (mm T.Df (ac 0)) (ac 2)) (ac 3))))
  (ae (s4 5 nd (aB aI (fF hr (fF hr (mm T.Df (ac 0)) (ac 2)) (jt dj af)) (fF hr (fF hr (mm T.Df (ac 0)) (ac 1)) (ac 3))))
  (al (au (eL (AB (jl hr)) (bQ (lc (ac 4) (l1 (fF hr (mm T.Df (ac 0)) (ac 1))))) (bQ (lc (ac 5) (l1 (fF hr (mm T.Df (ac 0)) (ac 2))))) (aF _))))))) rfl
def d5:aC:=bc 4 (CW.cJ eV)
def gT(T:Txt P w K mg):uG P w K mg base 2 "Balance" "used_up" 2 d5:=zq ["self","place","found","number"] T.o_Balance_used_up (fun _ _ _ _ _ _ _ hr nd=>(ae (s4 2 nd ji)
  (ae (dv PassesOwn.never rfl (bm rfl rfl T.Du (l1 (cB bI T.Ds (l1 (mm T.Df (ac 0)))))) (gn 3 nd) (al (cE (n6 (jQ (bB iP (fF hr (fF hr (mm T.Df (ac 0)) (ac 3)) (ac 1)) af (aF _)) (iH (n6 (lD (bB wD (ac 2) ji (aF _)) (h_ (dr (zt (ix T) hr (ac 0) (lc (ac 3) (lc (ac 2) (l1 (ac 1)))))))))))) (al (s4 2 nd (ac 3))) bi)))
  (al (au (ac 2)))))) rfl
def bS:aC:=bc 7 (CW.cK cW)
def dP(T:Txt P w K mg):uG P w K mg base 3 "Balance" "held_by" 4 bS:=zq ["self","count","place","sign","found","row","held"] T.o_Balance_held_by (fun _ _ _ _ _ _ _ hr nd=>(ae (s4 4 nd (aB aI (eK (l1 (bQ (lc af (l1 af))))) (ac 1)))
  (ae (dv PassesOwn.never rfl (lP rfl rfl rfl T.FA (by decide +kernel) (lc (mm T.Df (ac 0)) (l1 (mm T.Df (ac 0))))) (pD rfl (aN (gn 5 nd) (aN (gn 6 nd) d0))) (al (cE (bB lM (ac 6) (ac 1) (aF _)) (al (kP (wH hr) (c4 (dg T) hr (lc (aB aI (ac 3) (fF hr (ac 5) (ac 2))) (l1 (mm T.Df (ac 0))))) (ac 4) (ac 6))) bi)))
  (al (au (ac 4)))))) rfl
def b6:aC:=bc 3 CW.bg
def dA(T:Txt P w K mg):fw P w K mg base 1 "first_that_takes_nothing" 2 b6:=fE ["columns","d","fit"] T.o_first_that_takes_nothing (fun _ _ _ _ _ _ _ hr nd=>(ae (yQ ["d"] 2 [1] ["place","column","d"] 2 nd (oi rfl rfl T.EI (by decide +kernel) (l1 (ac 0))) (fun _=>(pD rfl (aN (gn 0 AQ) (aN (gn 1 AQ) d0)))) (fun _=>(sZ (n6 (jQ (uH hr (bW hr (ac 1)) (ac 2)) (iH (bB vL (C0 (yV rfl) T.Hm (bW hr (ac 1)) af) af (aF _))))))) (fun _=>(ac 0)))
  (al (au (bW hr (ac 2)))))) rfl
def fj:aC:=bc 8 (CW.fh cr gx iw dN cL b6)
def ky(T:Txt P w K mg):fw P w K mg base 3 "balance_of" 3 fj:=fE ["columns","jars","mix","bottom","goal","d","rows","balance"] T.o_balance_of (fun _ _ _ _ _ _ _ hr nd=>(ae (s4 3 nd (c4 (eU T) hr (l1 (ku [] 1 [] ["column"] (cz (ac 0)) (fun _=>(gn 0 AR)) (fun _=>bJ) (fun _=>(bW hr (ac 0)))))))
  (ae (s4 4 nd (aB aU (ku ["bottom"] 1 [3] ["column","bottom"] (cz (ac 0)) (fun _=>(gn 0 Ct)) (fun _=>bJ) (fun _=>(aB aI (jt dj (bW hr (bW hr (ac 0)))) (aB fM (ac 1) (bW hr (bW hr (ac 0))))))) (aB aI (eK (l1 af)) (aB aU (ac 1) af))))
  (ae (yQ ["mix","jars","columns"] 1 [0,1,2] ["d","columns","jars","mix"] 6 nd (bm rfl rfl T.Du (l1 (cB bI T.Ds (l1 (ac 2))))) (fun _=>(gn 0 Cu)) (fun _=>bJ) (fun _=>(c4 (j7 T) hr (lc (ac 1) (lc (ac 2) (lc (ac 3) (l1 (ac 0))))))))
  (ae (iL (Ax qS sT (ac 6) (l1 (ku ["jars","columns"] 1 [0,1] ["jar","columns","jars"] (bm rfl rfl T.Du (l1 (ac 1))) (fun _=>(gn 0 AS)) (fun _=>bJ) (fun _=>(c4 (kx T) hr (lc (ac 1) (lc (ac 2) (l1 (ac 0))))))))))
  (ae (s4 7 nd (CZ T.Df (gb T) hr (lc (aB aU (ac 6) (eK (l1 (ac 4)))) (l1 (ku ["mix","columns"] 1 [0,2] ["number","columns","mix"] (bm rfl rfl T.Du (l1 (cB bI T.Ds (l1 (ac 6))))) (fun _=>(gn 0 AT)) (fun _=>bJ) (fun _=>(aB il (aB aU (cB bI T.Ds (l1 (ac 1))) (ac 0)) (cB bI T.Ds (l1 (ac 2))))))))))
  (ae (dv PassesOwn.never rfl (bm rfl rfl T.Du (l1 (cB bI T.Ds (l1 (ac 2))))) (gn 5 nd) (al (iL (zt (fy T) hr (ac 7) (lc (ac 5) (l1 (c4 (dA T) hr (lc (ac 0) (l1 (ac 5))))))))))
  (al (au (ac 7)))))))))) rfl
def gU:aC:=bc 3 (CW.gP k6 md j6)
def ny(T:Txt P w K mg):fw P w K mg base 6 "price_of" 3 gU:=fE ["columns","worths","d"] T.o_price_of (fun _ _ _ _ _ _ _ hr nd=>(al (au (c4 (oN T) hr (l1 (ku ["worths","d"] 1 [2,1] ["column","d","worths"] (cz (ac 0)) (fun _=>(gn 0 AU)) (fun _=>(sZ (uH hr (bW hr (ac 0)) (ac 1)))) (fun _=>(c4 (pX T) hr (lc (bW hr (ac 0)) (l1 (c4 (nv T) hr (lc (bW hr (ac 0)) (l1 (ac 2)))))))))))))) rfl
def k_:aC:=bc 4 (CW.iT bS)
def oP(T:Txt P w K mg):fw P w K mg base 4 "endless" 3 k_:=fE ["balance","columns","place","shares"] T.o_endless (fun _ _ _ _ _ _ _ hr nd=>(ae (s4 3 nd (zt (dP T) hr (ac 0) (lc (cB bI T.Ds (l1 (ac 1))) (lc (ac 2) (l1 (jt dj af))))))
  (ae (cE (bB lM (ac 2) (cB bI T.Ds (l1 (ac 1))) (aF _)) (al (kP (wH hr) (bQ (lc af (l1 af))) (ac 3) (ac 2))) bi)
  (al (au (bQ (lc de (l1 (cT dZ T.DT (l1 (ac 3))))))))))) rfl
def uk:aC:=bc 8 (CW.ot cr cW gU bS)
def wg(T:Txt P w K mg):fw P w K mg base 7 "most" 3 uk:=fE ["balance","columns","mix","bottom","goal","worths","prices","shares"] T.o_most (fun _ _ _ _ _ _ _ hr nd=>(ae (s4 3 nd (aB aI (mm T.Df (ac 0)) (c4 (eU T) hr (l1 (ku [] 1 [] ["column"] (cz (ac 1)) (fun _=>(gn 0 AR)) (fun _=>bJ) (fun _=>(bW hr (ac 0))))))))
  (ae (s4 4 nd (fF hr (mm T.Df (ac 0)) (jt dj af)))
  (ae (s4 5 nd (cT dZ T.DT (l1 (ku ["bottom"] 1 [3] ["number","bottom"] (cz (dY (ac 4) (eA (cB bI T.Ds (l1 (ac 1)))) (eA (jt dj af)))) (fun _=>(gn 0 AV)) (fun _=>bJ) (fun _=>(c4 (dg T) hr (lc (ac 0) (l1 (ac 1)))))))))
  (ae (s4 6 nd (cT dZ T.DT (l1 (ku ["worths","columns"] 1 [1,5] ["d","columns","worths"] (bm rfl rfl T.Du (l1 (cB bI T.Ds (l1 (ac 2))))) (fun _=>(gn 0 AW)) (fun _=>bJ) (fun _=>(c4 (ny T) hr (lc (ac 1) (lc (ac 2) (l1 (ac 0))))))))))
  (ae (s4 7 nd (cT dZ T.DT (l1 (zt (dP T) hr (ac 0) (lc (cB bI T.Ds (l1 (ac 1))) (lc (jt dj af) (l1 af)))))))
  (al (au (bQ (lc de (lc (c4 (dg T) hr (lc (fF hr (ac 4) (jt dj af)) (l1 (ac 3)))) (lc (ac 7) (lc (ac 6) (l1 (ac 5))))))))))))))) rfl
def jb:aC:=bc 6 (CW.iU fj d4 d5 k_ cL uk)
def j8(T:Txt P w K mg):fw P w K mg base 8 "weighed" 2 jb:=fE ["columns","mix","jars","balance","place","number"] T.o_weighed (fun _ _ _ _ _ _ _ hr nd=>(ae (s4 2 nd (cB bI T.Ds (l1 (bW hr (bW hr (ac 0))))))
  (ae (s4 3 nd (c4 (ky T) hr (lc (ac 0) (lc (ac 2) (l1 (ac 1))))))
  (ae (s4 4 nd (AA (dO T) hr (ac 3)))
  (ae (ij PassesOwn.never (bB jS (ac 4) ji (aF _)) (ae (s4 5 nd (zt (gT T) hr (ac 3) (l1 (ac 4))))
  (ae (cE (bB wD (ac 5) ji (aF _)) (al (au (c4 (oP T) hr (lc (ac 3) (lc (ac 0) (l1 (ac 4))))))) bi)
  (ae (iL (zt (fy T) hr (ac 3) (lc (ac 5) (l1 (ac 4)))))
  (al (s4 4 nd (AA (dO T) hr (ac 3))))))))
  (al (au (c4 (wg T) hr (lc (ac 3) (lc (ac 0) (l1 (ac 1)))))))))))) rfl
def jp:aC:=bc 5 C.fN
def me(T:Txt P w K mg):fw P w K mg base 1 "_law_deal" 2 jp:=fE ["_law_script","_law_base","_law_one","_law_some","_law_number"] T.o__law_deal (fun _ _ _ _ _ _ _ hr nd=>(ae (yQ [] 1 [] ["_law_one"] 3 nd (cz (dY (ac 0) (eA (ac 1)) (eA af))) (fun _=>(gn 0 uf)) (fun _=>bJ) (fun _=>(cB (sO rfl) T.Hl (lc (ac 0) (l1 (aB il af (ac 0)))))))
  (ae (s4 4 nd (aB aU af (ac 1)))
  (ae (dv PassesOwn.never rfl (cz (ac 3)) (gn 2 nd) (al (s4 4 nd (aB gq (aB aU (aB aI (ac 4) af) (aB gq (ac 2) af)) af))))
  (al (au (yA (lL de (ac 4) (lL de af (lL de (yB qF rfl (ku [] 1 [] ["_law_one"] (cz (ac 3)) (fun _=>(gn 0 uf)) (fun _=>(sZ (bB vL (ac 0) (aB Au af af) (aF _)))) (fun _=>(ac 0))) rfl T.HJ rfl T.Gp) yy)))))))))) rfl
def cA:aC:=bc 5 C.fO
def ao(T:Txt P w K mg):fw P w K mg base 1 "_law_draw" 2 cA:=fE ["_law_deal_here","_law_many","_law_number","_law_one","_law_other"] T.o__law_draw (fun _ _ _ _ _ _ _ hr nd=>(ae (ij PassesOwn.never (n6 (jQ (uH hr (fF hr (ac 0) de) af) (iH (bB iP (cB bI T.Ds (l1 (fF hr (ac 0) de))) af (aF _))))) (al (kP (wH hr) (Ca tz wG (fF hr (ac 0) de)) (ac 0) de)))
  (ae (s4 2 nd (fF hr (ac 0) de))
  (ae (cE (bB iP (ac 2) af (aF _)) (ae (kP (wH hr) (aB fM (ac 2) (ac 1)) (ac 0) de)
  (al (au (aB gq (ac 2) (ac 1))))) bi)
  (ae (s4 3 nd (aB gq (aB aU (aB aI (fF hr (ac 0) de) af) af) af))
  (ae (kP (wH hr) (aB gq (aB aU (aB aI (ac 3) af) af) af) (ac 0) de)
  (ae (s4 4 nd (aB gq (aB aI (fF hr (ac 0) de) (fF hr (ac 0) de)) af))
  (al (au (aB gq (aB aU (aB aI (aB gq (aB aI (ac 3) (ac 3)) af) af) (ac 4)) (ac 1))))))))))) rfl
def cX:aC:=bc 4 C.gJ
def d6(T:Txt P w K mg):fw P w K mg base 1 "_law_low" 2 cX:=fE ["_law_top","_law_bottom","_law_one","_law_other"] T.o__law_low (fun _ _ _ _ _ _ _ hr nd=>(ae (sV (i:=2) (j:=3) rfl nd rfl rfl (by decide) rfl rfl (lc (cB (sO rfl) T.Hl (lc (ac 0) (l1 (aB il af (ac 0))))) (l1 (ac 1))))
  (ae (ij PassesOwn.never (bB iP (ac 3) af (aF _)) (al (sV (i:=2) (j:=3) rfl nd rfl rfl (by decide) rfl rfl (lc (ac 3) (l1 (aB gq (ac 2) (ac 3)))))))
  (al (au (bQ (lc (aB fM (ac 0) (ac 2)) (l1 (aB fM (ac 1) (ac 2)))))))))) rfl
def dh:aC:=bc 2 (C.fQ cX)
def dB(T:Txt P w K mg):fw P w K mg base 2 "_law_plus" 2 dh:=fE ["_law_one","_law_other"] T.o__law_plus (fun _ _ _ _ _ _ _ hr nd=>(al (au (c4 (d6 T) hr (lc (aB aU (aB aI (bW hr (ac 0)) (bW hr (ac 1))) (aB aI (bW hr (ac 1)) (bW hr (ac 0)))) (l1 (aB aI (bW hr (ac 0)) (bW hr (ac 1))))))))) rfl
def cY(De DW:aC):bM:=(ak (am 1 (ad De [(v3 0),(c3 (.int 6))]))
  (ak (cj (a8 (ai (dG false) (v3 1) (c3 (.int 0)))) (ap (a7 [(c3 (.int 0)),(c3 (.int 1))])) br)
  (ak (cj (a8 (ai kr (v3 1) (c3 (.int 3)))) (ap (a7 [(ai bo (c3 (.int 1)) (ad De [(v3 0),(c3 (.int 5))])),(c3 (.int 1))])) br)
  (ak (cj (a8 (ai kr (v3 1) (c3 (.int 5)))) (ap (ad DW [(ad De [(v3 0),(c3 (.int 1000))]),(ai bo (c3 (.int 1)) (ad De [(v3 0),(c3 (.int 9))]))])) br)
  (ap (ad DW [(ad De [(v3 0),(c3 (.int 50400001))]),(c3 (.int 2520))]))))))
def b9:aC:=bc 2 (cY cA cX)
def d8(T:Txt P w K mg):fw P w K mg base 2 "_law_fine_cost" 1 b9:=fE ["_law_deal_here","_law_form"] T.o__law_fine_cost (fun _ _ _ _ _ _ _ hr nd=>(ae (s4 1 nd (c4 (ao T) hr (lc (ac 0) (l1 af))))
  (ae (cE (uH hr (ac 1) af) (al (au (bQ (lc af (l1 af))))) bi)
  (ae (cE (bB lM (ac 1) af (aF _)) (al (au (bQ (lc (aB aU af (c4 (ao T) hr (lc (ac 0) (l1 af)))) (l1 af))))) bi)
  (ae (cE (bB lM (ac 1) af (aF _)) (al (au (c4 (d6 T) hr (lc (c4 (ao T) hr (lc (ac 0) (l1 af))) (l1 (aB aU af (c4 (ao T) hr (lc (ac 0) (l1 af))))))))) bi)
  (al (au (c4 (d6 T) hr (lc (c4 (ao T) hr (lc (ac 0) (l1 af))) (l1 af)))))))))) rfl
def eF(De:aC):bM:=(ap (ah aT [(aw (ck (v3 1)) (.n 0) bz (ai aQ (ai cH (ad De [(v3 1),(ai bo (ai aQ (c3 (.int 2)) (v3 2)) (c3 (.int 1)))]) (v3 2)) (ah gj [(ai jk (ad De [(v3 1),(c3 (.int 3))]) (c3 (.int 0)))])) 1 [0,2])]))
def gy:aC:=bc 3 (eF cA)
def j9(T:Txt P w K mg):fw P w K mg base 2 "_law_effect" 3 gy:=fE ["_law_deal_here","_law_jars","_law_wide"] T.o__law_effect (fun _ _ _ _ _ _ _ hr nd=>(al (au (cT dZ T.DT (l1 (ku ["_law_wide","_law_deal_here"] 1 [0,2] ["_law_j","_law_deal_here","_law_wide"] (bm rfl rfl T.Du (l1 (ac 1))) (fun _=>(gn 0 wV)) (fun _=>bJ) (fun _=>(aB aI (aB il (c4 (ao T) hr (lc (ac 1) (l1 (aB aU (aB aI af (ac 2)) af)))) (ac 2)) (cT wE T.GU (l1 (eL iP (c4 (ao T) hr (lc (ac 1) (l1 af))) af (aF _)))))))))))) rfl
def eG(De DX FK:aC):bM:=(ak (am 4 (ad De [(v3 0),(ai aQ (c3 (.int 2)) (v3 2))]))
  (ak (am 5 (ad DX [(v3 0)]))
  (ak (am 6 (ad FK [(v3 0),(v3 1),(v3 3)]))
  (ak (cj (a8 (ai kr (v3 4) (v3 2))) (ap (a7 [(v3 4),(v3 5),(v3 6)])) br)
  (ak (cj (fK (a8 (ai (dG false) (v3 1) (c3 (.int 0)))) (a8 (ai jk (ad De [(v3 0),(c3 (.int 3))]) (c3 (.int 0))))) (am 5 (a7 [(c3 (.int 0)),(c3 (.int 1))])) br)
  (ak (cj (fK (a8 (ai jk (v3 1) (c3 (.int 0)))) (fK (a8 (ai s_ (ah pF [(v3 6)]) (c3 (.int 0)))) (a8 (ai jk (ad De [(v3 0),(c3 (.int 6))]) (c3 (.int 0)))))) (ak (am 7 (ad De [(v3 0),(v3 1)]))
  (am 6 (ai bo (ai bo (bX (v3 6) pA (lG (v3 7))) (a7 [(ai cH (ai cH (c3 (.int 0)) (c3 (.int 1))) (ad De [(v3 0),(v3 3)]))])) (bX (v3 6) (lG (ai bo (v3 7) (c3 (.int 1)))) pA)))) br)
  (ap (a7 [(c3 .non),(v3 5),(v3 6)]))))))))
def gC:aC:=bc 8 (eG cA b9 gy)
def j_(T:Txt P w K mg):fw P w K mg base 3 "_law_column" 4 gC:=fE ["_law_deal_here","_law_jars","_law_deeds","_law_wide","_law_who","_law_cost","_law_effect_here","_law_at"] T.o__law_column (fun _ _ _ _ _ _ _ hr nd=>(ae (s4 4 nd (c4 (ao T) hr (lc (ac 0) (l1 (aB aI af (ac 2))))))
  (ae (s4 5 nd (c4 (d8 T) hr (l1 (ac 0))))
  (ae (s4 6 nd (c4 (j9 T) hr (lc (ac 0) (lc (ac 1) (l1 (ac 3))))))
  (ae (cE (bB lM (ac 4) (ac 2) (aF _)) (al (au (bQ (lc (ac 4) (lc (ac 5) (l1 (ac 6))))))) bi)
  (ae (cE (n6 (jQ (uH hr (ac 1) af) (iH (bB iP (c4 (ao T) hr (lc (ac 0) (l1 af))) af (aF _))))) (al (s4 5 nd (bQ (lc af (l1 af))))) bi)
  (ae (cE (n6 (jQ (bB iP (ac 1) af (aF _)) (jQ (bB vL (cB (yT rfl) T.Hm (l1 (ac 6))) af (aF _)) (iH (bB iP (c4 (ao T) hr (lc (ac 0) (l1 af))) af (aF _)))))) (ae (s4 7 nd (c4 (ao T) hr (lc (ac 0) (l1 (ac 1)))))
  (al (s4 6 nd (aB aU (aB aU (dY (ac 6) iI (eA (ac 7))) (bQ (l1 (aB il (aB il af af) (c4 (ao T) hr (lc (ac 0) (l1 (ac 3)))))))) (dY (ac 6) (eA (aB aU (ac 7) af)) iI))))) bi)
  (al (au (bQ (lc ji (lc (ac 5) (l1 (ac 6)))))))))))))) rfl
def dQ(De DX FL:aC):bM:=(ak (mO 2 3 (ad De [(v3 0),(c3 (.int 5))]) (ai bo (c3 (.int 1)) (ad De [(v3 0),(c3 (.int 4))])))
  (ak (am 4 (ai aj (cD [(c3 (.int 1)),(c3 (.int 3)),(c3 (.int 10)),(c3 (.int 200))]) (ad De [(v3 0),(c3 (.int 4))])))
  (ak (am 5 (cD []))
  (ak (bU (ck (v3 3)) (.n 6) (ak (am 7 (ah aT [(aw (ck (v3 2)) (.n 0) bz (ai aQ (ad De [(v3 1),(ai bo (v3 2) (c3 (.int 1)))]) (ad De [(v3 1),(c3 (.int 2))])) 1 [0,4])]))
  (du (mM "list" cG (v3 5) [(a7 [(v3 6),(ad DX [(v3 0)]),(v3 7)])]))))
  (ak (bU (ck (ai aj (cD [(c3 (.int 2)),(c3 (.int 4)),(c3 (.int 7)),(ai cH (v3 1) (v3 3))]) (ad De [(v3 0),(c3 (.int 4))]))) (.n 8) (du (mM "list" cG (v3 5) [(ad FL [(v3 0),(v3 2),(v3 3),(v3 4)])])))
  (ak (am 9 (cD []))
  (ak (iN (a8 (ai jk (ah aS [(v3 5)]) (c3 (.int 0)))) (du (mM "list" cG (v3 9) [(mM "list" mN (v3 5) [(ad De [(v3 0),(ah aS [(v3 5)])])])])))
  (ap (a7 [(ah aT [(v3 9)]),(ah aT [(aw (ck (v3 3)) (.n 0) bz (ad De [(v3 1),(ai aj (cD [(c3 (.int 3)),(c3 (.int 10))]) (ad De [(v3 1),(c3 (.int 2))]))]) 1 [0])])])))))))))
def dR:aC:=bc 10 (dQ cA b9 gC)
def jv(T:Txt P w K mg):fw P w K mg base 4 "_law_columns" 2 dR:=fE ["_law_deal_here","_law_most","_law_jars","_law_deeds","_law_wide","_law_left","_law_deed","_law_effect_here","_law_k","_law_columns_here"] T.o__law_columns (fun _ _ _ _ _ _ _ hr nd=>(ae (sV (i:=2) (j:=3) rfl nd rfl rfl (by decide) rfl rfl (lc (c4 (ao T) hr (lc (ac 0) (l1 af))) (l1 (aB aU af (c4 (ao T) hr (lc (ac 0) (l1 af)))))))
  (ae (s4 4 nd (fF hr (eK (lc af (lc af (lc af (l1 af))))) (c4 (ao T) hr (lc (ac 0) (l1 af)))))
  (ae (s4 5 nd (eK sJ))
  (ae (dv PassesOwn.never rfl (bm rfl rfl T.Du (l1 (ac 3))) (gn 6 nd) (ae (s4 7 nd (cT dZ T.DT (l1 (ku ["_law_wide","_law_deal_here"] 1 [0,4] ["_law_j","_law_deal_here","_law_wide"] (bm rfl rfl T.Du (l1 (ac 2))) (fun _=>(gn 0 wV)) (fun _=>bJ) (fun _=>(aB aI (c4 (ao T) hr (lc (ac 1) (l1 (aB aU (ac 2) af)))) (c4 (ao T) hr (lc (ac 1) (l1 af)))))))))
  (al (iL (Ax iQ jU (ac 5) (l1 (bQ (lc (ac 6) (lc (c4 (d8 T) hr (l1 (ac 0))) (l1 (ac 7)))))))))))
  (ae (dv PassesOwn.never rfl (bm rfl rfl T.Du (l1 (fF hr (eK (lc af (lc af (lc af (l1 (aB il (ac 1) (ac 3))))))) (c4 (ao T) hr (lc (ac 0) (l1 af)))))) (gn 8 nd) (al (iL (Ax iQ jU (ac 5) (l1 (c4 (j_ T) hr (lc (ac 0) (lc (ac 2) (lc (ac 3) (l1 (ac 4)))))))))))
  (ae (s4 9 nd (eK sJ))
  (ae (ij PassesOwn.never (bB iP (cB bI T.Ds (l1 (ac 5))) af (aF _)) (al (iL (Ax iQ jU (ac 9) (l1 (Ax tz wG (ac 5) (l1 (c4 (ao T) hr (lc (ac 0) (l1 (cB bI T.Ds (l1 (ac 5)))))))))))))
  (al (au (bQ (lc (cT dZ T.DT (l1 (ac 9))) (l1 (cT dZ T.DT (l1 (ku ["_law_deal_here"] 1 [0] ["_law_deed","_law_deal_here"] (bm rfl rfl T.Du (l1 (ac 3))) (fun _=>(gn 0 AX)) (fun _=>bJ) (fun _=>(c4 (ao T) hr (lc (ac 1) (l1 (fF hr (eK (lc af (l1 af))) (c4 (ao T) hr (lc (ac 1) (l1 af)))))))))))))))))))))))) rfl
def bH:aC:=bc 1 (CW.cv cX)
def dw(T:Txt P w K mg):fw P w K mg base 2 "_law_is_fraction" 1 bH:=fE ["_law_one"] T.o__law_is_fraction (fun _ _ _ _ _ _ _ hr nd=>(ae (cE (n6 (lD (eM (dr (cB mL T.DS (lc (ac 0) (l1 (Az T.DT)))))) (h_ (zr hr (cB bI T.Ds (l1 (ac 0))) af)))) (al (au fJ)) bi)
  (ae (cE (eM (dr (cB (wF rfl) T.Hk (l1 (ku [] 1 [] ["_law_number"] (cz (ac 0)) (fun _=>(gn 0 AY)) (fun _=>bJ) (fun _=>(kN (cB mL T.DS (lc (ac 0) (l1 (Az T.GU)))) (mI (Ad (cB mL T.DS (lc (ac 0) (l1 (Az T.HI))))))))))))) (al (au fJ)) bi)
  (al (au (kN (eL iP (bW hr (ac 0)) af (aF _)) (mI (eL (kO (jl hr)) (c4 (d6 T) hr (lc (bW hr (ac 0)) (l1 (bW hr (ac 0))))) (ac 0) (aF _))))))))) rfl
def a9:aC:=bc 2 (CW.bE bH)
def aZ(T:Txt P w K mg):fw P w K mg base 3 "_law_are_from_nought" 2 a9:=fE ["_law_row","_law_many"] T.o__law_are_from_nought (fun _ _ _ _ _ _ _ hr nd=>(ae (cE (n6 (lD (eM (dr (cB mL T.DS (lc (ac 0) (l1 (Az T.DT)))))) (h_ (zr hr (cB bI T.Ds (l1 (ac 0))) (ac 1))))) (al (au fJ)) bi)
  (al (au (cB (wF rfl) T.Hk (l1 (ku [] 1 [] ["_law_one"] (cz (ac 0)) (fun _=>(gn 0 uf)) (fun _=>bJ) (fun _=>(kN (c4 (dw T) hr (l1 (ac 0))) (mI (eL vL (bW hr (ac 0)) af (aF _)))))))))))) rfl
def cZ:aC:=bc 5 (CW.gQ dh)
def d9(T:Txt P w K mg):fw P w K mg base 3 "_law_sum" 2 cZ:=fE ["_law_numbers","_law_shares","_law_found","_law_number","_law_share"] T.o__law_sum (fun _ _ _ _ _ _ _ hr nd=>(ae (s4 2 nd (bQ (lc af (l1 af))))
  (ae (dv PassesOwn.never rfl (lP rfl rfl rfl T.FA (by decide +kernel) (lc (ac 0) (l1 (ac 1)))) (pD rfl (aN (gn 3 nd) (aN (gn 4 nd) d0))) (al (s4 2 nd (c4 (dB T) hr (lc (ac 2) (l1 (bQ (lc (aB aI (ac 3) (bW hr (ac 4))) (l1 (bW hr (ac 4)))))))))))
  (al (au (ac 2)))))) rfl
def dS(DO:aC):bM:=(ak (am 2 (a7 [(c3 (.int 0)),(c3 (.int 1))]))
  (ak (bU (kq (v3 0) (v3 1)) (.tp (.cons (.n 3) (.cons (.n 4) .nil))) (am 2 (ad DO [(v3 2),(a7 [(ai aQ (ai aj (ai aj (v3 3) (c3 (.int 1))) (c3 (.int 0))) (ai aj (v3 4) (c3 (.int 0)))),(ai aQ (ai aj (ai aj (v3 3) (c3 (.int 1))) (c3 (.int 1))) (ai aj (v3 4) (c3 (.int 1))))])])))
  (ap (v3 2))))
def cM:aC:=bc 5 (dS dh)
def fz(T:Txt P w K mg):fw P w K mg base 3 "_law_cost_of" 2 cM:=fE ["_law_columns_here","_law_shares","_law_found","_law_column_here","_law_share"] T.o__law_cost_of (fun _ _ _ _ _ _ _ hr nd=>(ae (s4 2 nd (bQ (lc af (l1 af))))
  (ae (dv PassesOwn.never rfl (sY rfl rfl rfl T.FA (by decide +kernel) (lc (ac 0) (l1 (ac 1)))) (pD rfl (aN (gn 3 nd) (aN (gn 4 nd) d0))) (al (s4 2 nd (c4 (dB T) hr (lc (ac 2) (l1 (bQ (lc (aB aI (bW hr (bW hr (ac 3))) (bW hr (ac 4))) (l1 (aB aI (bW hr (bW hr (ac 3))) (bW hr (ac 4))))))))))))
  (al (au (ac 2)))))) rfl
def c_(DJ:aC):bM:=(ak (bU (ck (ah aS [(ai aj (ai aj (v3 0) (c3 (.int 0))) (c3 (.int 2)))])) (.n 2) (cj (a8 (ai kr (ai aj (ad DJ [(aw (aO (v3 0)) (.n 0) bz (ai aj (ai aj (v3 0) (c3 (.int 2))) (v3 1)) 1 [2]),(v3 1)]) (c3 (.int 0))) (c3 (.int 0)))) (ap (c3 (.bl false))) br))
  (ap (c3 (.bl true))))
def b_:aC:=bc 3 (c_ cZ)
def d_(T:Txt P w K mg):fw P w K mg base 4 "_law_jars_hold" 2 b_:=fE ["_law_columns_here","_law_shares","_law_j"] T.o__law_jars_hold (fun _ _ _ _ _ _ _ hr nd=>(ae (dv PassesOwn.never rfl (bm rfl rfl T.Du (l1 (cB bI T.Ds (l1 (bW hr (bW hr (ac 0))))))) (gn 2 nd) (al (cE (bB lM (bW hr (c4 (d9 T) hr (lc (ku ["_law_j"] 1 [2] ["_law_column_here","_law_j"] (cz (ac 0)) (fun _=>(gn 0 AZ)) (fun _=>bJ) (fun _=>(fF hr (bW hr (ac 0)) (ac 1)))) (l1 (ac 1))))) af (aF _)) (al (au fJ)) bi)))
  (al (au fJ)))) rfl
def cO(DJ:aC):bM:=(ak (bU (gk (v3 1)) (.tp (.cons (.n 3) (.cons (.n 4) .nil))) (cj (a8 (ai (dG true) (ad DJ [(aw (aO (v3 0)) (.n 0) bz (ah gj [(ai (dG false) (ai aj (v3 0) (c3 (.int 0))) (v3 1))]) 1 [3]),(v3 2)]) (a7 [(v3 4),(c3 (.int 1))]))) (ap (c3 (.bl false))) br))
  (ap (c3 (.bl true))))
def ee:aC:=bc 5 (cO cZ)
def gW(T:Txt P w K mg):fw P w K mg base 4 "_law_deeds_hold" 3 ee:=fE ["_law_columns_here","_law_mix","_law_shares","_law_deed","_law_many"] T.o__law_deeds_hold (fun _ _ _ _ _ _ _ hr nd=>(ae (dv PassesOwn.never rfl (oi rfl rfl T.EI (by decide +kernel) (l1 (ac 1))) (pD rfl (aN (gn 3 nd) (aN (gn 4 nd) d0))) (al (cE (zr hr (c4 (d9 T) hr (lc (ku ["_law_deed"] 1 [3] ["_law_column_here","_law_deed"] (cz (ac 0)) (fun _=>(gn 0 A0)) (fun _=>bJ) (fun _=>(cT wE T.GU (l1 (eL (kO (jl hr)) (bW hr (ac 0)) (ac 1) (aF _)))))) (l1 (ac 2)))) (bQ (lc (ac 4) (l1 af)))) (al (au fJ)) bi)))
  (al (au fJ)))) rfl
def cw(DO DJ:aC):bM:=(ak (bU (aO (v3 0)) (.tp (.cons (.n 3) (.cons (.n 4) (.cons (.n 5) .nil)))) (ak (am 6 (ad DO [(v3 4),(ad DJ [(v3 5),(v3 2)])]))
  (ak (cj (a8 (ai (ki true) (v3 3) (c3 .non))) (am 6 (ad DO [(v3 6),(a7 [(ai cH (c3 (.int 0)) (ai aj (ai aj (v3 1) (v3 3)) (c3 (.int 0)))),(ai aj (ai aj (v3 1) (v3 3)) (c3 (.int 1)))])])) br)
  (cj (a8 (ai jk (ai aj (v3 6) (c3 (.int 0))) (c3 (.int 0)))) (ap (c3 (.bl false))) br))))
  (ap (c3 (.bl true))))
def dU:aC:=bc 7 (cw dh cZ)
def gc(T:Txt P w K mg):fw P w K mg base 4 "_law_prices_hold" 3 dU:=fE ["_law_columns_here","_law_prices","_law_worths","_law_who","_law_cost","_law_effect_here","_law_found"] T.o__law_prices_hold (fun _ _ _ _ _ _ _ hr nd=>(ae (dv PassesOwn.never rfl (cz (ac 0)) (pD rfl (aN (gn 3 nd) (aN (gn 4 nd) (aN (gn 5 nd) d0)))) (ae (s4 6 nd (c4 (dB T) hr (lc (ac 4) (l1 (c4 (d9 T) hr (lc (ac 5) (l1 (ac 2))))))))
  (ae (cE (bB jS (ac 3) ji (aF _)) (al (s4 6 nd (c4 (dB T) hr (lc (ac 6) (l1 (bQ (lc (aB il af (bW hr (fF hr (ac 1) (ac 3)))) (l1 (bW hr (fF hr (ac 1) (ac 3))))))))))) bi)
  (al (cE (bB iP (bW hr (ac 6)) af (aF _)) (al (au fJ)) bi)))))
  (al (au fJ)))) rfl
def b7(Dh DY Ek:aC):bM:=(ak (cj (jP (cU (a8 (ad Dh [(v3 1),(ah aS [(v3 0)])]))) (cU (a8 (ad DY [(v3 0),(v3 1)])))) (ap (c3 (.bl false))) br)
  (ak (cj (a8 (ah vD [(aw (kq (v3 0) (v3 1)) (.tp (.cons (.n 0) (.cons (.n 1) .nil))) bz (dF (ai (ki true) (ai aj (v3 0) (c3 (.int 0))) (c3 .non)) (ai jk (ai aj (v3 1) (c3 (.int 0))) (c3 (.int 0)))) 2 [])])) (ap (c3 (.bl false))) br)
  (ap (ai jk (ai aj (ad Ek [(v3 0),(v3 1)]) (c3 (.int 0))) (c3 (.int 0))))))
def di:aC:=bc 2 (b7 a9 b_ cM)
def fD(T:Txt P w K mg):fw P w K mg base 5 "_law_endless_right" 2 di:=fE ["_law_columns_here","_law_shares"] T.o__law_endless_right (fun _ _ _ _ _ _ _ hr nd=>(ae (cE (n6 (lD (eM (dr (c4 (aZ T) hr (lc (ac 1) (l1 (cB bI T.Ds (l1 (ac 0)))))))) (h_ (eM (dr (c4 (d_ T) hr (lc (ac 0) (l1 (ac 1))))))))) (al (au fJ)) bi)
  (ae (cE (dr (cB (An rfl) T.Iy (l1 (ku [] 2 [] ["_law_column_here","_law_share"] (sY rfl rfl rfl T.FA (by decide +kernel) (lc (ac 0) (l1 (ac 1)))) (fun _=>(pD rfl (aN (gn 0 wW) (aN (gn 1 wW) d0)))) (fun _=>bJ) (fun _=>(kN (eL jS (bW hr (ac 0)) ji (aF _)) (mI (eL iP (bW hr (ac 1)) af (aF _))))))))) (al (au fJ)) bi)
  (al (au (eL iP (bW hr (c4 (fz T) hr (lc (ac 0) (l1 (ac 1))))) af (aF _))))))) rfl
def cP(Dh DI E9 DY Ek DJ EX:aC):bM:=(ak (qL (v3 2) (.tp (.cons (.n 3) (.cons (.n 4) (.cons (.n 5) (.cons (.n 6) .nil))))))
  (ak (am 7 (ah aS [(ai aj (ai aj (v3 0) (c3 (.int 0))) (c3 (.int 2)))]))
  (ak (cj (jP (cU (a8 (ad Dh [(v3 4),(ah aS [(v3 0)])]))) (cU (a8 (ad Dh [(v3 5),(ah aS [(v3 1)])])))) (ap (c3 (.bl false))) br)
  (ak (cj (jP (cU (a8 (ad Dh [(v3 6),(v3 7)]))) (cU (a8 (ad DI [(v3 3)])))) (ap (c3 (.bl false))) br)
  (ak (cj (jP (cU (a8 (ad E9 [(v3 0),(v3 1),(v3 4)]))) (cU (a8 (ad DY [(v3 0),(v3 4)])))) (ap (c3 (.bl false))) br)
  (ak (cj (jP (a8 (ai (dG true) (ad Ek [(v3 0),(v3 4)]) (v3 3))) (a8 (ai (dG true) (ad DJ [(v3 1),(v3 5)]) (v3 3)))) (ap (c3 (.bl false))) br)
  (ap (ad EX [(v3 0),(v3 5),(v3 6)]))))))))
def em:aC:=bc 8 (cP a9 bH ee b_ cM cZ dU)
def gX(T:Txt P w K mg):fw P w K mg base 5 "_law_most_right" 3 em:=fE ["_law_columns_here","_law_mix","_law_answer","_law_total","_law_shares","_law_prices","_law_worths","_law_jars"] T.o__law_most_right (fun _ _ _ _ _ _ _ hr nd=>(ae (As (ac 2) (pD rfl (aN (gn 3 nd) (aN (gn 4 nd) (aN (gn 5 nd) (aN (gn 6 nd) d0))))))
  (ae (s4 7 nd (cB bI T.Ds (l1 (bW hr (bW hr (ac 0))))))
  (ae (cE (n6 (lD (eM (dr (c4 (aZ T) hr (lc (ac 4) (l1 (cB bI T.Ds (l1 (ac 0)))))))) (h_ (eM (dr (c4 (aZ T) hr (lc (ac 5) (l1 (cB bI T.Ds (l1 (ac 1))))))))))) (al (au fJ)) bi)
  (ae (cE (n6 (lD (eM (dr (c4 (aZ T) hr (lc (ac 6) (l1 (ac 7)))))) (h_ (eM (dr (c4 (dw T) hr (l1 (ac 3)))))))) (al (au fJ)) bi)
  (ae (cE (n6 (lD (eM (dr (c4 (gW T) hr (lc (ac 0) (lc (ac 1) (l1 (ac 4))))))) (h_ (eM (dr (c4 (d_ T) hr (lc (ac 0) (l1 (ac 4))))))))) (al (au fJ)) bi)
  (ae (cE (n6 (lD (zr hr (c4 (fz T) hr (lc (ac 0) (l1 (ac 4)))) (ac 3)) (h_ (zr hr (c4 (d9 T) hr (lc (ac 1) (l1 (ac 5)))) (ac 3))))) (al (au fJ)) bi)
  (al (au (c4 (gc T) hr (lc (ac 0) (lc (ac 5) (l1 (ac 6)))))))))))))) rfl
def fk(EJ E_:aC):bM:=(ak (cj (jP (cU (a8 (ah iK [(v3 2),(c3 (.ty "tuple"))]))) (a8 (ai (dG false) (ah aS [(v3 2)]) (c3 (.int 0))))) (ap (c3 (.bl false))) br)
  (ak (cj (fK (a8 (ai (dG false) (ai aj (v3 2) (c3 (.int 0))) (c3 (.str "endless")))) (a8 (ai (dG false) (ah aS [(v3 2)]) (c3 (.int 2))))) (ap (ad EJ [(v3 0),(ai aj (v3 2) (c3 (.int 1)))])) br)
  (ap (dF (ai (dG false) (ai aj (v3 2) (c3 (.int 0))) (c3 (.str "most"))) (dF (ai (dG false) (ah aS [(v3 2)]) (c3 (.int 5))) (ad E_ [(v3 0),(v3 1),(bX (v3 2) (lG (c3 (.int 1))) pA)]))))))
def fm:aC:=bc 3 (fk di em)
def kz(T:Txt P w K mg):fw P w K mg base 6 "_law_right" 3 fm:=fE ["_law_columns_here","_law_mix","_law_answer"] T.o__law_right (fun _ _ _ _ _ _ _ hr nd=>(ae (cE (n6 (lD (eM (dr (cB mL T.DS (lc (ac 2) (l1 (Az T.DT)))))) (h_ (uH hr (cB bI T.Ds (l1 (ac 2))) af)))) (al (au fJ)) bi)
  (ae (cE (n6 (jQ (uH hr (bW hr (ac 2)) de) (iH (uH hr (cB bI T.Ds (l1 (ac 2))) af)))) (al (au (c4 (fD T) hr (lc (ac 0) (l1 (bW hr (ac 2))))))) bi)
  (al (au (kN (eL (kO (jl hr)) (bW hr (ac 2)) de (aF _)) (kN (eL (kO (jl hr)) (cB bI T.Ds (l1 (ac 2))) af (aF _)) (mI (c4 (gX T) hr (lc (ac 0) (lc (ac 1) (l1 (dY (ac 2) (eA af) iI))))))))))))) rfl
def ul(Gb FB FM F2:aC):bM:=(ak (am 1 (ad Gb [(v3 0),(c3 (.int 0))]))
  (ak (am 2 (aw (ck (c3 (.int 3))) (.n 0) bz (ad FB [(v3 1),(ai aj (cD [(c3 (.int 24)),(c3 (.int 12)),(c3 (.int 12))]) (v3 0))]) 1 [1]))
  (ak (am 5 (aw (aO (v3 2)) (.tp (.cons (.n 0) (.cons (.n 1) .nil))) bz (ad FM [(v3 0),(v3 1)]) 2 []))
  (ak (bU (gr (v3 2) (v3 5)) (.tp (.cons (.tp (.cons (.n 3) (.cons (.n 4) .nil))) (.cons (.n 6) .nil))) (cj (cU (a8 (ad F2 [(v3 3),(v3 4),(v3 6)]))) (ap (c3 (.bl false))) br))
  (ap (ai (dG false) (ad FM [(ai aj (ai aj (v3 2) (c3 (.int 0))) (c3 (.int 0))),(ai aj (ai aj (v3 2) (c3 (.int 0))) (c3 (.int 1)))]) (ai aj (v3 5) (c3 (.int 0)))))))))
def nA:aC:=bc 7 (ul jp dR jb fm)
def y_(T:Txt P w K mg){f:Addr}{fd:FuncData}(O:Bj K mg "law" (bN 40) ["_law_script"] f fd):zo P w K mg base 9 f fd ["_law_script"] nA:=CV ["_law_script","_law_deal_here","_law_some","_law_columns_here","_law_mix","_law_found","_law_answer"] O (fun _ _ _ _ _ _ _ hr nd=>(ae (s4 1 nd (c4 (me T) hr (lc (ac 0) (l1 af))))
  (ae (yQ ["_law_deal_here"] 1 [1] ["_law_k","_law_deal_here"] 2 nd (bm rfl rfl T.Du (l1 af)) (fun _=>(gn 0 A1)) (fun _=>bJ) (fun _=>(c4 (jv T) hr (lc (ac 1) (l1 (fF hr (eK (lc af (lc af (l1 af)))) (ac 0)))))))
  (ae (yQ [] 2 [] ["_law_columns_here","_law_mix"] 5 nd (cz (ac 2)) (fun _=>(pD rfl (aN (gn 0 wX) (aN (gn 1 wX) d0)))) (fun _=>bJ) (fun _=>(c4 (j8 T) hr (lc (ac 0) (l1 (ac 1))))))
  (ae (dv PassesOwn.never rfl (lP rfl rfl rfl T.FA (by decide +kernel) (lc (ac 2) (l1 (ac 5)))) (pD rfl (aN (pD rfl (aN (gn 3 nd) (aN (gn 4 nd) d0))) (aN (gn 6 nd) d0))) (al (cE (eM (dr (c4 (kz T) hr (lc (ac 3) (lc (ac 4) (l1 (ac 6))))))) (al (au fJ)) bi)))
  (al (au (eL (kO (jl hr)) (c4 (j8 T) hr (lc (bW hr (bW hr (ac 2))) (l1 (bW hr (bW hr (ac 2)))))) (bW hr (ac 5)) (aF _))))))))) rfl
end
end G34
namespace G34
open PySem L2 L3 Wd
open C CW
structure Fp (q:Int) (X:Nat->Int):Prop where
 q0:0 < q
 q1:q.natAbs<=Kq
 x1:∀x,(X x).natAbs<=Kq * 17
noncomputable abbrev Dk(n:Nat)(X:Nat->Int):List Int:=(List.range n).map X
def Fp.fq{q:Int}{X:Nat->Int}(h:Fp q X):q.natAbs < dC/\∀n,∀x∈Dk n X,x.natAbs < dC:=by
 refine⟨aR (c:=1) (by rw[Nat.mul_one];exact h.q1) (by decide),fun n x hx=>?_⟩
 obtain⟨i,_,rfl⟩:=List.mem_map.mp hx
 exact aR (h.x1 i) (by decide)
def oQ{cs:List Cl}{f:Cl->Int}{q:Int}{X:Nat->Int}(h:Fp q X)(hn:cs.length<=100)(hf:∀c∈cs,(f c).natAbs<=2 ^ 42):eE (aW (cs.map f) (Dk cs.length X)) < dC/\(∀i∈cs.map f,i.natAbs < dC)/\(cs.map f).length=(Dk cs.length X).length:=by
 have b:=jC (is:=cs.map f) (ns:=Dk cs.length X) (a:=2 ^ 42) (b:=Kq * 17) (fun i hi=>by obtain⟨c,hc,rfl⟩:=List.mem_map.mp hi;exact hf c hc) (fun x hx=>by obtain⟨i,_,rfl⟩:=List.mem_map.mp hx;exact h.x1 i)
 rw[List.length_map]at b
 refine⟨?_,fun i hi=>?_,by simp⟩
 ·have b2:eE (aW (cs.map f) (Dk cs.length X))<=100 * (2 ^ 42 * (Kq * 17)):=Nat.le_trans b (Nat.mul_le_mul hn (Nat.le_refl _))
  refine Nat.lt_of_le_of_lt b2 (Nat.lt_of_le_of_lt ?_ l8)
  generalize Kq=z
  omega
 ·obtain⟨c,hc,rfl⟩:=List.mem_map.mp hi
  exact Nat.lt_of_le_of_lt (hf c hc) (Nat.lt_of_lt_of_le (show 2 ^ 42 < 2 ^ 2000 from Nat.pow_lt_pow_right (by decide) (by decide)) (Nat.le_refl _))
def A2{cs:List Cl}{mix:Vu}{k:Nat}(P:bn cs mix k){t:Nat}(ht:t < k):∀c∈cs,(c.eff.getD t 0).natAbs<=2 ^ 42:=fun c hc=>by
 have hl:t < c.eff.length:=by rw[P.ef c hc];exact ht
 rw[aD (List.getElem?_eq_getElem hl)]
 exact Nat.le_trans (P.eb c hc _ (List.getElem_mem hl)) (by decide)
abbrev iy(w:aC):Prop:=∀{S:av} {cs:List Cl} {mix:Vu} {k:Nat} {q:Int} {X:Nat->Int} {Q:bP} {E:cC},bn cs mix k->Fp q X->(∀t,t < k->0<=cQ cs (fun c=>c.eff.getD t 0) X)->(∀S',Ext S S'->Q (.bl true) S')->w [.tup (cs.map Cl.pv),.tup ((Dk cs.length X).map (cq q))] S Q E
def Fa{x0:aC}(EY:eR x0):iy (bc 3 (c_ x0)):=by
 intro S cs mix k q X Q E P h hj kk
 unfold c_
 refine eW ?_
 rw[show ar 3 [.tup (cs.map Cl.pv),.tup ((Dk cs.length X).map (cq q))]=[some (.tup (cs.map Cl.pv)),some (.tup ((Dk cs.length X).map (cq q))),none] from rfl]
 have n1:=P.n1;have n2:=P.n2;have k1:=P.k1
 obtain⟨c0,r0,Hj⟩:=List.exists_cons_of_ne_nil (show cs≠[] from fun e=>by rw[e]at n1;simp at n1)
 have e0:Eh (cs.map Cl.pv) 0=some c0.pv:=by rw[Hj,List.map_cons];exact gL
 have l0:c0.eff.length=k:=P.ef c0 (by rw[Hj];simp)
 refine ax fun N hN=>?_
 simp only[bU,ck,ah,ag,ai,v3,lk,c3,aj,e0,Cl.pv,wI,aS,List.length_map,l0]
 refine⟨by omega,by omega,?_⟩
 rw[Int.toNat_natCast]
 refine bp (fun done σ S'=>Ext S S'/\∃x2,σ=[some (.tup (cs.map Cl.pv)),some (.tup ((Dk cs.length X).map (cq q))),x2]) ⟨.refl,_,rfl⟩ (fun _ _ _ _=>trivial) ?_ ?_
 ·rintro done x rest σ S' K e ⟨X1,x2,rfl⟩ hK
  obtain⟨rfl,hi⟩:=cp e
  simp only[Tg.put,List.set_cons_succ,List.set_cons_zero,cj,a8,ai,ad,ag,aw,aO,v3,lk,cf]
  refine aY Cl.pv (fun c=>.int (c.eff.getD done.length 0)) trivial cs [] (fun c hc=>⟨_,rfl,fun Q' q'=>?_⟩) (aV (by simp;omega)) ?_
  ·simp only[bV,List.reduceReplicate,List.map_cons,List.map_nil,List.cons_append,List.nil_append,List.set_cons_zero,ai,v3,lk,c3,aj,Cl.pv,wI]
   rw[(fX (row:=c.eff) (j:=done.length) (by rw[P.ef c hc];exact hi)).1]
   exact q'
  intro p hp
  rw[List.nil_append,oz (fun c:Cl=>c.eff.getD done.length 0)]
  obtain⟨a1,a2,a3⟩:=oQ (f:=fun c=>c.eff.getD done.length 0) h n2 (A2 P hi)
  refine EY (.lst aa) h.q0 h.fq.1 a3 a1 a2 (h.fq.2 _) ?_
  have e1:cq q (fT (cs.map fun c=>c.eff.getD done.length 0) (Dk cs.length X)) = .tup [.int (M3.aH (cQ cs (fun c=>c.eff.getD done.length 0) X) q),.int (M3.aG (cQ cs (fun c=>c.eff.getD done.length 0) X) q)]:=rfl
  simp only[e1,c3,aj,gL,kr,bx]
  rw[decide_eq_false (fun hlt=>by have:=(iW (n:=cQ cs (fun c=>c.eff.getD done.length 0) X) h.q0).1.mp hlt;have:=hj done.length hi;omega)]
  simp only[Bool.false_eq_true,if_false]
  exact hK _ _ ⟨X1.trans (.new hp),_,rfl⟩
 ·rintro σ S' ⟨X1,x2,rfl⟩
  refine hN _ _ ?_
  simp only[ap,c3]
  exact kk S' X1
abbrev ft(w:aC):Prop:=∀{S:av} {cs:List Cl} {mix:Vu} {k:Nat} {q:Int} {X:Nat->Int} {Q:bP} {E:cC},bn cs mix k->Fp q X->Q (cq (q * (cbO cs:Int)) (cQ cs (Cn cs) X)) S->w [.tup (cs.map Cl.pv),.tup ((Dk cs.length X).map (cq q))] S Q E
def rm{x0:aC}(Dt:jo x0):ft (bc 5 (dS x0)):=by
 intro S cs mix k q X Q E P h kk
 unfold dS
 refine eW ?_
 rw[show ar 5 [.tup (cs.map Cl.pv),.tup ((Dk cs.length X).map (cq q))]=[some (.tup (cs.map Cl.pv)),some (.tup ((Dk cs.length X).map (cq q))),none,none,none] from rfl]
 obtain⟨Ln,Lo,Ly⟩:=kY P
 have B0:0 < q * (cbO cs:Int):=Int.mul_pos h.q0 (by omega)
 have B1:(q * (cbO cs:Int)).natAbs < dC:=aR (c:=2520) (by rw[Int.natAbs_mul];exact Nat.mul_le_mul h.q1 (by omega)) (by decide)
 have z0:PV.tup [.int 0,.int 1]=cq (q * (cbO cs:Int)) 0:=by rw[iV,gv (Q:=1) (R:=q * (cbO cs:Int)) (n:=0) (m:=0) (by decide) B0 (by simp)]
 obtain⟨a1,a2,a3⟩:=oQ (f:=Cn cs) h P.n2 (fun c hc=>(l_ P hc).1)
 refine ax fun N hN=>?_
 simp only[am,a7,ag,c3,List.set_cons_succ,List.set_cons_zero]
 rw[z0]
 refine hN _ _ (ax fun N hN=>?_)
 simp only[bU,kq,v3,lk]
 refine bp (fun done σ S'=>S'=S/\done.length<=cs.length/\∃x3 x4,σ=[some (.tup (cs.map Cl.pv)),some (.tup ((Dk cs.length X).map (cq q))),some (cq (q * (cbO cs:Int)) ((aW (cs.map (Cn cs)) (Dk cs.length X)).take done.length).sum),x3,x4]) ⟨rfl,Nat.zero_le _,_,_,rfl⟩ (fun _ _ _ _=>trivial) ?_ ?_
 ·rintro done x rest σ S' K e ⟨rfl,hd,x3,x4,rfl⟩ hK
  have hget:(aL (cs.map Cl.pv) ((Dk cs.length X).map (cq q)))[done.length]?=some x:=by rw[e];simp
  unfold aL at hget
  rw[List.getElem?_map]at hget
  obtain⟨⟨u,w⟩,hz,rfl⟩:=Option.map_eq_some_iff.mp hget
  obtain⟨h1,h2⟩:=List.getElem?_zip_eq_some.mp hz
  rw[List.getElem?_map]at h1 h2
  obtain⟨c,hc1,rfl⟩:=Option.map_eq_some_iff.mp h1
  obtain⟨n,hn1,rfl⟩:=Option.map_eq_some_iff.mp h2
  have hc:=List.mem_of_getElem? hc1
  have hlt:done.length < cs.length:=(List.getElem?_eq_some_iff.mp hc1).1
  have hp:(aW (cs.map (Cn cs)) (Dk cs.length X))[done.length]?=some (Cn cs c * n):=by unfold aW;rw[List.getElem?_zipWith,List.getElem?_map,hc1,hn1];rfl
  have t1:=im ((aW (cs.map (Cn cs)) (Dk cs.length X)).take done.length)
  have t2:=iX (aW (cs.map (Cn cs)) (Dk cs.length X)) done.length
  have q0:=h.q0
  have hy:=P.yd c hc
  have y2:=gR hy.2
  have hx:=P.x0 c hc
  have nb:n.natAbs<=Kq * 17:=by obtain⟨i,_,rfl⟩:=List.mem_map.mp (List.mem_of_getElem? hn1);exact h.x1 i
  have L:=(M3.dX (t:=n) (b:=q) (by omega)).pos
  have ls:=M3.hJ (t:=n) (b:=q) (T:=n.natAbs) (B:=q.natAbs) (by omega) (by omega) (by omega) (by omega) (by omega) (by omega) (by omega)
  have ln:(M3.aH n q).natAbs<=n.natAbs:=by omega
  have lq:(M3.aG n q).natAbs<=q.natAbs:=by omega
  have e0:cq q n = .tup [.int (M3.aH n q),.int (M3.aG n q)]:=rfl
  have c1:(c.x * M3.aH n q).natAbs<=Kq * (17 * 2 ^ 30):=by
   rw[Int.natAbs_mul]
   have:(M3.aH n q).natAbs<=Kq * 17:=Nat.le_trans ln nb
   have:=Nat.mul_le_mul (show c.x.natAbs<=2 ^ 30 by omega) this
   refine Nat.le_trans this ?_
   generalize Kq=z
   omega
  have d1:((c.y:Int) * M3.aG n q).natAbs<=Kq * 2520:=by
   rw[Int.natAbs_mul,Int.natAbs_natCast,Nat.mul_comm]
   exact Nat.mul_le_mul (Nat.le_trans lq h.q1) y2
  have c2:=aR c1 (by decide)
  have d2:=aR d1 (by decide)
  simp only[Tg.put,Tg.DV,List.set_cons_succ,List.set_cons_zero,am,ad,ag,a7,ai,v3,lk,c3,aj,e0,Cl.pv,gL,mU]
  have m1:IntMulOk c.x (M3.aH n q):=(show GB _ _ from .inl ⟨by omega,by omega⟩).ok
  have m2:IntMulOk (c.y:Int) (M3.aG n q):=(show GB _ _ from .inl ⟨by omega,by omega⟩).ok
  simp only[aQ]
  refine⟨m1,m2,pW Dt (m:=Cn cs c * n) ⟨B0,B1,Nat.lt_of_le_of_lt (Nat.le_trans t1 t2) a1⟩ (Int.mul_pos (by omega) L) (Nat.le_of_lt c2) d2 ?_ (hK _ _ ⟨rfl,by rw[List.length_append];exact hlt,some (.tup [mZ c.who,.tup [.int c.x,.int (c.y:Int)],.tup (c.eff.map PV.int)]),some (.tup [.int (M3.aH n q),.int (M3.aG n q)]),?_⟩)⟩
  ·have w:=M3.a_ (t:=n) (b:=q) (by omega)
   unfold Cn
   obtain⟨z,hz⟩:=Ly c hc
   rw[hz,Nat.mul_div_cancel_left _ hy.1,Int.natCast_mul]
   calc c.x * M3.aH n q * (q * ((c.y:Int) * (z:Int)))=c.x * (c.y:Int) * (z:Int) * (M3.aH n q * q):=by grind
    _=_:=by rw[w];grind
  ·rw[List.length_append,List.length_singleton,List.take_succ,hp]
   simp
 ·rintro σ S' ⟨rfl,hd,x3,x4,rfl⟩
  refine hN _ _ ?_
  have lz:(aL (cs.map Cl.pv) ((Dk cs.length X).map (cq q))).length=(aW (cs.map (Cn cs)) (Dk cs.length X)).length:=by unfold aL aW;simp
  rw[lz,List.take_length,dD]
  simp only[ap,v3,lk]
  exact kk
abbrev ld(w:aC):Prop:=∀{S:av} {cs:List Cl} {mix:Vu} {k:Nat} {q:Int} {X:Nat->Int} {Q:bP} {E:cC},bn cs mix k->Fp q X->(∀d,d < mix.length->cQ cs (w1 d) X=mix.getD d 0 * q)->(∀S',Ext S S'->Q (.bl true) S')->w [.tup (cs.map Cl.pv),.tup (mix.map PV.int),.tup ((Dk cs.length X).map (cq q))] S Q E
def FC{x0:aC}(EY:eR x0):ld (bc 5 (cO x0)):=by
 intro S cs mix k q X Q E P h hd kk
 unfold cO
 refine eW ?_
 rw[show ar 5 [.tup (cs.map Cl.pv),.tup (mix.map PV.int),.tup ((Dk cs.length X).map (cq q))]=[some (.tup (cs.map Cl.pv)),some (.tup (mix.map PV.int)),some (.tup ((Dk cs.length X).map (cq q))),none,none] from rfl]
 have n2:=P.n2
 refine ax fun N hN=>?_
 simp only[bU,gk,v3,lk]
 refine bp (fun done σ S'=>Ext S S'/\∃x3 x4,σ=[some (.tup (cs.map Cl.pv)),some (.tup (mix.map PV.int)),some (.tup ((Dk cs.length X).map (cq q))),x3,x4]) ⟨.refl,_,_,rfl⟩ (fun _ _ _ _=>trivial) ?_ ?_
 ·rintro done x rest σ S' K e ⟨X1,x3,x4,rfl⟩ hK
  obtain⟨y,rfl,hy⟩:=mW e
  rw[List.getElem?_map]at hy
  obtain⟨n,hn1,rfl⟩:=Option.map_eq_some_iff.mp hy
  have hlt:=(List.getElem?_eq_some_iff.mp hn1).1
  simp only[Tg.put,Tg.DV,List.set_cons_succ,List.set_cons_zero,cj,a8,ai,ad,ag,aw,aO,v3,lk,cf]
  refine aY Cl.pv (fun c=>.int (w1 done.length c)) trivial cs [] (fun c hc=>⟨_,rfl,fun Q' q'=>?_⟩) (aV (by simp;omega)) ?_
  ·simp only[bV,List.reduceReplicate,List.map_cons,List.map_nil,List.cons_append,List.nil_append,List.set_cons_zero,ah,ag,ai,v3,lk,c3,aj,Cl.pv,gL]
   refine lR ?_
   unfold w1 at q'
   by_cases hw:c.who=some done.length
   ·simp only[hw,decide_true,if_true,gj]at q' ⊢;exact q'
   ·simp only[hw,decide_false,Bool.false_eq_true,if_false,gj]at q' ⊢;exact q'
  intro p hp
  rw[List.nil_append,oz (w1 done.length)]
  obtain⟨a1,a2,a3⟩:=oQ (f:=w1 done.length) h n2 (fun c hc=>by unfold w1;split<;>decide)
  refine EY (.lst aa) h.q0 h.fq.1 a3 a1 a2 (h.fq.2 _) ?_
  simp only[a7,ag,c3,v3,lk]
  rw[iV,show fT (cs.map (w1 done.length)) (Dk cs.length X)=cQ cs (w1 done.length) X from rfl,hd _ hlt,aD hn1]
  refine pV (gv h.q0 (by decide) (by omega)) ?_
  simp only[Bool.not_true,Bool.false_eq_true,if_false]
  exact hK _ _ ⟨X1.trans (.new hp),_,_,rfl⟩
 ·rintro σ S' ⟨X1,x3,x4,rfl⟩
  refine hN _ _ ?_
  simp only[ap,c3]
  exact kk S' X1
def A3{xp:aC}(Dt:jo xp){S:av}{B f m:Int}{Q:bP}{E:cC}(hf:Fq B f)(hm:Fq B m)(k:Q (cq B (f+m)) S):xp [cq B f,cq B m] S Q E:=by
 have sz:=hm.sz
 have q0:=hm.q0
 exact pW Dt hf sz.2.2 (Nat.le_trans sz.1 (Nat.le_of_lt hm.n1)) (Nat.lt_of_le_of_lt sz.2.1 hm.q1) (M3.a_ (by omega)) k
abbrev kc(w:aC):Prop:=∀{S:av} {cs:List Cl} {mix:Vu} {k:Nat} {q:Int} {Y:Vu} {pr:Nat->Int} {Q:bP} {E:cC},bn cs mix k->Qy q Y k->(∀c∈cs,c.who=none->q * Cn cs c+fT c.eff Y<=0)->(∀c∈cs,∀d,c.who=some d->q * Cn cs c+fT c.eff Y<=pr d)->(∀d,d < mix.length->(pr d).natAbs<=Kq * 2 ^ 43)->Q (.bl true) S->
 w [.tup (cs.map Cl.pv),.tup ((List.range mix.length).map fun d=>cq (q * (cbO cs:Int)) (pr d)),.tup (Y.map (cq (q * (cbO cs:Int))))] S Q E
def zb:(2:Nat) ^ 43<=2 ^ 100:=Nat.pow_le_pow_right (by decide) (by decide)
def Fm{x0 x1:aC}(Dt:jo x0)(EY:eR x1):kc (bc 7 (cw x0 x1)):=by
 intro S cs mix k q Y pr Q E P h hno hso IR kk
 unfold cw
 refine eW ?_
 rw[show ar 7 [.tup (cs.map Cl.pv),.tup ((List.range mix.length).map fun d=>cq (q * (cbO cs:Int)) (pr d)),.tup (Y.map (cq (q * (cbO cs:Int))))]=[some (.tup (cs.map Cl.pv)),some (.tup ((List.range mix.length).map fun d=>cq (q * (cbO cs:Int)) (pr d))),some (.tup (Y.map (cq (q * (cbO cs:Int))))),none,none,none,none] from rfl]
 obtain⟨B0,B1⟩:=v9 P h
 refine ax fun N hN=>?_
 simp only[bU,aO,v3,lk,cf]
 refine bp (fun done σ S'=>S'=S/\∃x3 x4 x5 x6,σ=[some (.tup (cs.map Cl.pv)),some (.tup ((List.range mix.length).map fun d=>cq (q * (cbO cs:Int)) (pr d))),some (.tup (Y.map (cq (q * (cbO cs:Int))))),x3,x4,x5,x6]) ⟨rfl,_,_,_,_,rfl⟩ (fun _ _ _ _=>trivial) ?_ ?_
 ·rintro done x rest σ S' K e ⟨rfl,x3,x4,x5,x6,rfl⟩ hK
  have hget:(cs.map Cl.pv)[done.length]?=some x:=by rw[e];simp
  obtain⟨c,hc1,rfl⟩:∃c,cs[done.length]?=some c/\c.pv=x:=by rw[List.getElem?_map]at hget;exact Option.map_eq_some_iff.mp hget
  have hc:=List.mem_of_getElem? hc1
  obtain⟨b1,b2,b3,b4⟩:=i9 P h hc
  simp only[Cl.pv,Tg.put,Tg.DV,List.set_cons_succ,List.set_cons_zero]
  refine ax fun N2 Go=>?_
  simp only[am,ad,ag,v3,lk]
  refine EY .tup B0 B1 (by rw[P.ef c hc,h.l]) b2 (fun i hi=>Nat.lt_of_le_of_lt (P.eb c hc i hi) (Nat.lt_of_lt_of_le (show 2 ^ 30 < 2 ^ 2000 from Nat.pow_lt_pow_right (by decide) (by decide)) (Nat.le_refl _))) (fun n hn=>aR (c:=1) (by rw[Nat.mul_one];exact h.y n hn) (by decide)) ?_
  rw[show PV.tup [.int c.x,.int (c.y:Int)]=dJ c from rfl,pQ P hc h.q0]
  refine A3 Dt ⟨B0,B1,b1⟩ ⟨B0,B1,b3⟩ ?_
  simp only[List.set_cons_succ,List.set_cons_zero]
  refine Go _ _ (ax fun N2 Go=>?_)
  -- what comes behind
  have last:∀(n:Int),n<=0->N2 [some (.tup (cs.map Cl.pv)),some (.tup ((List.range mix.length).map fun d=>cq (q * (cbO cs:Int)) (pr d))),some (.tup (Y.map (cq (q * (cbO cs:Int))))),some (mZ c.who),some (cq (q * (cbO cs:Int)) (q * Cn cs c)),some (.tup (c.eff.map PV.int)),some (cq (q * (cbO cs:Int)) n)] S':=fun n hn=>by
   refine Go _ _ ?_
   have e0:cq (q * (cbO cs:Int)) n = .tup [.int (M3.aH n (q * (cbO cs:Int))),.int (M3.aG n (q * (cbO cs:Int)))]:=rfl
   simp only[cj,a8,ai,v3,lk,c3,aj,e0,gL,jk,bx]
   rw[decide_eq_false (fun hlt=>by have:=(iW (n:=n) B0).2.1.mp hlt;omega)]
   simp only[Bool.false_eq_true,if_false]
   exact hK _ _ ⟨rfl,_,_,_,_,rfl⟩
  cases hw:c.who with
  |none=>
   simp only[cj,a8,ai,v3,lk,c3,mZ,ki,bne_self_eq_false,Bool.false_eq_true,if_false]
   have:=last _ (hno c hc hw)
   rw[hw]at this
   exact this
  |some d=>
   have hd:=P.wd c hc d hw
   have ep:Eh ((List.range mix.length).map fun d=>cq (q * (cbO cs:Int)) (pr d)) (d:Int)=some (cq (q * (cbO cs:Int)) (pr d)):=bD (by rw[List.getElem?_map,List.getElem?_range hd];rfl)
   have e0:cq (q * (cbO cs:Int)) (pr d) = .tup [.int (M3.aH (pr d) (q * (cbO cs:Int))),.int (M3.aG (pr d) (q * (cbO cs:Int)))]:=rfl
   have pf:Fq (q * (cbO cs:Int)) (pr d):=⟨B0,B1,aR (IR d hd) zb⟩
   have sz:=pf.sz
   simp only[cj,a8,ai,v3,lk,c3,mZ,ki,Bool.bne_false,if_true,am,ad,ag,a7,aj,ep,e0,gL,mU,cH,bx]
   refine pW Dt (m:=- pr d) ⟨B0,B1,b4⟩ sz.2.2 (by
    have:(0 - M3.aH (pr d) (q * (cbO cs:Int))).natAbs=(M3.aH (pr d) (q * (cbO cs:Int))).natAbs:=by omega
    rw[this];exact Nat.le_trans sz.1 (Nat.le_of_lt pf.n1)) (Nat.lt_of_le_of_lt sz.2.1 B1) (by
    have w:=M3.a_ (t:=pr d) (b:=q * (cbO cs:Int)) (by omega)
    rw[Int.sub_mul,w];grind) ?_
   simp only[List.set_cons_succ,List.set_cons_zero]
   have:=last (q * Cn cs c+fT c.eff Y + - pr d) (by have:=hso c hc d hw;omega)
   rw[hw]at this
   exact this
 ·rintro σ S' ⟨rfl,x3,x4,x5,x6,rfl⟩
  refine hN _ _ ?_
  simp only[ap,c3]
  exact kk
abbrev ke(w:aC):Prop:=∀{S:av} {cs:List Cl} {mix:Vu} {k:Nat} {q:Int} {y:Nat->Int} {v:PV} {Q:bP} {E:cC},bn cs mix k->y8 cs k v q y->(∀S',Ext S S'->Q (.bl true) S')->w [.tup (cs.map Cl.pv),.tup ((Dk cs.length y).map (cq q))] S Q E
def rn{x0 x1 x2:aC}(Ew:ir x0)(Fa:iy x1)(F3:ft x2):ke (bc 2 (b7 x0 x1 x2)):=by
 intro S cs mix k q y v Q E P h kk
 unfold b7
 refine eW ?_
 rw[show ar 2 [.tup (cs.map Cl.pv),.tup ((Dk cs.length y).map (cq q))]=[some (.tup (cs.map Cl.pv)),some (.tup ((Dk cs.length y).map (cq q)))] from rfl]
 have n2:=P.n2
 have sh:Fp q y:=⟨h.q0,h.q1,h.y1⟩
 have ln:((Dk cs.length y).map (cq q)).length=cs.length:=by simp
 have fr:∀v∈(Dk cs.length y).map (cq q),∃B n,v=cq B n/\Fq B n/\0<=n:=fun v hv=>by
  obtain⟨n,hn,rfl⟩:=List.mem_map.mp hv
  obtain⟨i,_,rfl⟩:=List.mem_map.mp hn
  exact⟨q,y i,rfl,⟨h.q0,sh.fq.1,sh.fq.2 _ _ hn⟩,h.y0 i⟩
 refine ax fun N hN=>?_
 simp only[cj,jP,cU,a8,ad,ah,ag,v3,lk,aS,List.length_map]
 have e1:=@Ew S ((Dk cs.length y).map (cq q))
 rw[ln]at e1
 refine e1 (by omega) fr fun S1 X1=>?_
 simp only[Bool.not_true,Bool.false_eq_true,if_false]
 refine Fa P sh h.Hg fun S2 X2=>?_
 simp only[Bool.not_true,Bool.false_eq_true,if_false]
 refine hN _ _ (ax fun N hN=>?_)
 simp only[cj,a8,ah,ag,aw,kq,v3,lk]
 have ez:aL (cs.map Cl.pv) ((Dk cs.length y).map (cq q))=cs.zipIdx.map fun p=>PV.tup [p.1.pv,cq q (y p.2)]:=by
  unfold aL
  refine List.ext_getElem? fun i=>?_
  rw[List.getElem?_map,List.getElem?_map,List.getElem?_zipIdx]
  by_cases hi:i < cs.length
  ·have hc:=List.getElem?_eq_getElem hi
   have z1:(cs.map Cl.pv)[i]?=some cs[i].pv:=by rw[List.getElem?_map,hc];rfl
   have z2:((Dk cs.length y).map (cq q))[i]?=some (cq q (y i)):=by
    unfold Dk
    rw[List.getElem?_map,List.getElem?_map,List.getElem?_range hi];rfl
   have z3:(List.zip (cs.map Cl.pv) ((Dk cs.length y).map (cq q)))[i]?=some (cs[i].pv,cq q (y i)):=List.getElem?_zip_eq_some.mpr ⟨z1,z2⟩
   rw[z3,hc]
   simp
  ·rw[List.getElem?_eq_none (by simp;omega),List.getElem?_eq_none (l:=cs) (by omega)];rfl
 rw[ez]
 refine aY (fun p:Cl×Nat=>PV.tup [p.1.pv,cq q (y p.2)]) (fun _=>.bl false) trivial cs.zipIdx [] (fun p hp=>⟨_,rfl,fun Q' q'=>?_⟩) (aV (by simp;omega)) ?_
 ·obtain⟨c,i⟩:=p
  rw[List.mem_zipIdx_iff_getElem?]at hp
  simp only[bV,List.reduceReplicate,List.map_nil,List.append_nil,List.set_cons_zero,List.set_cons_succ,dF,ai,v3,lk,c3,aj,Cl.pv,gL]
  cases hw:c.who with
  |none=>
   simp only[mZ,ki,bne_self_eq_false,Bool.false_eq_true,if_false]
   exact q'
  |some d=>
   have yz:=h.Fl i c hp (by rw[hw];simp)
   have e0:cq q (y i) = .tup [.int (M3.aH (y i) q),.int (M3.aG (y i) q)]:=rfl
   simp only[mZ,ki,Bool.bne_false,if_true,ai,v3,lk,c3,aj,e0,gL,jk,bx]
   rw[decide_eq_false (fun hlt=>by have:=(iW (n:=y i) h.q0).2.1.mp hlt;omega)]
   exact q'
 intro p hp
 have ba:∀n:Nat,fL (List.replicate n (PV.bl false))=some (List.replicate n false):=fun n=>by
  induction n with
  |zero=>rfl
  |succ n ih=>rw[List.replicate_succ];unfold fL;rw[ih];rfl
 rw[List.nil_append,show(cs.zipIdx.map fun _=>PV.bl false)=List.replicate cs.length (.bl false) by rw[List.map_const'];simp]
 simp only[vD,aa,ba]
 rw[show(List.replicate cs.length false).any id=false by simp]
 simp only[Bool.false_eq_true,if_false]
 refine hN _ _ ?_
 simp only[ap,ai,ad,ag,v3,lk]
 refine F3 P sh ?_
 have e0:cq (q * (cbO cs:Int)) (cQ cs (Cn cs) y) = .tup [.int (M3.aH (cQ cs (Cn cs) y) (q * (cbO cs:Int))),.int (M3.aG (cQ cs (Cn cs) y) (q * (cbO cs:Int)))]:=rfl
 simp only[c3,aj,e0,gL,jk,bx]
 rw[decide_eq_true ((iW (n:=cQ cs (Cn cs) y) (Int.mul_pos h.q0 (by have:=(kY P).1;omega))).2.1.mpr h.cost)]
 exact kk _ (X1.trans (X2.trans (.new hp)))
def um{n:Nat}{q:Int}{X:Nat->Int}:(List.range n).map (fun x=>cq q (X x))=(Dk n X).map (cq q):=by unfold Dk;rw[List.map_map];rfl
abbrev kf(w:aC):Prop:=∀{S:av} {cs:List Cl} {mix:Vu} {k:Nat} {q g:Int} {X:Nat->Int} {Y:Vu} {pr:Nat->Int} {v:PV} {Q:bP} {E:cC},bn cs mix k->ub cs mix k v q g X Y pr->(∀S',Ext S S'->Q (.bl true) S')->w [.tup (cs.map Cl.pv),.tup (mix.map PV.int),.tup [cq (q * (cbO cs:Int)) g,.tup ((Dk cs.length X).map (cq q)),.tup ((List.range mix.length).map fun d=>cq (q * (cbO cs:Int)) (pr d)),.tup (Y.map (cq (q * (cbO cs:Int))))]] S Q E
def rq{x0 x1 x2 x3 x4 x5 x6:aC}(Ew:ir x0)(Fz:jD x1)(FC:ld x2)(Fa:iy x3)(F3:ft x4)(EY:eR x5)(Fm:kc x6):kf (bc 8 (cP x0 x1 x2 x3 x4 x5 x6)):=by
 intro S cs mix k q g X Y pr v Q E P h kk
 unfold cP
 refine eW ?_
 have n1:=P.n1;have n2:=P.n2;have k1:=P.k1;have d1:=P.d1
 have sh:Fp q X:=⟨h.qy.q0,h.qy.q1,fun x=>Nat.le_trans (h.x1 x) (Nat.mul_le_mul (Nat.le_refl _) (by decide))⟩
 obtain⟨B0,B1⟩:=v9 P h.qy
 obtain⟨c0,r0,Hj⟩:=List.exists_cons_of_ne_nil (show cs≠[] from fun e=>by rw[e]at n1;simp at n1)
 have e0:Eh (cs.map Cl.pv) 0=some c0.pv:=by rw[Hj,List.map_cons];exact gL
 have l0:c0.eff.length=k:=P.ef c0 (by rw[Hj];simp)
 have f1:=@Ew S ((Dk cs.length X).map (cq q))
 rw[show((Dk cs.length X).map (cq q)).length=cs.length by simp]at f1
 have f2:=fun S=>@Ew S ((List.range mix.length).map fun d=>cq (q * (cbO cs:Int)) (pr d))
 rw[show((List.range mix.length).map fun d=>cq (q * (cbO cs:Int)) (pr d)).length=mix.length by simp]at f2
 have f3:=fun S=>@Ew S (Y.map (cq (q * (cbO cs:Int))))
 rw[show(Y.map (cq (q * (cbO cs:Int)))).length=k by simp[h.qy.l]]at f3
 rw[show ar 8 [.tup (cs.map Cl.pv),.tup (mix.map PV.int),.tup [cq (q * (cbO cs:Int)) g,.tup ((Dk cs.length X).map (cq q)),.tup ((List.range mix.length).map fun d=>cq (q * (cbO cs:Int)) (pr d)),.tup (Y.map (cq (q * (cbO cs:Int))))]]=[some (.tup (cs.map Cl.pv)),some (.tup (mix.map PV.int)),some (.tup [cq (q * (cbO cs:Int)) g,.tup ((Dk cs.length X).map (cq q)),.tup ((List.range mix.length).map fun d=>cq (q * (cbO cs:Int)) (pr d)),.tup (Y.map (cq (q * (cbO cs:Int))))]),none,none,none,none,none] from rfl]
 refine ax fun N hN=>?_
 simp only[qL,v3,lk,Tg.put,Tg.DV,List.set_cons_succ,List.set_cons_zero]
 refine hN _ _ (ax fun N hN=>?_)
 simp only[am,ah,ag,ai,v3,lk,c3,aj,e0,Cl.pv,wI,aS,List.length_map,l0,List.set_cons_succ,List.set_cons_zero]
 refine hN _ _ (ax fun N hN=>?_)
 simp only[cj,jP,cU,a8,ad,ah,ag,v3,lk,aS,List.length_map]
 refine f1 (by omega) (fun v hv=>by
  obtain⟨n,hn,rfl⟩:=List.mem_map.mp hv
  obtain⟨i,_,rfl⟩:=List.mem_map.mp hn
  exact⟨q,X i,rfl,⟨h.qy.q0,sh.fq.1,sh.fq.2 _ _ hn⟩,h.x0 i⟩) fun S1 X1=>?_
 simp only[Bool.not_true,Bool.false_eq_true,if_false]
 refine f2 S1 (by omega) (fun v hv=>by
  obtain⟨d,hd,rfl⟩:=List.mem_map.mp hv
  have hd':=List.mem_range.mp hd
  exact⟨_,pr d,rfl,⟨B0,B1,aR (h.G0 d hd') zb⟩,h.Lw d hd'⟩) fun S2 X2=>?_
 simp only[Bool.not_true,Bool.false_eq_true,if_false]
 refine hN _ _ (ax fun N hN=>?_)
 simp only[cj,jP,cU,a8,ad,ah,ag,v3,lk]
 refine f3 S2 (by omega) (fun v hv=>by
  obtain⟨n,hn,rfl⟩:=List.mem_map.mp hv
  exact⟨_,n,rfl,⟨B0,B1,aR (c:=1) (by rw[Nat.mul_one];exact h.qy.y n hn) (by decide)⟩,h.y0 n hn⟩) fun S3 X3=>?_
 simp only[Bool.not_true,Bool.false_eq_true,if_false]
 refine Fz ⟨B0,B1,aR (c:=1) (by rw[Nat.mul_one];exact h.g1) (by decide)⟩ fun S4 X4=>?_
 simp only[Bool.not_true,Bool.false_eq_true,if_false]
 refine hN _ _ (ax fun N hN=>?_)
 simp only[cj,jP,cU,a8,ad,ah,ag,v3,lk]
 refine FC P sh h.Fl fun S5 X5=>?_
 simp only[Bool.not_true,Bool.false_eq_true,if_false]
 refine Fa P sh h.Hg fun S6 X6=>?_
 simp only[Bool.not_true,Bool.false_eq_true,if_false]
 refine hN _ _ (ax fun N hN=>?_)
 simp only[cj,jP,a8,ai,ad,ag,v3,lk]
 refine F3 P sh ?_
 refine pV (by rw[h.cost]) ?_
 simp only[Bool.not_true,Bool.false_eq_true,if_false]
 have ep:(List.range mix.length).map (fun d=>cq (q * (cbO cs:Int)) (pr d))=((List.range mix.length).map pr).map (cq (q * (cbO cs:Int))):=by rw[List.map_map];rfl
 have mb:∀i∈mix,i.natAbs<=2 ^ 30:=fun i hi=>by have:=P.m0 i hi;omega
 have pb:∀n∈(List.range mix.length).map pr,n.natAbs<=Kq * 2 ^ 43:=fun n hn=>by
  obtain⟨d,hd,rfl⟩:=List.mem_map.mp hn
  exact h.G0 d (List.mem_range.mp hd)
 have ab:eE (aW mix ((List.range mix.length).map pr)) < dC:=by
  have b:=Nat.le_trans (jC mb pb) (Nat.mul_le_mul d1 (Nat.le_refl _))
  refine Nat.lt_of_le_of_lt b (Nat.lt_of_le_of_lt ?_ l8)
  generalize Kq=z
  omega
 have fin:∀S',Ext S S'->N [some (.tup (cs.map Cl.pv)),some (.tup (mix.map PV.int)),some (.tup [cq (q * (cbO cs:Int)) g,.tup ((Dk cs.length X).map (cq q)),.tup ((List.range mix.length).map fun d=>cq (q * (cbO cs:Int)) (pr d)),.tup (Y.map (cq (q * (cbO cs:Int))))]),some (cq (q * (cbO cs:Int)) g),some (.tup ((Dk cs.length X).map (cq q))),some (.tup ((List.range mix.length).map fun d=>cq (q * (cbO cs:Int)) (pr d))),some (.tup (Y.map (cq (q * (cbO cs:Int))))),some (.int (k:Int))] S':=fun S' XS=>by
  refine hN _ _ ?_
  simp only[ap,ad,ag,v3,lk]
  exact Fm P h.qy h.non h.Lu h.G0 (kk _ XS)
 have sm:=@EY S6 (.tup (mix.map PV.int)) (q * (cbO cs:Int)) mix ((List.range mix.length).map pr)
 rw[<-ep]at sm
 refine sm .tup B0 B1 (by simp) ab (fun i hi=>Nat.lt_of_le_of_lt (mb i hi) (Nat.lt_of_lt_of_le (show 2 ^ 30 < 2 ^ 2000 from Nat.pow_lt_pow_right (by decide) (by decide)) (Nat.le_refl _))) (fun n hn=>aR (pb n hn) zb) ?_
 refine pV (by rw[h.sum]) ?_
 simp only[Bool.not_true,Bool.false_eq_true,if_false]
 exact fin _ (X1.trans (X2.trans (X3.trans (X4.trans (X5.trans X6)))))
abbrev jc(w:aC):Prop:=∀{S:av} {cs:List Cl} {mix:Vu} {k:Nat} {v:PV} {Q:bP} {E:cC},bn cs mix k->Out cs mix k v->(∀S',Ext S S'->Q (.bl true) S')->w [.tup (cs.map Cl.pv),.tup (mix.map PV.int),v] S Q E
def FD{x0 x1:aC}(Iz:ke x0)(IA:kf x1):jc (bc 3 (fk x0 x1)):=by
 intro S cs mix k v Q E P h kk
 unfold fk
 refine eW ?_
 rcases h.right P with⟨q,g,X,Y,pr,m⟩|⟨q,y,m⟩
 ·obtain rfl:=m.v
  rw[um]
  have mr:=@IA S cs mix k q g X Y pr _ Q ga P m kk
  revert mr
  generalize cq (q * (cbO cs:Int)) g=a1
  generalize PV.tup ((Dk cs.length X).map (cq q))=a2
  generalize PV.tup ((List.range mix.length).map fun d=>cq (q * (cbO cs:Int)) (pr d))=a3
  generalize PV.tup (Y.map (cq (q * (cbO cs:Int))))=a4
  intro mr
  rw[show ar 3 [.tup (cs.map Cl.pv),.tup (mix.map PV.int),.tup [.str "most",a1,a2,a3,a4]]=[some (.tup (cs.map Cl.pv)),some (.tup (mix.map PV.int)),some (.tup [.str "most",a1,a2,a3,a4])] from rfl]
  refine ax fun N hN=>?_
  simp only[cj,jP,cU,a8,ah,ai,ag,v3,lk,c3,lO,Bool.not_true,Bool.false_eq_true,if_false,aS,dG,List.length_cons,List.length_nil]
  simp
  refine hN _ _ (ax fun N hN=>?_)
  simp only[cj,fK,a8,ah,ai,ag,v3,lk,c3,aj,gL,aS,dG,List.length_cons,List.length_nil]
  simp
  refine hN _ _ ?_
  simp only[ap,dF,ah,ai,ag,v3,lk,c3,aj,gL,aS,dG,List.length_cons,List.length_nil]
  simp
  simp only[ad,ag,v3,lk,bX,lG,pA,c3,iJ]
  rw[show eB [PV.str "most",a1,a2,a3,a4] (some 1) none=[a1,a2,a3,a4] from rfl]
  exact mr
 ·obtain rfl:=m.v
  rw[um]
  have er:=@Iz S cs mix k q y _ Q ga P m kk
  revert er
  generalize PV.tup ((Dk cs.length y).map (cq q))=a2
  intro er
  rw[show ar 3 [.tup (cs.map Cl.pv),.tup (mix.map PV.int),.tup [.str "endless",a2]]=[some (.tup (cs.map Cl.pv)),some (.tup (mix.map PV.int)),some (.tup [.str "endless",a2])] from rfl]
  refine ax fun N hN=>?_
  simp only[cj,jP,cU,a8,ah,ai,ag,v3,lk,c3,lO,Bool.not_true,Bool.false_eq_true,if_false,aS,dG,List.length_cons,List.length_nil]
  simp
  refine hN _ _ (ax fun N hN=>?_)
  simp only[cj,fK,a8,ah,ai,ag,v3,lk,c3,aj,gL,aS,dG,List.length_cons,List.length_nil]
  simp
  simp only[ap,ad,ag,v3,lk,ai,c3,aj,mU]
  exact er
structure Fc (x:Int) (y:Nat):Prop where
 lo:M3.zk x (y:Int)
 x0:0<=x
 x1:x<=2 ^ 30
 y0:0 < y
 yd:y ∣ 2520
def uo{t b:Int}(hb:0 < b):(M3.aG t b).natAbs ∣ b.natAbs:=by
 have L:=M3.dX (t:=t) (b:=b) (by omega)
 have w:=M3.a_ (t:=t) (b:=b) (by omega)
 have c:Nat.Coprime (M3.aG t b).natAbs (M3.aH t b).natAbs:=by
  have:=L.one
  unfold Int.gcd at this
  exact Nat.Coprime.symm this
 refine c.dvd_of_dvd_mul_left ?_
 rw[<-Int.natAbs_mul,w,Int.natAbs_mul]
 exact Nat.dvd_mul_left _ _
def uq{t b:Int}(hb:0 < b)(hd:b.natAbs ∣ 2520)(h0:0<=t)(h1:t<=2 ^ 30):∃y:Nat,M3.aG t b=(y:Int)/\Fc (M3.aH t b) y:=by
 have L:=M3.dX (t:=t) (b:=b) (by omega)
 have lp:=L.pos
 have z:=M3.hJ (t:=t) (b:=b) (T:=t) (B:=b) (by omega) (by omega) (by omega) (by omega) (by omega) (by omega) (by omega)
 have ct:=iW (n:=t) hb
 have e:M3.aG t b=((M3.aG t b).natAbs:Int):=by omega
 refine⟨(M3.aG t b).natAbs,e,?_,Int.not_lt.mp fun h=>by have:=ct.1.mp h;omega,by omega,by omega,Nat.dvd_trans (uo hb) hd⟩
 rw[<-e];exact L
def ur:∀n,n < 10->1<=n->n ∣ 2520:=by decide
def oR{x:Int}(h0:0<=x)(h1:x<=2 ^ 30):Fc x 1:=⟨⟨by decide,by unfold Int.gcd;exact Nat.gcd_one_right _⟩,h0,h1,by decide,by decide⟩
abbrev iz(w:aC):Prop:=∀{S:av} {d l:Addr} {Q:bP} {E:cC},DQ S d l->(∀x y S',Fc x y->DQ S' d l->Fw d l S S'->Q (.tup [.int x,.int (y:Int)]) S')->w [.ref d] S Q E
def Fb{x0 x1:aC}(Dg:eO x0)(Fi:jx x1):iz (bc 2 (cY x0 x1)):=by
 intro S d l Q E D k
 unfold cY
 refine eW ?_
 rw[show ar 2 [PV.ref d]=[some (.ref d),none] from rfl]
 refine ax fun N hN=>?_
 simp only[am,ad,ag,v3,lk,c3]
 refine Dg D (by decide) (by decide) fun r S1 r0 r1 D1 O1=>?_
 simp only[List.set_cons_succ,List.set_cons_zero]
 refine hN _ _ (ax fun N hN=>?_)
 simp only[cj,a8,ai,v3,lk,c3,dG,Bool.false_bne,decide_eq_true_eq,br]
 split
 ·simp only[ap,a7,ag,c3]
  exact k 0 1 S1 (oR (by decide) (by decide)) D1 O1
 refine hN _ _ (ax fun N hN=>?_)
 simp only[cj,a8,ai,v3,lk,c3,kr,bx,decide_eq_true_eq,br]
 split
 ·simp only[ap,a7,ag,c3,ai,ad,v3,lk]
  refine Dg D1 (by decide) (by decide) fun a S2 a0 a1 D2 O2=>?_
  simp only[bo]
  exact k (1+a) 1 S2 (oR (by omega) (by omega)) D2 (O1.trans O2)
 refine hN _ _ (ax fun N hN=>?_)
 simp only[cj,a8,ai,v3,lk,c3,kr,bx,decide_eq_true_eq,br]
 split
 ·simp only[ap,ad,ag,c3,ai,v3,lk]
  refine Dg D1 (by decide) (by decide) fun a S2 a0 a1 D2 O2=>Dg D2 (by decide) (by decide) fun b S3 b0 b1 D3 O3=>?_
  simp only[bo]
  obtain⟨y,e,f⟩:=uq (t:=a) (b:=1+b) (by omega) (ur _ (by omega) (by omega)) a0 (by omega)
  refine Fi (by omega) (kU (by omega)) ?_
  rw[e]
  exact k _ y S3 f D3 (O1.trans (O2.trans O3))
 refine hN _ _ ?_
 simp only[ap,ad,ag,c3,v3,lk]
 refine Dg D1 (by decide) (by decide) fun a S2 a0 a1 D2 O2=>?_
 obtain⟨y,e,f⟩:=uq (t:=a) (b:=2520) (by omega) (by decide) a0 (by omega)
 refine Fi (by omega) (kU (by omega)) ?_
 rw[e]
 exact k _ y S2 f D2 (O1.trans O2)
abbrev pZ(w:aC):Prop:=∀{S:av} {d l:Addr} {k:Nat} {wi:Int} {Q:bP} {E:cC},DQ S d l->k<=4->1<=wi->wi<=200->(∀es:List Int,∀S',es.length=k->(∀e∈es,e.natAbs<=200)->DQ S' d l->Fw d l S S'->Q (.tup (es.map PV.int)) S')->w [.ref d,.int (k:Int),.int wi] S Q E
def Gq{x0:aC}(Dg:eO x0):pZ (bc 3 (eF x0)):=by
 intro S d l k wi Q E D hk w0 w1 kk
 unfold eF
 refine eW ?_
 rw[show ar 3 [PV.ref d,.int (k:Int),.int wi]=[some (.ref d),some (.int (k:Int)),some (.int wi)] from rfl]
 simp only[ap,ah,ag,aw,ck,v3,lk]
 refine⟨by omega,by omega,?_⟩
 rw[Int.toNat_natCast]
 refine bK (fun done ys S'=>∃es:List Int,ys=es.map PV.int/\es.length=done.length/\done.length<=k/\(∀e∈es,e.natAbs<=200)/\DQ S' d l/\Fw d l S S') ⟨[],rfl,rfl,Nat.zero_le _,(fun e he=>by cases he),D,.refl⟩ ?_ ?_ ?_
 ·rintro done ys S' ⟨es,rfl,e,hd,_⟩
  exact⟨trivial,aV (by rw[List.length_map,e];omega)⟩
 ·rintro done x rest ys S' K e ⟨es,rfl,e2,hd,he,D',O'⟩ hK
  obtain⟨rfl,hi⟩:=cp e
  simp only[Tg.put,bV,List.reduceReplicate,List.map_cons,List.map_nil,List.cons_append,List.nil_append,List.set_cons_zero,bz,if_true,ai,ad,ah,ag,v3,lk,c3,List.getElem?_cons_zero,List.getElem?_cons_succ,Option.join]
  simp only[aQ,bo,cH,bx]
  refine⟨qQ (by decide) (by decide),Dg D' (by omega) (by omega) fun a S1 a0 a1 D1 O1=>Dg D1 (by decide) (by decide) fun b S2 b0 b1 D2 O2=>?_⟩
  simp only[jk,bx,gj]
  refine⟨qQ (by omega) (by omega),hK _ _ ⟨es++[(a - wi) * (if decide (0 < b)=true then 1 else 0)],by simp,by simp[e2],by rw[List.length_append];exact hi,fun y hy=>?_,D2,O'.trans (O1.trans O2)⟩⟩
  rcases List.mem_append.mp hy with hy|hy
  ·exact he y hy
  ·rw[List.mem_singleton.mp hy]
   split
   ·rw[Int.mul_one];omega
   ·rw[Int.mul_zero];decide
 ·rintro ys S4 ⟨es,rfl,e2,hd,he,D4,O4⟩ p hp
  simp only[aT,ic,aa]
  rw[bZ]at e2
  exact kk es _ e2 he (D4.new hp) (O4.trans (.new hp))
structure wj (k D:Nat) (c:Cl):Prop where
 ef:c.eff.length=k
 eb:∀e∈c.eff,e.natAbs<=2 ^ 30
 fc:Fc c.x c.y
 wd:∀d,c.who=some d->d < D
abbrev p8(w:aC):Prop:=∀{S:av} {d l:Addr} {k D:Nat} {wi:Int} {Q:bP} {E:cC},DQ S d l->k<=4->1<=D->D<=4->1<=wi->wi<=200->(∀c S',wj k D c->DQ S' d l->Fw d l S S'->Q (Cl.pv c) S')->w [.ref d,.int (k:Int),.int (D:Int),.int wi] S Q E
def Gr{x0 x1 x2:aC}(Dg:eO x0)(Fb:iz x1)(Gq:pZ x2):p8 (bc 8 (eG x0 x1 x2)):=by
 intro S d l k D wi Q E DL hk Ky hD w0 w1 kk
 unfold eG
 refine eW ?_
 rw[show ar 8 [PV.ref d,.int (k:Int),.int (D:Int),.int wi]=[some (.ref d),some (.int (k:Int)),some (.int (D:Int)),some (.int wi),none,none,none,none] from rfl]
 refine ax fun N hN=>?_
 simp only[am,ad,ag,ai,v3,lk,c3,aQ]
 refine⟨qQ (by decide) (by decide),Dg DL (by omega) (by omega) fun r S1 r0 r1 D1 O1=>?_⟩
 simp only[List.set_cons_succ,List.set_cons_zero]
 refine hN _ _ (ax fun N hN=>?_)
 simp only[am,ad,ag,v3,lk]
 refine Fb D1 fun x y S2 f D2 O2=>?_
 simp only[List.set_cons_succ,List.set_cons_zero]
 refine hN _ _ (ax fun N hN=>?_)
 simp only[am,ad,ag,v3,lk]
 refine Gq D2 hk w0 w1 fun es S3 el eb D3 O3=>?_
 have I_:=O1.trans (O2.trans O3)
 simp only[List.set_cons_succ,List.set_cons_zero]
 refine hN _ _ (ax fun N hN=>?_)
 have eb':∀e∈es,e.natAbs<=2 ^ 30:=fun e he=>Nat.le_trans (eb e he) (by decide)
 simp only[cj,a8,ai,v3,lk,kr,bx,decide_eq_true_eq,br]
 split
 ·obtain⟨n,rfl⟩:∃n:Nat,r=(n:Int):=⟨r.toNat,by omega⟩
  simp only[ap,a7,ag,v3,lk]
  exact kk ⟨some n,x,y,es⟩ S3 ⟨el,eb',f,fun e he=>by cases he;omega⟩ D3 I_
 refine hN _ _ (ax fun N hN=>?_)
 -- the last
 have fin:∀(x:Int) (y:Nat) (es:Vu) (x4 x7:Option PV) (S':av),Fc x y->es.length=k->(∀e∈es,e.natAbs<=2 ^ 30)->DQ S' d l->Fw d l S S'->(ap (a7 [c3 .non,v3 5,v3 6])) { nx:=fun _ S=>Q .non S,rt:=Q,ex:=ga } [some (.ref d),some (.int (k:Int)),some (.int (D:Int)),some (.int wi),x4,some (.tup [.int x,.int (y:Int)]),some (.tup (es.map PV.int)),x7] S':=by
  intro x y es x4 x7 S' f el eb D' O'
  simp only[ap,a7,ag,v3,lk,c3]
  exact kk ⟨none,x,y,es⟩ S' ⟨el,eb,f,fun e he=>by cases he⟩ D' O'
 have next:∀(x:Int) (y:Nat) (S4:av),Fc x y->DQ S4 d l->Fw d l S S4->N [some (.ref d),some (.int (k:Int)),some (.int (D:Int)),some (.int wi),some (.int r),some (.tup [.int x,.int (y:Int)]),some (.tup (es.map PV.int)),none] S4:=by
  intro x y S4 f D4 O4
  refine hN _ _ (ax fun N hN=>?_)
  simp only[cj,fK,a8,ai,ah,ad,ag,v3,lk,c3,jk,bx,decide_eq_true_eq,br]
  split
  ·rename_i k0
   simp only[pF,lQ,jX]
   refine⟨by omega,fun M hM _=>?_⟩
   simp only[s_,bx,decide_eq_true_eq]
   split
   ·refine Dg D4 (by decide) (by decide) fun b S5 b0 b1 D5 O5=>?_
    simp only[decide_eq_true_eq]
    split
    ·refine ax fun N2 Go=>?_
     simp only[am,ad,ag,v3,lk]
     refine Dg D5 k0 (by omega) fun a S6 a0 a1 D6 O6=>?_
     obtain⟨i,rfl⟩:∃i:Nat,a=(i:Int):=⟨a.toNat,by omega⟩
     simp only[List.set_cons_succ,List.set_cons_zero]
     refine Go _ _ ?_
     simp only[am,ai,bX,pA,lG,v3,lk,c3,iJ,a7,ag,ad,cH,bx]
     refine Dg D6 (by omega) (by omega) fun g S7 g0 g1 D7 O7=>?_
     simp only[bo,bx,iJ]
     rw[tu (by rw[List.length_map];omega),<-Int.natCast_succ,tw (by rw[List.length_map];omega),<-List.map_take,<-List.map_drop]
     refine⟨aV (by simp;omega),aV (by simp;omega),?_⟩
     simp only[List.set_cons_succ,List.set_cons_zero]
     refine hN _ _ ?_
     have e:(es.take i).map PV.int++[PV.int (0 - 1 - g)]++(es.drop (i+1)).map PV.int=(es.take i++[0 - 1 - g]++es.drop (i+1)).map PV.int:=by simp
     rw[e]
     refine fin x y _ _ _ S7 f (by simp;omega) (fun z hz=>?_) D7 (O4.trans (O5.trans (O6.trans O7)))
     rcases List.mem_append.mp hz with hz|hz
     ·rcases List.mem_append.mp hz with hz|hz
      ·exact eb' z (List.mem_of_mem_take hz)
      ·rw[List.mem_singleton.mp hz];omega
     ·exact eb' z (List.mem_of_mem_drop hz)
    ·exact hN _ _ (fin x y es _ _ S5 f el eb' D5 (O4.trans O5))
   ·exact hN _ _ (fin x y es _ _ S4 f el eb' D4 O4)
  ·exact hN _ _ (fin x y es _ _ S4 f el eb' D4 O4)
 simp only[cj,fK,a8,ai,ad,ag,v3,lk,c3,dG,Bool.false_bne,decide_eq_true_eq,br]
 split
 ·refine Dg D3 (by decide) (by decide) fun b S4 b0 b1 D4 O4=>?_
  simp only[jk,bx,decide_eq_true_eq]
  split
  ·simp only[am,a7,ag,c3,List.set_cons_succ,List.set_cons_zero]
   exact next 0 1 S4 (oR (by decide) (by decide)) D4 (I_.trans O4)
  ·exact next x y S4 f D4 (I_.trans O4)
 ·exact next x y S3 f D3 I_
def C8{r n:Nat}(h:r < n):seqIndex? (r:Int) n=some r:=by
 unfold seqIndex?
 simp
 omega
theorem kg{α β:Type}(f:α->β):∀(xs:List α) (i:Nat),(xs.map f).eraseIdx i=(xs.eraseIdx i).map f
 |[],_=>rfl
 |_::_,0=>rfl
 |a::r,i+1=>by simp[List.eraseIdx,kg f r i]
def rA{α:Type}{rs:List α}{i:Nat}(hi:i < rs.length){c:α}(h:c∈rs):c=rs[i]\/c∈rs.eraseIdx i:=by
 rw[<-List.take_append_drop i rs,List.drop_eq_getElem_cons hi]at h
 rw[List.eraseIdx_eq_take_drop_succ]
 rcases List.mem_append.mp h with h|h
 ·exact .inr (List.mem_append.mpr (.inl h))
 ·rcases List.mem_cons.mp h with h|h
  ·exact .inl h
  ·exact .inr (List.mem_append.mpr (.inr h))
structure Cs (k D n:Nat) (cs:List Cl):Prop where
 ok:∀c∈cs,wj k D c
 fx:∀d,d < n->∃c∈cs,i6 d c=true
def Cs.add{k D n:Nat}{cs:List Cl}{c:Cl}(h:Cs k D n cs)(hc:wj k D c):Cs k D n (cs++[c]):=⟨fun x hx=>by
 rcases List.mem_append.mp hx with hx|hx
 ·exact h.ok x hx
 ·rw[List.mem_singleton.mp hx];exact hc,fun d hd=>by obtain⟨x,hx,f⟩:=h.fx d hd;exact⟨x,List.mem_append.mpr (.inl hx),f⟩⟩
def Cs.JT{k D:Nat}{cs:List Cl}{mix:Vu}(h:Cs k D D cs)(hk:k<=4)(hD:D<=4)(n1:1<=cs.length)(n2:cs.length<=100)(hm:mix.length=D)(m0:∀x∈mix,0<=x/\x<=2 ^ 30):bn cs mix k where
 n1:=n1
 n2:=n2
 k1:=by omega
 d1:=by omega
 ef:=fun c hc=>(h.ok c hc).ef
 eb:=fun c hc=>(h.ok c hc).eb
 lo:=fun c hc=>(h.ok c hc).fc.lo
 x0:=fun c hc=>⟨(h.ok c hc).fc.x0,(h.ok c hc).fc.x1⟩
 yd:=fun c hc=>⟨(h.ok c hc).fc.y0,(h.ok c hc).fc.yd⟩
 wd:=fun c hc d hd=>by rw[hm];exact(h.ok c hc).wd d hd
 fx:=fun d hd=>h.fx d (by omega)
 m0:=m0
abbrev kh(w:aC):Prop:=∀{S:av} {d l:Addr} {m:Int} {Q:bP} {E:cC},DQ S d l->4<=m->m<=24->(∀cs mix k S',bn cs mix k->DQ S' d l->Q (.tup [.tup (cs.map Cl.pv),.tup (mix.map PV.int)]) S')->w [.ref d,.int m] S Q E
def F4{x0 x1 x2:aC}(Dg:eO x0)(Fb:iz x1)(Gr:p8 x2):kh (bc 10 (dQ x0 x1 x2)):=by
 intro S d l m Q E DL m0 m1 kk
 unfold dQ
 refine eW ?_
 rw[show ar 10 [PV.ref d,.int m]=[some (.ref d),some (.int m),none,none,none,none,none,none,none,none] from rfl]
 refine ax fun N hN=>?_
 simp only[mO,ad,ag,ai,v3,lk,c3]
 refine Dg DL (by decide) (by decide) fun a S1 a0 a1 D1 _=>Dg D1 (by decide) (by decide) fun b S2 b0 b1 D2 _=>?_
 obtain⟨k,rfl⟩:∃k:Nat,a=(k:Int):=⟨a.toNat,by omega⟩
 obtain⟨D,eD⟩:∃D:Nat,1+b=(D:Int):=⟨(1+b).toNat,by omega⟩
 have hk:k<=4:=by omega
 have Ky:1<=D:=by omega
 have hD:D<=4:=by omega
 simp only[bo,eD,List.set_cons_succ,List.set_cons_zero]
 refine hN _ _ (ax fun N hN=>?_)
 simp only[am,ai,cD,ad,ag,v3,lk,c3]
 intro pw Kz
 have nw:=D2.free Kz
 refine Dg (D2.new Kz) (by decide) (by decide) fun g S3 g0 g1 D3 O3=>?_
 have e3:=O3 _ _ (aa (S:=S2) (o:=.lst [.int 1,.int 3,.int 10,.int 200])) nw.1 nw.2
 simp only[aj,e3]
 obtain⟨v,hv,GV⟩:=jy (xs:=[PV.int 1,.int 3,.int 10,.int 200]) g0 (by simpa using g1)
 rw[hv]
 obtain⟨wi,rfl,Lz,LA⟩:∃g:Int,v = .int g/\1<=g/\g<=200:=by
  simp only[List.mem_cons,List.not_mem_nil,or_false]at GV
  rcases GV with rfl|rfl|rfl|rfl
  ·exact⟨1,rfl,by omega,by omega⟩
  ·exact⟨3,rfl,by omega,by omega⟩
  ·exact⟨10,rfl,by omega,by omega⟩
  ·exact⟨200,rfl,by omega,by omega⟩
 simp only[List.set_cons_succ,List.set_cons_zero]
 refine hN _ _ (ax fun N hN=>?_)
 simp only[am,cD,ag]
 intro pl hpl
 have nl:=D3.free hpl
 have D4:=D3.new (o:=.lst []) hpl
 have f4:(Dd S3 pl (.lst [])) pl=some (.lst (([]:List Cl).map Cl.pv)):=aa
 generalize Dd S3 pl (.lst [])=S4 at D4 f4
 simp only[List.set_cons_succ,List.set_cons_zero]
 refine hN _ _ (ax fun N hN=>?_)
 simp only[bU,ck,v3,lk]
 refine⟨by omega,by omega,?_⟩
 rw[Int.toNat_natCast]
 refine bp (fun done σ S'=>∃(cs:List Cl) (x6 x7:Option PV),σ=[some (.ref d),some (.int m),some (.int (k:Int)),some (.int (D:Int)),some (.int wi),some (.ref pl),x6,x7,none,none]/\S' pl=some (.lst (cs.map Cl.pv))/\cs.length=done.length/\Cs k D done.length cs/\DQ S' d l) ⟨[],_,_,rfl,f4,rfl,⟨(fun c hc=>by cases hc),fun e he=>absurd he (Nat.not_lt_zero _)⟩,D4⟩ (fun _ _ _ _=>trivial) ?_ ?_
 ·rintro done x rest σ S5 K e ⟨cs,x6,x7,rfl,f5,lc,C5,D5⟩ hK
  obtain⟨rfl,hi⟩:=cp e
  simp only[Tg.put,List.set_cons_succ,List.set_cons_zero]
  refine ax fun N2 Go=>?_
  simp only[am,ah,ag,aw,ck,v3,lk]
  refine⟨by omega,by omega,?_⟩
  rw[Int.toNat_natCast]
  refine bK (fun done ys S'=>∃es:List Int,ys=es.map PV.int/\es.length=done.length/\done.length<=k/\(∀e∈es,0<=e/\e<=200)/\DQ S' d l/\S' pl=some (.lst (cs.map Cl.pv))) ⟨[],rfl,rfl,Nat.zero_le _,(fun e he=>by cases he),D5,f5⟩ ?_ ?_ ?_
  ·rintro done ys S' ⟨es,rfl,e,hd,_⟩
   exact⟨trivial,aV (by rw[List.length_map,e];omega)⟩
  ·rintro IB x rest ys S' K2 e ⟨es,rfl,e2,hd,he,D',f'⟩ JU
   obtain⟨rfl,hi2⟩:=cp e
   simp only[Tg.put,bV,List.reduceReplicate,List.map_cons,List.map_nil,List.cons_append,List.nil_append,List.set_cons_zero,bz,if_true,ai,ad,ag,v3,lk,c3,List.getElem?_cons_zero,List.getElem?_cons_succ,Option.join]
   simp only[bo]
   refine Dg D' (by omega) (by omega) fun a S6 a0 a1 D6 O6=>Dg D6 (by decide) (by decide) fun b S7 b0 b1 D7 O7=>?_
   simp only[aQ]
   refine⟨qQ (by omega) (by omega),JU _ _ ⟨es++[a * b],by simp,by simp[e2],by rw[List.length_append];exact hi2,fun y hy=>?_,D7,O7 _ _ (O6 _ _ f' nl.1 nl.2) nl.1 nl.2⟩⟩
   rcases List.mem_append.mp hy with hy|hy
   ·exact he y hy
   ·rw[List.mem_singleton.mp hy]
    obtain rfl|rfl:b=0\/b=1:=by omega
    ·rw[Int.mul_zero];decide
    ·rw[Int.mul_one];omega
  ·rintro ys S6 ⟨es,rfl,e2,hd,he,D6,f6⟩ p hp
   rw[bZ]at e2
   simp only[aT,ic,aa,List.set_cons_succ,List.set_cons_zero]
   have LB:pl≠p:=fun h=>by rw[h,hp]at f6;cases f6
   have f7:(Dd S6 p (.lst (es.map PV.int))) pl=some (.lst (cs.map Cl.pv)):=by rw[aq LB];exact f6
   have D7:=D6.new (o:=.lst (es.map PV.int)) hp
   generalize Dd S6 p (.lst (es.map PV.int))=S7 at f7 D7
   refine Go _ _ ?_
   simp only[du,mM,uD,a7,ag,ad,v3,lk,f7,true_and]
   refine Fb D7 fun x y S8 fc D8 O8=>?_
   have f8:=O8 _ _ f7 nl.1 nl.2
   simp only[cG,f8,List.length_map]
   have hcl:wj k D ⟨some done.length,x,y,es⟩:=⟨e2,fun e h=>by have:=he e h;omega,fc,fun e h=>by cases h;exact hi⟩
   refine⟨Nat.lt_of_lt_of_le (show cs.length < 1000 by omega) (aV (Nat.le_refl _)),hK _ _ ⟨cs++[⟨some done.length,x,y,es⟩],_,_,rfl,by rw[aa,List.map_append];rfl,by simp[lc],?_,D8.upd nl.1 nl.2⟩⟩
   have:=C5.add hcl
   refine⟨this.ok,fun e h=>?_⟩
   rw[List.length_append,List.length_singleton]at h
   by_cases hd:e < done.length
   ·exact this.fx e hd
   ·obtain rfl:e=done.length:=by omega
    refine⟨_,List.mem_append.mpr (.inr (List.mem_singleton.mpr rfl)),?_⟩
    unfold i6
    simp only[decide_true,Bool.true_and,List.all_eq_true,decide_eq_true_eq]
    exact fun z hz=>(he z hz).1
 rintro σ S5 ⟨KA,x6,x7,rfl,f5,lc,C5,D5⟩
 rw[bZ]at lc C5
 refine hN _ _ (ax fun N hN=>?_)
 simp only[bU,ck,ai,cD,ad,ag,v3,lk,c3,cH,bx]
 intro pz Ik
 have nz:=D5.free Ik
 have LD:pl≠pz:=fun h=>by rw[h,Ik]at f5;cases f5
 refine Dg (D5.new Ik) (by decide) (by decide) fun g S6 g0 g1 D6 O6=>?_
 have f6:=O6 _ _ (show(Dd S5 pz (.lst [.int 2,.int 4,.int 7,.int (m - (D:Int))])) pl=some (.lst (KA.map Cl.pv)) by rw[aq LD];exact f5) nl.1 nl.2
 have e6:=O6 _ _ (aa (S:=S5) (o:=.lst [.int 2,.int 4,.int 7,.int (m - (D:Int))])) nz.1 nz.2
 simp only[aj,e6]
 obtain⟨v,hv,GV⟩:=jy (xs:=[PV.int 2,.int 4,.int 7,.int (m - (D:Int))]) g0 (by simpa using g1)
 rw[hv]
 obtain⟨n,rfl,hn⟩:∃n:Nat,v = .int (n:Int)/\n<=24:=by
  simp only[List.mem_cons,List.not_mem_nil,or_false]at GV
  rcases GV with rfl|rfl|rfl|rfl
  ·exact⟨2,rfl,by omega⟩
  ·exact⟨4,rfl,by omega⟩
  ·exact⟨7,rfl,by omega⟩
  ·exact⟨(m - (D:Int)).toNat,by congr 1;omega,by omega⟩
 refine⟨by omega,by omega,?_⟩
 rw[Int.toNat_natCast]
 refine bp (fun done σ S'=>∃(cs:List Cl) (x8:Option PV),σ=[some (.ref d),some (.int m),some (.int (k:Int)),some (.int (D:Int)),some (.int wi),some (.ref pl),x6,x7,x8,none]/\S' pl=some (.lst (cs.map Cl.pv))/\cs.length=D+done.length/\Cs k D D cs/\DQ S' d l) ⟨KA,_,rfl,f6,lc,C5,D6⟩ (fun _ _ _ _=>trivial) ?_ ?_
 ·rintro done x rest σ S7 K e ⟨cs,x8,rfl,f7,KB,C7,D7⟩ hK
  obtain⟨rfl,hi⟩:=cp e
  simp only[Tg.put,List.set_cons_succ,List.set_cons_zero,du,mM,uD,ag,ad,v3,lk,f7,true_and]
  refine Gr D7 hk Ky hD Lz LA fun c S8 hc D8 O8=>?_
  have f8:=O8 _ _ f7 nl.1 nl.2
  simp only[cG,f8,List.length_map]
  exact⟨Nat.lt_of_lt_of_le (show cs.length < 1000 by omega) (aV (Nat.le_refl _)),hK _ _ ⟨cs++[c],_,rfl,by rw[aa,List.map_append];rfl,by simp;omega,C7.add hc,D8.upd nl.1 nl.2⟩⟩
 rintro σ S7 ⟨cs,x8,rfl,f7,KB,C7,D7⟩
 rw[bZ]at KB
 refine hN _ _ (ax fun N hN=>?_)
 simp only[am,cD,ag]
 intro pn JV
 have nn:=D7.free JV
 have JW:pl≠pn:=fun h=>by rw[h,JV]at f7;cases f7
 have f8:(Dd S7 pn (.lst [])) pl=some (.lst (cs.map Cl.pv)):=by rw[aq JW];exact f7
 have g8:(Dd S7 pn (.lst [])) pn=some (.lst (([]:List Cl).map Cl.pv)):=aa
 have D8:=D7.new (o:=.lst []) JV
 generalize Dd S7 pn (.lst [])=S8 at f8 g8 D8
 simp only[List.set_cons_succ,List.set_cons_zero]
 refine hN _ _ (ax fun N hN=>?_)
 refine⟨fun n σ S'=>∃rs os:List Cl,σ=[some (.ref d),some (.int m),some (.int (k:Int)),some (.int (D:Int)),some (.int wi),some (.ref pl),x6,x7,x8,some (.ref pn)]/\S' pl=some (.lst (rs.map Cl.pv))/\S' pn=some (.lst (os.map Cl.pv))/\rs.length=n/\os.length+rs.length=cs.length/\(∀c∈cs,c∈os\/c∈rs)/\(∀c∈os,c∈cs)/\(∀c∈rs,c∈cs)/\DQ S' d l,⟨_,cs,[],rfl,f8,g8,rfl,by simp,fun c hc=>.inr hc,(fun c hc=>by cases hc),fun c hc=>hc,D8⟩,?_⟩
 rintro n2 σ S9 ⟨rs,os,rfl,f9,g9,ln,lt,h1,h2,h3,D9⟩
 simp only[a8,ai,ah,ag,v3,lk,c3,aS,f9,List.length_map,jk,bx,decide_eq_true_eq]
 split
 ·rename_i hp0
  refine⟨fun σ' S'=>∃rs os:List Cl,σ'=[some (.ref d),some (.int m),some (.int (k:Int)),some (.int (D:Int)),some (.int wi),some (.ref pl),x6,x7,x8,some (.ref pn)]/\S' pl=some (.lst (rs.map Cl.pv))/\S' pn=some (.lst (os.map Cl.pv))/\rs.length < n2/\os.length+rs.length=cs.length/\(∀c∈cs,c∈os\/c∈rs)/\(∀c∈os,c∈cs)/\(∀c∈rs,c∈cs)/\DQ S' d l,?_,?_⟩
  ·rintro σ' S' ⟨rs,os,a,b,c,lt',r⟩
   exact⟨_,lt',rs,os,a,b,c,rfl,r⟩
  ·simp only[du,mM,uD,ag,ad,ah,v3,lk,g9,f9,aS,List.length_map,true_and]
   refine Dg D9 (by omega) (by omega) fun r SA r0 r1 DA OA=>?_
   obtain⟨i,rfl⟩:∃i:Nat,r=(i:Int):=⟨r.toNat,by omega⟩
   have hi:i < rs.length:=by omega
   have fA:=OA _ _ f9 nl.1 nl.2
   have gA:=OA _ _ g9 nn.1 nn.2
   simp only[mN,fA,List.length_map,C8 hi,List.getElem?_map,List.getElem?_eq_getElem hi,Option.map_some]
   refine⟨by omega,by omega,?_⟩
   have gB:(Dd SA pl (.lst ((rs.map Cl.pv).eraseIdx i))) pn=some (.lst (os.map Cl.pv)):=by rw[aq (Ne.symm JW)];exact gA
   simp only[cG,gB,List.length_map]
   refine⟨Nat.lt_of_lt_of_le (show os.length < 1000 by omega) (aV (Nat.le_refl _)),rs.eraseIdx i,os++[rs[i]],by rw[aq JW,aa,kg],by rw[aa,List.map_append];rfl,by rw[List.length_eraseIdx_of_lt hi];omega,by rw[List.length_eraseIdx_of_lt hi,List.length_append,List.length_singleton];omega,fun c hc=>?_,fun c hc=>?_,fun c hc=>h3 c (List.mem_of_mem_eraseIdx hc),(DA.upd nl.1 nl.2).upd nn.1 nn.2⟩
   ·rcases h1 c hc with h|h
    ·exact .inl (List.mem_append.mpr (.inl h))
    ·rcases rA hi h with h|h
     ·exact .inl (List.mem_append.mpr (.inr (List.mem_singleton.mpr h)))
     ·exact .inr h
   ·rcases List.mem_append.mp hc with h|h
    ·exact h2 c h
    ·rw[List.mem_singleton.mp h];exact h3 _ (List.getElem_mem hi)
 ·rename_i hp0
  have l0:rs.length=0:=by omega
  have Co:Cs k D D os:=⟨fun c hc=>C7.ok c (h2 c hc),fun e he=>by
   obtain⟨c,hc,f⟩:=C7.fx e he
   rcases h1 c hc with h|h
   ·exact⟨c,h,f⟩
   ·rw[List.length_eq_zero_iff.mp l0]at h;cases h⟩
  refine hN _ _ ?_
  simp only[ap,a7,ag,ah,v3,lk,aT,ic,g9,aw,ck]
  refine⟨by omega,by omega,?_⟩
  rw[Int.toNat_natCast]
  refine bK (fun done ys S'=>∃es:List Int,ys=es.map PV.int/\es.length=done.length/\done.length<=D/\(∀e∈es,0<=e/\e<=2 ^ 30)/\DQ S' d l) ⟨[],rfl,rfl,Nat.zero_le _,(fun e he=>by cases he),D9⟩ ?_ ?_ ?_
  ·rintro done ys S' ⟨es,rfl,e,hd,_⟩
   exact⟨trivial,aV (by rw[List.length_map,e];omega)⟩
  ·rintro IB x rest ys S' K2 e ⟨es,rfl,e2,hd,he,D'⟩ JU
   obtain⟨rfl,hi2⟩:=cp e
   simp only[Tg.put,bV,List.reduceReplicate,List.map_cons,List.map_nil,List.cons_append,List.nil_append,List.set_cons_zero,bz,if_true,ai,cD,ad,ag,v3,lk,c3,List.getElem?_cons_zero,List.getElem?_cons_succ,Option.join]
   intro pm KC
   have nm:=D'.free KC
   refine Dg (D'.new KC) (by decide) (by decide) fun b S6 b0 b1 D6 O6=>?_
   have e6:=O6 _ _ (aa (S:=S') (o:=.lst [.int 3,.int 10])) nm.1 nm.2
   simp only[aj,e6]
   obtain⟨v,hv,GV⟩:=jy (xs:=[PV.int 3,.int 10]) b0 (by simpa using b1)
   rw[hv]
   obtain⟨q,rfl,q0,q1⟩:∃g:Int,v = .int g/\1<=g/\g<=200:=by
    simp only[List.mem_cons,List.not_mem_nil,or_false]at GV
    rcases GV with rfl|rfl
    ·exact⟨3,rfl,by omega,by omega⟩
    ·exact⟨10,rfl,by omega,by omega⟩
   dsimp only
   refine Dg D6 (by omega) (by omega) fun a S7 a0 a1 D7 O7=>JU _ _ ⟨es++[a],by simp,by simp[e2],by rw[List.length_append];exact hi2,fun y hy=>?_,D7⟩
   rcases List.mem_append.mp hy with hy|hy
   ·exact he y hy
   ·rw[List.mem_singleton.mp hy];omega
  ·rintro ys SB ⟨es,rfl,e2,hd,he,DB⟩ p hp
   rw[bZ]at e2
   simp only[aa]
   exact kk os es k _ (Co.JT hk hD (by omega) (by omega) e2 he) (DB.new hp)
def Nq(k:Nat)(v:PV):Prop:=∃d:PyData,(∀S,Dat S v d)/\d.canLay0=true/\d.depth<=k/\PyData.eqv d d=true
def IC(k:Nat)(vs:List PV):Prop:=∃ds:List PyData,(∀S,Fg S vs ds)/\PyData.canLayAll0 ds=true/\PyData.depthAll ds<=k/\PyData.eqvAll ds ds=true
theorem IC.of{k:Nat}:∀{vs:List PV},(∀v∈vs,Nq k v)->IC k vs
 |[],_=>⟨[],fun _=>.nil,by simp[PyData.canLayAll0],by simp[PyData.depthAll],by simp[PyData.eqvAll]⟩
 |v::vs,h=>by
  obtain⟨d,a,b,c,e⟩:=h v (by simp)
  obtain⟨ds,a',b',c',e'⟩:=IC.of (vs:=vs) fun v hv=>h v (by simp[hv])
  exact⟨d::ds,fun S=>.cons (a S) (a' S),by simp[PyData.canLayAll0,b,b'],by simp only[PyData.depthAll];exact Nat.max_le.mpr ⟨c,c'⟩,by simp[PyData.eqvAll,e,e']⟩
theorem Nq.int{k:Nat}(i:Int):Nq k (.int i):=⟨.int i,fun _=>.int i,by simp[PyData.canLay0],by simp[PyData.depth],by simp[PyData.eqv]⟩
theorem Nq.str{k:Nat}(i:Str)(h:(PyData.str i).canLay0=true):Nq k (.str i):=⟨.str i,fun _=>.str i,h,by simp[PyData.depth],by simp[PyData.eqv]⟩
theorem Nq.tup{k:Nat}{vs:List PV}(h:IC k vs):Nq (k+1) (.tup vs):=by
 obtain⟨ds,a,b,c,e⟩:=h
 exact⟨.tuple ds,fun S=>.tup (a S),by simpa [PyData.canLay0]using b,by simp only[PyData.depth];omega,by simpa [PyData.eqv]using e⟩
def Nq.ints{k:Nat}(J:Vu):Nq (k+1) (.tup (J.map PV.int)):=.tup (.of fun v hv=>by obtain⟨i,_,rfl⟩:=List.mem_map.mp hv;exact .int i)
theorem Nq.cq{k:Nat}(B n:Int):Nq (k+1) (cq B n):=.ints [M3.aH n B,M3.aG n B]
def ut{k:Nat}{neg:Bool}{vs:List PV}{S:av}{Q:bP}(h:IC k vs)(hk:k<=100)(q:Q (.bl (neg != true)) S):dG neg (.tup vs) (.tup vs) S Q:=by
 obtain⟨ds,a,b,c,e⟩:=h
 exact⟨.tuple ds,.tuple ds,.tup (a S),.tup (a S),by simpa [PyData.canLay0]using b,by simpa [PyData.canLay0]using b,by rw[Nat.min_self];simp only[PyData.depth];omega,by rw[show PyData.eqv (.tuple ds) (.tuple ds)=true by simpa [PyData.eqv]using e];exact q⟩
def zc{cs:List Cl}{mix:Vu}{k:Nat}(P:bn cs mix k){v:PV}(h:Out cs mix k v){S:av}{Q:bP}(qq:Q (.bl true) S):dG false v v S Q:=by
 have nl:∀(vs:List PV),(∀v∈vs,Nq 1 v)->Nq 2 (.tup vs):=fun vs h=>.tup (.of h)
 rcases h.right P with⟨q,g,X,Y,pr,m⟩|⟨q,y,m⟩
 ·obtain rfl:=m.v
  refine ut (k:=2) (.of fun u hu=>?_) (by decide) (by simpa using qq)
  simp only[List.mem_cons,List.not_mem_nil,or_false]at hu
  rcases hu with rfl|rfl|rfl|rfl|rfl
  ·exact .str _ (by decide +kernel)
  ·exact .cq _ _
  ·exact nl _ fun v hv=>by obtain⟨i,_,rfl⟩:=List.mem_map.mp hv;exact .cq _ _
  ·exact nl _ fun v hv=>by obtain⟨i,_,rfl⟩:=List.mem_map.mp hv;exact .cq _ _
  ·exact nl _ fun v hv=>by obtain⟨i,_,rfl⟩:=List.mem_map.mp hv;exact .cq _ _
 ·obtain rfl:=m.v
  refine ut (k:=2) (.of fun u hu=>?_) (by decide) (by simpa using qq)
  simp only[List.mem_cons,List.not_mem_nil,or_false]at hu
  rcases hu with rfl|rfl
  ·exact .str _ (by decide +kernel)
  ·exact nl _ fun v hv=>by obtain⟨i,_,rfl⟩:=List.mem_map.mp hv;exact .cq _ _
structure Pb where
 cs:List Cl
 mix:List Int
 k:Nat
noncomputable def Pb.pv(p:Pb):PV:=.tup [.tup (p.cs.map Cl.pv),.tup (p.mix.map PV.int)]
def Pb.ok(p:Pb):Prop:=bn p.cs p.mix p.k
def Pb.out(p:Pb)(v:PV):Prop:=Out p.cs p.mix p.k v
abbrev wk(w:aC):Prop:=∀{ns:Vu} {S:av} {Q:bP} {E:cC},ns.length<=63->(∀S',Q (.bl true) S')->w [.cl (ns.map PV.int)] S Q E
def zd{x0 x1 x2 x3:aC}(FR:mV x0)(F4:kh x1)(E8:ja x2)(FD:jc x3):wk (bc 7 (ul x0 x1 x2 x3)):=by
 intro ns S Q E hl k
 unfold ul
 refine eW ?_
 rw[show ar 7 [PV.cl (ns.map PV.int)]=[some (.cl (ns.map PV.int)),none,none,none,none,none,none] from rfl]
 refine ax fun N hN=>?_
 simp only[am,ad,ag,v3,lk,c3]
 refine FR hl (by decide) (by decide) fun d l S1 _ _ D1 _=>?_
 simp only[List.set_cons_succ,List.set_cons_zero]
 refine hN _ _ (ax fun N hN=>?_)
 simp only[am,aw,ck,c3]
 refine⟨by decide,by decide,?_⟩
 refine bK (fun done ys S'=>∃ps:List Pb,ys=ps.map Pb.pv/\ps.length=done.length/\done.length<=3/\(∀p∈ps,p.ok)/\DQ S' d l) ⟨[],rfl,rfl,Nat.zero_le _,(fun z hz=>by cases hz),D1⟩ ?_ ?_ ?_
 ·rintro done ys S' ⟨ws,rfl,e,hd,_⟩
  exact⟨trivial,aV (by rw[List.length_map,e];omega)⟩
 ·rintro done x rest ys S' K e ⟨ps,rfl,e2,hd,hw,D'⟩ hK
  obtain⟨rfl,hi⟩:=cp (n:=3) e
  simp only[Tg.put,bV,List.reduceReplicate,List.map_cons,List.map_nil,List.cons_append,List.nil_append,List.set_cons_zero,bz,if_true,ai,cD,ad,ag,v3,lk,c3,List.getElem?_cons_zero,List.getElem?_cons_succ,Option.join]
  intro p hp
  simp only[aj,aa]
  obtain⟨v,hv,GV⟩:=jy (xs:=[PV.int 24,.int 12,.int 12]) (r:=(done.length:Int)) (by omega) (by simp only[List.length_cons,List.length_nil];omega)
  rw[hv]
  obtain⟨g,rfl,g0,g1⟩:∃g:Int,v = .int g/\4<=g/\g<=24:=by
   simp only[List.mem_cons,List.not_mem_nil,or_false]at GV
   rcases GV with rfl|rfl|rfl
   ·exact⟨24,rfl,by omega,by omega⟩
   ·exact⟨12,rfl,by omega,by omega⟩
   ·exact⟨12,rfl,by omega,by omega⟩
  dsimp only
  refine F4 (D'.new hp) g0 g1 fun cs mix k S2 P2 D2=>hK _ _ ⟨ps++[⟨cs,mix,k⟩],by simp[Pb.pv],by simp[e2],by rw[List.length_append];exact hi,fun y hy=>?_,D2⟩
  rcases List.mem_append.mp hy with hy|hy
  ·exact hw y hy
  ·rw[List.mem_singleton.mp hy];exact P2
 rintro ys S2 ⟨ps,rfl,e2,_,hps,D2⟩ pp hpp
 have e2:ps.length=3:=e2
 have f3:(Dd S2 pp (.lst (ps.map Pb.pv))) pp=some (.lst (ps.map Pb.pv)):=aa
 generalize Dd S2 pp (.lst (ps.map Pb.pv))=S3 at f3
 simp only[List.set_cons_succ,List.set_cons_zero]
 refine hN _ _ (ax fun N hN=>?_)
 simp only[am,aw,aO,v3,lk,cf,f3]
 refine bK (fun done ys S'=>ys.length=done.length/\done.length<=3/\(∀(i:Nat) (p:Pb) (v:PV),ps[i]?=some p->ys[i]?=some v->p.out v)/\Ext S3 S') ⟨rfl,Nat.zero_le _,(fun i p v _ h=>by simp at h),.refl⟩ ?_ ?_ ?_
 ·rintro done ys S' ⟨e,hd,_,X⟩
  exact⟨X _ _ f3,aV (by omega)⟩
 ·rintro done x rest ys S' K e ⟨l1,hd,ho,X⟩ hK
  have hget:(ps.map Pb.pv)[done.length]?=some x:=by rw[e];simp
  rw[List.getElem?_map]at hget
  obtain⟨p,hp,rfl⟩:=Option.map_eq_some_iff.mp hget
  have hlt:=(List.getElem?_eq_some_iff.mp hp).1
  simp only[Pb.pv,Tg.put,Tg.DV,bV,List.reduceReplicate,List.map_nil,List.append_nil,List.set_cons_zero,List.set_cons_succ,bz,if_true,ad,ag,v3,lk]
  refine E8 (hps p (List.mem_of_getElem? hp)) fun v S4 X4 o4=>hK _ _ ⟨by simp[l1],by rw[List.length_append,List.length_singleton];omega,fun i p' v' h1 h2=>?_,X.trans X4⟩
  by_cases hi:i < ys.length
  ·rw[List.getElem?_append_left hi]at h2
   exact ho i p' v' h1 h2
  ·have hi2:i=ys.length:=by
    have:=(List.getElem?_eq_some_iff.mp h2).1
    rw[List.length_append,List.length_singleton]at this
    omega
   subst hi2
   rw[List.getElem?_append_right (Nat.le_refl _),Nat.sub_self]at h2
   rw[l1,hp]at h1
   cases h1;cases h2
   exact o4
 rintro vs S4 ⟨l4,_,ho,X4⟩ pv LF
 rw[List.length_map,e2]at l4
 have f5:(Dd S4 pv (.lst vs)) pp=some (.lst (ps.map Pb.pv)):=(X4.trans (.new LF)) _ _ f3
 have g5:(Dd S4 pv (.lst vs)) pv=some (.lst vs):=aa
 generalize Dd S4 pv (.lst vs)=S5 at f5 g5
 simp only[List.set_cons_succ,List.set_cons_zero]
 refine hN _ _ (ax fun N hN=>?_)
 simp only[bU,gr,v3,lk,f5,g5]
 refine bp (fun done σ S'=>Ext S5 S'/\∃x3 x4 x6,σ=[some (.cl (ns.map PV.int)),some (.ref d),some (.ref pp),x3,x4,some (.ref pv),x6]) ⟨.refl,_,_,_,rfl⟩ (fun _ _ _ ⟨X,_⟩=>⟨X _ _ f5,X _ _ g5⟩) ?_ ?_
 ·rintro done x rest σ S6 K e ⟨X6,x3,x4,x6,rfl⟩ hK
  have hget:(aL (ps.map Pb.pv) vs)[done.length]?=some x:=by rw[e];simp
  unfold aL at hget
  rw[List.getElem?_map]at hget
  obtain⟨⟨u,v⟩,hz,rfl⟩:=Option.map_eq_some_iff.mp hget
  obtain⟨h1,h2⟩:=List.getElem?_zip_eq_some.mp hz
  rw[List.getElem?_map]at h1
  obtain⟨p,hp,rfl⟩:=Option.map_eq_some_iff.mp h1
  simp only[Pb.pv,Tg.put,Tg.DV,List.set_cons_zero,List.set_cons_succ,cj,cU,a8,ad,ag,v3,lk,br]
  refine FD (hps p (List.mem_of_getElem? hp)) (ho _ p v hp h2) fun S7 X7=>?_
  simp only[Bool.not_true,Bool.false_eq_true,if_false]
  exact hK _ _ ⟨X6.trans X7,_,_,_,rfl⟩
 ·rintro σ S6 ⟨X6,x3,x4,x6,rfl⟩
  refine hN _ _ ?_
  obtain⟨p0,pr,rfl⟩:=List.exists_cons_of_ne_nil (show ps≠[] from fun e=>by rw[e]at e2;cases e2)
  obtain⟨v0,vr,rfl⟩:=List.exists_cons_of_ne_nil (show vs≠[] from fun e=>by rw[e]at l4;cases l4)
  have o0:p0.out v0:=ho 0 p0 v0 rfl rfl
  have JX:p0.ok:=hps p0 (by simp)
  have f6:=X6 _ _ f5
  simp only[ap,ai,ad,ag,v3,lk,c3,aj,f6,List.map_cons,gL,mU,Pb.pv]
  refine E8 JX fun v S7 X7 o7=>?_
  have g7:=X7 _ _ (X6 _ _ g5)
  simp only[g7,gL]
  rw[show v=v0 from Out.one JX o7 o0]
  exact zc JX o0 (k S7)
def mf:eO cA:=Dg
def wY:jx cX:=Fi
def uu:vR cX:=vS wY
def mh:jo dh:=qZ uu
def nB:jB iu:=ow
def mj:jn cW:=tI nB
def uv:pJ md:=tK mj
def A4:lS cr:=F9 nB
def uw:ip cL:=E6 FW
def ux:iq bS:=E7 mj
def A5:i8 fj:=t9 A4 FU FV F0 uw Fx
def wl:i_ gU:=Fy (tP tM) uv (q9 (vT uv) (qY mj))
def wm:ja jb:=E8 A5 FX (FZ FY) (Gn ux) uw (F1 A4 mj wl ux)
def wZ:jD bH:=Fz uu
def uy:ir a9:=Ew wZ
def p_:eR cZ:=we mh
def uz:iy b_:=Fa p_
def uA:ft cM:=rm mh
def wn:jc fm:=FD (rn uy uz uA) (rq uy wZ (FC p_) uz uA p_ (Fm mh p_))
def uB:iz b9:=Fb mf wY
def ze:kh dR:=F4 mf uB (Gr mf uB (Gq mf))
def uC:∀ns:List Int,ns.length<=63->nA [.cl (ns.map PV.int)] (fun _=>none) (fun v _=>v = .bl true) ga:=fun ns h=>zd FR ze wm wn h fun _=>rfl
end G34
namespace L3
open PySem L2 Xc
def zf{P:List Value->Prop}(h:∀a,P [a])(us:Vv)(hl:us.length=1):P us:=match us,hl with|[_],_=>h _
def ml{P:List Value->Prop}(h:∀a b,P [a,b])(us:Vv)(hl:us.length=2):P us:=match us,hl with|[_,_],_=>h _ _
def rE{P:List Value->Prop}(h:∀a b c,P [a,b,c])(us:Vv)(hl:us.length=3):P us:=match us,hl with|[_,_,_],_=>h _ _ _
def A6{P:List Value->Prop}(h:∀a b c d,P [a,b,c,d])(us:Vv)(hl:us.length=4):P us:=match us,hl with|[_,_,_,_],_=>h _ _ _ _
section
variable {K:Vo} {h:Heap} {mg:Vr} {x c m q:Str} {st:Stmt} {ps fl:Vs}
noncomputable def rB:Option (Option Value)->Bool
 |some none=>true
 |_=>false
def qc{o:Option (Option Value)}(h:rB o=true):o=some none:=by
 unfold rB at h;split at h
 ·rfl
 ·cases h
def FnAt(K:Vo)(f:Addr)(m q:Str)(st:Stmt):Prop:=∃(oc kV doc pm cdv ct:Value) (od an:Option Addr) (osl:Array (Option Value)),
 K.lookup f=some ⟨oc,od,.func (PySem.W.fnOf m q (dy st) (bO st) (aK st) .none kV doc pm an cdv ct),osl⟩/\PySem.W.codeIn K cdv q=true/\PySem.W.keepIn K (.ref f)=true
abbrev qd(m q:Str)(st:Stmt)(ps:Vs):Prop:=∀(kV doc pm:Value) (an:Option Addr) (cdv ct:Value) (us:Vv),us.length=ps.length->bindArgs (PySem.W.fnOf m q (dy st) (bO st) (aK st) .none kV doc pm an cdv ct) ⟨us,[]⟩=pure (ps.zip us)
def FnAt.mk{f:Addr}(a:FnAt K f m q st)(hb:qd m q st ps):∃fd,G3 K m q st f fd/\Binds K fd ps []/\PySem.W.keepIn K (.ref f)=true:=by
 obtain⟨oc,kV,doc,pm,cdv,ct,od,an,osl,l,cc,k⟩:=a
 exact⟨_,lA l cc k,(lA l cc k).binds hb,k⟩
def Ev(K:Vo)(x:Str)(st:Stmt):Prop:=∃f,PySem.W.nsIn K mainGlobals x=some (some (.ref f))/\FnAt K f x x st
def Ev.own(X:K.In h)(G:h.Ns mainGlobals mg)(a:Ev K x st)(hb:qd x x st ps):bL K mg x st ps:=by
 obtain⟨f,n,a⟩:=a
 obtain⟨fd,F,b,k⟩:=a.mk hb
 exact⟨f,fd,F,b,k,PySem.W.mg_of X G n⟩
def Ev.law{fa:Addr}(X:K.In h)(G:h.Ns mainGlobals mg)(a:Ev K x st)(hfa:mg x=some (.ref fa))(hb:qd x x st ps):∃kV doc pm an cdv ct,Bj K mg x st ps fa (PySem.W.fnOf x x (dy st) (bO st) (aK st) .none kV doc pm an cdv ct):=by
 obtain⟨f,n,oc,kV,doc,pm,cdv,ct,od,an,osl,l,cc,k⟩:=a
 cases hfa.symm.trans (PySem.W.mg_of X G n)
 exact⟨kV,doc,pm,an,cdv,ct,lA l cc k,(lA l cc k).binds hb,k,hfa⟩
def Ja(K:Vo)(c:Str)(fl:Vs):Prop:=∃C,PySem.W.nsIn K mainGlobals c=some (some (.ref C))/\PySem.W.findIn K (.ref C) "__setattr__" = some (some (.builtin "object.__setattr__"))/\PySem.W.keepIn K (.ref C)=true/\
 (PySem.W.plainGet K C Str.empty&&PySem.W.hasDictIn K C&&PySem.W.plainOver K C&&PySem.W.makesIn K C&&fl.all fun f=>rB (PySem.W.findIn K (.ref C) f))=true
def Ja.cl(X:K.In h)(G:h.Ns mainGlobals mg)(a:Ja K c fl):zp K mg c fl:=by
 obtain⟨C,n,s,k,r⟩:=a
 simp only[Bool.and_eq_true,List.all_eq_true]at r
 obtain⟨⟨⟨⟨r1,r2⟩,r3⟩,r4⟩,r5⟩:=r
 exact⟨C,n,PySem.W.mg_of X G n,⟨r1,r2,r3,s⟩,r4,k,fun f hf=>qc (r5 f hf)⟩
def Hc(K:Vo)(c m q:Str)(st:Stmt):Prop:=∃C f,PySem.W.nsIn K mainGlobals c=some (some (.ref C))/\PySem.W.findIn K (.ref C) m=some (some (.ref f))/\PySem.W.isFn K (.ref f)=true/\FnAt K f m q st
def Hc.own(a:Hc K c m q st)(k:zp K mg c fl)(hb:qd m q st ps):mX K c m q st ps:=by
 obtain⟨C,f,n,e,i,a⟩:=a
 obtain⟨fd,F,b,kp⟩:=a.mk hb
 obtain⟨C',n',_,cl,_⟩:=k.ex
 cases ClsN.inj (c:=c) n n'
 exact⟨C,f,fd,n,cl,⟨e,i,kp⟩,F,b⟩
def gY(X:K.In h)(G:h.Ns mainGlobals mg){l:Vs}(a:(l.all fun x=>rB (PySem.W.nsIn K mainGlobals x))=true)(hx:x∈l:=by decide):mg x=none:=PySem.W.mg_none_of X G (qc (List.all_eq_true.mp a x hx))
section
variable {f C:Addr} {oc kV doc pm cdv ct:Value} {od an:Option Addr} {osl:Array (Option Value)}
def C9(n:PySem.W.nsIn K mainGlobals x=some (some (.ref f)))(l:K.lookup f=some ⟨oc,od,.func (PySem.W.fnOf x x (dy st) (bO st) (aK st) .none kV doc pm an cdv ct),osl⟩)(cc:PySem.W.codeIn K cdv x=true)(k:PySem.W.keepIn K (.ref f)=true):Ev K x st:=⟨f,n,oc,kV,doc,pm,cdv,ct,od,an,osl,l,cc,k⟩
def C_(n:PySem.W.nsIn K mainGlobals c=some (some (.ref C)))(e:PySem.W.findIn K (.ref C) m=some (some (.ref f)))(i:PySem.W.isFn K (.ref f)=true)(l:K.lookup f=some ⟨oc,od,.func (PySem.W.fnOf m q (dy st) (bO st) (aK st) .none kV doc pm an cdv ct),osl⟩)(cc:PySem.W.codeIn K cdv q=true)(k:PySem.W.keepIn K (.ref f)=true):Hc K c m q st:=⟨C,f,n,e,i,oc,kV,doc,pm,cdv,ct,od,an,osl,l,cc,k⟩
def Db(n:PySem.W.nsIn K mainGlobals c=some (some (.ref C)))(e:PySem.W.findIn K (.ref C) "__setattr__" = some (some (.builtin "object.__setattr__")))(k:PySem.W.keepIn K (.ref C)=true)
  (r:(PySem.W.plainGet K C Str.empty&&PySem.W.hasDictIn K C&&PySem.W.plainOver K C&&PySem.W.makesIn K C&&fl.all fun f=>rB (PySem.W.findIn K (.ref C) f))=true):Ja K c fl:=⟨C,n,e,k,r⟩
end
end
section
variable {K:Vo} {h:Heap} {mg:Vr} {x:Str} {st:Stmt} {ps:Vs}
end
end L3
namespace G34
open PySem L2 L3
def zg{l:PySem.W.OpenLaw}{w:World}{K:Vo}{h:Heap}{mg:Vr}{fa:Addr}(X:K.In h)(G:h.Ns mainGlobals mg)(hfa:mg "law" = some (.ref fa))
  (EZ:Ev K "common" (bN 1))
  (Ex:Ev K "fraction" (bN 2))
  (FE:Ev K "plus" (bN 3))
  (Fn:Ev K "times" (bN 4))
  (FF:Ev K "less" (bN 5))
  (EK:Ev K "highest" (bN 6))
  (Ey:Ev K "together" (bN 7))
  (Ez:Ev K "worth_of" (bN 8))
  (DU:Ev K "common_bottom" (bN 10))
  (Ee:Ev K "row_of_deed" (bN 11))
  (El:Ev K "row_of_jar" (bN 12))
  (EL:Ev K "without" (bN 13))
  (Dw:Hc K "Balance" "__init__" "Balance.__init__" (mt 14 0))
  (DZ:Hc K "Balance" "hold" "Balance.hold" (mt 14 1))
  (DC:Hc K "Balance" "gaining" "Balance.gaining" (mt 14 2))
  (DK:Hc K "Balance" "sooner" "Balance.sooner" (mt 14 3))
  (DD:Hc K "Balance" "used_up" "Balance.used_up" (mt 14 4))
  (DE:Hc K "Balance" "held_by" "Balance.held_by" (mt 14 5))
  (Em:Ev K "balance_of" (bN 15))
  (Dj:Ev K "first_that_takes_nothing" (bN 16))
  (EA:Ev K "price_of" (bN 17))
  (EM:Ev K "endless" (bN 18))
  (FG:Ev K "most" (bN 19))
  (EN:Ev K "weighed" (bN 20))
  (Er:Ev K "_law_deal" (bN 22))
  (Es:Ev K "_law_draw" (bN 23))
  (EB:Ev K "_law_low" (bN 24))
  (Eu:Ev K "_law_plus" (bN 25))
  (DM:Ev K "_law_fine_cost" (bN 26))
  (Ef:Ev K "_law_effect" (bN 27))
  (Eg:Ev K "_law_column" (bN 28))
  (D0:Ev K "_law_columns" (bN 29))
  (Dx:Ev K "_law_is_fraction" (bN 30))
  (Do:Ev K "_law_are_from_nought" (bN 31))
  (EC:Ev K "_law_sum" (bN 32))
  (D_:Ev K "_law_cost_of" (bN 33))
  (DN:Ev K "_law_jars_hold" (bN 34))
  (DF:Ev K "_law_deeds_hold" (bN 35))
  (Dy:Ev K "_law_prices_hold" (bN 36))
  (Dr:Ev K "_law_endless_right" (bN 37))
  (DG:Ev K "_law_most_right" (bN 38))
  (Eo:Ev K "_law_right" (bN 39))
  (Dl:Ja K "Balance" ["rows","held","bottom"])
  (Gc:((["abs","all","any","bool","enumerate","int","isinstance","len","list","max","min","range","reversed","tuple","zip"]:Vs).all fun x=>rB (PySem.W.nsIn K mainGlobals x))=true)
  (GW:Ev K "law" (bN 40))
  : ∃fd:FuncData,(∀(s:Shared) (v:Value),BindsTo s fd ⟨[v],[]⟩ [("_law_script",v)])/\∀base:Heap,K.In base->base.Ns mainGlobals mg->iC l.prog w K mg base wy 9 fa fd ["_law_script"] (At K 1 nA):=by
 obtain⟨kV,doc,pm,an,cdv,ct,O⟩:=GW.law X G hfa (ps:=["_law_script"]) (fun _ _ _ _ _ _=>zf fun _=>rfl)
 exact⟨_,fun s v=>.of_eq rfl,fun base _ _=>(y_ (P:=l.prog) (w:=w) (base:=base) ⟨EZ.own X G (fun _ _ _ _ _ _=>ml fun _ _=>rfl),
  Ex.own X G (fun _ _ _ _ _ _=>ml fun _ _=>rfl),
  FE.own X G (fun _ _ _ _ _ _=>ml fun _ _=>rfl),
  Fn.own X G (fun _ _ _ _ _ _=>ml fun _ _=>rfl),
  FF.own X G (fun _ _ _ _ _ _=>ml fun _ _=>rfl),
  EK.own X G (fun _ _ _ _ _ _=>zf fun _=>rfl),
  Ey.own X G (fun _ _ _ _ _ _=>zf fun _=>rfl),
  Ez.own X G (fun _ _ _ _ _ _=>ml fun _ _=>rfl),
  DU.own X G (fun _ _ _ _ _ _=>zf fun _=>rfl),
  Ee.own X G (fun _ _ _ _ _ _=>A6 fun _ _ _ _=>rfl),
  El.own X G (fun _ _ _ _ _ _=>rE fun _ _ _=>rfl),
  EL.own X G (fun _ _ _ _ _ _=>A6 fun _ _ _ _=>rfl),
  Dw.own (mg:=mg) (Dl.cl X G) (fun _ _ _ _ _ _=>rE fun _ _ _=>rfl),
  DZ.own (mg:=mg) (Dl.cl X G) (fun _ _ _ _ _ _=>rE fun _ _ _=>rfl),
  DC.own (mg:=mg) (Dl.cl X G) (fun _ _ _ _ _ _=>zf fun _=>rfl),
  DK.own (mg:=mg) (Dl.cl X G) (fun _ _ _ _ _ _=>A6 fun _ _ _ _=>rfl),
  DD.own (mg:=mg) (Dl.cl X G) (fun _ _ _ _ _ _=>ml fun _ _=>rfl),
  DE.own (mg:=mg) (Dl.cl X G) (fun _ _ _ _ _ _=>A6 fun _ _ _ _=>rfl),
  Em.own X G (fun _ _ _ _ _ _=>rE fun _ _ _=>rfl),
  Dj.own X G (fun _ _ _ _ _ _=>ml fun _ _=>rfl),
  EA.own X G (fun _ _ _ _ _ _=>rE fun _ _ _=>rfl),
  EM.own X G (fun _ _ _ _ _ _=>rE fun _ _ _=>rfl),
  FG.own X G (fun _ _ _ _ _ _=>rE fun _ _ _=>rfl),
  EN.own X G (fun _ _ _ _ _ _=>ml fun _ _=>rfl),
  Er.own X G (fun _ _ _ _ _ _=>ml fun _ _=>rfl),
  Es.own X G (fun _ _ _ _ _ _=>ml fun _ _=>rfl),
  EB.own X G (fun _ _ _ _ _ _=>ml fun _ _=>rfl),
  Eu.own X G (fun _ _ _ _ _ _=>ml fun _ _=>rfl),
  DM.own X G (fun _ _ _ _ _ _=>zf fun _=>rfl),
  Ef.own X G (fun _ _ _ _ _ _=>rE fun _ _ _=>rfl),
  Eg.own X G (fun _ _ _ _ _ _=>A6 fun _ _ _ _=>rfl),
  D0.own X G (fun _ _ _ _ _ _=>ml fun _ _=>rfl),
  Dx.own X G (fun _ _ _ _ _ _=>zf fun _=>rfl),
  Do.own X G (fun _ _ _ _ _ _=>ml fun _ _=>rfl),
  EC.own X G (fun _ _ _ _ _ _=>ml fun _ _=>rfl),
  D_.own X G (fun _ _ _ _ _ _=>ml fun _ _=>rfl),
  DN.own X G (fun _ _ _ _ _ _=>ml fun _ _=>rfl),
  DF.own X G (fun _ _ _ _ _ _=>rE fun _ _ _=>rfl),
  Dy.own X G (fun _ _ _ _ _ _=>rE fun _ _ _=>rfl),
  Dr.own X G (fun _ _ _ _ _ _=>ml fun _ _=>rfl),
  DG.own X G (fun _ _ _ _ _ _=>rE fun _ _ _=>rfl),
  Eo.own X G (fun _ _ _ _ _ _=>rE fun _ _ _=>rfl),
  Dl.cl X G,
  gY (x:="abs") X G Gc,
  gY (x:="all") X G Gc,
  gY (x:="any") X G Gc,
  gY (x:="bool") X G Gc,
  gY (x:="enumerate") X G Gc,
  gY (x:="int") X G Gc,
  gY (x:="isinstance") X G Gc,
  gY (x:="len") X G Gc,
  gY (x:="list") X G Gc,
  gY (x:="max") X G Gc,
  gY (x:="min") X G Gc,
  gY (x:="range") X G Gc,
  gY (x:="reversed") X G Gc,
  gY (x:="tuple") X G Gc,
  gY (x:="zip") X G Gc⟩ O).ok⟩
def walk{l:PySem.W.OpenLaw}{q:Program}{loose:Vs}{XP:(Vr)->Heap->Prop}{YP:World->Heap->Prop}{d:DefRec}{K:Params->PySem.W.Frag}(hn:l.most=some 63)(hdf:d.params.defaults=[])
  (hY:∀(w:World) (h:Heap),YP w h->(K w.params).In h)
  (F:∀(w:World) (mg:Vr) (fa:Addr) (h:Heap),(K w.params).In h->h.Ns mainGlobals mg->mg d.name=some (.ref fa)->
   ∃fd:FuncData,(∀(s:Shared) (u:Value),BindsTo s fd ⟨[u],[]⟩ [("_law_script",u)])/\∀base:Heap,(K w.params).In base->base.Ns mainGlobals mg->iC l.prog w (K w.params) mg base wy 9 fa fd ["_law_script"] (At (K w.params) 1 nA)) :
  PySem.W.WalkO q loose XP YP l.row.toRowW d [] (fun f vs=>PySem.call f vs):=
 L2.vm (n:=63) (k:=9) (x:="_law_script") (CX:=fun _=>wy) (sp:=fun w=>At (K w.params) 1 nA) hn (by decide) hdf ⟨rfl,by decide,by decide,rfl⟩ hY F (fun _ _ a ns hl hO hS=>B_ hO hS (uC ns hl)) fun _ _ _ _ _ z=>z
end G34
local macro_rules | `(tactic| walk_at "k")=>`(tactic| (apply L3.C9; k_is; k_is; k_is; k_is))
local macro_rules | `(tactic| walk_at "m")=>`(tactic| (apply L3.C_; k_is; k_is; k_is; k_is; k_is; k_is))
local macro_rules | `(tactic| walk_at "c")=>`(tactic| (apply L3.Db; k_is; k_is; k_is; kernel_rfl))
open PySem PySem.W PyProof.Rows
set_option maxRecDepth 100000 in
set_option maxHeartbeats 0 in
theorem PySem.Challenge.cw_dueworth_k34_columns_weighed_holds : PySem.Challenge.rw_dueworth_k34_columns_weighed.Holds := by
 w_on; refine holds_law E34.said fun said => ?_
 refine holds_open (q := E34.vw) (loose := []) (Xt := fun s => (xlAt E34.vw [] s && recOk (RowW.records E34.rr) s)) (XP := XL E34.vw []) (N := 3130)
  (Yf := Hook.obs E34.hk) (Ya := Hook.val E34.hk) (YP := Hook.says (kHook E34.early.heap_1 E34.as E34.Cv)) E34.left (Hook.of E34.hk) (Hook.keeps E34.hk) (fun s e => xl_of s (Bool.and_eq_true_iff.mp e).1)
  XL.keeps rfl rfl rfl (fun s e => recFacts_of (Bool.and_eq_true_iff.mp e).2) rfl (by assumption)
  (by decide +kernel) ⟨rfl, rfl, rfl, rfl, rfl, by decide +kernel⟩ ?hw ?hc
 (case hw => w_witness2)
 k_fill
 refine G34.walk (l := PySem.Challenge.rw_dueworth_k34_columns_weighed) rfl rfl (fun w h Y => PySem.W.kIn_of Y) ?F
 case F =>
  intro w mg fa h KX G hmg
  refine' G34.zg KX G hmg ?EZ ?Ex ?FE ?Fn ?FF ?EK ?Ey ?Ez ?DU ?Ee ?El ?EL ?Dw ?DZ ?DC ?DK ?DD ?DE ?Em ?Dj ?EA ?EM ?FG ?EN ?Er ?Es ?EB ?Eu ?DM ?Ef ?Eg ?D0 ?Dx ?Do ?EC ?D_ ?DN ?DF ?Dy ?Dr ?DG ?Eo ?Dl ?Gc ?GW
  (case EZ => walk_at "k")
  (case Ex => walk_at "k")
  (case FE => walk_at "k")
  (case Fn => walk_at "k")
  (case FF => walk_at "k")
  (case EK => walk_at "k")
  (case Ey => walk_at "k")
  (case Ez => walk_at "k")
  (case DU => walk_at "k")
  (case Ee => walk_at "k")
  (case El => walk_at "k")
  (case EL => walk_at "k")
  (case Dw => walk_at "m")
  (case DZ => walk_at "m")
  (case DC => walk_at "m")
  (case DK => walk_at "m")
  (case DD => walk_at "m")
  (case DE => walk_at "m")
  (case Em => walk_at "k")
  (case Dj => walk_at "k")
  (case EA => walk_at "k")
  (case EM => walk_at "k")
  (case FG => walk_at "k")
  (case EN => walk_at "k")
  (case Er => walk_at "k")
  (case Es => walk_at "k")
  (case EB => walk_at "k")
  (case Eu => walk_at "k")
  (case DM => walk_at "k")
  (case Ef => walk_at "k")
  (case Eg => walk_at "k")
  (case D0 => walk_at "k")
  (case Dx => walk_at "k")
  (case Do => walk_at "k")
  (case EC => walk_at "k")
  (case D_ => walk_at "k")
  (case DN => walk_at "k")
  (case DF => walk_at "k")
  (case Dy => walk_at "k")
  (case Dr => walk_at "k")
  (case DG => walk_at "k")
  (case Eo => walk_at "k")
  (case Dl => walk_at "c")
  (case Gc => kernel_rfl)
  (case GW => walk_at "k")
#print axioms PySem.Challenge.cw_dueworth_k34_columns_weighed_holds
