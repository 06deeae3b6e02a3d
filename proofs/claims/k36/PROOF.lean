import PyProof.Rows.All
import Wide.All
import OpenK.AllK
import Wide.FinOn
import Lean
import PyProof.EqAt
import PyProof.EqKinds
import PyProof.TupleCall
import PySem.Challenge.RW_dueworth_k36_planted_sums
import Open.Tree
import Open.Head
section
set_option Elab.async false
set_option linter.all false
set_option maxRecDepth 100000
set_option maxHeartbeats 0
namespace ET
open PySem PySem.W PyProof.Rows
def gh(tb:String→Option Builtin)(p:Program)(w:World)(n₀:Nat)(ann:Option Value):Nat→SharedT→Thread→Option SharedT
 |0,_,_=>none
 |n+1,s,t=>match through t with
  |true=>some s
  |false=>match stepOk n₀ ann t with
   |false=>none
   |true=>match stepT (denote tb) p w s t with
    |some x=>gh tb p w n₀ ann n x.1 x.2
    |none=>none
theorem jJ{tb:String→Option Builtin}{p:Program}{w:World}{n₀:Nat}{ann:Option Value}:∀{n:Nat} {s s':SharedT} {t:Thread},gh tb p w n₀ ann n s t=some s'→topRun tb p w n₀ ann n s.abs t=some s'.abs
 |0,_,_,_,h=>by cases h
 |n+1,s,s',t,h=>by
  unfold gh at h
  unfold topRun
  cases he:through t with
  |true=>rw[he]at h;cases h;rfl
  |false=>
   rw[he]at h
   cases hk:stepOk n₀ ann t with
   |false=>rw[hk]at h;cases h
   |true=>
    rw[hk]at h
    cases hs:stepT (denote tb) p w s t with
    |none=>rw[hs]at h;cases h
    |some r=>rw[hs]at h;rw[stepT_spec hs];exact jJ h
def yM:List Obj→BT→Nat→Option (BT×Nat)
 |[],t,n=>some (t,n)
 |o::os,t,n=>match ((t.ins n o).get n).isSome with
  |true=>yM os (t.ins n o) (n+1)
  |false=>none
theorem nQ{life:Life}:∀{os:List Obj} {t t':BT} {n n':Nat},yM os t n=some (t',n')→absHeap t' n' life=⟨(absHeap t n life).objs++os.toArray,life⟩
 |[],t,t',n,n',h=>by cases h;simp[absHeap]
 |o::os,t,t',n,n',h=>by
  unfold yM at h
  cases g:((t.ins n o).get n).isSome with
  |false=>rw[g]at h;cases h
  |true=>
   rw[g]at h
   rw[nQ h,absHeap_ins g]
   simp[Heap.push]
def gj(tb:String→Option Builtin)(p:Program)(w:World)(N:Nat)(s₀:Shared):Option Shared:=
 match s₀.heap.isNs mainGlobals&&s₀.gens.size == 0 with
 |true=>match yM s₀.heap.objs.toList .nil 0 with
  |some x=>match gh tb p w x.2 (s₀.heap.nsMap mainGlobals "__annotations__") N ⟨x.1,x.2,s₀.heap.life,s₀.gens,s₀.drawn,s₀.toks,s₀.os⟩ (topStub p)with
   |some s=>match staticsOk (importedModules p.main.body) s₀.heap s.abs.heap&&namesBound p s.abs.heap&&gensDone s.abs&&laidKept s₀.heap s.abs.heap with
    |true=>some s.abs
    |false=>none
   |none=>none
  |none=>none
 |false=>none
theorem mm{tb:String→Option Builtin}{p:Program}{w:World}{N:Nat}{s₀ s:Shared}(h:gj tb p w N s₀=some s):topFrom tb p w N s₀=some s:=by
 unfold gj at h
 unfold topFrom
 cases h1:s₀.heap.isNs mainGlobals&&s₀.gens.size == 0 with
 |false=>rw[h1]at h;cases h
 |true=>
  rw[h1]at h
  dsimp only at h ⊢
  cases h2:yM s₀.heap.objs.toList .nil 0 with
  |none=>rw[h2]at h;cases h
  |some x=>
   rw[h2]at h
   dsimp only at h
   have e:=nQ (life:=s₀.heap.life) h2
   have e':absHeap x.1 x.2 s₀.heap.life=s₀.heap:=by
    rw[e]
    simp[absHeap,BT.list]
   have n':x.2=s₀.heap.objs.size:=by rw[←e',absHeap_size]
   cases h3:gh tb p w x.2 (s₀.heap.nsMap mainGlobals "__annotations__") N ⟨x.1,x.2,s₀.heap.life,s₀.gens,s₀.drawn,s₀.toks,s₀.os⟩ (topStub p)with
   |none=>rw[h3]at h;cases h
   |some r=>
    rw[h3]at h
    dsimp only at h
    have ea:SharedT.abs ⟨x.1,x.2,s₀.heap.life,s₀.gens,s₀.drawn,s₀.toks,s₀.os⟩=s₀:=by
     unfold SharedT.abs
     rw[e']
    have:=jJ h3
    rw[ea,n']at this
    rw[this]
    exact h
theorem mq{tb:String→Option Builtin}{p:Program}{w:World}{N:Nat}{s₀:Shared}{α:Type}{f:Shared→α}{a:α}(h:Option.map f (gj tb p w N s₀)=some a):Option.map f (topFrom tb p w N s₀)=some a:=by
 obtain⟨s,h1,h2⟩:=Option.map_eq_some_iff.mp h
 rw[mm h1]
 exact congrArg some h2
def seenT(p q:Program)(loose:List Str)(Xt:Shared→Bool){α:Type}(Yf:Shared→α)(N:Nat)(u u':World):=
 Option.map (fun c=>Option.map (fun s=>(openSeen q loose (importedModules p.main.body) Xt true s,Yf s)) (gj treeTable p u' N c)) (fencedOpening treeTable p u N)
lay_quick seenT
theorem tK{p q:Program}{loose:List Str}{Xt:Shared→Bool}{α:Type}{Yf:Shared→α}{N:Nat}{u u':World}{r}(h:PySem.W.Fast.tw2787559817927863336 p q loose Xt Yf N u u'=r):seenT p q loose Xt Yf N u u'=r:=by
 rw[PySem.W.Fast.te2787559817927863336]
 exact h
theorem tL{p q:Program}{loose:List Str}{Xt:Shared→Bool}{α:Type}{Yf:Shared→α}{Ya:World→α}{N:Nat}
  (h:∀u:World,seenT p q loose Xt Yf N u u=some (some (openGood q loose,Ya u))):LeftO p q loose Xt Yf Ya N:=fun u=>by
 obtain⟨c,a,b⟩:=Option.map_eq_some_iff.mp (h u)
 unfold openEnds
 rw[a]
 exact mq b
theorem yN{p q:Program}{loose:List Str}{Xt:Shared→Bool}{α:Type}{Yf:Shared→α}{Ya:World→α}{N:Nat}(row:String)
  (h0:∀u:World,seenT p q loose Xt Yf N u (u.withFollow row false)=some (some (openGood q loose,Ya (u.withFollow row false))))
  (h1:∀u:World,seenT p q loose Xt Yf N u (u.withFollow row true)=some (some (openGood q loose,Ya (u.withFollow row true)))):LeftO p q loose Xt Yf Ya N:=fun u=>by
 obtain⟨c,a,b⟩:=Option.map_eq_some_iff.mp (h0 u)
 obtain⟨c',a',b'⟩:=Option.map_eq_some_iff.mp (h1 u)
 have hc:c'=c:=by rw[a]at a';cases a';rfl
 subst hc
 have b:=mq b
 have b':=mq b'
 have hu:=World.withFollow_self u row
 unfold openEnds
 rw[a]
 cases hb:u.params.followText row<;>rw[hb]at hu
 ·rw[hu]at b
  exact b
 ·rw[hu]at b'
  exact b'
end ET
namespace E36
open PySem PySem.W PyProof.Rows
abbrev tp(i:Nat):Stmt:=PySem.Challenge.pw_dueworth_k36_planted_sums.main.body.getD i (.Pass ⟨0,0,0,0⟩)
/-- the text without what says nothing -/
def vw:Program:={ PySem.Challenge.pw_dueworth_k36_planted_sums with main:={ PySem.Challenge.pw_dueworth_k36_planted_sums.main with body:=[tp 1,tp 2,tp 3,tp 4,tp 5,tp 6,tp 7,tp 8,tp 10,tp 11,tp 12,tp 13,tp 14,tp 15,tp 16,tp 17,tp 18,tp 19,tp 20,tp 22,tp 23,tp 24,tp 25,tp 26,tp 27,tp 28,tp 29,tp 30,tp 31,tp 32] } }
abbrev rr:RowW:=OpenRow.toRowW (OpenLaw.row PySem.Challenge.rw_dueworth_k36_planted_sums)
local macro_rules | `(tactic| o_head $H)=>`(tactic|
 refine holds_open (q:=vw) (loose:=[]) (Xt:=fun s=>(xlAt vw [] s&&recOk (RowW.records rr) s)) (XP:=XL vw []) (N:=2632)
  (Yf:=Hook.obs $H) (Ya:=Hook.val $H) (YP:=Hook.says $H) ?hl (Hook.of $H) (Hook.keeps $H) (fun s e=>xl_of s (Bool.and_eq_true_iff.mp e).1)
  XL.keeps rfl rfl rfl (fun s e=>recFacts_of (Bool.and_eq_true_iff.mp e).2) rfl (by assumption)
  (by decide +kernel) ⟨rfl,rfl,rfl,rfl,rfl,by decide +kernel⟩ ?hw ?hc)
/-- the law is well said: by the quick twin of the look,with no twin of the program -/
theorem said:OpenLaw.wellSaid PySem.Challenge.rw_dueworth_k36_planted_sums=true:=(congrFun PySem.W.Fast.te9446332074065402090 _).trans (by kernel_rfl)
/-- says nothing; what lies in the heap is written down by the way -/
theorem early(h:∀P:Prop,P):PySem.Challenge.rw_dueworth_k36_planted_sums.Holds:=by
 w_on;refine holds_law said fun said=>?_;k_head
 all_goals exact h _
abbrev as:List Addr:=[2,3,15,17,18,20,21,22,24,25,27,28,29,31,32,34,35,36,38,39,41,42,43,45,46,48,49,50,52,53,55,56,57,59,60,62,63,64,67,68,69,71,72,74,75,76,79,80,81,84,85,86,89,90,98,100,101,103,104,105,108,109,110,112,113,115,116,117,119,120,122,123,124,126,127,129,130,131,133,134,136,137,138,139,140,141,142,145,148,149,150,153,154,155,158,159,160,162,163,165,166,167,170,171,172,174,175,177,178,179,182,183,184,186,187,189,190,191,193,194,196,197,198,200,201,203,204,205,207,208,210,211,212,214,215,217,218,219,222,223,224,227,228,229,232,233,234,237,238,239,242,243]
theorem BY(P:Params):as=(early.heap_1 P).map (·.1):=by kernel_rfl
noncomputable abbrev hk:Hook:=kHook early.heap_1 as BY
theorem yO(u:World):ET.seenT (OpenLaw.row PySem.Challenge.rw_dueworth_k36_planted_sums).prog vw [] (fun s=>(xlAt vw [] s&&recOk (RowW.records rr) s)) (Hook.obs hk) 2632 u u=some (some (openGood vw [],Hook.val hk u)):=ET.tK (by kernel_rfl)
theorem left:LeftO (OpenLaw.row PySem.Challenge.rw_dueworth_k36_planted_sums).prog vw [] (fun s=>(xlAt vw [] s&&recOk (RowW.records rr) s)) (Hook.obs hk) (Hook.val hk) 2632:=ET.tL yO
end E36
end
open PySem in
abbrev Vq:=Value->Shared->Prop
open PySem in
abbrev Va:=List (Addr×Obj)
open PySem in
abbrev Vo:=PySem.W.Frag
open PySem in
abbrev Vr:=Str->Option Value
open PySem in
abbrev Vs:=List Str
open PySem in
abbrev Vu:=List Int
open PySem in
abbrev Vv:=List Value
open PySem in
abbrev Vw:=Array Value
set_option Elab.async false
set_option linter.all false
set_option maxRecDepth 100000
namespace L2
open PySem PySem.Spec PyProof.Rows
abbrev bR:=Sum Int Str
noncomputable def jK:bR->Value->Bool
 | .inl k,v=>Value.isInt k v
 | .inr x,v=>Value.isStrOf x v
noncomputable def AX(w:World):bR->Int
 | .inl k=>hashInt k
 | .inr x=>hashStr w x
theorem bd:∀{k:bR} {v:Value},jK k v=true->(∃i t,k=Sum.inl i/\v=Value.int i t)\/(∃x t,k=Sum.inr x/\v=Value.str x t)
 | .inl i,v,h=>by
  obtain⟨t,e⟩:=Value.isInt_shape (k:=i) (v:=v) h
  exact .inl ⟨i,t,rfl,e⟩
 | .inr x,v,h=>by
  obtain⟨t,e⟩:=Value.isStrOf_shape (x:=x) (v:=v) h
  exact .inr ⟨x,t,rfl,e⟩
def oQ(i:Int)(t:Tok):jK (.inl i) (.int i t)=true:=by simp[jK,Value.isInt]
def oR(x:Str)(t:Tok):jK (.inr x) (.str x t)=true:=by simp[jK,Value.isStrOf]
def v9(a b:Int):decide ((Sum.inl a:bR)=Sum.inl b)=(a == b):=by
 by_cases e:a=b
 ·subst e;simp
 ·have h:¬(Sum.inl a:bR)=Sum.inl b:=fun q=>e (Sum.inl.inj q)
  rw[decide_eq_false h]
  exact(beq_eq_false_iff_ne.mpr e).symm
def v_(a b:Str):decide ((Sum.inr a:bR)=Sum.inr b)=decide (a=b):=by
 by_cases e:a=b
 ·subst e;simp
 ·have h:¬(Sum.inr a:bR)=Sum.inr b:=fun q=>e (Sum.inr.inj q)
  rw[decide_eq_false h,decide_eq_false e]
def wa(a:Int)(b:Str):decide ((Sum.inl a:bR)=Sum.inr b)=false:=decide_eq_false (fun q=>nomatch q)
def wc(a:Str)(b:Int):decide ((Sum.inr a:bR)=Sum.inl b)=false:=decide_eq_false (fun q=>nomatch q)
noncomputable def br(prog:Program)(w:World):PySem.KeyKind prog w bR where
 is:=jK
 hash:=AX w
 inj:=fun v a b ha hb=>by
  rcases bd ha with⟨i,t,rfl,rfl⟩|⟨x,t,rfl,rfl⟩
  ·rcases bd hb with⟨j,u,rfl,e⟩|⟨y,u,rfl,e⟩
   ·injection e with e1 _;rw[e1]
   ·exact nomatch e
  ·rcases bd hb with⟨j,u,rfl,e⟩|⟨y,u,rfl,e⟩
   ·exact nomatch e
   ·injection e with e1 _;rw[e1]
 byValue:=fun k v h=>by
  rcases bd h with⟨i,t,rfl,rfl⟩|⟨x,t,rfl,rfl⟩<;>rfl
 pyHash:=fun hv h=>by
  rcases bd hv with⟨i,t,rfl,rfl⟩|⟨x,t,rfl,rfl⟩
  ·exact wpAny_pyHash_int h
  ·exact wpAny_pyHash_str h
 eqBool:=fun hu hv h=>by
  rcases bd hu with⟨i,t,rfl,rfl⟩|⟨x,t,rfl,rfl⟩
  ·rcases bd hv with⟨j,u,rfl,rfl⟩|⟨y,u,rfl,rfl⟩
   ·rw[v9]at h;exact wpAny_eqBool_int h
   ·rw[wa]at h;exact SeqAt.EqAt.int_str i t y u _ _ _ _ h
  ·rcases bd hv with⟨j,u,rfl,rfl⟩|⟨y,u,rfl,rfl⟩
   ·rw[wc]at h;exact SeqAt.EqAt.str_int x t j u _ _ _ _ h
   ·rw[v_]at h;exact wpAny_eqBool_str h
 «strs»:=fun k x t v h=>by
  rcases bd h with⟨i,u,rfl,e⟩|⟨y,u,rfl,e⟩
  ·exact nomatch e
  ·injection e with e1 _
   subst e1
   cases v<;>rfl
def ld(prog:Program)(w:World)(i:Int)(t:Tok):(br prog w).is (.inl i) (.int i t)=true:=oQ i t
def lg(prog:Program)(w:World)(x:Str)(t:Tok):(br prog w).is (.inr x) (.str x t)=true:=oR x t
inductive V where
 |non|bl (b:Bool)|int (i:Int)|str (x:Str)|FX (b:Array UInt8)|Ih (b:UInt64)|ref (a:Addr)|ty (n:String)
 deriving DecidableEq
noncomputable def RelV:V->Value->Prop
 | .non,u=>u=Value.none
 | .bl b,u=>u=Value.bool b
 | .int i,u=>∃t,u=Value.int i t
 | .str x,u=>∃t,u=Value.str x t
 | .FX b,u=>∃t,u=Value.bytes b t
 | .Ih b,u=>∃t,u=Value.float b t
 | .ref a,u=>u=Value.ref a
 | .ty n,u=>u=Value.type n
noncomputable abbrev Vals:List V->List Value->Prop:=Paired RelV
theorem Vals.length{xs:List V}{us:Vv}(r:Vals xs us):xs.length=us.length:=Paired.length r
theorem Vals.get:∀{xs:List V} {us:Vv} {i:Nat} {x:V},Vals xs us->xs[i]?=some x->∃u,us[i]?=some u/\RelV x u
 |_,_,_,_,.nil,e=>by simp at e
 |_,_,0,_,.cons r _,e=>by simp at e;subst e;exact⟨_,rfl,r⟩
 |_,_,i+1,x,.cons _ t,e=>by
  obtain⟨u,h1,h2⟩:=Vals.get (i:=i) (x:=x) t (by simpa using e)
  exact⟨u,by simpa using h1,h2⟩
theorem Vals.set{x:V}{u:Value}(r:RelV x u):∀{xs:List V} {us:Vv} (i:Nat),Vals xs us->Vals (xs.set i x) (us.set i u)
 |_,_,_,.nil=>.nil
 |_,_,0,.cons _ t=>.cons r t
 |_,_,i+1,.cons q t=>.cons q (Vals.set r i t)
theorem Vals.append:∀{xs ys:List V} {us ws:Vv},Vals xs us->Vals ys ws->Vals (xs++ys) (us++ws)
 |_,_,_,_,.nil,s=>s
 |_,_,_,_,.cons r t,s=>.cons r (Vals.append t s)
theorem Vals.take:∀{xs:List V} {us:Vv} (n:Nat),Vals xs us->Vals (xs.take n) (us.take n)
 |_,_,0,_=>.nil
 |_,_,_+1,.nil=>.nil
 |_,_,n+1,.cons r t=>.cons r (Vals.take n t)
theorem Vals.drop:∀{xs:List V} {us:Vv} (n:Nat),Vals xs us->Vals (xs.drop n) (us.drop n)
 |_,_,0,r=>r
 |_,_,_+1,.nil=>.nil
 |_,_,n+1,.cons _ t=>Vals.drop n t
noncomputable def DK:Option V->Option Value->Prop
 |some v,some u=>RelV v u
 |none,none=>True
 |_,_=>False
noncomputable def KV{κ:Type}:List (κ×V)->List (κ×Value)->Prop:=Paired fun(p:κ×V) (q:κ×Value)=>p.1=q.1/\RelV p.2 q.2
noncomputable def kV:bR->V
 | .inl i=>.int i
 | .inr x=>.str x
inductive HO where
 /-- a list -/
 |lst (xs:List V)
 /-- a tuple (never changes) -/
 |tup (xs:List V)
 /-- a dict whose keys are ints and texts; one whose keys are tuples of ints and texts (the empty one is both) -/
 |dK (kvs:List (bR×V))|dT (kvs:List (List bR×V))
 /-- a set of ints: its members,its size -/
 |set (S:Int->Bool) (n:Nat)
 /-- an instance of the class at C,its dict at dx,its attributes -/
 |ins (C dx:Addr) (fs:List (Str×V))
 /-- the dict of the instance at x -/
 |own (x:Addr)
 /-- the dict of an exception -/
 |xd (fs:List (Str×V))
 /-- a bound method,f of x -/
 |met (f x:Addr)
 /-- a range object lo,lo + 1,.. below hi -/
 |IL (lo hi:Int)
 /-- a thing that is known to the object (the script; a dict while a loop walks it): read,never written while it is so -/
 |frz (o:Obj) (u:HO)
 /-- a code object's table -/
 |GS (ps:Vw)
 /-- any other thing,by what is true of its one object (a def of JM own: Kv a S n:=HO.ext fun h=>..) -/
 |ext (φ:Heap->Prop)
abbrev Hp:=Addr->Option HO
noncomputable def upd(H:Hp)(a:Addr)(o:HO):Hp:=fun b=>if b=a then some o else H b
def ax{H:Hp}{a:Addr}{o:HO}:upd H a o a=some o:=by unfold upd;rw[if_pos rfl]
def ay{H:Hp}{a b:Addr}{o:HO}(h:b≠a):upd H a o b=H b:=by unfold upd;rw[if_neg h]
def yP{H:Hp}{a b:Addr}{o u:HO}(h:H a=some o)(h':H b=some u)(d:o≠u):a≠b:=by
 intro e;subst e;rw[h]at h';exact d (Option.some.inj h')
def aV{H:Hp}{a b:Addr}{o:HO}(h:H a=some o)(h':H b=none):a≠b:=by
 intro e;subst e;rw[h]at h';cases h'
def Dh(h:Heap)(a:Addr)(its:Vw):Prop:=∃o,h.get? a=some o/\o.dict=none/\o.cls = .type "tuple"/\∃n,o.data = .seq its n
def Dh.tup{h:Heap}{a:Addr}{its:Vw}(x:Dh h a its):IsTup h a its:=let ⟨o,e,_,c,d⟩:=x;⟨o,e,c,d⟩
def Dh.new(h:Heap)(its:Vw):Dh (h.push { cls:=.type "tuple",data:=.seq its }) h.objs.size its:=⟨_,Heap.get?_push_size _ rfl,rfl,rfl,_,rfl⟩
section
variable (P:Program) (w:World)
noncomputable def C7(H:Hp)(h:Heap)(a:Addr):HO->Prop
 | .lst xs=>xs.length<=sizeLine/\∃(its:Vv) (n:Nat),Vals xs its/\h.get? a=some { cls:=.type "list",data:=.seq its.toArray n }
 | .tup xs=>xs.length<=sizeLine/\∃its:List Value,Vals xs its/\Dh h a its.toArray
 | .dK kvs=>kvs.length<=sizeLine/\(a == sysModules)=false/\∃vs,KV kvs vs/\h.DictOf (br P w) a vs
 | .dT kvs=>kvs.length<=sizeLine/\(a == sysModules)=false/\∃xs:List (List bR×Addr×Value),
   Paired (fun(p:List bR×V) (q:List bR×Addr×Value)=>p.1=q.1/\H q.2.1=some (.tup (p.1.map kV))/\RelV p.2 q.2.2) kvs xs/\
   ∃o es ep,h.get? a=some o/\o.ExactDict/\o.data = .dict es ep/\es.toList=xs.map (entryOfKey (tupleKind (br P w)))/\(xs.map (·.1)).Nodup
 | .set S n=>h.SetOf (intKind P w) a S n
 | .ins C dx fs=>H dx=some (.own a)/\fs.length<=1000/\dx≠a/\h.get? a=some (PySem.W.instObj C dx)/\
   ∃mA,h.Ns1 dx mA/\(∀f,DK (fs.lookup f) (mA f))/\PySem.Within mA (fs.map (·.1))
 | .own _=>∃o,h.get? a=some o
 | .xd fs=>∃mA,h.Ns1 a mA/\∀f,DK (fs.lookup f) (mA f)
 | .IL lo hi=>∃t u v,h.get? a=some { cls:=.type "range",data:=.fields #[.int lo t,.int hi u,.int 1 v] }
 | .frz o u=>h.get? a=some o/\C7 H h a u
 | .GS ps=>h.get? a=some { cls:=.none,data:=.fields ps }
 | .met f x=>h.get? a=some (PySem.W.methodObj (.ref f) (.ref x))
 | .ext φ=>φ h/\(∃o,h.get? a=some o)/\∀h1 h2:Heap,φ h1->(∀o,h1.get? a=some o->h2.get? a=some o)->φ h2
def Ea(H:Hp)(h:Heap):Prop:=∀a o,H a=some o->C7 P w H h a o
end
section
variable {P:Program} {w:World} {H H':Hp} {h h':Heap} {a:Addr} {o:HO}
theorem C7.lt(x:C7 P w H h a o):a < h.objs.size:=by
 cases o with
 |lst xs=>obtain⟨_,_,_,_,e⟩:=x;exact Heap.lt_size e
 |tup xs=>obtain⟨_,_,_,p⟩:=x;exact p.tup.lt
 |dK kvs=>obtain⟨_,_,_,_,o,_,_,e,_⟩:=x;exact Heap.lt_size e
 |dT kvs=>obtain⟨_,_,_,_,o,_,_,e,_⟩:=x;exact Heap.lt_size e
 |set S n=>obtain⟨o,_,_,_,e,_⟩:=x;exact Heap.lt_size e
 |ins C dx fs=>obtain⟨_,_,_,e,_⟩:=x;exact Heap.lt_size e
 |own y=>obtain⟨_,e⟩:=x;exact Heap.lt_size e
 |xd fs=>obtain⟨_,⟨_,_,_,e,_⟩,_⟩:=x;exact Heap.lt_size e
 |IL lo hi=>obtain⟨_,_,_,e⟩:=x;exact Heap.lt_size e
 |frz ob u=>obtain⟨e,_⟩:=x;exact Heap.lt_size e
 |GS ps=>exact Heap.lt_size (show h.get? a=some _ from x)
 |met f y=>exact Heap.lt_size (show h.get? a=some _ from x)
 |ext φ=>obtain⟨_,⟨_,e⟩,_⟩:=x;exact Heap.lt_size e
theorem Paired.GT{α β:Type}{F G:α->β->Prop}:∀{l₁:List α} {l₂:List β},Paired F l₁ l₂->(∀a b,F a b->G a b)->Paired G l₁ l₂
 |_,_,.nil,_=>.nil
 |_,_,.cons r t,f=>.cons (f _ _ r) (Paired.GT t f)
def C7.stay(x:C7 P w H h a o)(k:∀b u,(b=a\/H b=some (.own a))->h.get? b=some u->h'.get? b=some u)
  (ho:∀b,H b=some (.own a)->H' b=some (.own a)) (ht:∀b xs,H b=some (.tup xs)->H' b=some (.tup xs)):C7 P w H' h' a o:=by
 induction o with
 |lst xs=>obtain⟨z,its,n,r,e⟩:=x;exact⟨z,its,n,r,k _ _ (.inl rfl) e⟩
 |tup xs=>obtain⟨z,its,r,ob,e,c⟩:=x;exact⟨z,its,r,ob,k _ _ (.inl rfl) e,c⟩
 |dK kvs=>obtain⟨z,y,vs,r,ob,es,ep,e,c⟩:=x;exact⟨z,y,vs,r,ob,es,ep,k _ _ (.inl rfl) e,c⟩
 |dT kvs=>
  obtain⟨z,y,xs,r,ob,es,ep,e,c⟩:=x
  exact⟨z,y,xs,Paired.GT r fun p q z=>⟨z.1,ht _ _ z.2.1,z.2.2⟩,ob,es,ep,k _ _ (.inl rfl) e,c⟩
 |set S n=>obtain⟨ob,es,ep,t,e,c⟩:=x;exact⟨ob,es,ep,t,k _ _ (.inl rfl) e,c⟩
 |ins C dx fs=>
  obtain⟨d,z,ne,e,mA,⟨od,es,ep,e2,c⟩,r⟩:=x
  exact⟨ho _ d,z,ne,k _ _ (.inl rfl) e,mA,⟨od,es,ep,k _ _ (.inr d) e2,c⟩,r⟩
 |own y=>obtain⟨ob,e⟩:=x;exact⟨ob,k _ _ (.inl rfl) e⟩
 |xd fs=>obtain⟨mA,⟨od,es,ep,e,c⟩,r⟩:=x;exact⟨mA,⟨od,es,ep,k _ _ (.inl rfl) e,c⟩,r⟩
 |IL lo hi=>obtain⟨t,u,v,e⟩:=x;exact⟨t,u,v,k _ _ (.inl rfl) e⟩
 |frz ob u ih=>obtain⟨e,q⟩:=x;exact⟨k _ _ (.inl rfl) e,ih q⟩
 |GS ps=>
  have e:h.get? a=some { cls:=.none,data:=.fields ps }:=x
  show h'.get? a=some { cls:=.none,data:=.fields ps }
  exact k a _ (.inl rfl) e
 |met f y=>
  have e:h.get? a=some (PySem.W.methodObj (.ref f) (.ref y)):=x
  show h'.get? a=some (PySem.W.methodObj (.ref f) (.ref y))
  exact k a _ (.inl rfl) e
 |ext φ=>obtain⟨p,⟨o,e⟩,st⟩:=x;exact⟨st _ _ p fun o q=>k _ _ (.inl rfl) q,⟨o,k _ _ (.inl rfl) e⟩,st⟩
theorem Ea.lt(x:Ea P w H h)(e:H a=some o):a < h.objs.size:=(x a o e).lt
def Ea.fresh(x:Ea P w H h)(e:h.objs.size<=a):H a=none:=by
 cases q:H a with
 |none=>rfl
 |some u=>exact absurd (Nat.lt_of_lt_of_le (x.lt q) e) (Nat.lt_irrefl _)
def Ea.kept(x:Ea P w H h)(k:∀b u,h.get? b=some u->h'.get? b=some u):Ea P w H h':=fun a o e=>
 (x a o e).stay (fun b u _ q=>k b u q) (fun _ q=>q) fun _ _ q=>q
def Ea.laid(x:Ea P w H h)(k:∀b u,h.get? b=some u->h'.get? b=some u)(hp:h.objs.size<=a)(new:C7 P w (upd H a o) h' a o):Ea P w (upd H a o) h':=fun b u e=>by
 have hn:=x.fresh hp
 by_cases hb:b=a
 ·subst hb;rw[ax]at e;cases e;exact new
 ·rw[ay hb]at e
  exact(x b u e).stay (fun c v _ q=>k c v q) (fun c q=>by rw[ay (aV q hn)];exact q) fun c xs q=>by rw[ay (aV q hn)];exact q
end
def Rd(H:Hp)(a:Addr)(u:HO):Prop:=H a=some u\/∃o,H a=some (.frz o u)
def Rd.ok{P:Program}{w:World}{H:Hp}{h:Heap}{a:Addr}{u:HO}(r:Rd H a u)(x:Ea P w H h):C7 P w H h a u:=by
 rcases r with r|⟨o,r⟩
 ·exact x a u r
 ·obtain⟨_,q⟩:=x a _ r
  exact q
noncomputable def yQ:Option HO->Prop
 |some (.lst _)=>True
 |some (.dK _)=>True
 |some (.dT _)=>True
 |some (.set _ _)=>True
 |some (.ins _ _ _)=>True
 |some (.ext _)=>True
 |_=>False
section
variable {P:Program} {w:World} {H:Hp} {h h':Heap} {x e:Addr} {o':HO}
def Ea.write(ok:Ea P w H h)(mu:yQ (H x))(he:e=x\/H e=some (.own x))(k:∀b u,b≠e->h.get? b=some u->h'.get? b=some u)(Hh:∃u,h'.get? e=some u)
  (new:C7 P w (upd H x o') h' x o'):Ea P w (upd H x o') h':=fun b u q=>by
 have Hw:∀c y,H c=some (.own y)->c≠x:=fun c y r z=>by subst z;rw[r]at mu;exact mu
 have IM:∀c xs,H c=some (.tup xs)->c≠x:=fun c xs r z=>by subst z;rw[r]at mu;exact mu
 by_cases hb:b=x
 ·subst hb;rw[ax]at q;cases q;exact new
 ·rw[ay hb]at q
  by_cases GU:b=e
  ·have q':H b=some (.own x):=by
    rcases he with z|z
    ·exact absurd (GU.trans z) hb
    ·rw[GU];exact z
   rw[q]at q';cases q'
   obtain⟨v,hv⟩:=Hh
   exact⟨v,by rw[GU];exact hv⟩
  ·refine(ok b u q).stay (fun c v hc r=>k c v ?_ r) (fun c r=>by rw[ay (Hw c b r)];exact r) fun c xs r=>by rw[ay (IM c xs r)];exact r
   rcases hc with rfl|hc
   ·exact GU
   ·rintro rfl
    rcases he with z|z
    ·exact Hw c b hc z
    ·rw[hc]at z;cases z;exact hb rfl
end
structure Un (fs ex:List Addr) (H H':Hp) (h h':Heap):Prop where
 keep:∀b o,h.get? b=some o->H b=none->b ∉ fs->b ∉ ex->h'.get? b=some o
 slot:∀b o,h.get? b=some o->H b=none->b∈fs->b ∉ ex->∃sl,h'.get? b=some { o with slots:=sl }
 free:∀b o,h.get? b=some o->H b=none->b ∉ ex->H' b=none
 there:∀b o,h.get? b=some o->b ∉ ex->∃o',h'.get? b=some o'
 tups:∀b xs,H b=some (.tup xs)->H' b=some (.tup xs)
 EW:∀b o u,H b=some (.frz o u)->H' b=some (.frz o u)
 Fh:∀b ps,H b=some (.GS ps)->∃more,H' b=some (.GS (ps++more))
section
variable {fs fs' ex ex':List Addr} {H H1 H2:Hp} {h h1 h2 h':Heap} {a x e:Addr} {o:HO}
def Un.any(u:Un fs ex H H1 h h1){b:Addr}{ob:Obj}(q:h.get? b=some ob)(n:H b=none)(hx:b ∉ ex):∃sl,h1.get? b=some { ob with slots:=sl }:=by
 by_cases hb:b∈fs
 ·exact u.slot b ob q n hb hx
 ·exact⟨ob.slots,u.keep b ob q n hb hx⟩
def Un.kept(k:∀b u,h.get? b=some u->h'.get? b=some u):Un fs ex H H h h':=
 ⟨fun b ob q _ _ _=>k b ob q,fun b ob q _ _ _=>⟨ob.slots,k b ob q⟩,fun _ _ _ n _=>n,fun b ob q _=>⟨ob,k b ob q⟩,fun _ _ q=>q,fun _ _ _ q=>q,fun _ ps q=>⟨#[],by rw[q];simp⟩⟩
def Un.refl:Un fs ex H H h h:=Un.kept fun _ _ q=>q
def Un.laid(k:∀b u,h.get? b=some u->h'.get? b=some u)(hp:h.objs.size<=a)(hn:H a=none):Un fs ex H (upd H a o) h h' where
 keep:=fun b u q _ _ _=>k b u q
 slot:=fun b u q _ _ _=>⟨u.slots,k b u q⟩
 free:=fun b u q n _=>by rw[ay (Nat.ne_of_lt (Nat.lt_of_lt_of_le (Heap.lt_size q) hp))];exact n
 there:=fun b u q _=>⟨u,k b u q⟩
 tups:=fun b xs q=>by rw[ay (aV q hn)];exact q
 EW:=fun b u xs q=>by rw[ay (aV q hn)];exact q
 Fh:=fun b ps q=>⟨#[],by rw[ay (aV q hn),q];simp⟩
def Un.write(mu:yQ (H x))(he:e=x\/H e=some (.own x))(k:∀b u,b≠e->h.get? b=some u->h'.get? b=some u)(Hh:∃u,h'.get? e=some u):Un fs ex H (upd H x o) h h':=by
 have hx:∀b,H b=none->b≠x:=fun b n z=>by subst z;rw[n]at mu;exact mu
 have hb:∀b,H b=none->b≠e:=fun b n z=>by
  subst z
  rcases he with r|r
  ·exact hx b n r
  ·rw[n]at r;cases r
 have hm:∀b u,H b=some u->¬yQ (some u)->b≠x:=fun b u q nm z=>by subst z;rw[q]at mu;exact nm mu
 refine⟨fun b u q n _ _=>k b u (hb b n) q,fun b u q n _ _=>⟨u.slots,k b u (hb b n) q⟩,fun b u q n _=>by rw[ay (hx b n)];exact n,fun b u q _=>?_,
  fun b xs q=>by rw[ay (hm b _ q fun z=>z)];exact q,fun b u xs q=>by rw[ay (hm b _ q fun z=>z)];exact q,fun b ps q=>⟨#[],by rw[ay (hm b _ q fun z=>z),q];simp⟩⟩
 by_cases GU:b=e
 ·subst GU;exact Hh
 ·exact⟨u,k b u GU q⟩
end
noncomputable def AG(h:Heap)(H:Hp):List Addr:=(List.range h.objs.size).filter fun a=>(H a).isSome
noncomputable def kg(h:Heap)(H:Hp):Heap:=PySem.W.hideAll h (AG h H)
def oS(h:Heap)(H:Hp):(kg h H).objs.size=h.objs.size:=PySem.W.hideAll_size _ _
def qr{h:Heap}{H:Hp}{b:Addr}{o:Obj}(e:h.get? b=some o)(n:H b=none):(kg h H).get? b=some o:=
 PySem.W.hideAll_get _ e fun hm=>by
  have q:(H b).isSome=true:=(List.mem_filter.mp hm).2
  rw[n]at q;simp at q
def tM{h:Heap}{H:Hp}{b:Addr}{o:Obj}(e:(kg h H).get? b=some o):h.get? b=some o/\H b=none:=by
 have e':h.get? b=some o:=PySem.W.of_hideAll (AG h H) e
 refine⟨e',?_⟩
 cases q:H b with
 |none=>rfl
 |some x=>
  have hm:b∈AG h H:=List.mem_filter.mpr ⟨List.mem_range.mpr (Heap.lt_size e'),by simp[q]⟩
  have z:(kg h H).get? b=none:=PySem.W.hideAll_none (AG h H) hm
  rw[z]at e;cases e
structure Mod (K:Vo) (mg:Vr) (base:Heap):Prop where
 Hx:K.In base
 glob:base.Ns mainGlobals mg
 blt:∃mb,base.Ns builtinsNs mb/\∀x:Str,x ≠ "__name__"->mb x=bootBuiltins x
 nolimit:base.NoLimit
structure Cx where
 prog:Program
 w:World
 K:Vo
 mg:Vr
 base:Heap
 A:Around
 N:List Str
 s₀:Shared
 H₀:Hp
 env:Env
 outer:List Env
 stack:List Env
 ex:List Addr
 fn:Str->Bool
 calm:Bool
 pn:Va
 xe:Value->Shared->Prop
noncomputable def frs(l:List Env):List Addr:=l.filterMap (·.frame)
noncomputable abbrev Cx.fs(X:Cx):List Addr:=frs X.outer
def AH(sc:Scope)(x:Str):Prop:=sc.names.lookup x=some .local\/sc.names.lookup x=some .cell\/sc.names.lookup x=some .free
def vm(sc:Scope)(x:Str):Prop:=sc.names.lookup x=some .local\/sc.names.lookup x=some .cell
def AY(env:Env)(h:Heap)(m:Vr)(x:Str)(u:Value):Prop:=
 (env.kindOf x=some .local/\m x=some u)\/((env.kindOf x=some .cell\/env.kindOf x=some .free)/\∃c,env.cells.lookup x=some c/\h.IsCell c (some u))
structure Cx.Ok (X:Cx):Prop where
 mod:Mod X.K X.mg X.base
 kind:X.env.scope.kind = .function
 glob:X.env.globals=mainGlobals
 blt:X.env.builtins=builtinsNs
 above:X.s₀.heap.objs.size<=X.env.locals
 inj:∀x y c,X.env.cells.lookup x=some c->X.env.cells.lookup y=some c->x=y
 has:∀x,(X.env.kindOf x=some .cell\/X.env.kindOf x=some .free)->∃c,X.env.cells.lookup x=some c
 Hi:∀x c,X.fn x=true->X.env.cells.lookup x=some c->X.s₀.heap.objs.size<=c
 hd:X.calm=true->X.A.handled=none
 frames:X.A.frames=some X.stack
 stk:X.stack=X.outer\/(X.stack=X.env::X.outer/\X.env.frame=some X.env.locals)
 IN:∀b∈X.ex,b≠X.env.locals/\∀x c,X.env.cells.lookup x=some c->c≠b
 bs:∀b o,X.base.get? b=some o->X.s₀.heap.get? b=some o/\X.H₀ b=none
 Ga:X.base.objs.size<=X.s₀.heap.objs.size
 FM:∀b o,X.base.get? b=some o->b ∉ X.ex
 F0:∀b∈X.ex,b ∉ X.fs
 Eo:X.s₀.heap.FunFrames X.base X.outer
 GD:∀b∈X.fs,X.H₀ b=none
structure Inv (X:Cx) (pins:Va) (σ:List (Option V)) (H:Hp) (s:Shared):Prop where
 ok:X.Ok
 os:s.os=X.s₀.os
 bare:AllBare s.gens
 base:Un X.fs X.ex X.H₀ H X.s₀.heap s.heap
 loc:∃m,s.heap.Ns X.env.locals m/\∀(i:Nat) (x:Str) (v:V),X.N[i]?=some x->σ[i]?=some (some v)->AH X.env.scope x->∃u,RelV v u/\AY X.env s.heap m x u
 cell:∀x c,X.env.cells.lookup x=some c->∃v,s.heap.IsCell c v
 free:H X.env.locals=none
 DM:∀x c,X.env.cells.lookup x=some c->H c=none
 pin:∀p∈X.pn++pins,s.heap.get? p.1=some p.2/\H p.1=none/\p.1≠X.env.locals/\p.1 ∉ X.fs/\∀v,p.2.data ≠ .cell v
 hok:Ea X.prog X.w H s.heap
 len:σ.length=X.N.length
section
variable {X:Cx} {pins:Va} {σ:List (Option V)} {H H':Hp} {s:Shared} {h':Heap}
def Cx.Ok.IP(ok:X.Ok){b:Addr}{o:Obj}(e:X.base.get? b=some o):b ∉ X.fs:=fun hb=>by
 have:=(ok.Eo.mem hb).1
 rw[e]at this;cases this
theorem Inv.bs(I:Inv X pins σ H s):∀b o,X.base.get? b=some o->s.heap.get? b=some o/\H b=none:=fun b o e=>
 ⟨I.base.keep b o (I.ok.bs b o e).1 (I.ok.bs b o e).2 (I.ok.IP e) (I.ok.FM b o e),I.base.free b o (I.ok.bs b o e).1 (I.ok.bs b o e).2 (I.ok.FM b o e)⟩
def Inv.bk(I:Inv X pins σ H s):∀b o,X.base.get? b=some o->s.heap.get? b=some o:=fun b o e=>(I.bs b o e).1
theorem Inv.mod(I:Inv X pins σ H s):Mod X.K X.mg X.base:=I.ok.mod
def Inv.FC(I:Inv X pins σ H s):X.K.In s.heap:=I.ok.mod.Hx.keeps I.bk
theorem Inv.lt(I:Inv X pins σ H s):X.env.locals < s.heap.objs.size:=let ⟨_,hn,_⟩:=I.loc;hn.lt
def Inv.sz(I:Inv X pins σ H s):X.s₀.heap.objs.size<=s.heap.objs.size:=Nat.le_trans I.ok.above (Nat.le_of_lt I.lt)
def Inv.Hy(I:Inv X pins σ H s){a:Addr}(h:s.heap.objs.size<=a):a ∉ X.fs:=fun hb=>by
 obtain⟨_,o,ho,_⟩:=I.ok.Eo.mem hb
 exact absurd (Nat.lt_of_lt_of_le (Heap.lt_size ho) (Nat.le_trans I.sz h)) (Nat.lt_irrefl _)
def Inv.GV(I:Inv X pins σ H s):∀x c,X.env.cells.lookup x=some c->c≠X.env.locals:=fun x c e z=>by
 obtain⟨v,o,ho,hd⟩:=I.cell x c e
 obtain⟨m,⟨o',es,ep,ho',hd',_⟩,_⟩:=I.loc
 rw[z,ho']at ho;cases ho;rw[hd']at hd;cases hd
theorem Inv.Eo(I:Inv X pins σ H s):s.heap.FunFrames X.base X.outer:=by
 have all:∀(l:List Env),(∀b∈frs l,b∈X.fs)->X.s₀.heap.FunFrames X.base l->s.heap.FunFrames X.base l:=by
  intro l
  induction l with
  |nil=>intro _ _;trivial
  |cons env r ih=>
   intro hs hl
   obtain⟨hk,⟨L,o,hf,hn,ho,hd⟩,hr⟩:=hl
   have hL:L∈X.fs:=hs L (by unfold frs;rw[List.filterMap_cons,hf];exact List.mem_cons_self)
   obtain⟨sl,e⟩:=I.base.slot L o ho (I.ok.GD L hL) hL fun z=>I.ok.F0 L z hL
   exact⟨hk,⟨L,_,hf,hn,e,hd⟩,ih (fun b hb=>hs b (by unfold frs;rw[List.filterMap_cons,hf];exact List.mem_cons_of_mem _ hb)) hr⟩
 exact all X.outer (fun _ hb=>hb) I.ok.Eo
theorem Inv.stack(I:Inv X pins σ H s):s.heap.FunFrames X.base X.stack:=by
 rcases I.ok.stk with e|⟨e,hf⟩
 ·rw[e];exact I.Eo
 ·rw[e]
  obtain⟨m,hn,_⟩:=I.loc
  refine .cons (by rw[I.ok.kind];decide) hf hn ?_ I.Eo
  exact Heap.get?_none_of_le (Nat.le_trans I.ok.Ga I.ok.above)
def Inv.Ep(I:Inv X pins σ H s):∀b∈frs X.stack,b∈X.env.locals::X.fs:=fun b hb=>by
 rcases I.ok.stk with e|⟨e,hf⟩
 ·rw[e]at hb;exact List.mem_cons_of_mem _ hb
 ·rw[e]at hb
  unfold frs at hb
  rw[List.filterMap_cons,hf]at hb
  exact hb
def Inv.FD(I:Inv X pins σ H s):∀b∈frs X.stack,H b=none:=fun b hb=>by
 rcases List.mem_cons.mp (I.Ep b hb)with e|hb
 ·rw[e];exact I.free
 ·obtain⟨_,o,ho,_⟩:=I.ok.Eo.mem hb
  exact I.base.free b o ho (I.ok.GD b hb) fun z=>I.ok.F0 b z hb
def Inv.step{g':Array GenState}{t':Nat}{d':Drawn}{ch:List Addr}(I:Inv X pins σ H s)
  (hch:∀b∈ch,(b∈X.ex\/X.s₀.heap.objs.size<=b)/\b≠X.env.locals/\(∀x c,X.env.cells.lookup x=some c->c≠b)/\∀p∈X.pn++pins,p.1≠b)
  (keep:∀b o,b≠X.env.locals->b ∉ X.fs->b ∉ ch->s.heap.get? b=some o->H b=none->h'.get? b=some o)
  (slot:∀b o,b≠X.env.locals->b∈X.fs->b ∉ ch->s.heap.get? b=some o->H b=none->∃sl,h'.get? b=some { o with slots:=sl }) (free:∀b o,b ∉ ch->s.heap.get? b=some o->H b=none->H' b=none)
  (there:∀b o,b ∉ ch->s.heap.get? b=some o->∃o',h'.get? b=some o')
  (tups:∀b xs,H b=some (.tup xs)->H' b=some (.tup xs)) (EW:∀b o u,H b=some (.frz o u)->H' b=some (.frz o u)) (Fh:∀b ps,H b=some (.GS ps)->∃more,H' b=some (.GS (ps++more)))
  (ns:∀m,s.heap.Ns X.env.locals m->h'.Ns X.env.locals m) (hok:Ea X.prog X.w H' h') (hg:AllBare g') :
  Inv X pins σ H' { s with heap:=h',gens:=g',drawn:=d',toks:=t' }:=by
 have JN:∀b o,X.s₀.heap.get? b=some o->b≠X.env.locals:=fun b o e=>Nat.ne_of_lt (Nat.lt_of_lt_of_le (Heap.lt_size e) I.ok.above)
 have Ii:∀b o,X.s₀.heap.get? b=some o->b ∉ X.ex->b ∉ ch:=fun b o e hx hb=>by
  rcases(hch b hb).1 with z|z
  ·exact hx z
  ·exact absurd (Nat.lt_of_lt_of_le (Heap.lt_size e) z) (Nat.lt_irrefl _)
 have cellK:∀x c,X.env.cells.lookup x=some c->∀v,s.heap.IsCell c v->h'.IsCell c v:=fun x c e v ⟨o,ho,hd⟩=>by
  have Hz:c ∉ ch:=fun z=>(hch c z).2.2.1 x c e rfl
  by_cases hc:c∈X.fs
  ·obtain⟨sl,q⟩:=slot c o (I.GV x c e) hc Hz ho (I.DM x c e)
   exact⟨_,q,hd⟩
  ·exact⟨o,keep c o (I.GV x c e) hc Hz ho (I.DM x c e),hd⟩
 refine⟨I.ok,I.os,hg,⟨fun b o e n hb hx=>?_,fun b o e n hb hx=>?_,fun b o e n hx=>?_,fun b o e hx=>?_,fun b xs e=>tups b xs (I.base.tups b xs e),fun b o xs e=>EW b o xs (I.base.EW b o xs e),fun b ps e=>?_⟩,?_,fun x c e=>?_,?_,fun x c e=>?_,fun p hp=>?_,hok,I.len⟩
 ·exact keep b o (JN b o e) hb (Ii b o e hx) (I.base.keep b o e n hb hx) (I.base.free b o e n hx)
 ·obtain⟨sl,e1⟩:=I.base.slot b o e n hb hx
  obtain⟨sl',e2⟩:=slot b _ (JN b o e) hb (Ii b o e hx) e1 (I.base.free b o e n hx)
  exact⟨sl',e2⟩
 ·obtain⟨o',e1⟩:=I.base.there b o e hx
  exact free b o' (Ii b o e hx) e1 (I.base.free b o e n hx)
 ·obtain⟨o',e1⟩:=I.base.there b o e hx
  exact there b o' (Ii b o e hx) e1
 ·obtain⟨m1,e1⟩:=I.base.Fh b ps e
  obtain⟨m2,e2⟩:=Fh b _ e1
  exact⟨m1++m2,by rw[e2,Array.append_assoc]⟩
 ·obtain⟨m,hn,hl⟩:=I.loc
  refine⟨m,ns m hn,fun i x v e1 e2 e3=>?_⟩
  obtain⟨u,r,l⟩:=hl i x v e1 e2 e3
  refine⟨u,r,?_⟩
  rcases l with l|⟨k,c,e,z⟩
  ·exact .inl l
  ·exact .inr ⟨k,c,e,cellK x c e _ z⟩
 ·obtain⟨v,z⟩:=I.cell x c e
  exact⟨v,cellK x c e v z⟩
 ·obtain⟨m,⟨o,_,_,ho,_⟩,_⟩:=I.loc
  exact free _ o (fun z=>(hch _ z).2.1 rfl) ho I.free
 ·obtain⟨v,o,ho,hd⟩:=I.cell x c e
  exact free c o (fun z=>(hch c z).2.2.1 x c e rfl) ho (I.DM x c e)
 ·obtain⟨e,n,ne,nf,d⟩:=I.pin p hp
  have Hz:p.1 ∉ ch:=fun z=>(hch p.1 z).2.2.2 p hp rfl
  exact⟨keep p.1 p.2 ne nf Hz e n,free p.1 p.2 Hz e n,ne,nf,d⟩
def Inv.un{t':Nat}(I:Inv X pins σ H s)(u:Un X.fs [] H H' s.heap h')(hok:Ea X.prog X.w H' h'):Inv X pins σ H' { s with heap:=h',toks:=t' }:=by
 obtain⟨m,⟨o,es,ep,ho,r⟩,_⟩:=id I.loc
 obtain⟨sl,hL⟩:=u.any ho I.free (by simp)
 exact I.step (g':=s.gens) (d':=s.drawn) (ch:=[]) (fun _ z=>nomatch z) (fun b o _ hb _ e n=>u.keep b o e n hb (by simp)) (fun b o _ hb _ e n=>u.slot b o e n hb (by simp)) (fun b o _ e n=>u.free b o e n (by simp)) (fun b o _ e=>u.there b o e (by simp)) u.tups u.EW u.Fh (fun m' hm=>by
  obtain⟨o',es',IQ,ho',r'⟩:=hm
  rw[ho]at ho';cases ho'
  exact⟨_,es',IQ,hL,r'⟩) hok I.bare
def Inv.call{g':Array GenState}{t':Nat}{d':Drawn}{ch:List Addr}(I:Inv X pins σ H s)(u:Un (frs X.stack) ch H H' s.heap h')(hok:Ea X.prog X.w H' h')(hg:AllBare g')
  (hch:∀b∈ch,(b∈X.ex\/X.s₀.heap.objs.size<=b)/\b≠X.env.locals/\(∀x c,X.env.cells.lookup x=some c->c≠b)/\∀p∈X.pn++pins,p.1≠b) :
  Inv X pins σ H' { s with heap:=h',gens:=g',drawn:=d',toks:=t' }:=by
 obtain⟨m,⟨o,es,ep,ho,r⟩,_⟩:=id I.loc
 obtain⟨sl,hL⟩:=u.any ho I.free fun z=>(hch _ z).2.1 rfl
 exact I.step (ch:=ch) hch (fun b o hL hb hc e n=>u.keep b o e n (fun z=>(List.mem_cons.mp (I.Ep b z)).elim hL hb) hc) (fun b o _ _ hc e n=>u.any e n hc) (fun b o hc e n=>u.free b o e n hc) (fun b o hc e=>u.there b o e hc) u.tups u.EW u.Fh (fun m' hm=>by
  obtain⟨o',es',IQ,ho',r'⟩:=hm
  rw[ho]at ho';cases ho'
  exact⟨_,es',IQ,hL,r'⟩) hok hg
def Inv.turned{t':Nat}{it:Addr}(I:Inv X pins σ H s)(k:∀b o,b≠it->s.heap.get? b=some o->h'.get? b=some o)(hn:H it=none)(hL:it≠X.env.locals)
  (h1:it∈X.ex\/X.s₀.heap.objs.size<=it) (h2:∀x c,X.env.cells.lookup x=some c->c≠it) (h3:∀p∈X.pn++pins,p.1≠it):Inv X pins σ H { s with heap:=h',toks:=t' }:=by
 have HC:∀b u,H b=some u->b≠it:=fun b u e z=>by rw[z,hn]at e;cases e
 refine I.step (g':=s.gens) (d':=s.drawn) (ch:=[it]) (fun b hb=>?_) (fun b o _ _ hc e _=>k b o (fun z=>hc (by simp[z])) e) (fun b o _ _ hc e _=>⟨o.slots,k b o (fun z=>hc (by simp[z])) e⟩) (fun _ _ _ _ n=>n)
  (fun b o hc e=>⟨o,k b o (fun z=>hc (by simp[z])) e⟩) (fun _ _ e=>e) (fun _ _ _ e=>e) (fun b ps e=>⟨#[],by rw[e];simp⟩) (fun m hm=>?_) (fun b u e=>?_) I.bare
 ·have e:b=it:=by simpa using hb
  subst e
  exact⟨h1,hL,h2,h3⟩
 ·obtain⟨o,es,ep,ho,r⟩:=hm
  exact⟨o,es,ep,k _ o (Ne.symm hL) ho,r⟩
 ·refine(I.hok b u e).stay (fun c v hc q=>k c v ?_ q) (fun _ q=>q) fun _ _ q=>q
  rcases hc with z|z
  ·rw[z];exact HC b u e
  ·exact HC c _ z
def Inv.tok(I:Inv X pins σ H s)(t:Nat):Inv X pins σ H { s with toks:=t }:=I.un (h':=s.heap) (t':=t) Un.refl I.hok
theorem Inv.kept{t':Nat}(I:Inv X pins σ H s)(k:∀b u,s.heap.get? b=some u->h'.get? b=some u):Inv X pins σ H { s with heap:=h',toks:=t' }:=I.un (Un.kept k) (I.hok.kept k)
theorem Inv.laid{a:Addr}{o:HO}{t':Nat}(I:Inv X pins σ H s)(k:∀b u,s.heap.get? b=some u->h'.get? b=some u)(hp:s.heap.objs.size<=a)(new:C7 X.prog X.w (upd H a o) h' a o) :
  Inv X pins σ (upd H a o) { s with heap:=h',toks:=t' }:=I.un (Un.laid k hp (I.hok.fresh hp)) (I.hok.laid k hp new)
theorem Inv.write{x e:Addr}{o:HO}{t':Nat}(I:Inv X pins σ H s)(mu:yQ (H x))(he:e=x\/H e=some (.own x))(k:∀b u,b≠e->s.heap.get? b=some u->h'.get? b=some u)(Hh:∃u,h'.get? e=some u)
  (new:C7 X.prog X.w (upd H x o) h' x o):Inv X pins σ (upd H x o) { s with heap:=h',toks:=t' }:=I.un (Un.write mu he k Hh) (I.hok.write mu he k Hh new)
def Inv.weak{σ':List (Option V)}(I:Inv X pins σ H s)(hl:σ'.length=σ.length)(w:∀(i:Nat) v,σ'[i]?=some (some v)->σ[i]?=some (some v)):Inv X pins σ' H s:=
 ⟨I.ok,I.os,I.bare,I.base,let ⟨m,hn,hl'⟩:=I.loc;⟨m,hn,fun i x v e1 e2 e3=>hl' i x v e1 (w i v e2) e3⟩,I.cell,I.free,I.DM,I.pin,I.hok,hl.trans I.len⟩
def Inv.EC{GE:Va}(I:Inv X pins σ H s)(h:∀p∈GE,s.heap.get? p.1=some p.2/\H p.1=none/\p.1≠X.env.locals/\p.1 ∉ X.fs/\∀v,p.2.data ≠ .cell v):Inv X GE σ H s:=
 ⟨I.ok,I.os,I.bare,I.base,I.loc,I.cell,I.free,I.DM,fun p hp=>(List.mem_append.mp hp).elim (fun z=>I.pin p (List.mem_append_left _ z)) (h p),I.hok,I.len⟩
def lh{N:Vs}(hN:N.Nodup){i j:Nat}{x:Str}(a:N[i]?=some x)(b:N[j]?=some x):i=j:=by
 obtain⟨h1,e1⟩:=List.getElem?_eq_some_iff.mp a
 obtain⟨h2,e2⟩:=List.getElem?_eq_some_iff.mp b
 exact(List.getElem_inj hN).mp (e1.trans e2.symm)
def jL {M : Model} {A : Around} {E : Value -> Shared -> Prop} {i : Nat} {x : Str} {v : V} {u : Value} {Q : Unit -> Shared -> Prop} (I : Inv X pins σ H s) (hN : X.N.Nodup) (hi : X.N[i]? = some x) (hx : vm X.env.scope x) (r : RelV v u)
  (h : ∀ s', Inv X pins (σ.set i (some v)) H s' -> (∃ a, Heap.SameBut a s.heap s'.heap /\ (a = X.env.locals \/ X.env.cells.lookup x = some a)) -> Q () s') (hf : X.fn x = true \/ X.env.scope.names.lookup x = some .local := by first | exact .inl rfl | exact .inr rfl | assumption) : wpAny M A (storeName X.env x u) Q E s := by
 obtain ⟨m, hn, hl⟩ := id I.loc
 have hcls : (X.env.scope.kind == .class || (X.env.scope.kind == .module && X.env.locals != X.env.globals)) = false := by rw [I.ok.kind]; rfl
 have JO : i < σ.length := by rw [I.len]; exact (List.getElem?_eq_some_iff.mp hi).1
 have GV := I.GV
 have tracked : ∀ {a : Addr} {h' : Heap}, (∃ o, s.heap.get? a = some o /\ H a = none) -> Heap.SameBut a s.heap h' -> Ea X.prog X.w H h' := fun {a h'} ha hs b ob e => by
  obtain ⟨_, _, hfree⟩ := ha
  refine (I.hok b ob e).stay (fun c w' hc q => (hs.2 c ?_).trans q) (fun _ q => q) fun _ _ q => q
  rintro rfl
  rcases hc with rfl | hc
  ·rw [hfree] at e; cases e
  ·rw [hfree] at hc; cases hc
 rcases hx with hk | hk
 ·refine wpAny_storeName_local hk hn (fun h' hn' hs => ?_) hcls
  obtain ⟨oL, _, _, Kw, _⟩ := id hn
  refine h _ ⟨I.ok, I.os, I.bare, ⟨fun b o e n hb hx => ?_, fun b o e n hb hx => ?_, I.base.free, fun b o e hx => ?_, I.base.tups, I.base.EW, I.base.Fh⟩, ⟨_, hn', fun j y v' e1 e2 e3 => ?_⟩, fun y c e => ?_, I.free, I.DM, fun p hp => ?_, tracked ⟨oL, Kw, I.free⟩ hs, by simpa using I.len⟩ ⟨_, hs, .inl rfl⟩
  ·exact (hs.2 b (Nat.ne_of_lt (Nat.lt_of_lt_of_le (Heap.lt_size e) I.ok.above))).trans (I.base.keep b o e n hb hx)
  ·obtain ⟨sl, e1⟩ := I.base.slot b o e n hb hx
   exact ⟨sl, (hs.2 b (Nat.ne_of_lt (Nat.lt_of_lt_of_le (Heap.lt_size e) I.ok.above))).trans e1⟩
  ·obtain ⟨o', e1⟩ := I.base.there b o e hx
   exact ⟨o', (hs.2 b (Nat.ne_of_lt (Nat.lt_of_lt_of_le (Heap.lt_size e) I.ok.above))).trans e1⟩
  ·by_cases hj : j = i
   ·subst hj
    rw [hi] at e1; cases e1
    rw [List.getElem?_set_self JO] at e2
    cases e2
    exact ⟨u, r, .inl ⟨hk, by simp⟩⟩
   ·rw [List.getElem?_set_ne (Ne.symm hj)] at e2
    obtain ⟨u', r', q⟩ := hl j y v' e1 e2 e3
    refine ⟨u', r', ?_⟩
    rcases q with ⟨k, e⟩ | ⟨k, c, e, z⟩
    ·refine .inl ⟨k, ?_⟩
     have : y ≠ x := fun e => hj (lh hN e1 (e ▸ hi))
     simp [this, e]
    ·exact .inr ⟨k, c, e, z.sameBut hs (GV y c e)⟩
  ·obtain ⟨w', z⟩ := I.cell y c e
   exact ⟨w', z.sameBut hs (GV y c e)⟩
  ·obtain ⟨e, n, ne, nf, d⟩ := I.pin p hp
   exact ⟨(hs.2 p.1 ne).trans e, n, ne, nf, d⟩
 ·have hfn : X.fn x = true := by
   rcases hf with z | z
   ·exact z
   ·rw [z] at hk; cases hk
  obtain ⟨c, hc⟩ := I.ok.has x (.inl hk)
  obtain ⟨w', z⟩ := I.cell x c hc
  refine wpAny_storeName_cell I.ok.kind hk hc z (fun h' hc' hs => ?_)
  obtain ⟨oc, hoc, IR⟩ := id z
  refine h { s with heap := h' } ⟨I.ok, I.os, I.bare, ⟨fun b o e n hb hx => ?_, fun b o e n hb hx => ?_, I.base.free, fun b o e hx => ?_, I.base.tups, I.base.EW, I.base.Fh⟩, ⟨m, hn.sameBut hs (Ne.symm (GV x c hc)), fun j y v' e1 e2 e3 => ?_⟩, fun y c' e => ?_, I.free, I.DM, fun p hp => ?_, tracked ⟨oc, hoc, I.DM x c hc⟩ hs, by simpa using I.len⟩ ⟨c, hs, .inr hc⟩
  ·exact (hs.2 b (Nat.ne_of_lt (Nat.lt_of_lt_of_le (Heap.lt_size e) (I.ok.Hi x c hfn hc)))).trans (I.base.keep b o e n hb hx)
  ·obtain ⟨sl, e1⟩ := I.base.slot b o e n hb hx
   exact ⟨sl, (hs.2 b (Nat.ne_of_lt (Nat.lt_of_lt_of_le (Heap.lt_size e) (I.ok.Hi x c hfn hc)))).trans e1⟩
  ·obtain ⟨o', e1⟩ := I.base.there b o e hx
   exact ⟨o', (hs.2 b (Nat.ne_of_lt (Nat.lt_of_lt_of_le (Heap.lt_size e) (I.ok.Hi x c hfn hc)))).trans e1⟩
  ·by_cases hj : j = i
   ·subst hj
    rw [hi] at e1; cases e1
    rw [List.getElem?_set_self JO] at e2
    cases e2
    exact ⟨u, r, .inr ⟨.inl hk, c, hc, hc'⟩⟩
   ·rw [List.getElem?_set_ne (Ne.symm hj)] at e2
    obtain ⟨u', r', q⟩ := hl j y v' e1 e2 e3
    refine ⟨u', r', ?_⟩
    rcases q with q | ⟨k, c', e, z'⟩
    ·exact .inl q
    ·refine .inr ⟨k, c', e, z'.sameBut hs ?_⟩
     rintro rfl
     exact hj (lh hN e1 (I.ok.inj _ _ _ e hc ▸ hi))
  ·by_cases hcc : c' = c
   ·subst hcc; exact ⟨_, hc'⟩
   ·obtain ⟨w2, z2⟩ := I.cell y c' e
    exact ⟨w2, z2.sameBut hs hcc⟩
  ·obtain ⟨e, n, ne, nf, d⟩ := I.pin p hp
   refine ⟨(hs.2 p.1 ?_).trans e, n, ne, nf, d⟩
   intro q
   rw [q, hoc] at e
   have q' : oc = p.2 := Option.some.inj e
   exact d w' (by rw [<- q']; exact IR)
def gk{M:Model}{A:Around}{E:Vq}{i:Nat}{x:Str}{v:V}{u:Value}{Q:Unit->Shared->Prop}(I:Inv X pins σ H s)(hN:X.N.Nodup)(hi:X.N[i]?=some x)(hx:vm X.env.scope x)(r:RelV v u)
  (h:∀s',Inv X pins (σ.set i (some v)) H s'->Q () s') (hf:X.fn x=true\/X.env.scope.names.lookup x=some .local:=by first|exact .inl rfl|exact .inr rfl|assumption):wpAny M A (storeName X.env x u) Q E s:=
 jL I hN hi hx r (fun s' I' _=>h s' I') hf
def Inv.HD{s':Shared}{ch:List Addr}(I:Inv X pins σ H s)(ho:s'.os=s.os)(u:Un (frs X.stack) ch H H' s.heap s'.heap)(hok:Ea X.prog X.w H' s'.heap)(hg:AllBare s'.gens)
  (hch:∀b∈ch,(b∈X.ex\/X.s₀.heap.objs.size<=b)/\b≠X.env.locals/\(∀x c,X.env.cells.lookup x=some c->c≠b)/\∀p∈X.pn++pins,p.1≠b):Inv X pins σ H' s':=by
 obtain⟨h',g',d',t',o'⟩:=s'
 have e:o'=s.os:=ho
 subst e
 exact I.call (g':=g') (t':=t') (d':=d') u hok hg hch
end
abbrev XK:=Value->Option Addr->Hp->Prop
abbrev St:=List (Option V)
abbrev VK:=V->Hp->Prop
abbrev TE:=St->Hp->VK->Prop
abbrev TT:=St->Hp->(Bool->Hp->Prop)->Prop
abbrev TA:=St->Hp->(List V->Hp->Prop)->Prop
structure kh where
 nx:St->Hp->Prop
 rt:VK
 bk:St->Hp->Prop:=fun _ _=>False
 ct:St->Hp->Prop:=fun _ _=>False
abbrev TS:=kh->St->Hp->Prop
def EP(X:Cx)(pins:Va)(σ:St)(Q:VK)(u:Value)(s':Shared):Prop:=∃v H',Inv X pins σ H' s'/\RelV v u/\Q v H'
def TP(X:Cx)(pins:Va)(σ:St)(Q:Bool->Hp->Prop)(b:Bool)(s':Shared):Prop:=∃H',Inv X pins σ H' s'/\Q b H'
def AP(X:Cx)(pins:Va)(σ:St)(Q:List V->Hp->Prop)(us:Vv)(s':Shared):Prop:=∃vs H',Inv X pins σ H' s'/\Vals vs us/\Q vs H'
def SP(X:Cx)(pins:Va)(D:kh)(f:Flow)(s':Shared):Prop:=
 match f with
 | .next=>∃σ' H',Inv X pins σ' H' s'/\D.nx σ' H'
 | .brk=>∃σ' H',Inv X pins σ' H' s'/\D.bk σ' H'
 | .cont=>∃σ' H',Inv X pins σ' H' s'/\D.ct σ' H'
 | .ret u=>∃v σ' H',Inv X pins σ' H' s'/\RelV v u/\D.rt v H'
def PE(X:Cx)(e:Expr)(t:TE):Prop:=
 ∀(pins:Va) (s:Shared) (σ:St) (H:Hp) (Q:VK),Inv X pins σ H s->t σ H Q->wpAny (model X.prog X.w) X.A (eval e X.env) (EP X pins σ Q) X.xe s
def PT(X:Cx)(e:Expr)(t:TT):Prop:=
 ∀(pins:Va) (s:Shared) (σ:St) (H:Hp) (Q:Bool->Hp->Prop),Inv X pins σ H s->t σ H Q->wpAny (model X.prog X.w) X.A (isTrue e X.env (eval e X.env)) (TP X pins σ Q) X.xe s
def PW(X:Cx)(e:Expr)(t:TT):Prop:=
 ∀(whole:Sem Value) (pins:Va) (s:Shared) (σ:St) (H:Hp) (Q:Bool->Hp->Prop),Inv X pins σ H s->t σ H Q->wpAny (model X.prog X.w) X.A (isTrue e X.env whole) (TP X pins σ Q) X.xe s
def PW.pt{X:Cx}{e:Expr}{t:TT}(h:PW X e t):PT X e t:=h _
def PA(X:Cx)(es:List Expr)(t:TA):Prop:=
 ∀(pos:Pos) (pins:Va) (s:Shared) (σ:St) (H:Hp) (Q:List V->Hp->Prop),Inv X pins σ H s->t σ H Q->wpAny (model X.prog X.w) X.A (spliced (backTo pos (starEach es X.env))) (AP X pins σ Q) X.xe s
def PS(X:Cx)(st:Stmt)(t:TS):Prop:=
 ∀(pins:Va) (s:Shared) (σ:St) (H:Hp) (D:kh),Inv X pins σ H s->t D σ H->wpAny (model X.prog X.w) X.A (exec st X.env) (SP X pins D) X.xe s
def Fp(X:Cx)(st:List Stmt)(t:TS):Prop:=
 ∀(pins:Va) (s:Shared) (σ:St) (H:Hp) (D:kh),Inv X pins σ H s->t D σ H->wpAny (model X.prog X.w) X.A (execs st X.env) (SP X pins D) X.xe s
def bz{α:Type}{t:Sem α}{Q Q':α->Shared->Prop}{M:Model}{A:Around}{E:Vq}{s:Shared}(h:wpAny M A t Q E s)(hQ:∀a s,Q a s->Q' a s):wpAny M A t Q' E s:=wpAny_mono h hQ fun _ _ x=>x
section
variable {X:Cx}
def AZ(i:Nat):TE:=fun σ H Q=>∃v,σ[i]?=some (some v)/\Q v H
def tC(v:V):TE:=fun _ H Q=>Q v H
def we{i:Nat}{x:Str}{pos:Pos}(hN:X.N[i]?=some x)(hv:AH X.env.scope x)(hd:(x == ("__debug__":Str))=false:=by decide)(hcd:(x == ("__classdict__":Str))=false:=by decide):PE X (.Name x pos) (AZ i):=by
 intro pins s σ H Q I h
 obtain⟨v,e,h⟩:=h
 obtain⟨m,hn,hl⟩:=I.loc
 obtain⟨u,r,l⟩:=hl i x v hN e hv
 have fin:EP X pins σ Q u s:=⟨v,H,I,r,h⟩
 rcases l with⟨hk,hm⟩|⟨hk,c,hc,hcell⟩
 ·exact wpAny_Name (wpAny_loadName_local I.ok.kind hk hn hm fin) hd
 ·rcases hk with hk|hk
  ·exact wpAny_Name (wpAny_loadName_cell I.ok.kind hk hc hcell fin) hd
  ·exact wpAny_Name (wpAny_loadName_free I.ok.kind hk hc hcell fin hcd) hd
def wf{i j pos}:PE X (.Constant (.int i) j pos) (tC (.int i)):=fun _ _ _ H _ I h=>wpAny_Constant_int ⟨.int i,H,I.tok _,⟨_,rfl⟩,h⟩
def yR{b j pos}:PE X (.Constant (.bool b) j pos) (tC (.bl b)):=fun _ _ _ H _ I h=>Constant_bool ⟨.bl b,H,I,rfl,h⟩
def wg{j pos}:PE X (.Constant .none j pos) (tC .non):=fun _ _ _ H _ I h=>Constant_none ⟨.non,H,I,rfl,h⟩
def wj{x j pos}:PE X (.Constant (.str x) j pos) (tC (.str x)):=fun _ _ _ H _ I h=>Calls.Constant_str ⟨.str x,H,I.tok _,⟨_,rfl⟩,h⟩
def Gl(X:Cx)(x:Str):Prop:=X.env.kindOf x=some .globalImplicit
def nT{E:Vq}{pins:Va}{s:Shared}{σ:St}{H:Hp}{x:Str}{u:Value}{pos:Pos}{Q:Vq}(I:Inv X pins σ H s)(hg:Gl X x)(hm:X.mg x=some u)(h:Q u s)
  (hd:(x == ("__debug__":Str))=false:=by decide):wpAny (model X.prog X.w) X.A (eval (.Name x pos) X.env) Q E s:=
 Calls.Name_function_global I.ok.kind hg (Calls.loadGlobal_global (by rw[I.ok.glob];exact I.mod.glob.keeps I.bk) hm h) hd
def eP{E:Vq}{pins:Va}{s:Shared}{σ:St}{H:Hp}{x:Str}{u:Value}{pos:Pos}{Q:Vq}(I:Inv X pins σ H s)(hg:Gl X x)(hm:X.mg x=none)(hv:bootBuiltins x=some u)(h:Q u s)
  (hn:x ≠ "__name__":=by decide) (hd:(x == ("__debug__":Str))=false:=by decide):wpAny (model X.prog X.w) X.A (eval (.Name x pos) X.env) Q E s:=by
 obtain⟨mb,h1,h2⟩:=I.mod.blt
 exact Calls.Name_function_global I.ok.kind hg (Calls.loadGlobal_builtin (by rw[I.ok.glob];exact I.mod.glob.keeps I.bk) hm (by rw[I.ok.blt];exact h1.keeps I.bk) ((h2 x hn).trans hv) h) hd
variable {a b:Expr} {ta tb:TE} {pos:Pos}
def tB(t:TE):TT:=fun σ H Q=>t σ H fun x H1=>∃c,x = .bl c/\Q c H1
def wk{e:Expr}{t:TE}(h:PE X e t)(he:∀whole,isTrue e X.env whole=(do let v <-whole;standAt e.pos;holding [v] (truthy v)):=by intro _;rfl):PT X e (tB t):=by
 intro pins s σ H Q I hw
 refine isTrue_plain (bz (h pins s σ H _ I hw) fun v s1 ⟨x,H1,I1,r1,q1⟩=>?_) (he _)
 obtain⟨d,rfl,q⟩:=q1
 cases r1
 exact wpAny_truthy_bool ⟨H1,I1,q⟩
variable {tA Ij:TT} {rest:List Expr}
def A0(t u:TT):TT:=fun σ H Q=>t σ H fun c H1=>if c=true then u σ H1 Q else Q false H1
def Cd(t u:TT):TT:=fun σ H Q=>t σ H fun c H1=>if c=true then Q true H1 else u σ H1 Q
def tN(ha:PT X a tA):PW X (.BoolOp .And [a] pos) tA:=by
 intro wh pins s σ H Q I h
 refine isTrue_and (bz (ha pins s σ H Q I h) fun c s1 e=>?_)
 cases c with
 |true=>exact isTrue_and_nil e
 |false=>exact e
def wm(ha:PT X a tA):PW X (.BoolOp .Or [a] pos) tA:=by
 intro wh pins s σ H Q I h
 refine isTrue_or (bz (ha pins s σ H Q I h) fun c s1 e=>?_)
 cases c with
 |false=>exact isTrue_or_nil e
 |true=>exact e
def wo(ha:PT X a tA)(hb:PW X (.BoolOp .And (b::rest) pos) Ij):PW X (.BoolOp .And (a::b::rest) pos) (A0 tA Ij):=by
 intro wh pins s σ H Q I h
 refine isTrue_and (bz (ha pins s σ H _ I h) fun c s1 ⟨H1,I1,q1⟩=>?_)
 cases c with
 |true=>exact hb wh pins s1 σ H1 Q I1 q1
 |false=>exact⟨H1,I1,q1⟩
def yS(ha:PT X a tA)(hb:PW X (.BoolOp .Or (b::rest) pos) Ij):PW X (.BoolOp .Or (a::b::rest) pos) (Cd tA Ij):=by
 intro wh pins s σ H Q I h
 refine isTrue_or (bz (ha pins s σ H _ I h) fun c s1 ⟨H1,I1,q1⟩=>?_)
 cases c with
 |true=>exact⟨H1,I1,q1⟩
 |false=>exact hb wh pins s1 σ H1 Q I1 q1
def Ce(t:TT)(ta tb:TE):TE:=fun σ H Q=>t σ H fun c H1=>if c=true then ta σ H1 Q else tb σ H1 Q
def qt{c:Expr}(hc:PT X c tA)(ha:PE X a ta)(hb:PE X b tb):PE X (.IfExp c a b pos) (Ce tA ta tb):=by
 intro pins s σ H Q I h
 refine wpAny_IfExp (bz (hc pins s σ H _ I h) fun d s1 ⟨H1,I1,q1⟩=>?_)
 cases d with
 |true=>exact ha pins s1 σ H1 Q I1 q1
 |false=>exact hb pins s1 σ H1 Q I1 q1
end
def SqL(K:Vo)(H:Hp)(a:Addr)(xs:List V):Prop:=
 Rd H a (.lst xs) \/
  ∃(o:Obj) (its:Vw) (n:Nat),K.lookup a=some o/\o.cls = .type "list"/\o.dict=none/\o.data = .seq its n/\its.size<=sizeLine/\Vals xs its.toList
def SqT(K:Vo)(H:Hp)(a:Addr)(xs:List V):Prop:=
 Rd H a (.tup xs) \/
  ∃(o:Obj) (its:Vw) (n:Nat),K.lookup a=some o/\o.cls = .type "tuple"/\o.dict=none/\o.data = .seq its n/\its.size<=sizeLine/\Vals xs its.toList
noncomputable def A1:Value->Option V
 | .none=>some .non
 | .bool b=>some (.bl b)
 | .int i _=>some (.int i)
 | .str x _=>some (.str x)
 | .bytes b _=>some (.FX b)
 | .float b _=>some (.Ih b)
 | .ref a=>some (.ref a)
 | .type n=>some (.ty n)
 |_=>none
def RelV.abs{x:V}{u:Value}(r:RelV x u):A1 u=some x:=by
 cases x with
 |non=>cases r;rfl
 |bl _=>cases r;rfl
 |int _=>obtain⟨t,rfl⟩:=r;rfl
 |str _=>obtain⟨t,rfl⟩:=r;rfl
 |FX _=>obtain⟨t,rfl⟩:=r;rfl
 |Ih _=>obtain⟨t,rfl⟩:=r;rfl
 |ref _=>cases r;rfl
 |ty _=>cases r;rfl
theorem RelV.inj{x y:V}{u:Value}(r:RelV x u)(q:RelV y u):x=y:=Option.some.inj (r.abs.symm.trans q.abs)
theorem Vals.inj:∀{xs ys:List V} {us:Vv},Vals xs us->Vals ys us->xs=ys
 |_,_,_,.nil,.nil=>rfl
 |_,_,_,.cons r t,.cons r' t'=>by rw[r.inj r',Vals.inj t t']
section
variable {X:Cx} {pins:Va} {σ:St} {H:Hp} {s:Shared} {a:Addr} {xs ys:List V}
def SqL.of{K:Vo}(h:H a=some (.lst xs)):SqL K H a xs:=.inl (.inl h)
def SqT.of{K:Vo}(h:H a=some (.tup xs)):SqT K H a xs:=.inl (.inl h)
def Inv.list(I:Inv X pins σ H s)(h:SqL X.K H a xs):∃its:List Value,Vals xs its/\PlainL s.heap a its.toArray/\xs.length<=sizeLine:=by
 rcases h with h|⟨o,its,n,hk,hc,hd,hs,hz,r⟩
 ·obtain⟨z,its,n,r,e⟩:=h.ok I.hok
  exact⟨its,r,⟨_,n,e,rfl,rfl,rfl⟩,z⟩
 ·refine⟨its.toList,r,⟨o,n,I.FC a o hk,hc,hd,by simpa using hs⟩,?_⟩
  have e:=r.length
  simp only[Array.length_toList]at e
  omega
def Inv.tuple(I:Inv X pins σ H s)(h:SqT X.K H a xs):∃its:List Value,Vals xs its/\IsTup s.heap a its.toArray/\xs.length<=sizeLine:=by
 rcases h with h|⟨o,its,n,hk,hc,_,hs,hz,r⟩
 ·obtain⟨z,its,r,p⟩:=h.ok I.hok
  exact⟨its,r,p.tup,z⟩
 ·refine⟨its.toList,r,⟨o,I.FC a o hk,hc,n,by simpa using hs⟩,?_⟩
  have e:=r.length
  simp only[Array.length_toList]at e
  omega
def Inv.EE(I:Inv X pins σ H s)(h:SqL X.K H a xs)(h':SqL X.K H a ys):xs=ys:=by
 obtain⟨its,r,⟨o,n,e,_,_,d⟩,_⟩:=I.list h
 obtain⟨its',r',⟨o',n',e',_,_,d'⟩,_⟩:=I.list h'
 rw[e]at e';cases e'
 rw[d]at d'
 injection d' with d1 _
 have:its=its':=by simpa using congrArg Array.toList d1
 subst this
 exact r.inj r'
def Inv.Er(I:Inv X pins σ H s)(h:SqT X.K H a xs)(h':SqT X.K H a ys):xs=ys:=by
 obtain⟨its,r,⟨o,e,_,n,d⟩,_⟩:=I.tuple h
 obtain⟨its',r',⟨o',e',_,n',d'⟩,_⟩:=I.tuple h'
 rw[e]at e';cases e'
 rw[d]at d'
 injection d' with d1 _
 have:its=its':=by simpa using congrArg Array.toList d1
 subst this
 exact r.inj r'
end
noncomputable abbrev Cx.wish(X:Cx)(E:Vq):Cx:={ X with xe:=E }
noncomputable abbrev Cx.HE(X:Cx):Cx:=X.wish fun _ _=>False
theorem Cx.Ok.wish{X:Cx}(ok:X.Ok)(E:Vq):(X.wish E).Ok:=
 ⟨ok.mod,ok.kind,ok.glob,ok.blt,ok.above,ok.inj,ok.has,ok.Hi,ok.hd,ok.frames,ok.stk,ok.IN,ok.bs,ok.Ga,ok.FM,ok.F0,ok.Eo,ok.GD⟩
def Cx.Ok.DN{X:Cx}{E:Vq}(ok:(X.wish E).Ok):X.Ok:=
 ⟨ok.mod,ok.kind,ok.glob,ok.blt,ok.above,ok.inj,ok.has,ok.Hi,ok.hd,ok.frames,ok.stk,ok.IN,ok.bs,ok.Ga,ok.FM,ok.F0,ok.Eo,ok.GD⟩
section
variable {X:Cx} {pins:Va} {σ:St} {H:Hp} {s:Shared} {E:Vq}
theorem Inv.wish(I:Inv X pins σ H s)(E:Vq):Inv (X.wish E) pins σ H s:=⟨I.ok.wish E,I.os,I.bare,I.base,I.loc,I.cell,I.free,I.DM,I.pin,I.hok,I.len⟩
theorem Inv.DN(I:Inv (X.wish E) pins σ H s):Inv X pins σ H s:=⟨I.ok.DN,I.os,I.bare,I.base,I.loc,I.cell,I.free,I.DM,I.pin,I.hok,I.len⟩
theorem SP.DN{D:kh}{f:Flow}{s':Shared}(h:SP (X.wish E) pins D f s'):SP X pins D f s':=by
 cases f with
 |next=>obtain⟨σ',H',I,q⟩:=h;exact⟨σ',H',I.DN,q⟩
 |brk=>obtain⟨σ',H',I,q⟩:=h;exact⟨σ',H',I.DN,q⟩
 |cont=>obtain⟨σ',H',I,q⟩:=h;exact⟨σ',H',I.DN,q⟩
 |ret u=>obtain⟨v,σ',H',I,r,q⟩:=h;exact⟨v,σ',H',I.DN,r,q⟩
theorem Fp.HE{st:List Stmt}{t:TS}(h:Fp X.HE st t):Fp X st t:=fun pins s σ H D I hw=>
 wpAny_mono (h pins s σ H D (I.wish _) hw) (fun _ _ q=>q.DN) fun _ _ z=>False.elim z
end
section
variable {X:Cx} {st:Stmt} {rest:List Stmt} {t u:TS} {e:Expr} {te:TE} {pos:Pos}
def yT:TS:=fun D σ H=>D.nx σ H
def A2(t u:TS):TS:=fun D σ H=>t { D with nx:=u D } σ H
def tO:Fp X [] yT:=fun _ _ σ H _ I h=>wpAny_execs_nil ⟨σ,H,I,h⟩
def qu(h1:PS X st t)(h2:Fp X rest u):Fp X (st::rest) (A2 t u):=by
 intro pins s σ H D I h
 refine wpAny_execs_cons (bz (h1 pins s σ H { D with nx:=u D } I h) fun f s1 q=>?_)
 cases f with
 |next=>
  obtain⟨σ',H',I',q⟩:=q
  exact h2 pins s1 σ' H' D I' q
 |ret v=>exact q
 |brk=>exact q
 |cont=>exact q
def tP(h1:PS X st t):Fp X [st] t:=by
 intro pins s σ H D I h
 refine wpAny_execs_cons (bz (h1 pins s σ H D I h) fun f s1 q=>?_)
 cases f with
 |next=>exact wpAny_execs_nil q
 |ret v=>exact q
 |brk=>exact q
 |cont=>exact q
def Inv.quiet{pins:Va}{σ:St}{H:Hp}{s:Shared}(I:Inv X pins σ H s):interactive X.env=false:=by simp[interactive,I.ok.kind]
def yU(te:TE):TS:=fun D σ H=>te σ H fun _ H1=>D.nx σ H1
def tQ(he:PE X e te)(hs:swapsWith e none pos.line X.env=pure false:=by rfl):PS X (.Expr e pos) (yU te):=by
 intro pins s σ H D I h
 exact wpAny_Expr_any (bz (he pins s σ H _ I h) fun v s1 ⟨x,H1,I1,r1,q1⟩=>⟨σ,H1,I1,q1⟩) I.quiet hs
def A3(te:TE):TS:=fun D σ H=>te σ H D.rt
def wq(he:PE X e te):PS X (.Return (some e) pos) (A3 te):=by
 intro pins s σ H D I h
 exact wpAny_Return_some (bz (he pins s σ H _ I h) fun v s1 ⟨x,H1,I1,r1,q1⟩=>⟨x,σ,H1,I1,r1,q1⟩)
def A4(c:TT)(t u:TS):TS:=fun D σ H=>c σ H fun b H1=>if b=true then t D σ H1 else u D σ H1
def yV{c:Expr}{a b:List Stmt}{tc:TT}(hc:PT X c tc)(ha:Fp X a t)(hb:Fp X b u):PS X (.If c a b pos) (A4 tc t u):=by
 intro pins s σ H D I h
 refine wpAny_If (bz (hc pins s σ H _ I h) fun d s1 ⟨H1,I1,q1⟩=>?_)
 cases d with
 |true=>exact ha pins s1 σ H1 D I1 q1
 |false=>exact hb pins s1 σ H1 D I1 q1
end
abbrev TG:=V->St->Hp->(St->Hp->Prop)->Prop
abbrev vn:=List V->St->Hp->(St->Hp->Prop)->Prop
def PG(X:Cx)(target:Expr)(t:TG):Prop:=
 ∀(pins:Va) (s:Shared) (σ:St) (H:Hp) (v:V) (u:Value) (Q:St->Hp->Prop),Inv X pins σ H s->RelV v u->t v σ H Q->
  wpAny (model X.prog X.w) X.A (assign target X.env u) (fun _ s'=>∃σ' H',Inv X pins σ' H' s'/\Q σ' H') X.xe s
def yW(X:Cx)(ts:List Expr)(t:vn):Prop:=
 ∀(pins:Va) (s:Shared) (σ:St) (H:Hp) (vs:List V) (us:Vv) (Q:St->Hp->Prop),Inv X pins σ H s->Vals vs us->t vs σ H Q->
  wpAny (model X.prog X.w) X.A (assignInOrder ((assignEach ts X.env).map (·.2)) us) (fun _ s'=>∃σ' H',Inv X pins σ' H' s'/\Q σ' H') X.xe s
abbrev wu:=V->V->V->Hp->(Hp->Prop)->Prop
def tR(X:Cx)(t:wu):Prop:=
 ∀(pins:Va) (s:Shared) (σ:St) (H:Hp) (o i v:V) (ov iv u:Value) (Q:Hp->Prop),Inv X pins σ H s->RelV o ov->RelV i iv->RelV v u->t o i v H Q->
  wpAny (model X.prog X.w) X.A (setItem ov iv u) (fun _ s'=>∃H',Inv X pins σ H' s'/\Q H') X.xe s
section
variable {X:Cx} {pos:Pos}
def li(i:Nat):TG:=fun v σ H Q=>Q (σ.set i (some v)) H
def tS{i:Nat}{x:Str}(hN:X.N.Nodup)(hi:X.N[i]?=some x)(hx:vm X.env.scope x)(hf:X.fn x=true\/X.env.scope.names.lookup x=some .local:=by first|exact .inl rfl|exact .inr rfl|assumption):PG X (.Name x pos) (li i):=by
 intro pins s σ H v u Q I r h
 exact wpAny_assign_Name (gk I hN hi hx r (fun s' I'=>⟨_,H,I',h⟩) hf)
noncomputable def yX:vn:=fun vs σ H Q=>vs=[]/\Q σ H
noncomputable def vo(t:TG)(u:vn):vn:=fun vs σ H Q=>∃v r,vs=v::r/\t v σ H fun σ' H'=>u r σ' H' Q
def tT:yW X [] yX:=by
 intro pins s σ H vs us Q I r h
 obtain⟨e,h⟩:=h
 subst e
 cases r
 exact assignInOrder_nil ⟨σ,H,I,h⟩
def qv{e:Expr}{es:List Expr}{t:TG}{u:vn}(h1:PG X e t)(h2:yW X es u)
  (hs:(assignEach (e::es) X.env).map (·.2)=assign e X.env::(assignEach es X.env).map (·.2):=by rfl):yW X (e::es) (vo t u):=by
 intro pins s σ H vs us Q I r h
 obtain⟨v,vr,e1,h⟩:=h
 subst e1
 cases r with
 |cons r rr=>
  rw[hs]
  refine assignInOrder_cons (bz (h1 pins s σ H _ _ _ I r h) fun _ s1 ⟨σ1,H1,I1,q1⟩=>?_)
  exact h2 pins s1 σ1 H1 _ _ Q I1 rr q1
def yY(K:Vo)(n:Nat)(t:vn):TG:=fun v σ H Q=>∃a xs,v = .ref a/\SqT K H a xs/\xs.length=n/\t xs σ H Q
def wv{es:List Expr}{k:Nat}{t:vn}{n:Nat}(hc:X.calm=true)(h:yW X es t)
  (hn:(assignEach es X.env).length=n:=by rfl) (hst:(assignEach es X.env).findIdx? (·.1)=none:=by rfl):PG X (.Tuple es k pos) (yY X.K n t):=by
 intro pins s σ H v u Q I r hw
 obtain⟨a,xs,e1,hq,hl,hw⟩:=hw
 subst e1
 cases r
 obtain⟨its,rv,ht,hz⟩:=I.tuple hq
 refine assign_Tuple_tuple (I.ok.hd hc) ht (by simp[hn,<-hl,rv.length]) hst fun h' hx=>?_
 have I1:Inv X pins σ H { s with heap:=h' }:=I.kept (t':=s.toks) fun b o e=>hx b o (Nat.ne_of_lt (Heap.lt_size e)) e
 exact h pins _ σ H xs _ Q I1 (by simpa using rv) hw
def A5(to ti:TE)(t:wu):TG:=fun v σ H Q=>to σ H fun o H1=>ti σ H1 fun i H2=>t o i v H2 fun H3=>Q σ H3
def ww{o i:Expr}{to ti:TE}{t:wu}(ho:PE X o to)(hi:PE X i ti)(hs:tR X t)
  (ha:∀v,assign (.Subscript o i pos) X.env v=(do
   let ov <-holding [v] (eval o X.env)
   let iv <-holding [v,ov] (eval i X.env)
   standAt pos
   holding [v,ov,iv] (setItem ov iv v)
   release [v,ov,iv] []):=by intro _;rfl):PG X (.Subscript o i pos) (A5 to ti t):=by
 intro pins s σ H v u Q I r h
 rw[ha]
 refine wpAny_bind (wpAny_holding (bz (ho pins s σ H _ I h) fun ov s1 ⟨x,H1,I1,r1,q1⟩=>?_))
 refine wpAny_bind (wpAny_holding (bz (hi pins s1 σ H1 _ I1 q1) fun iv s2 ⟨y,H2,I2,r2,q2⟩=>?_))
 refine wpAny_bind (wpAny_standAt (wpAny_bind (wpAny_holding (bz (hs pins s2 σ H2 x y v ov iv u _ I2 r1 r2 r q2) fun _ s3 ⟨H3,I3,q3⟩=>?_))))
 exact wpAny_release ⟨σ,H3,I3,q3⟩
def tU(te:TE)(g:TG):TS:=fun D σ H=>te σ H fun x H1=>g x σ H1 D.nx
def wx{tg e:Expr}{te:TE}{g:TG}(he:PE X e te)(hg:PG X tg g)(hs:swapsWithSole [tg] e pos.line X.env=pure false:=by rfl)(hw:swappedStores [tg] e X.env=pure none:=by rfl)
  (h1:(assignEach [tg] X.env).map (·.2)=[assign tg X.env]:=by rfl):PS X (.Assign [tg] e pos) (tU te g):=by
 intro pins s σ H D I h
 refine wpAny_Assign_stores (bz (he pins s σ H _ I h) fun v s1 ⟨x,H1,I1,r1,q1⟩=>?_) hs hw
 rw[h1]
 exact bz (hg pins s1 σ H1 x v _ I1 r1 q1) fun _ s2 q=>q
def wy{i:Nat}{x:Str}{e:Expr}{te:TE}{pos':Pos}(hN:X.N.Nodup)(hi:X.N[i]?=some x)(hx:vm X.env.scope x)(he:PE X e te)(hs:swapsWith e (some (.Name x pos')) pos.line X.env=pure false:=by rfl)(hf:X.fn x=true\/X.env.scope.names.lookup x=some .local:=by first|exact .inl rfl|exact .inr rfl|assumption) :
  PS X (.Assign [.Name x pos'] e pos) (tU te (li i)):=by
 intro pins s σ H D I h
 refine wpAny_Assign_Name (bz (he pins s σ H _ I h) fun v s1 ⟨y,H1,I1,r1,q1⟩=>?_) hs
 exact gk I1 hN hi hx r1 (fun s2 I2=>⟨_,H1,I2,q1⟩) hf
def A6(i j:Nat)(ta:TA):TS:=fun D σ H=>ta σ H fun vs H1=>∃v w,vs=[v,w]/\D.nx ((σ.set i (some v)).set j (some w)) H1
def wz{i j:Nat}{x y:Str}{a b:Expr}{ta:TA}{px py pt:Pos}{kt k2 GW}(hc:X.calm=true)(hN:X.N.Nodup)(hi:X.N[i]?=some x)(hj:X.N[j]?=some y)(hij:i≠j)
  (hx:X.env.scope.names.lookup x=some .local) (hy:X.env.scope.names.lookup y=some .local) (ha:PA X [a,b] ta)
  (hw:swappedStores [.Tuple [.Name x px,.Name y py] kt pt] (.Tuple [a,b] k2 GW) X.env=pure (some [x,y]))
  (hs:swapsWithSole [.Tuple [.Name x px,.Name y py] kt pt] (.Tuple [a,b] k2 GW) pos.line X.env=pure false:=by rfl) :
  PS X (.Assign [.Tuple [.Name x px,.Name y py] kt pt] (.Tuple [a,b] k2 GW) pos) (A6 i j ta):=by
 intro pins s σ H D I h
 rw[exec_Assign_arm]
 refine wpAny_bind (wpAny_standAt ?_)
 rw[hs]
 refine wpAny_bind (wpAny_pure ?_)
 rw[if_neg (by decide)]
 refine wpAny_bind (Tuple_ (bz (ha _ pins s σ H _ I h) fun us s1 ⟨vs,H1,I1,r1,q1⟩=>?_))
 obtain⟨v,w,e1,q1⟩:=q1
 subst e1
 obtain⟨u1,u2,rfl,rv,rw'⟩:∃u1 u2,us=[u1,u2]/\RelV v u1/\RelV w u2:=by
  cases r1 with
  |cons p q=>
   cases q with
   |cons p' q'=>
    cases q'
    exact⟨_,_,rfl,p,p'⟩
 refine wpAny_newObj_type ?_ (by show 2<=sizeLine;decide)
 have I2:Inv X pins σ H1 { s1 with heap:=s1.heap.push { cls:=.type "tuple",data:=.seq [u1,u2].toArray } }:=I1.kept (t':=s1.toks) fun b o e=>Heap.get?_push_of_some _ e
 rw[hw]
 refine wpAny_bind (wpAny_pure ?_)
 show wpAny (model X.prog X.w) X.A (do rule "assign.swapped-stores"; let items <-unpackItems (.ref s1.heap.objs.size) 2 none;assignInOrder [fun v=>bindName X.env y v,fun v=>bindName X.env x v] items.reverse;pure Flow.next) _ _ _
 refine wpAny_bind (wpAny_rule (wpAny_bind (unpackItems_tuple (items:=#[u1,u2]) (I.ok.hd hc) (IsTup.new s1.heap _) fun h' hx'=>?_)))
 have I3:=I2.kept (h':=h') (t':=s1.toks) fun b o e=>hx' b o (Nat.ne_of_lt (Heap.lt_size e)) e
 show wpAny _ _ (assignInOrder [fun v=>bindName X.env y v,fun v=>bindName X.env x v] [u2,u1] >>= fun _=>pure Flow.next) _ _ _
 refine wpAny_bind (assignInOrder_cons (wpAny_bindName (gk I3 hN hj (.inl hy) rw' (fun s2 I4=>?_) (.inr hy))))
 refine assignInOrder_cons (wpAny_bindName (gk I4 hN hi (.inl hx) rv (fun s3 I5=>assignInOrder_nil (wpAny_pure ?_)) (.inr hx)))
 rw[List.set_comm _ _ (Ne.symm hij)]at I5
 exact⟨_,H1,I5,q1⟩
end
section
variable {X:Cx} {pos:Pos}
def wA(c:TT)(tb:TS):TS:=fun D σ H=>∃W:Nat->St->Hp->Prop,(∃m,W m σ H)/\∀m σ H,W m σ H->
 c σ H fun b H1=>if b=true then ∃N:St->Hp->Prop,(∀σ' H',N σ' H'->∃m',m' < m/\W m' σ' H')/\tb { D with nx:=N,ct:=N,bk:=D.nx } σ H1 else D.nx σ H1
def qw{c:Expr}{body:List Stmt}{tc:TT}{tb:TS}(hp:PassesOwn (model X.prog X.w) X.A X.env X.xe)(hc:PT X c tc)(hb:Fp X body tb):PS X (.While c body [] pos) (wA tc tb):=by
 intro pins s σ H D I h
 obtain⟨W,⟨m0,w0⟩,turn⟩:=h
 refine wpAny_While (codeAny_whileLoop (fun n s'=>∃σ' H',Inv X pins σ' H' s'/\W n σ' H') ?_ m0 ⟨σ,H,I,w0⟩)
 rintro n s1 ⟨σ1,H1,I1,w1⟩
 refine wpAny_passesOwn hp (bz (hc pins s1 σ1 H1 _ I1 (turn n σ1 H1 w1)) fun b s2 ⟨H2,I2,q2⟩=>?_)
 cases b with
 |true=>
  obtain⟨N,hN,q2⟩:=q2
  rw[if_pos rfl]
  refine wpAny_passesOwn hp (bz (hb pins s2 σ1 H2 _ I2 q2) fun f s3 q3=>?_)
  cases f with
  |next=>
   obtain⟨σ3,H3,I3,n3⟩:=q3
   obtain⟨m',hm,w3⟩:=hN σ3 H3 n3
   exact⟨m',hm,σ3,H3,I3,w3⟩
  |cont=>
   obtain⟨σ3,H3,I3,n3⟩:=q3
   obtain⟨m',hm,w3⟩:=hN σ3 H3 n3
   exact⟨m',hm,σ3,H3,I3,w3⟩
  |brk=>exact q3
  |ret v=>exact q3
 |false=>
  rw[if_neg Bool.false_ne_true]
  exact wpAny_execs_nil ⟨σ1,H2,I2,q2⟩
end
structure It where
 go:Nat->Hp->Prop
 Ik:Nat->Hp->V->Hp->Prop
 stop:Nat->Hp->Prop
def eN(X:Cx)(pins:Va)(H:Hp)(b:Addr):Prop:=
 H b=none/\b≠X.env.locals/\b ∉ X.fs/\(b∈X.ex\/X.s₀.heap.objs.size<=b)/\(∀x c,X.env.cells.lookup x=some c->c≠b)/\∀p∈X.pn++pins,p.1≠b
def Inv.EA{X:Cx}{pins:Va}{σ:St}{H H':Hp}{s:Shared}{b:Addr}(I:Inv X pins σ H s)(hb:s.heap.objs.size<=b)(hn:H' b=none):eN X pins H' b:=by
 refine⟨hn,Nat.ne_of_gt (Nat.lt_of_lt_of_le I.lt hb),I.Hy hb,.inr (Nat.le_trans I.sz hb),fun x c e z=>?_,fun p hp z=>?_⟩
 ·obtain⟨v,q⟩:=I.cell x c e
  exact absurd (Nat.lt_of_lt_of_le q.lt (by rw[z];exact hb)) (Nat.lt_irrefl _)
 ·exact absurd (Nat.lt_of_lt_of_le (Heap.lt_size (I.pin p hp).1) (by rw[z];exact hb)) (Nat.lt_irrefl _)
structure ki (P:Program) (w:World) (K:Vo) (tg:Expr) (J:It) (fp:List Addr) (it:Addr) (tn:Nat->Heap->Prop):Prop where
 mem:it∈fp
 obj:∀i h,tn i h->∀b∈fp,∃o,h.get? b=some o/\∀v,o.data ≠ .cell v
 keep:∀i h h',tn i h->(∀b∈fp,∀o,h.get? b=some o->h'.get? b=some o)->tn i h'
 item:∀(X:Cx),X.prog=P->X.w=w->X.K=K->X.calm=true->∀(i:Nat) (pins:Va) (s:Shared) (σ:St) (H:Hp) (E:Vq),Inv X pins σ H s->(∀b∈fp,eN X pins H b)->tn i s.heap->J.go i H->
  wpAny (model P w) X.A (pyNext (.ref it)) (fun r s1=>∃u,r=some u/\
   wpAny (model P w) X.A (letOwnedTupleGo tg (.ref it) u) (fun _ s2=>∃x H',Inv X pins σ H' s2/\RelV x u/\J.Ik i H x H'/\tn (i+1) s2.heap/\∀b∈fp,H' b=none) E s1) E s
 done:∀(X:Cx),X.prog=P->X.w=w->X.K=K->X.calm=true->∀(i:Nat) (pins:Va) (s:Shared) (σ:St) (H:Hp) (E:Vq),Inv X pins σ H s->(∀b∈fp,eN X pins H b)->tn i s.heap->J.stop i H->
  wpAny (model P w) X.A (pyNext (.ref it)) (fun r s1=>r=none/\Inv X pins σ H s1) E s
 self:∀(A:Around) (i:Nat) (s:Shared) (Q:Vq) (E:Vq),tn i s.heap->Q (.ref it) s->wpAny (model P w) A (pyIter (.ref it)) Q E s
abbrev TI:=St->Hp->(It->Hp->Prop)->Prop
def A7(X:Cx)(pins:Va)(σ:St)(tg:Expr)(R:It->Hp->Prop)(itv:Value)(s2:Shared):Prop:=
 ∃(it:Addr) (fp:List Addr) (tn:Nat->Heap->Prop) (J:It) (H':Hp),itv = .ref it/\Inv X pins σ H' s2/\ki X.prog X.w X.K tg J fp it tn/\tn 0 s2.heap/\(∀b∈fp,eN X pins H' b)/\R J H'
def PI(X:Cx)(tg iter:Expr)(wi:TI):Prop:=
 ∀(pins:Va) (s:Shared) (σ:St) (H:Hp) (R:It->Hp->Prop),Inv X pins σ H s->wi σ H R->
  wpAny (model X.prog X.w) X.A (eval iter X.env) (fun v s1=>wpAny (model X.prog X.w) X.A (pyIter v) (A7 X pins σ tg R) X.xe s1) X.xe s
def nU {M : Model} {A : Around} {E : Value -> Shared -> Prop} {s : Shared} {tg : Expr} {it : Addr} {u : Value} {o : Obj} {n : String} {vs : Array Value} {Q : Unit -> Shared -> Prop} (ho : s.heap.get? it = some o) (hc : o.cls = .type n) (hd : o.data = .fields vs)
    (hn : ["enumerate", "zip", "dict_itemiterator", "dict_reverseitemiterator", "odict_iterator", "itertools.zip_longest", "itertools.pairwise"].contains n = false) (hQ : Q () s) : wpAny M A (letOwnedTupleGo tg (.ref it) u) Q E s := by
  unfold letOwnedTupleGo
  cases tg <;> first
    | exact wpAny_pure hQ
    | (cases u <;> first
        | exact wpAny_pure hQ
        | (refine wpAny_bind (wpAny_load ho ?_)
           rw [hc, hd]
           show wpAny M A (if (["enumerate", "zip", "dict_itemiterator", "dict_reverseitemiterator", "odict_iterator", "itertools.zip_longest", "itertools.pairwise"].contains n && vs[0]? == some (rawInt _)) = true then _ else _) Q E s
           rw [if_neg (by intro h; rw [hn, Bool.false_and] at h; cases h)]
           exact wpAny_pure hQ))
noncomputable def AI(K:Vo)(a:Addr):It:=
 ⟨fun i H=>∃xs x,SqL K H a xs/\xs[i]?=some x,fun i H x H'=>H'=H/\∀xs,SqL K H a xs->xs[i]?=some x,fun i H=>∃xs,SqL K H a xs/\xs.length<=i⟩
noncomputable def A8(K:Vo)(a:Addr):It:=
 ⟨fun i H=>∃xs x,SqT K H a xs/\xs[i]?=some x,fun i H x H'=>H'=H/\∀xs,SqT K H a xs->xs[i]?=some x,fun i H=>∃xs,SqT K H a xs/\xs.length<=i⟩
noncomputable def AJ(lo:Int)(n:Nat):It:=⟨fun i _=>i < n,fun i H x H'=>H'=H/\x = .int (lo+i),fun i _=>n<=i⟩
def oU{P:Program}{w:World}{K:Vo}{tg:Expr}(a it:Addr):ki P w K tg (AI K a) [it] it (fun i h=>h.IsListIter it a i) where
 mem:=by simp
 obj:=fun i h st b hb=>by
  have e:b=it:=by simpa using hb
  subst e
  obtain⟨o,e,c,d⟩:=st
  exact⟨o,e,fun v z=>by rw[d]at z;cases z⟩
 keep:=fun i h h' st k=>st.at fun o e=>k it (by simp) o e
 item:=by
  intro X hP hw hK hc i pins s σ H E I hf st hg
  subst hP hw hK
  obtain⟨xs,x,hq,hx⟩:=hg
  obtain⟨its,rv,p,hz⟩:=I.list hq
  obtain⟨u,hu,ru⟩:=rv.get hx
  obtain⟨f0,f1,f2,f3,f4,f5⟩:=hf it (by simp)
  refine wpAny_pyNext_list_item st p.isList (x:=u) (by simpa using hu) fun h' st' sb=>?_
  have I1:Inv X pins σ H { s with heap:=h' }:=I.turned (t':=s.toks) (fun b o hb e=>(sb.2 b hb).trans e) f0 f1 f3 f4 f5
  obtain⟨o,e,c,d⟩:=id st'
  exact⟨u,rfl,nU (s:={ s with heap:=h' }) e c d (by decide) ⟨x,H,I1,ru,⟨rfl,fun ys hy=>by rw[I.EE hy hq];exact hx⟩,st',fun b hb=>(hf b hb).1⟩⟩
 done:=by
  intro X hP hw hK hc i pins s σ H E I hf st hg
  subst hP hw hK
  obtain⟨xs,hq,hx⟩:=hg
  obtain⟨its,rv,p,hz⟩:=I.list hq
  obtain⟨f0,f1,f2,f3,f4,f5⟩:=hf it (by simp)
  have hl:=rv.length
  exact wpAny_pyNext_list_end (I.ok.hd hc) st p.isList (by simp;omega) fun h' eb=>⟨rfl,I.turned (t':=s.toks) (fun b o hb e=>eb b o hb e) f0 f1 f3 f4 f5⟩
 self:=fun _ _ _ _ _ st h=>wpAny_pyIter_listiter st h
def mx{P:Program}{w:World}{K:Vo}{tg:Expr}(a it:Addr):ki P w K tg (A8 K a) [it] it (fun i h=>h.IsTupleIter it a i) where
 mem:=by simp
 obj:=fun i h st b hb=>by
  have e:b=it:=by simpa using hb
  subst e
  obtain⟨o,e,c,d⟩:=st
  exact⟨o,e,fun v z=>by rw[d]at z;cases z⟩
 keep:=fun i h h' st k=>st.at fun o e=>k it (by simp) o e
 item:=by
  intro X hP hw hK hc i pins s σ H E I hf st hg
  subst hP hw hK
  obtain⟨xs,x,hq,hx⟩:=hg
  obtain⟨its,rv,p,hz⟩:=I.tuple hq
  obtain⟨u,hu,ru⟩:=rv.get hx
  obtain⟨f0,f1,f2,f3,f4,f5⟩:=hf it (by simp)
  refine wpAny_pyNext_tuple_item st (show s.heap.IsTuple a its.toArray from p) (x:=u) (by simpa using hu) fun h' st' sb=>?_
  have I1:Inv X pins σ H { s with heap:=h' }:=I.turned (t':=s.toks) (fun b o hb e=>(sb.2 b hb).trans e) f0 f1 f3 f4 f5
  obtain⟨o,e,c,d⟩:=id st'
  exact⟨u,rfl,nU (s:={ s with heap:=h' }) e c d (by decide) ⟨x,H,I1,ru,⟨rfl,fun ys hy=>by rw[I.Er hy hq];exact hx⟩,st',fun b hb=>(hf b hb).1⟩⟩
 done:=by
  intro X hP hw hK hc i pins s σ H E I hf st hg
  subst hP hw hK
  obtain⟨xs,hq,hx⟩:=hg
  obtain⟨its,rv,p,hz⟩:=I.tuple hq
  obtain⟨f0,f1,f2,f3,f4,f5⟩:=hf it (by simp)
  have hl:=rv.length
  exact wpAny_pyNext_tuple_end (I.ok.hd hc) st (show s.heap.IsTuple a its.toArray from p) (by simp;omega) fun h' eb=>⟨rfl,I.turned (t':=s.toks) (fun b o hb e=>eb b o hb e) f0 f1 f3 f4 f5⟩
 self:=fun _ _ _ _ _ st h=>wpAny_pyIter_tupleiter st h
def my{P:Program}{w:World}{K:Vo}{tg:Expr}(it:Addr)(lo:Int)(n:Nat):ki P w K tg (AJ lo n) [it] it (fun i h=>IsRangeIter h it (lo+(i:Nat) * 1) ((n:Int) - (i:Nat)) 1) where
 mem:=by simp
 obj:=fun i h st b hb=>by
  have e:b=it:=by simpa using hb
  subst e
  exact⟨_,st,fun v z=>by
   have z':Data.fields _=Data.cell v:=z
   cases z'⟩
 keep:=fun i h h' st k=>k it (by simp) _ st
 item:=by
  intro X hP hw hK hc i pins s σ H E I hf st hg
  subst hP hw hK
  obtain⟨f0,f1,f2,f3,f4,f5⟩:=hf it (by simp)
  have W:=Walks.range (prog:=X.prog) (w:=X.w) (I.ok.hd hc) it lo 1 n
  refine W.item i s _ _ hg st fun v h' tk hv st' kk=>?_
  obtain⟨t,rfl⟩:=hv
  have I1:Inv X pins σ H { s with heap:=h',toks:=tk }:=I.turned (fun b o hb e=>kk b o (by simpa using hb) e) f0 f1 f3 f4 f5
  refine⟨_,rfl,nU (s:={ s with heap:=h',toks:=tk }) (n:="range_iterator") st' rfl rfl (by decide) ⟨.int (lo+i),H,I1,⟨t,?_⟩,⟨rfl,rfl⟩,st',fun b hb=>(hf b hb).1⟩⟩
  rw[Int.mul_one]
 done:=by
  intro X hP hw hK hc i pins s σ H E I hf st hg
  subst hP hw hK
  obtain⟨f0,f1,f2,f3,f4,f5⟩:=hf it (by simp)
  exact wpAny_pyNext_range_end (I.ok.hd hc) st (by have:n<=i:=hg;omega) fun h' eb=>⟨rfl,I.turned (t':=s.toks) (fun b o hb e=>eb b o hb e) f0 f1 f3 f4 f5⟩
 self:=fun _ _ _ _ _ st h=>wpAny_pyIter_rangeiter st h
section
variable {X:Cx} {tg:Expr}
def qx{pins:Va}{σ:St}{H:Hp}{s:Shared}{R:It->Hp->Prop}{E:Vq}{lo hi:Int}{t u v:Tok}{tk:Nat}(I:Inv X pins σ H s)(h1:-(2 ^ 62)<=lo)(h2:lo < 2 ^ 62)(h3:-(2 ^ 62)<=hi)(h4:hi < 2 ^ 62)
  (q:R (AJ lo (hi - lo).toNat) H):wpAny (model X.prog X.w) X.A (pyIter (.ref s.heap.objs.size)) (A7 X pins σ tg R) E { s with heap:=s.heap.push { cls:=.type "range",data:=.fields #[.int lo t,.int hi u,.int 1 v] },toks:=tk }:=by
 refine wpAny_pyIter_range (IsRange.new ..) (small_one h1 h2 h3 h4) ?_
 have I1:Inv X pins σ H { s with heap:=s.heap.push { cls:=.type "range",data:=.fields #[.int lo t,.int hi u,.int 1 v] },toks:=tk }:=I.kept fun b o e=>Heap.get?_push_of_some _ e
 refine⟨(s.heap.push { cls:=.type "range",data:=.fields #[.int lo t,.int hi u,.int 1 v] }).objs.size,[(s.heap.push { cls:=.type "range",data:=.fields #[.int lo t,.int hi u,.int 1 v] }).objs.size],_,_,H,rfl,
  I1.kept (t':=tk) fun b o e=>Heap.get?_push_of_some _ e,my _ lo (hi - lo).toNat,?_,fun b hb=>?_,q⟩
 ·have e1:lo+((0:Nat):Int) * 1=lo:=by simp
  have e2:(((hi - lo).toNat:Nat):Int) - ((0:Nat):Int)=Builtin.Range.rangeSize lo hi 1:=by rw[rangeSize_one];split<;>omega
  show IsRangeIter _ _ (lo+((0:Nat):Int) * 1) ((((hi - lo).toNat:Nat):Int) - ((0:Nat):Int)) 1
  rw[e1,e2]
  exact Heap.get?_push_size _ rfl
 ·have e:b=(s.heap.push { cls:=.type "range",data:=.fields #[.int lo t,.int hi u,.int 1 v] }).objs.size:=by simpa using hb
  subst e
  exact I1.EA (Nat.le_refl _) (I1.hok.fresh (Nat.le_refl _))
def yZ(ta:TA):TI:=fun σ H R=>ta σ H fun vs H1=>∃j:Int,vs=[.int j]/\-(2 ^ 62)<=j/\j < 2 ^ 62/\R (AJ 0 j.toNat) H1
def oV{a:Expr}{ta:TA}{p pos:Pos}(hg:Gl X "range")(hm:X.mg "range" = none)(ha:PA X [a] ta)(hs:starEach [a] X.env=[(false,eval a X.env)]:=by rfl):PI X tg (.Call (.Name "range" p) [a] [] pos) (yZ ta):=by
 intro pins s σ H R I h
 refine Call_ (eP I hg hm boot_range (PyProof.Rows.callWith_type1 (bz (ha pos pins s σ H _ I h) fun us s1 ⟨vs,H1,I1,r1,q1⟩=>?_) hs rfl))
 obtain⟨j,e,q1,q2,q⟩:=q1
 subst e
 cases r1 with
 |cons r rr=>
  cases rr
  obtain⟨t,rfl⟩:=r
  exact call_range_1 (qx I1 (by omega) (by omega) q1 q2 (by simpa using q))
def A9(wi:TI)(g:TG)(tb:TS):TS:=fun D σ H=>wi σ H fun J H1=>∃W:Nat->Nat->St->Hp->Prop,(∃m,W 0 m σ H1)/\∀i m σ H,W i m σ H->
 (J.stop i H/\D.nx σ H)\/(J.go i H/\∃N:St->Hp->Prop,(∀σ' H',N σ' H'->∃m',m' < m/\W (i+1) m' σ' H')/\∀x H',J.Ik i H x H'->g x σ H' fun σ2 H2=>tb { D with nx:=N,ct:=N,bk:=D.nx } σ2 H2)
noncomputable def iZ(fp:List Addr)(h:Heap):List (Addr×Obj):=fp.filterMap fun b=>(h.get? b).map fun o=>(b,o)
def fN{fp:List Addr}{h:Heap}{b:Addr}{o:Obj}(hb:b∈fp)(e:h.get? b=some o):(b,o)∈iZ fp h:=List.mem_filterMap.mpr ⟨b,hb,by rw[e];rfl⟩
def oW{fp:List Addr}{h:Heap}{p:Addr×Obj}(hp:p∈iZ fp h):p.1∈fp/\h.get? p.1=some p.2:=by
 obtain⟨b,hb,e⟩:=List.mem_filterMap.mp hp
 cases q:h.get? b with
 |none=>rw[q]at e;cases e
 |some o=>
  rw[q]at e
  have e':(b,o)=p:=Option.some.inj e
  subst e'
  exact⟨hb,q⟩
def Inv.pinned{pins:Va}{σ:St}{H:Hp}{s:Shared}{fp:List Addr}(I:Inv X pins σ H s)(hf:∀b∈fp,eN X pins H b)(ho:∀b∈fp,∃o,s.heap.get? b=some o/\∀v,o.data ≠ .cell v):Inv X (pins++iZ fp s.heap) σ H s:=
 I.EC fun p hp=>(List.mem_append.mp hp).elim (fun z=>I.pin p (List.mem_append_right _ z)) fun z=>by
  obtain⟨hb,e⟩:=oW z
  obtain⟨f0,f1,f2,_⟩:=hf p.1 hb
  obtain⟨o,e',d⟩:=ho p.1 hb
  rw[e]at e';cases e'
  exact⟨e,f0,f1,f2,d⟩
def Inv.Ei{pins pl:Va}{σ:St}{H:Hp}{s:Shared}(I:Inv X (pins++pl) σ H s):Inv X pins σ H s:=I.EC fun p hp=>I.pin p (List.mem_append_right _ (List.mem_append_left _ hp))
def wB{iter:Expr}{body:List Stmt}{wi:TI}{g:TG}{tb:TS}{pos:Pos}(hp:PassesOwn (model X.prog X.w) X.A X.env X.xe)(hc:X.calm=true)(hi:PI X tg iter wi)(hg:PG X tg g)(hb:Fp X body tb)
  (hs:∀x,foldedSetIterable iter X.env x=pure x:=by intro _;rfl):PS X (.For tg iter body [] pos) (A9 wi g tb):=by
 intro pins s σ H D I h
 refine wpAny_For (bz (hi pins s σ H _ I h) fun v s1 h1=>bz h1 fun itv s2 h2=>?_) hs
 obtain⟨it,fp,tn,J,H2,e,I2,T,st2,f2,W,⟨m0,w0⟩,turn⟩:=h2
 subst e
 -- what stays true of the iterator's objects through the loop
 have stat:∀{H':Hp},(∀b∈fp,H' b=none)->∀b∈fp,eN X pins H' b:=fun hn b hb=>⟨hn b hb,(f2 b hb).2⟩
 refine codeAny_forLoop_any (fun n s'=>∃i σ' H',Inv X pins σ' H' s'/\tn i s'.heap/\(∀b∈fp,H' b=none)/\W i n σ' H') ?_ m0 ⟨0,σ,H2,I2,st2,fun b hb=>(f2 b hb).1,w0⟩
 rintro n s3 ⟨i,σ3,H3,I3,st3,JP,w3⟩
 rcases turn i n σ3 H3 w3 with⟨stop,qn⟩|⟨go,N,hN,step⟩
 ·refine wpAny_passesOwn hp (bz (T.done X rfl rfl rfl hc i pins s3 σ3 H3 X.xe I3 (stat JP) st3 stop) fun r s4 ⟨hr,I4⟩=>?_)
  subst hr
  exact wpAny_execs_nil ⟨σ3,H3,I4,qn⟩
 ·refine wpAny_passesOwn hp (bz (T.item X rfl rfl rfl hc i pins s3 σ3 H3 X.xe I3 (stat JP) st3 go) fun r s4 ⟨u,hr,h4⟩=>?_)
  subst hr
  refine wpAny_passesOwn hp (bz h4 fun _ s5 ⟨x,H5,I5,r5,y5,Gg,IS⟩=>?_)
  have IU:=I5.pinned (stat IS) (T.obj _ _ Gg)
  refine wpAny_passesOwn hp (bz (hg _ s5 σ3 H5 x u _ IU r5 (step x H5 y5)) fun _ s6 ⟨σ6,H6,I6,q6⟩=>?_)
  refine wpAny_passesOwn hp (bz (hb _ s6 σ6 H6 _ I6 q6) fun f s7 q7=>?_)
  have again:∀{σ7:St} {H7:Hp},Inv X (pins++iZ fp s5.heap) σ7 H7 s7->N σ7 H7->∃m,m < n/\∃i σ' H',Inv X pins σ' H' s7/\tn i s7.heap/\(∀b∈fp,H' b=none)/\W i m σ' H':=fun{σ7 H7} I7 n7=>by
   obtain⟨m',hm,w7⟩:=hN σ7 H7 n7
   refine⟨m',hm,i+1,σ7,H7,I7.Ei,T.keep _ _ _ Gg fun b hb o e=>(I7.pin (b,o) (List.mem_append_right _ (List.mem_append_right _ (fN hb e)))).1,fun b hb=>?_,w7⟩
   obtain⟨o,e,d⟩:=T.obj _ _ Gg b hb
   exact(I7.pin (b,o) (List.mem_append_right _ (List.mem_append_right _ (fN hb e)))).2.1
  cases f with
  |next=>obtain⟨σ7,H7,I7,n7⟩:=q7;exact again I7 n7
  |cont=>obtain⟨σ7,H7,I7,n7⟩:=q7;exact again I7 n7
  |brk=>obtain⟨σ7,H7,I7,q7⟩:=q7;exact⟨σ7,H7,I7.Ei,q7⟩
  |ret v=>obtain⟨x7,σ7,H7,I7,r7,q7⟩:=q7;exact⟨x7,σ7,H7,I7.Ei,r7,q7⟩
end
abbrev R2:=V->V->Hp->VK->Prop
def fz(X:Cx)(f:Value->Value->Sem Value)(r:R2):Prop:=
 ∀(pins:Va) (s:Shared) (σ:St) (H:Hp) (x y:V) (v u:Value) (Q:VK),Inv X pins σ H s->RelV x v->RelV y u->r x y H Q->
  wpAny (model X.prog X.w) X.A (f v u) (EP X pins σ Q) X.xe s
def AK(X:Cx)(f:Value->Sem Value)(r:V->Hp->VK->Prop):Prop:=
 ∀(pins:Va) (s:Shared) (σ:St) (H:Hp) (x:V) (v:Value) (Q:VK),Inv X pins σ H s->RelV x v->r x H Q->
  wpAny (model X.prog X.w) X.A (f v) (EP X pins σ Q) X.xe s
def fF(X:Cx)(f:Value)(r:List V->Hp->VK->Prop):Prop:=
 ∀(pins:Va) (s:Shared) (σ:St) (H:Hp) (xs:List V) (us:Vv) (Q:VK),Inv X pins σ H s->Vals xs us->r xs H Q->
  wpAny (model X.prog X.w) X.A (call f us) (EP X pins σ Q) X.xe s
def yA(r:R2)(ta tb:TE):TE:=fun σ H Q=>ta σ H fun x H1=>tb σ H1 fun y H2=>r x y H2 Q
def Cf(r:V->Hp->VK->Prop)(ta:TE):TE:=fun σ H Q=>ta σ H fun x H1=>r x H1 Q
def rI(C:Int->Int->Prop)(g:Int->Int->V):R2:=fun x y H Q=>∃i j,x = .int i/\y = .int j/\C i j/\Q (g i j) H
def tV(g:Int->Int->V):R2:=fun x y H Q=>∃i j,x = .int i/\y = .int j/\Q (g i j) H
noncomputable def rU(g:Int->V):V->Hp->VK->Prop:=fun x H Q=>∃i,x = .int i/\Q (g i) H
section
variable {X:Cx} {a b c:Expr} {ta tb tc:TE} {pos:Pos}
def wC(ha:PE X a ta)(hb:PE X b tb){pins:Va}{s:Shared}{σ:St}{H:Hp}{R:V->V->Hp->Prop}(I:Inv X pins σ H s)
  (h:ta σ H fun x H1=>tb σ H1 fun y H2=>R x y H2) {Q:Vq} {f:Value->Value->Sem Value}
  (hf:∀v u s2 x y H2,Inv X pins σ H2 s2->RelV x v->RelV y u->R x y H2->wpAny (model X.prog X.w) X.A (f v u) Q X.xe s2) :
  wpAny (model X.prog X.w) X.A (eval a X.env) (fun v s₁=>wpAny (model X.prog X.w) X.A (eval b X.env) (fun u s₂=>wpAny (model X.prog X.w) X.A (f v u) Q X.xe s₂) X.xe s₁) X.xe s:=by
 refine bz (ha pins s σ H _ I h) fun v s1 ⟨x,H1,I1,r1,q1⟩=>?_
 refine bz (hb pins s1 σ H1 _ I1 q1) fun u s2 ⟨y,H2,I2,r2,q2⟩=>?_
 exact hf v u s2 x y H2 I2 r1 r2 q2
def y3{op:Operator}{r:R2}(ho:fz X (binaryOp op) r)(ha:PE X a ta)(hb:PE X b tb):PE X (.BinOp a op b pos) (yA r ta tb):=by
 intro pins s σ H Q I h
 exact wpAny_BinOp (wC ha hb I h fun v u s2 x y H2 I2 rx ry q=>ho pins s2 σ H2 x y v u Q I2 rx ry q)
def y4{op:UnaryOp}{r:V->Hp->VK->Prop}(ho:AK X (unaryOp op) r)(ha:PE X a ta):PE X (.UnaryOp op a pos) (Cf r ta):=by
 intro pins s σ H Q I h
 exact UnaryOp_ (bz (ha pins s σ H _ I h) fun v s1 ⟨x,H1,I1,r1,q1⟩=>ho pins s1 σ H1 x v Q I1 r1 q1)
def AL{f:Value->Value->Sem Value}{C:Int->Int->Prop}{g:Int->Int->Int}
  (rule:∀(i j:Int) (t u:Tok) (s:Shared) (Q:Vq) (E:Vq),C i j->Q (.int (g i j) s.toks) { s with toks:=s.toks+1 }->wpAny (model X.prog X.w) X.A (f (.int i t) (.int j u)) Q E s) :
  fz X f (rI C fun i j=>.int (g i j)):=by
 intro pins s σ H x y v u Q I rx ry h
 obtain⟨i,j,rfl,rfl,hc,q⟩:=h
 obtain⟨t,rfl⟩:=rx
 obtain⟨t',rfl⟩:=ry
 exact rule i j t t' s _ _ hc ⟨.int (g i j),H,I.tok _,⟨_,rfl⟩,q⟩
def y6{f:Value->Value->Sem Value}{g:Int->Int->Int}
  (rule:∀(i j:Int) (t u:Tok) (s:Shared) (Q:Vq) (E:Vq),Q (.int (g i j) s.toks) { s with toks:=s.toks+1 }->wpAny (model X.prog X.w) X.A (f (.int i t) (.int j u)) Q E s) :
  fz X f (tV fun i j=>.int (g i j)):=by
 intro pins s σ H x y v u Q I rx ry h
 obtain⟨i,j,rfl,rfl,q⟩:=h
 obtain⟨t,rfl⟩:=rx
 obtain⟨t',rfl⟩:=ry
 exact rule i j t t' s _ _ ⟨.int (g i j),H,I.tok _,⟨_,rfl⟩,q⟩
def wD{f:Value->Value->Sem Value}{g:Int->Int->Bool}
  (rule:∀(i j:Int) (t u:Tok) (s:Shared) (Q:Vq) (E:Vq),Q (.bool (g i j)) s->wpAny (model X.prog X.w) X.A (f (.int i t) (.int j u)) Q E s) :
  fz X f (tV fun i j=>.bl (g i j)):=by
 intro pins s σ H x y v u Q I rx ry h
 obtain⟨i,j,rfl,rfl,q⟩:=h
 obtain⟨t,rfl⟩:=rx
 obtain⟨t',rfl⟩:=ry
 exact rule i j t t' s _ _ ⟨.bl (g i j),H,I,rfl,q⟩
def wE(i j:Int):Prop:=0<=j/\j<=1000000/\i.natAbs < 2 ^ 64
def Gh(i j:Int):Prop:=(-(2 ^ 64) < i/\i < 2 ^ 64)\/(-(2 ^ 64) < j/\j < 2 ^ 64)
def Gh.ok{i j:Int}(h:Gh i j):IntMulOk i j:=by
 rcases h with⟨h1,h2⟩|⟨h1,h2⟩
 ·exact .of_left (intBits_le_64 h1 h2)
 ·exact .of_right (intBits_le_64 h1 h2)
def wF:fz X (binaryOp .Add) (tV fun i j=>.int (i+j)):=y6 fun _ _ _ _ _ _ _ q=>add_int q
def wG:fz X (binaryOp .Sub) (tV fun i j=>.int (i - j)):=y6 fun _ _ _ _ _ _ _ q=>sub_int q
def tW:fz X (binaryOp .Mod) (rI (fun _ j=>j≠0) fun i j=>.int (i.fmod j)):=AL fun _ _ _ _ _ _ _ hc q=>mod_int' hc q
def wH:fz X (binaryOp .Pow) (rI wE fun i j=>.int (i ^ j.toNat)):=AL fun _ _ _ _ _ _ _ hc q=>pow_int_small hc.1 hc.2.1 hc.2.2 q
def Cg{f:Value->Sem Value}{g:Int->Int}
  (rule:∀(i:Int) (t:Tok) (s:Shared) (Q:Vq) (E:Vq),Q (.int (g i) s.toks) { s with toks:=s.toks+1 }->wpAny (model X.prog X.w) X.A (f (.int i t)) Q E s) :
  AK X f (rU fun i=>.int (g i)):=by
 intro pins s σ H x v Q I rx h
 obtain⟨i,rfl,q⟩:=h
 obtain⟨t,rfl⟩:=rx
 exact rule i t s _ _ ⟨.int (g i),H,I.tok _,⟨_,rfl⟩,q⟩
def wI:AK X (unaryOp .USub) (rU fun i=>.int (-i)):=Cg fun _ _ _ _ _ q=>neg_int q
end
noncomputable def y7:V->V->Bool
 | .non,.non=>true | .non,.int _=>true | .int _,.non=>true | .non,.bl _=>true | .bl _,.non=>true | .non,.str _=>true | .str _,.non=>true
 | .int _,.int _=>true | .bl _,.bl _=>true | .str _,.str _=>true | .FX _,.FX _=>true
 | .int _,.str _=>true | .str _,.int _=>true | .bl _,.str _=>true | .str _,.bl _=>true
 |_,_=>false
def Ch:R2:=fun x y H Q=>y7 x y=true/\Q (.bl (decide (x=y))) H
def Ci:R2:=fun x y H Q=>y7 x y=true/\Q (.bl (!decide (x=y))) H
def nV{i j:Int}:decide (V.int i=V.int j)=(i == j):=by
 rw[Bool.eq_iff_iff]
 simp
def qz{i j:Bool}:decide (V.bl i=V.bl j)=(i == j):=by
 rw[Bool.eq_iff_iff]
 simp
def nW{i j:Str}:decide (V.str i=V.str j)=(i == j):=by
 rw[Bool.eq_iff_iff]
 simp
def nX{i j:Array UInt8}:decide (V.FX i=V.FX j)=(i.toList == j.toList):=by
 rw[Bool.eq_iff_iff]
 cases i
 cases j
 simp
section
variable {X:Cx} {a b c:Expr} {ta tb tc:TE} {pos:Pos}
def aI{pins:Va}{σ:St}{H:Hp}{s:Shared}{Q:VK}{k k':Bool}(I:Inv X pins σ H s)(q:Q (.bl k) H)(e:k=k'):EP X pins σ Q (.bool k') s:=by
 subst e
 exact⟨.bl k,H,I,rfl,q⟩
def qA:fz X (compareOp .Eq) Ch:=by
 intro pins s σ H x y v u Q I rx ry h
 obtain⟨hs,q⟩:=h
 cases x with
 |non=>
  cases rx
  cases y with
  |non=>cases ry;exact PySem.EqNone.eq_none_none (aI I q (by simp))
  |bl j=>cases ry;exact PySem.EqNone.eq_none_bool (aI I q (by simp))
  |int j=>obtain⟨t',rfl⟩:=ry;exact PySem.EqNone.eq_none_int (aI I q (by simp))
  |str j=>obtain⟨t',rfl⟩:=ry;exact PySem.EqNone.eq_none_str (aI I q (by simp))
  |_=>exact absurd (show false=true from hs) Bool.false_ne_true
 |bl i=>
  cases rx
  cases y with
  |non=>cases ry;exact PySem.EqNone.eq_bool_none (aI I q (by simp))
  |bl j=>cases ry;exact eq_bool (aI I q qz)
  |str j=>obtain⟨t',rfl⟩:=ry;exact PySem.EqMixed.eq_bool_str (aI I q (by simp))
  |_=>exact absurd (show false=true from hs) Bool.false_ne_true
 |int i=>
  obtain⟨t,rfl⟩:=rx
  cases y with
  |non=>cases ry;exact PySem.EqNone.eq_int_none (aI I q (by simp))
  |int j=>obtain⟨t',rfl⟩:=ry;exact eq_int (aI I q nV)
  |str j=>obtain⟨t',rfl⟩:=ry;exact PySem.EqMixed.eq_int_str (aI I q (by simp))
  |_=>exact absurd (show false=true from hs) Bool.false_ne_true
 |str i=>
  obtain⟨t,rfl⟩:=rx
  cases y with
  |non=>cases ry;exact PySem.EqNone.eq_str_none (aI I q (by simp))
  |bl j=>cases ry;exact PySem.EqMixed.eq_str_bool (aI I q (by simp))
  |int j=>obtain⟨t',rfl⟩:=ry;exact PySem.EqMixed.eq_str_int (aI I q (by simp))
  |str j=>obtain⟨t',rfl⟩:=ry;exact eq_str (aI I q nW)
  |_=>exact absurd (show false=true from hs) Bool.false_ne_true
 |FX i=>
  obtain⟨t,rfl⟩:=rx
  cases y with
  |FX j=>obtain⟨t',rfl⟩:=ry;exact PySem.W.eq_bytes (aI I q nX)
  |_=>exact absurd (show false=true from hs) Bool.false_ne_true
 |_=>cases y<;>exact absurd (show false=true from hs) Bool.false_ne_true
def qB:fz X (compareOp .NotEq) Ci:=by
 intro pins s σ H x y v u Q I rx ry h
 obtain⟨hs,q⟩:=h
 cases x with
 |non=>
  cases rx
  cases y with
  |non=>cases ry;exact PySem.EqNone.ne_none_none (aI I q (by simp))
  |bl j=>cases ry;exact PySem.EqNone.ne_none_bool (aI I q (by simp))
  |int j=>obtain⟨t',rfl⟩:=ry;exact PySem.EqNone.ne_none_int (aI I q (by simp))
  |str j=>obtain⟨t',rfl⟩:=ry;exact PySem.EqNone.ne_none_str (aI I q (by simp))
  |_=>exact absurd (show false=true from hs) Bool.false_ne_true
 |bl i=>
  cases rx
  cases y with
  |non=>cases ry;exact PySem.EqNone.ne_bool_none (aI I q (by simp))
  |bl j=>cases ry;exact ne_bool (aI I q (congrArg not qz))
  |str j=>obtain⟨t',rfl⟩:=ry;exact PySem.EqMixed.ne_bool_str (aI I q (by simp))
  |_=>exact absurd (show false=true from hs) Bool.false_ne_true
 |int i=>
  obtain⟨t,rfl⟩:=rx
  cases y with
  |non=>cases ry;exact PySem.EqNone.ne_int_none (aI I q (by simp))
  |int j=>obtain⟨t',rfl⟩:=ry;exact ne_int (aI I q (congrArg not nV))
  |str j=>obtain⟨t',rfl⟩:=ry;exact PySem.EqMixed.ne_int_str (aI I q (by simp))
  |_=>exact absurd (show false=true from hs) Bool.false_ne_true
 |str i=>
  obtain⟨t,rfl⟩:=rx
  cases y with
  |non=>cases ry;exact PySem.EqNone.ne_str_none (aI I q (by simp))
  |bl j=>cases ry;exact PySem.EqMixed.ne_str_bool (aI I q (by simp))
  |int j=>obtain⟨t',rfl⟩:=ry;exact PySem.EqMixed.ne_str_int (aI I q (by simp))
  |str j=>obtain⟨t',rfl⟩:=ry;exact ne_str (aI I q (congrArg not nW))
  |_=>exact absurd (show false=true from hs) Bool.false_ne_true
 |FX i=>
  obtain⟨t,rfl⟩:=rx
  cases y with
  |FX j=>obtain⟨t',rfl⟩:=ry;exact PySem.W.ne_bytes (aI I q (congrArg not nX))
  |_=>exact absurd (show false=true from hs) Bool.false_ne_true
 |_=>cases y<;>exact absurd (show false=true from hs) Bool.false_ne_true
def y8:fz X (compareOp .Lt) (tV fun i j=>.bl (decide (i < j))):=wD fun _ _ _ _ _ _ _ q=>lt_int q
def y9:fz X (compareOp .Gt) (tV fun i j=>.bl (decide (j < i))):=wD fun _ _ _ _ _ _ _ q=>gt_int q
def y_:fz X (compareOp .GtE) (tV fun i j=>.bl (decide (j<=i))):=wD fun _ _ _ _ _ _ _ q=>ge_int q
def wJ:fz X (compareOp .Is) (fun x y H Q=>y = .non/\Q (.bl (decide (x = .non))) H):=by
 intro pins s σ H x y v u Q I rx ry h
 obtain⟨rfl,q⟩:=h
 cases ry
 refine is_none_gen (aI I q ?_)
 cases x<;>first
  |(cases rx;rfl)
  |(obtain⟨t,rfl⟩:=rx;rfl)
def tX:fz X (compareOp .IsNot) (fun x y H Q=>y = .non/\Q (.bl (!decide (x = .non))) H):=by
 intro pins s σ H x y v u Q I rx ry h
 obtain⟨rfl,q⟩:=h
 cases ry
 refine isnot_none_gen (aI I q ?_)
 cases x<;>first
  |(cases rx;rfl)
  |(obtain⟨t,rfl⟩:=rx;rfl)
def ba(b:Expr){op:CmpOp}(h:op ≠ .In:=by decide)(h2:op ≠ .NotIn:=by decide):behindInMarks op b=false:=by
 have e1:(op == CmpOp.In)=false:=by cases op<;>first|rfl|exact absurd rfl h
 have e2:(op == CmpOp.NotIn)=false:=by cases op<;>first|rfl|exact absurd rfl h2
 cases b<;>simp[behindInMarks,e1,e2]
def tY{op:CmpOp}{r:R2}(ho:fz X (compareOp op) r)(ha:PE X a ta)(hb:PE X b tb)(hm:behindInMarks op b=false):PE X (.Compare a [op] [b] pos) (yA r ta tb):=by
 intro pins s σ H Q I h
 exact wpAny_Compare1 (wC ha hb I h fun v u s2 x y H2 I2 rx ry q=>ho pins s2 σ H2 x y v u Q I2 rx ry q) hm
def zb(t:TE):TT:=fun σ H Q=>t σ H fun x H'=>∃k,x = .bl k/\Q k H'
def tZ{op:CmpOp}{r:R2}(ho:fz X (compareOp op) r)(ha:PE X a ta)(hb:PE X b tb)(hm:behindInMarks op b=false):PT X (.Compare a [op] [b] pos) (zb (yA r ta tb)):=by
 intro pins s σ H Q I h
 refine wpAny_isTrue_Compare1 (bz (ha pins s σ H _ I h) fun v s1 ⟨x,H1,I1,r1,q1⟩=>bz (hb pins s1 σ H1 _ I1 q1) fun u s2 ⟨y,H2,I2,r2,q2⟩=>
  bz (ho pins s2 σ H2 x y v u _ I2 r1 r2 q2) fun c s3 ⟨z,H3,I3,r3,k,e,q3⟩=>?_) hm
 subst e
 cases r3
 exact wpAny_truthy_bool ⟨H3,I3,q3⟩
def gT:(sizeLine:Nat) < 2 ^ 63:=by rw[sizeLine_eq];decide
def mz:fz X (binaryOp .Add) (fun x y H Q=>∃i j,x = .str i/\y = .str j/\i.length+j.length<=sizeLine/\Q (.str (i++j)) H):=by
 intro pins s σ H x y v u Q I rx ry h
 obtain⟨i,j,rfl,rfl,hz,q⟩:=h
 obtain⟨t,rfl⟩:=rx
 obtain⟨t',rfl⟩:=ry
 exact add_str (fun t' tk=>⟨.str (i++j),H,I.tok _,⟨_,rfl⟩,q⟩) hz
def ix{x:V}{us:Vv}(r:Vals [x] us):∃u,us=[u]/\RelV x u:=by
 cases r with
 |cons r1 r2=>cases r2;exact⟨_,rfl,r1⟩
def vp{x y:V}{us:Vv}(r:Vals [x,y] us):∃u w',us=[u,w']/\RelV x u/\RelV y w':=by
 cases r with
 |cons r1 r2=>
  cases r2 with
  |cons r3 r4=>cases r4;exact⟨_,_,rfl,r1,r3⟩
def qC:fF X (.builtin "abs") (fun xs H Q=>∃i,xs=[.int i]/\Q (.int (if i < 0 then -i else i)) H):=by
 intro pins s σ H xs us Q I r h
 obtain⟨i,rfl,q⟩:=h
 obtain⟨u,rfl,t,rfl⟩:=ix r
 exact call_abs_int fun u tk=>⟨.int (if i < 0 then -i else i),H,I.tok _,⟨_,rfl⟩,q⟩
def oX(hc:X.calm=true):fF X (.builtin "max") (fun xs H Q=>∃i j,xs=[.int i,.int j]/\Q (.int (if j > i then j else i)) H):=by
 intro pins s σ H xs us Q I r h
 obtain⟨i,j,rfl,q⟩:=h
 obtain⟨u,w',rfl,⟨t,rfl⟩,⟨t',rfl⟩⟩:=vp r
 refine max_two_ints (I.ok.hd hc) fun h' tk k=>⟨_,H,I.kept k,?_,q⟩
 by_cases hj:j > i
 ·rw[if_pos hj,if_pos hj];exact⟨_,rfl⟩
 ·rw[if_neg hj,if_neg hj];exact⟨_,rfl⟩
def jM:fF X (.type "int") (fun xs H Q=>(∃i,xs=[.int i]/\Q (.int i) H)\/∃k,xs=[.bl k]/\Q (.int (if k then 1 else 0)) H):=by
 intro pins s σ H xs us Q I r h
 rcases h with⟨i,rfl,q⟩|⟨k,rfl,q⟩
 ·obtain⟨u,rfl,t,rfl⟩:=ix r
  exact call_int_int ⟨.int i,H,I,⟨_,rfl⟩,q⟩
 ·obtain⟨u,rfl,r1⟩:=ix r
  cases r1
  exact call_int_bool ⟨.int (if k then 1 else 0),H,I.tok _,⟨_,rfl⟩,q⟩
end
structure ObjM (h:Heap) (x dx C:Addr) (mA:Vr):Prop where
 obj:h.get? x=some (PySem.W.instObj C dx)
 ns:h.Ns1 dx mA
 ne:dx≠x
def oY{h:Heap}{dx:Addr}{mA:Vr}(n:h.Ns1 dx mA):∃od,h.get? dx=some od/\∀name,PySem.W.lookIn name od=some (mA name):=by
 obtain⟨o,es,ep,ho,hd,hk,_,hm⟩:=n
 refine⟨o,ho,fun name=>?_⟩
 have e:=hm name
 unfold nsFind findBy at e
 rw[<-Array.find?_toList]at e
 unfold PySem.W.lookIn
 rw[hd]
 dsimp only
 split
 ·rename_i y q
  rw[q]at e
  exact congrArg some e
 ·rename_i q
  rw[q]at e
  have a:es.toList.any (·.refKey)=false:=by
   rw[List.any_eq_false]
   intro y hy
   obtain⟨z,t,hkey⟩:=hk y (Array.mem_toList_iff.mp hy)
   simp[DictEntry.refKey,hkey]
  have a':¬es.toList.any (·.refKey)=true:=by rw[a];exact Bool.false_ne_true
  rw[if_neg a']
  exact congrArg some e
def ObjM.look{h:Heap}{x dx C:Addr}{mA:Vr}(I:ObjM h x dx C mA):∃od,PySem.W.InstAt h x (PySem.W.instObj C dx) C (some od)/\∀name,PySem.W.lookIn name od=some (mA name):=
 let ⟨od,ho,hl⟩:=oY I.ns
 ⟨od,⟨I.obj,rfl,rfl,ho⟩,hl⟩
section
variable {prog:Program} {w:World} {A:Around} {E:Vq} {s:Shared} {K:Vo} {x dx C f:Addr} {mA:Vr} {name:Str} {v:Value}
def t5{expr:Bool}{Q:Vq}(X:K.In s.heap)(I:ObjM s.heap x dx C mA)(hg:PySem.W.plainGet K C name=true)(hh:PySem.W.hasDictIn K C=true)
  (ha:PySem.W.findIn K (.ref C) name=some none) (hv:mA name=some v) (hv':PySem.W.handedIn v=true) (h:Q v { s with toks:=s.toks+1 }) :
  wpAny (model prog w) A (getAttr (.ref x) name expr) Q E s:=by
 obtain⟨od,J,hl⟩:=I.look
 exact PySem.W.get_value X J (PySem.W.plainGet_of hg).1 (PySem.W.findObj_own hh ha rfl (by rw[hl,hv])) hv' h
def qD{pl:Sem Bool}{Q:Value×List Value->Shared->Prop}(X:K.In s.heap)(I:ObjM s.heap x dx C mA)(hg:PySem.W.plainGet K C name=true)
  (hf:PySem.W.findIn K (.ref C) name=some (some (.ref f))) (ht:PySem.W.isFn K (.ref f)=true) (hv:mA name=none) (h:Q (.ref f,[.ref x]) s) :
  wpAny (model prog w) A (getMethod (.ref x) name pl) Q E s:=by
 obtain⟨od,J,hl⟩:=I.look
 exact PySem.W.method_fn X J (PySem.W.plainGet_of hg).1 (PySem.W.plainGet_of hg).2 hf (beq_iff_eq.mp ht) (by show(PySem.W.lookIn name od).map (·.isSome)=some false;rw[hl,hv];rfl) h
def t6{ns:Vs}{Q:Unit->Shared->Prop}(X:K.In s.heap)(I:ObjM s.heap x dx C mA)
  (hs:PySem.W.findIn K (.ref C) "__setattr__" = some (some (.builtin "object.__setattr__"))) (hp:PySem.W.plainOver K C=true) (ht:PySem.W.takerIn K C name=some none) (hh:PySem.W.hasDictIn K C=true)
  (hw:PySem.Within mA ns) (hsz:ns.length<=sizeLine)
  (h:∀h',ObjM h' x dx C (fun y=>if y=name then some v else mA y)->Heap.SameBut dx s.heap h'->Q () { s with heap:=h',toks:=s.toks+2 }) :
  wpAny (model prog w) A (setAttr (.ref x) name v) Q E s:=by
 obtain⟨od,J,hl⟩:=I.look
 refine PySem.W.set_plain X J hs (PySem.W.osa_open (s:={ s with toks:=s.toks+1 }) (r:=none) X J hp ht fun b=>?_)
 obtain⟨cd,hc,hd'⟩:=PySem.W.any_some hh
 have hx:s.heap.get? x=some ⟨.ref C,some dx,.plain,#[]⟩:=I.obj
 refine wpAny_bind (wpAny_pure (wpAny_bind (wpAny_bind (wpAny_loadPart hx (wpAny_bind (PySem.W.Looks.here (s:={ s with toks:=s.toks+1 }) (PySem.W.looks_clsIn X hc) ?_))))))
 rw[hd']
 refine wpAny_pure (a:=some dx) (wpAny_bind (wpAny_pure (wpAny_bind ?_)))
 refine wpAny_nsSet1 (s:={ s with toks:=s.toks+1 }) I.ns fun h' hn2 hs2=>?_
 obtain⟨oD,esD,epD,Kx,Ky,Kz⟩:=hn2.count (PySem.Within.cons name v hw)
 refine wpAny_bind (wpAny_lookBehind Kx (by rw[Ky];exact pastItsLine_dict (Nat.le_trans Kz (by rw[List.length_cons];omega))) ?_)
 exact wpAny_pure (h _ ⟨(hs2.2 _ (Ne.symm I.ne)).trans I.obj,hn2,I.ne⟩ hs2)
def qE{R:Result->Shared->Prop}{vs:Vv}{kw:List (Str×Value)}(X:K.In s.heap)(hm:PySem.W.makesIn K C=true)
  (hi:PySem.W.findIn K (.ref C) "__init__" = some (some (.ref f))) (hf:PySem.W.typeIn K (.ref f)=some (.type "function"))
  (h:codeAny (model prog w) (A.under (.builtin "type.__call__" ⟨.ref C::vs,kw⟩)) (.call (.ref f) ⟨.ref (s.heap.objs.size+1)::vs,kw⟩) (PySem.W.InitBack (s.heap.objs.size+1) R)
   { s with heap:=(s.heap.push PySem.W.emptyDict).push (PySem.W.instObj C s.heap.objs.size) }) :
  codeAny (model prog w) A (.call (.ref C) ⟨vs,kw⟩) R s:=by
 obtain⟨hh,g,d,t,os⟩:=s
 exact PySem.W.make_core (PySem.W.makes_of X hm) (PySem.W.looks_findIn X hi) (fun self=>PySem.W.bind_fn X self hf) (.inl rfl) h
end
noncomputable def putF(f:Str)(v:V):List (Str×V)->List (Str×V)
 |[]=>[(f,v)]
 |(g,x)::r=>if g=f then (g,v)::r else (g,x)::putF f v r
theorem iy(f g:Str)(v:V):∀fs:List (Str×V),(putF f v fs).lookup g=if g=f then some v else fs.lookup g
 |[]=>by
  show List.lookup g [(f,v)]=_
  by_cases h:g=f
  ·have hb:(g == f)=true:=beq_iff_eq.mpr h
   simp only[List.lookup,hb,if_pos h]
  ·have hb:(g == f)=false:=beq_eq_false_iff_ne.mpr h
   simp only[List.lookup,hb,if_neg h]
 |(k,x)::r=>by
  have ih:=iy f g v r
  rw[show putF f v ((k,x)::r)=(if k=f then (k,v)::r else (k,x)::putF f v r)from rfl]
  by_cases hk:k=f
  ·rw[if_pos hk]
   by_cases h:g=k
   ·have hb:(g == k)=true:=beq_iff_eq.mpr h
    simp only[List.lookup,hb,if_pos (h.trans hk)]
   ·have hb:(g == k)=false:=beq_eq_false_iff_ne.mpr h
    simp only[List.lookup,hb,if_neg (fun e:g=f=>h (e.trans hk.symm))]
  ·rw[if_neg hk]
   by_cases h:g=k
   ·have hb:(g == k)=true:=beq_iff_eq.mpr h
    simp only[List.lookup,hb,if_neg (fun e:g=f=>hk (h.symm.trans e))]
   ·have hb:(g == k)=false:=beq_eq_false_iff_ne.mpr h
    simp only[List.lookup,hb]
    exact ih
theorem gU(f:Str)(v:V):∀fs:List (Str×V),f∈(putF f v fs).map (·.1)/\∀g,g∈fs.map (·.1)->g∈(putF f v fs).map (·.1)
 |[]=>⟨by simp[putF],fun g h=>by simp at h⟩
 |(k,x)::r=>by
  obtain⟨i1,i2⟩:=gU f v r
  rw[show putF f v ((k,x)::r)=(if k=f then (k,v)::r else (k,x)::putF f v r)from rfl]
  by_cases hk:k=f
  ·rw[if_pos hk]
   subst hk
   exact⟨by simp,fun g h=>by simpa using h⟩
  ·rw[if_neg hk]
   refine⟨?_,fun g h=>?_⟩
   ·rw[List.map_cons]
    exact List.mem_cons_of_mem _ i1
   ·rw[List.map_cons]at h ⊢
    rcases List.mem_cons.mp h with e|e
    ·exact List.mem_cons.mpr (.inl e)
    ·exact List.mem_cons_of_mem _ (i2 g e)
theorem iz(f:Str)(v:V):∀fs:List (Str×V),(putF f v fs).length<=fs.length+1
 |[]=>by simp[putF]
 |(k,x)::r=>by
  have ih:=iz f v r
  rw[show putF f v ((k,x)::r)=(if k=f then (k,v)::r else (k,x)::putF f v r)from rfl]
  by_cases hk:k=f
  ·rw[if_pos hk,List.length_cons,List.length_cons];omega
  ·rw[if_neg hk,List.length_cons,List.length_cons];omega
def DK.some_of{v:V}{o:Option Value}(r:DK (some v) o):∃u,o=some u/\RelV v u:=by
 cases o with
 |none=>exact(show False from r).elim
 |some u=>exact⟨u,rfl,r⟩
def DK.none_of{o:Option Value}(r:DK none o):o=none:=by
 cases o with
 |none=>rfl
 |some u=>exact(show False from r).elim
def oZ{v:V}{u:Value}(r:RelV v u):PySem.W.handedIn u=true:=by
 cases v with
 |non=>cases (show u=Value.none from r);rfl
 |bl b=>cases (show u=Value.bool b from r);rfl
 |int i=>obtain⟨t,e⟩:=(show ∃t,u=Value.int i t from r);cases e;rfl
 |str x=>obtain⟨t,e⟩:=(show ∃t,u=Value.str x t from r);cases e;rfl
 |FX b=>obtain⟨t,e⟩:=(show ∃t,u=Value.bytes b t from r);cases e;rfl
 |Ih b=>obtain⟨t,e⟩:=(show ∃t,u=Value.float b t from r);cases e;rfl
 |ref a=>cases (show u=Value.ref a from r);rfl
 |ty n=>cases (show u=Value.type n from r);rfl
section
variable {P:Program} {w:World} {H H':Hp} {h h':Heap} {a C dx:Addr} {fs fs':List (Str×V)}
def kj(hok:Ea P w H h)(e:H a=some (.ins C dx fs)):∃mA,ObjM h a dx C mA/\(∀f,DK (fs.lookup f) (mA f))/\PySem.Within mA (fs.map (·.1))/\fs.length<=1000/\H dx=some (.own a):=by
 obtain⟨d,z,ne,ob,mA,n,r,q⟩:=(show C7 P w H h a (.ins C dx fs)from hok a _ e)
 exact⟨mA,⟨ob,n,ne⟩,r,q,z,d⟩
end
structure Cls (K:Vo) (C:Addr):Prop where
 pg:PySem.W.plainGet K C Str.empty=true
 hd:PySem.W.hasDictIn K C=true
 po:PySem.W.plainOver K C=true
 sa:PySem.W.findIn K (.ref C) "__setattr__" = some (some (.builtin "object.__setattr__"))
def Cls.get{K:Vo}{C:Addr}(c:Cls K C)(f:Str):PySem.W.plainGet K C f=true:=c.pg
def NoAttr(K:Vo)(C:Addr)(f:Str):Prop:=PySem.W.findIn K (.ref C) f=some none
def NoAttr.HF{K:Vo}{C:Addr}{f:Str}(n:NoAttr K C f):PySem.W.takerIn K C f=some none:=by
 unfold PySem.W.takerIn
 rw[show PySem.W.findIn K (.ref C) f=some none from n]
 rfl
structure qF (K:Vo) (C:Addr) (m:Str) (f:Addr):Prop where
 at_:PySem.W.findIn K (.ref C) m=some (some (.ref f))
 fn:PySem.W.isFn K (.ref f)=true
 kp:PySem.W.keepIn K (.ref f)=true
section
variable {X:Cx} {pins:Va} {σ:St} {H:Hp} {s:Shared} {a C dx:Addr} {fs:List (Str×V)} {f:Str} {v:V} {A:Around} {E:Vq}
def mB{b:Bool}{Q:Vq}(I:Inv X pins σ H s)(e:H a=some (.ins C dx fs))(c:Cls X.K C)(n:NoAttr X.K C f)(l:fs.lookup f=some v)
  (h:∀u s',Inv X pins σ H s'->RelV v u->Q u s'):wpAny (model X.prog X.w) A (getAttr (.ref a) f b) Q E s:=by
 obtain⟨mA,O,r,_,_,_⟩:=kj I.hok e
 obtain⟨u,hu,ru⟩:=DK.some_of (v:=v) (o:=mA f) (by rw[<-l];exact r f)
 exact t5 I.FC O (c.get f) c.hd n hu (oZ ru) (h u _ (I.tok _) ru)
def i0{m:Str}{g:Addr}{pl:Sem Bool}{Q:Value×List Value->Shared->Prop}(I:Inv X pins σ H s)(e:H a=some (.ins C dx fs))(c:Cls X.K C)(k:qF X.K C m g)(l:fs.lookup m=none)
  (h:Q (.ref g,[.ref a]) s):wpAny (model X.prog X.w) A (getMethod (.ref a) m pl) Q E s:=by
 obtain⟨mA,O,r,_,_,_⟩:=kj I.hok e
 have hn:mA m=none:=DK.none_of (by rw[<-l];exact r m)
 exact qD I.FC O (c.get m) k.at_ k.fn hn h
def mC{y:V}{u:Value}{Q:Unit->Shared->Prop}(I:Inv X pins σ H s)(e:H a=some (.ins C dx fs))(c:Cls X.K C)(n:NoAttr X.K C f)(hl:fs.length < 1000)(ry:RelV y u)
  (h:∀s',Inv X pins σ (upd H a (.ins C dx (putF f y fs))) s'->Q () s'):wpAny (model X.prog X.w) A (setAttr (.ref a) f u) Q E s:=by
 obtain⟨mA,O,r,wi,_,ho⟩:=kj I.hok e
 have hz:(fs.map (·.1)).length<=sizeLine:=by rw[List.length_map,sizeLine_eq];omega
 refine t6 I.FC O c.sa c.po n.HF c.hd wi hz fun h' O' sb=>h _ ?_
 have hd:∃o,h'.get? dx=some o:=let ⟨o,_,_,e',_⟩:=O'.ns;⟨o,e'⟩
 refine I.write (x:=a) (e:=dx) (by rw[e];exact True.intro) (.inr ho) (fun b q hb z=>(sb.2 b hb).trans z) hd ?_
 refine⟨by rw[ay O.ne];exact ho,?_,O.ne,O'.obj,_,O'.ns,fun g=>?_,fun g hg=>?_⟩
 ·have:=iz f y fs;omega
 ·show DK ((putF f y fs).lookup g) (if g=f then some u else mA g)
  rw[iy]
  by_cases q:g=f
  ·rw[if_pos q,if_pos q];exact ry
  ·rw[if_neg q,if_neg q];exact r g
 ·by_cases q:g=f
  ·rw[q];exact(gU f y fs).1
  ·refine(gU f y fs).2 g (wi g fun z=>hg ?_)
   show(if g=f then some u else mA g)=none
   rw[if_neg q];exact z
def Inv.made(I:Inv X pins σ H s):Inv X pins σ (upd (upd H s.heap.objs.size (.own (s.heap.objs.size+1))) (s.heap.objs.size+1) (.ins C s.heap.objs.size []))
  { s with heap:=(s.heap.push PySem.W.emptyDict).push (PySem.W.instObj C s.heap.objs.size) }:=by
 have e1:(s.heap.push PySem.W.emptyDict).get? s.heap.objs.size=some PySem.W.emptyDict:=Heap.get?_push_size s.heap rfl
 have e2:((s.heap.push PySem.W.emptyDict).push (PySem.W.instObj C s.heap.objs.size)).get? (s.heap.objs.size+1)=some (PySem.W.instObj C s.heap.objs.size):=by
  have:=Heap.get?_push_size (s.heap.push PySem.W.emptyDict) (o:=PySem.W.instObj C s.heap.objs.size) rfl
  rwa [Heap.size_push]at this
 have e3:(s.heap.push PySem.W.emptyDict).Ns s.heap.objs.size (fun _=>none):=⟨PySem.W.emptyDict,#[],_,e1,rfl,(fun e he=>absurd he (by simp)),fun _=>rfl⟩
 have I1:=I.laid (a:=s.heap.objs.size) (o:=.own (s.heap.objs.size+1)) (h':=s.heap.push PySem.W.emptyDict) (t':=s.toks) (fun b u q=>Heap.get?_push_of_some _ q) (Nat.le_refl _) ⟨_,e1⟩
 refine I1.laid (a:=s.heap.objs.size+1) (o:=.ins C s.heap.objs.size []) (t':=s.toks) (fun b u q=>Heap.get?_push_of_some _ q) (Nat.le_of_eq (Heap.size_push _ _)) ?_
 have ne:s.heap.objs.size≠s.heap.objs.size+1:=Nat.ne_of_lt (Nat.lt_succ_self _)
 refine⟨by rw[ay ne,ax],Nat.zero_le _,ne,e2,fun _=>none,(Heap.Ns1.of_empty e3).at fun o q=>Heap.get?_push_of_some _ q,fun _=>True.intro,fun y hy=>absurd rfl hy⟩
def t7{prog:Program}{w:World}{env:Env}{e:Expr}{f:Str}{pos:Pos}{s:Shared}{Q:Vq}(hb:attributeBase e f env (eval e env)=eval e env)
  (h:wpAny (model prog w) A (eval e env) (fun o s₁=>wpAny (model prog w) A (getAttr o f true) Q E s₁) E s):wpAny (model prog w) A (eval (.Attribute e f pos) env) Q E s:=
 Attribute_any_ h (by rw[arm_eval_Attribute,hb])
end
def A_(K:Vo)(ta:TE)(f:Str):TE:=fun σ H Q=>ta σ H fun x H1=>∃a C dx fs v,x = .ref a/\H1 a=some (.ins C dx fs)/\Cls K C/\NoAttr K C f/\fs.lookup f=some v/\Q v H1
def Bb(K:Vo)(ta tv:TE)(f:Str):TS:=fun D σ H=>tv σ H fun y H1=>ta σ H1 fun x H2=>∃a C dx fs,x = .ref a/\H2 a=some (.ins C dx fs)/\Cls K C/\NoAttr K C f/\fs.length < 1000/\
 D.nx σ (upd H2 a (.ins C dx (putF f y fs)))
section
variable {X:Cx} {o e value:Expr} {f:Str} {pos pos' tpos:Pos} {ta tv:TE}
def wK(he:PE X e ta)(hb:attributeBase e f X.env (eval e X.env)=eval e X.env):PE X (.Attribute e f pos) (A_ X.K ta f):=by
 intro pins s σ H Q I h
 refine t7 hb (bz (he pins s σ H _ I h) fun u s1 ⟨x,H1,I1,rx,a,C,dx,fs,v,ex,ea,c,n,l,q⟩=>?_)
 subst ex
 obtain rfl:u=Value.ref a:=rx
 exact mB I1 ea c n l fun u' s2 I2 ru=>⟨v,H1,I2,ru,q⟩
def wL(ha:PE X o ta)(hv:PE X value tv)(hs:swapsWith value (some (.Attribute o f pos')) pos.line X.env=pure false):PS X (.Assign [.Attribute o f pos'] value pos) (Bb X.K ta tv f):=by
 intro pins s σ H D I h
 refine plainObj_wpAny_Assign_Attribute (bz (hv pins s σ H _ I h) fun u s1 ⟨y,H1,I1,ry,q⟩=>bz (ha pins s1 σ H1 _ I1 q) fun ov s2 ⟨x,H2,I2,rx,a,C,dx,fs,ex,ea,c,n,l,q2⟩=>?_) hs
 subst ex
 obtain rfl:ov=Value.ref a:=rx
 exact mC I2 ea c n l ry fun s3 I3=>⟨σ,_,I3,q2⟩
end
structure Room (k:Nat) (A:Around):Prop where
 hd:A.handled=none
 dp:A.depth+3 * k+5 < recursionLimit
 un:A.units+16 * k+200 < cLine
 gd:A.guards=some []
def Room.mono{j k:Nat}{A:Around}(r:Room k A)(h:j<=k):Room j A:=⟨r.hd,by have:=r.dp;omega,by have:=r.un;omega,r.gd⟩
theorem Room.deeper{k:Nat}{A:Around}(r:Room (k+1) A)(env:Env):Room k (A.deeper env):=
 ⟨r.hd,by have:=r.dp;show A.depth+1+3 * k+5 < _;omega,by have:=r.un;show A.units+3+16 * k+200 < _;omega,r.gd⟩
def mD{A:Around}{C:Addr}{us:Vv}{kw:List (Str×Value)}:(A.under (.builtin "type.__call__" ⟨.ref C::us,kw⟩)).depth=A.depth+1:=by
 first|rfl|simp[Around.under,Code.weight,Code.isCreation,Code.isGuard,Code.isCaller,Code.frames,Code.isFrame,guardIds]
def mE{A:Around}{C:Addr}{us:Vv}{kw:List (Str×Value)}:(A.under (.builtin "type.__call__" ⟨.ref C::us,kw⟩)).units=A.units+1:=by
 first|rfl|simp[Around.under,Code.cUnits,Code.frames,Code.isFrame]
def lj{A:Around}{C:Addr}{us:Vv}{kw:List (Str×Value)}:(A.under (.builtin "type.__call__" ⟨.ref C::us,kw⟩)).guards=A.guards:=by
 first|rfl|(cases h:A.guards<;>simp[Around.under,Code.guards,Code.isGuard,guardIds,pushGuards,h])
def Room.make{k:Nat}{A:Around}(r:Room (k+1) A)(C:Addr)(us:Vv)(kw:List (Str×Value)):Room k (A.under (.builtin "type.__call__" ⟨.ref C::us,kw⟩)):=
 ⟨r.hd,by have:=r.dp;rw[mD];omega,by have:=r.un;rw[mE];omega,by rw[lj];exact r.gd⟩
theorem Room.depth{k:Nat}{A:Around}(r:Room k A):A.depth < recursionLimit:=by have:=r.dp;omega
def t8:TA:=fun _ H Q=>Q [] H
def qG(ta:TE)(tr:TA):TA:=fun σ H Q=>ta σ H fun x H1=>tr σ H1 fun xs H2=>Q (x::xs) H2
section
variable {X:Cx} {e:Expr} {es:List Expr} {te:TE} {t:TA} {pos:Pos}
def wM:PA X [] t8:=fun _ _ _ _ H Q I h=>Calls.spliced_nil ⟨[],H,I,.nil,h⟩
def t9(ha:PE X e te)(hr:PA X es t)(hs:starEach (e::es) X.env=(false,eval e X.env)::starEach es X.env:=by rfl):PA X (e::es) (qG te t):=by
 intro pos pins s σ H Q I h
 rw[hs]
 show wpAny _ _ (spliced ((false,eval e X.env)::backTo pos (starEach es X.env))) _ _ s
 refine Calls.spliced_cons (bz (ha pins s σ H _ I h) fun u s1 ⟨x,H1,I1,r1,q1⟩=>?_)
 exact bz (hr pos pins s1 σ H1 _ I1 q1) fun us s2 ⟨xs,H2,I2,r2,q2⟩=>⟨x::xs,H2,I2,.cons r1 r2,q2⟩
def Bc(t:TA):TE:=fun σ H Q=>t σ H fun xs H1=>xs.length<=sizeLine/\∀p,H1 p=none->Q (.ref p) (upd H1 p (.tup xs))
def Bd(t:TA):TE:=fun σ H Q=>t σ H fun xs H1=>xs.length<=sizeLine/\∀p,H1 p=none->Q (.ref p) (upd H1 p (.lst xs))
def wN{x1}(h:PA X es t):PE X (.Tuple es x1 pos) (Bc t):=by
 intro pins s σ H Q I hq
 refine wpAny_Tuple_spliced (bz (h pos pins s σ H _ I hq) fun us s1 ⟨xs,H1,I1,r,z,q⟩=>⟨by rw[<-r.length];exact z,?_⟩)
 have hf:H1 s1.heap.objs.size=none:=I1.hok.fresh (Nat.le_refl _)
 refine⟨.ref s1.heap.objs.size,upd H1 s1.heap.objs.size (.tup xs),I1.laid (t':=s1.toks) (fun b u e=>Heap.get?_push_of_some _ e) (Nat.le_refl _) ?_,rfl,q _ hf⟩
 exact⟨z,us,r,⟨_,Heap.get?_push_size _ rfl,rfl,rfl,_,rfl⟩⟩
def wO(h:PA X es t):PE X (.List es pos) (Bd t):=by
 intro pins s σ H Q I hq
 refine wpAny_List_spliced (bz (h pos pins s σ H _ I hq) fun us s1 ⟨xs,H1,I1,r,z,q⟩=>⟨by rw[<-r.length];exact z,?_⟩)
 have hf:H1 s1.heap.objs.size=none:=I1.hok.fresh (Nat.le_refl _)
 refine⟨.ref s1.heap.objs.size,upd H1 s1.heap.objs.size (.lst xs),I1.laid (t':=s1.toks) (fun b u e=>Heap.get?_push_of_some _ e) (Nat.le_refl _) ?_,rfl,q _ hf⟩
 exact⟨z,us,0,r,Heap.get?_push_size _ rfl⟩
end
abbrev Sp:=List V->Hp->VK->XK->Prop
abbrev qH:=List Env->Hp->Shared->XK->Value->Shared->Prop
structure Ft (P:Program) (w:World) (K:Vo) (mg:Vr) (base:Heap) (A:Around) (outer:List Env) (s:Shared) (H:Hp):Prop where
 frames:A.frames=some outer
 mod:Mod K mg base
 bs:∀b o,base.get? b=some o->s.heap.get? b=some o/\H b=none
 Ga:base.objs.size<=s.heap.objs.size
 Eo:s.heap.FunFrames base outer
 GD:∀b∈frs outer,H b=none
 hok:Ea P w H s.heap
 bare:AllBare s.gens
def CE(outer:List Env)(P:Program)(w:World)(H:Hp)(s:Shared)(Q:VK)(u:Value)(s':Shared):Prop:=
 ∃v H',s'.os=s.os/\AllBare s'.gens/\Un (frs outer) [] H H' s.heap s'.heap/\Ea P w H' s'.heap/\RelV v u/\Q v H'
def CR(CX:qH)(outer:List Env)(P:Program)(w:World)(H:Hp)(s:Shared)(Q:VK)(E:XK)(r:Result)(s':Shared):Prop:=
 match r with
 | .ok (.ret u)=>CE outer P w H s Q u s'
 | .ok _=>False
 | .error e=>CX outer H s E e s'
structure gW (P:Program) (w:World) (K:Vo) (mg:Vr) (base:Heap) (CX:qH) (k:Nat) (f:Addr) (fd:FuncData) (ps:Vs) (sp:Sp):Prop where
 len:∀vs H Q E,sp vs H Q E->vs.length=ps.length
 run:∀(A:Around) (outer:List Env) (s:Shared) (H:Hp) (args:Args) (us:Vv) (vs:List V) (Q:VK) (E:XK),Room k A->Ft P w K mg base A outer s H->BindsTo s fd args (ps.zip us)->Vals vs us->sp vs H Q E->
  codeAny (model P w) A (.call (.ref f) args) (CR CX outer P w H s Q E) s
def Ft.make{P:Program}{w:World}{K:Vo}{mg:Vr}{base:Heap}{A:Around}{outer:List Env}{s:Shared}{H:Hp}(e:Ft P w K mg base A outer s H)(C:Addr)(us:Vv)(kw:List (Str×Value)) :
  Ft P w K mg base (A.under (.builtin "type.__call__" ⟨.ref C::us,kw⟩)) outer s H:=⟨by first|exact e.frames|(simpa [Around.under,Code.envs,Code.isFrame,pushEnvs]using e.frames),e.mod,e.bs,e.Ga,e.Eo,e.GD,e.hok,e.bare⟩
section
variable {X:Cx} {pins:Va} {σ:St} {H:Hp} {s s':Shared}
def Inv.HG(I:Inv X pins σ H s):Ft X.prog X.w X.K X.mg X.base X.A X.stack s H:=
 ⟨I.ok.frames,I.ok.mod,I.bs,Nat.le_trans I.ok.Ga I.sz,I.stack,I.FD,I.hok,I.bare⟩
def Inv.after{Q:VK}{u:Value}(I:Inv X pins σ H s)(h:CE X.stack X.prog X.w H s Q u s'):EP X pins σ Q u s':=by
 obtain⟨v,H',os,bare,un,hok,r,q⟩:=h
 obtain⟨hh,g,d,t,os'⟩:=s'
 obtain rfl:os'=s.os:=os
 exact⟨v,H',I.call (h':=hh) (g':=g) (d':=d) (t':=t) (ch:=[]) un hok bare (fun b z=>absurd z (by simp)),r,q⟩
end
def zc(sp:Sp)(dvs:List V)(E:XK)(t:TA):TE:=fun σ H Q=>t σ H fun vs H1=>sp (vs++dvs) H1 Q E
def vq(C:Addr)(m:Str)(sp:Sp)(dvs:List V)(E:XK)(ta:TE)(t:TA):TE:=fun σ H Q=>ta σ H fun x H1=>∃a dx fs,x = .ref a/\H1 a=some (.ins C dx fs)/\fs.lookup m=none/\
 t σ H1 fun vs H2=>sp (x::(vs++dvs)) H2 Q E
def zd(C:Addr)(sp:Sp)(dvs:List V)(E:XK)(t:TA):TE:=fun σ H Q=>t σ H fun vs H1=>∀x dx,H1 x=none->H1 dx=none->dx≠x->
 sp (.ref x::(vs++dvs)) (upd (upd H1 dx (.own x)) x (.ins C dx [])) (fun v H2=>v = .non/\Q (.ref x) H2) E
def Binds(K:Vo)(fd:FuncData)(ps:Vs)(ds:Vv):Prop:=
 ∀(s:Shared) (us:Vv),K.In s.heap->(us++ds).length=ps.length->BindsTo s fd ⟨us,[]⟩ (ps.zip (us++ds))
def Binds.all{K:Vo}{fd:FuncData}{ps:Vs}(h:∀us:List Value,us.length=ps.length->bindArgs fd ⟨us,[]⟩=pure (ps.zip us)):Binds K fd ps []:=fun s us _ hl=>by
 rw[List.append_nil]at hl ⊢
 exact .of_eq (h us hl)
def fO(CX:qH)(X:Cx)(E:XK):Prop:=∀(pins:Va) (σ:St) (H:Hp) (s:Shared) (e:Value) (s':Shared),Inv X pins σ H s->CX X.stack H s E e s'->X.xe e s'
section
variable {X:Cx} {CX:qH} {k:Nat} {f C:Addr} {fd:FuncData} {ps:Vs} {sp:Sp} {dvs:List V} {ds:Vv} {E:XK} {x m:Str} {p pos apos:Pos} {e o:Expr} {es:List Expr} {ta:TE} {t:TA}
def mF{pins:Va}{σ:St}{H:Hp}{s:Shared}{Q:VK}{us:Vv}{vs:List V}(F:gW X.prog X.w X.K X.mg X.base CX k f fd ps sp)(hr:Room k X.A)(hb:Binds X.K fd ps ds)(hd:Vals dvs ds)(hx:fO CX X E)
  (I:Inv X pins σ H s) (r:Vals vs us) (h:sp (vs++dvs) H Q E):wpAny (model X.prog X.w) X.A (call (.ref f) us) (EP X pins σ Q) X.xe s:=by
 have r2:Vals (vs++dvs) (us++ds):=r.append hd
 have hl:(us++ds).length=ps.length:=by rw[<-r2.length];exact F.len _ _ _ _ h
 refine wpAny_call (codeAny_mono (F.run X.A X.stack s H ⟨us,[]⟩ (us++ds) (vs++dvs) Q E hr I.HG (hb s us I.FC hl) r2 h) fun r s' hq=>?_)
 cases r with
 |error e=>exact hx pins σ H s e s' I hq
 |ok fl=>
  cases fl with
  |ret u=>exact I.after hq
  |next=>exact False.elim hq
  |brk=>exact False.elim hq
  |cont=>exact False.elim hq
def t_(F:gW X.prog X.w X.K X.mg X.base CX k f fd ps sp)(hr:Room k X.A)(hg:Gl X x)(hm:X.mg x=some (.ref f))(hk:PySem.W.keepIn X.K (.ref f)=true)(hb:Binds X.K fd ps ds)(hd:Vals dvs ds)(hx:fO CX X E)
  (ha:PA X (e::es) t) (hdb:(x == ("__debug__":Str))=false:=by decide) (he:starEach (e::es) X.env=(false,eval e X.env)::starEach es X.env:=by rfl) (hpl:(backTo pos (starEach es X.env)).any (·.1)=false:=by rfl) :
  PE X (.Call (.Name x p) (e::es) [] pos) (zc sp dvs E t):=by
 intro pins s σ H Q I h
 refine wpAny_Call_Name_kw (nT I hg hm ?_ hdb)
 refine PySem.W.callWith_K (h₀:=X.base) I.ok.mod.Hx hk (bz (ha pos pins s σ H _ I h) fun us s1 ⟨vs,H1,I1,r,q⟩=>⟨I1.FC,?_⟩) he hpl
 exact mF F hr hb hd hx I1 r q
def ua{pl:Sem Bool}(he:PE X o ta)(c:Cls X.K C)(hm:qF X.K C m f)(F:gW X.prog X.w X.K X.mg X.base CX k f fd ps sp)(hr:Room k X.A)(hb:Binds X.K fd ps ds)(hd:Vals dvs ds)(hx:fO CX X E)(ha:PA X (e::es) t)
  (hst:starEach (e::es) X.env=(false,eval e X.env)::starEach es X.env:=by rfl) (hpl:(backTo pos (starEach es X.env)).any (·.1)=false:=by rfl)
  (ht:eval (.Call (.Attribute o m apos) (e::es) [] pos) X.env=(do
   let ov <-eval o X.env
   standAt apos.atName
   let (f,first) <-holding [ov] (getMethod ov m pl)
   callWith pos f first (backTo pos (starEach (e::es) X.env)) (backToKw pos (keywordEach [] X.env))):=by rfl) :
  PE X (.Call (.Attribute o m apos) (e::es) [] pos) (vq C m sp dvs E ta t):=by
 intro pins s σ H Q I h
 refine PySem.W.methodCall_KW (pl:=pl) (bz (he pins s σ H _ I h) fun u s1 ⟨x,H1,I1,rx,a,dx,fs,ex,ea,l,q⟩=>?_) ht
 subst ex
 obtain rfl:u=Value.ref a:=rx
 refine i0 I1 ea c hm l ?_
 refine PySem.W.callWith_K (first:=[.ref a]) (h₀:=X.base) I.ok.mod.Hx hm.kp (bz (ha pos pins s1 σ H1 _ I1 q) fun us s2 ⟨vs,H2,I2,r,q2⟩=>⟨I2.FC,?_⟩) hst hpl
 exact mF (us:=.ref a::us) (vs:=.ref a::vs) F hr hb hd hx I2 (.cons rfl r) q2
def qI{pl:Sem Bool}(he:PE X o ta)(c:Cls X.K C)(hm:qF X.K C m f)(F:gW X.prog X.w X.K X.mg X.base CX k f fd ps sp)(hr:Room k X.A)(hb:Binds X.K fd ps ds)(hd:Vals dvs ds)(hx:fO CX X E)
  (ht:eval (.Call (.Attribute o m apos) [] [] pos) X.env=(do
   let ov <-eval o X.env
   standAt apos.atName
   let (f,first) <-holding [ov] (getMethod ov m pl)
   callWith pos f first (backTo pos (starEach [] X.env)) (backToKw pos (keywordEach [] X.env))):=by rfl) :
  PE X (.Call (.Attribute o m apos) [] [] pos) (vq C m sp dvs E ta t8):=by
 intro pins s σ H Q I h
 refine PySem.W.methodCall_KW (pl:=pl) (bz (he pins s σ H _ I h) fun u s1 ⟨x,H1,I1,rx,a,dx,fs,ex,ea,l,q⟩=>?_) ht
 subst ex
 obtain rfl:u=Value.ref a:=rx
 refine i0 I1 ea c hm l ?_
 exact PySem.W.callWith_K0 (first:=[.ref a]) I1.FC hm.kp (mF (us:=[.ref a]) (vs:=[.ref a]) F hr hb hd hx I1 (.cons rfl .nil) q)
structure Mk (K:Vo) (C f:Addr):Prop where
 makes:PySem.W.makesIn K C=true
 init:PySem.W.findIn K (.ref C) "__init__" = some (some (.ref f))
 fn:PySem.W.isFn K (.ref f)=true
 kp:PySem.W.keepIn K (.ref C)=true
def qJ{pins:Va}{σ:St}{H:Hp}{s:Shared}{Q:VK}{us:Vv}{vs:List V}(M:Mk X.K C f)(F:gW X.prog X.w X.K X.mg X.base CX k f fd ps sp)(hr:Room (k+1) X.A)(hb:Binds X.K fd ps ds)(hd:Vals dvs ds)
  (hx:fO CX X E) (I:Inv X pins σ H s) (r:Vals vs us)
  (h:∀x dx,H x=none->H dx=none->dx≠x->sp (.ref x::(vs++dvs)) (upd (upd H dx (.own x)) x (.ins C dx [])) (fun v H2=>v = .non/\Q (.ref x) H2) E) :
  wpAny (model X.prog X.w) X.A (call (.ref C) us) (EP X pins σ Q) X.xe s:=by
 have hq:=h (s.heap.objs.size+1) s.heap.objs.size (I.hok.fresh (Nat.le_succ _)) (I.hok.fresh (Nat.le_refl _)) (Nat.ne_of_lt (Nat.lt_succ_self _))
 have I2:=Inv.made (C:=C) I
 have r2:Vals (V.ref (s.heap.objs.size+1)::(vs++dvs)) (Value.ref (s.heap.objs.size+1)::(us++ds)):=.cons rfl (r.append hd)
 have hl:(Value.ref (s.heap.objs.size+1)::us++ds).length=ps.length:=by
  have e:=r2.length
  rw[F.len _ _ _ _ hq]at e
  exact e.symm
 refine wpAny_call (qE (f:=f) I.FC M.makes M.init (beq_iff_eq.mp M.fn) (codeAny_mono (F.run _ X.stack _ _ ⟨Value.ref (s.heap.objs.size+1)::us,[]⟩ (Value.ref (s.heap.objs.size+1)::(us++ds)) _ _ E (hr.make C us [])
  (I2.HG.make C us []) (hb _ (Value.ref (s.heap.objs.size+1)::us) I2.FC hl) r2 hq) fun r s' hq'=>?_))
 cases r with
 |error e=>exact hx pins σ _ _ e s' I2 hq'
 |ok fl=>
  cases fl with
  |ret u=>
   obtain⟨v,H',I3,rv,ev,q3⟩:=I2.after hq'
   subst ev
   exact⟨rv,⟨V.ref (s.heap.objs.size+1),H',I3,rfl,q3⟩⟩
  |next=>exact False.elim hq'
  |brk=>exact False.elim hq'
  |cont=>exact False.elim hq'
def ub(M:Mk X.K C f)(F:gW X.prog X.w X.K X.mg X.base CX k f fd ps sp)(hr:Room (k+1) X.A)(hg:Gl X x)(hm:X.mg x=some (.ref C))(hb:Binds X.K fd ps ds)(hd:Vals dvs ds)(hx:fO CX X E)
  (ha:PA X (e::es) t) (hdb:(x == ("__debug__":Str))=false:=by decide) (he:starEach (e::es) X.env=(false,eval e X.env)::starEach es X.env:=by rfl) (hpl:(backTo pos (starEach es X.env)).any (·.1)=false:=by rfl) :
  PE X (.Call (.Name x p) (e::es) [] pos) (zd C sp dvs E t):=by
 intro pins s σ H Q I h
 refine wpAny_Call_Name_kw (nT I hg hm ?_ hdb)
 refine PySem.W.callWith_K (h₀:=X.base) I.ok.mod.Hx M.kp (bz (ha pos pins s σ H _ I h) fun us s1 ⟨vs,H1,I1,r,q⟩=>⟨I1.FC,?_⟩) he hpl
 exact qJ M F hr hb hd hx I1 r q
end
def PK(X:Cx)(kws:List Keyword)(t:TA):Prop:=
 ∀(pos:Pos) (pins:Va) (s:Shared) (σ:St) (H:Hp) (Q:List V->Hp->Prop),Inv X pins σ H s->t σ H Q->wpAny (model X.prog X.w) X.A (evalAll ((backToKw pos (keywordEach kws X.env)).map (·.2))) (AP X pins σ Q) X.xe s
section
variable {X:Cx} {CX:qH} {k:Nat} {f C:Addr} {fd:FuncData} {ps ks:Vs} {sp:Sp} {E:XK} {x m:Str} {p pos apos kpos:Pos} {e o:Expr} {es:List Expr} {kws:List Keyword} {te ta:TE} {t tk:TA} {nm:Option Str}
def wP:PK X [] t8:=fun _ _ _ _ H Q I h=>wpAny_evalAll_nil ⟨[],H,I,.nil,h⟩
def uc(ha:PE X e te)(hr:PK X kws t):PK X (⟨nm,e,kpos⟩::kws) (qG te t):=by
 intro pos pins s σ H Q I h
 show wpAny _ _ (evalAll ((do let v <-eval e X.env;standAt pos;pure v)::(backToKw pos (keywordEach kws X.env)).map (·.2))) _ _ s
 refine wpAny_evalAll_cons (wpAny_bind (bz (ha pins s σ H _ I h) fun u s1 ⟨x,H1,I1,r1,q1⟩=>wpAny_bind (wpAny_standAt (wpAny_pure ?_))))
 exact bz (hr pos pins s1 σ H1 _ I1 q1) fun us s2 ⟨xs,H2,I2,r2,q2⟩=>⟨x::xs,H2,I2,.cons r1 r2,q2⟩
variable {g:List Value->List Value->List Value} {gV:List V->List V->List V}
end
structure dY (N P:Vs) (sc:Scope):Prop where
 kind:sc.kind = .function
 co:sc.isCoroutine=false
 gen:sc.isGenerator=false
 nd:N.Nodup
 pre:N.take P.length=P
 par:∀x∈P,sc.names.lookup x=some .local\/sc.names.lookup x=some .cell
 GX:∀y∈sc.names,y.2 ≠ .free
theorem jN{kindOf:Str->Option NameKind}{x:Str}:∀{binds:List (Str×Value)} {m:Vr},(∀v,(x,v) ∉ binds)->bindL kindOf binds m x=m x
 |[],_,_=>rfl
 |(n,v)::r,m,h=>by
  unfold bindL
  rw[jN fun w hw=>h w (List.mem_cons_of_mem _ hw)]
  split
  ·have:x≠n:=by rintro rfl;exact h v List.mem_cons_self
   simp[this]
  ·rfl
theorem jO{kindOf:Str->Option NameKind}{x:Str}:∀{binds:List (Str×Value)} {m:Vr},(∀v,(x,v) ∉ binds)->bindC kindOf binds m x=m x
 |[],_,_=>rfl
 |(n,v)::r,m,h=>by
  unfold bindC
  rw[jO fun w hw=>h w (List.mem_cons_of_mem _ hw)]
  split
  ·rfl
  ·have:x≠n:=by rintro rfl;exact h v List.mem_cons_self
   simp[this]
theorem jP{kindOf:Str->Option NameKind}{x:Str}{v:Value}:∀{P:Vs} {vs:Vv} {i:Nat} {m:Vr},P.Nodup->P[i]?=some x->vs[i]?=some v->kindOf x=some .local->
  bindL kindOf (P.zip vs) m x=some v
 |[],_,_,_,_,h,_,_=>by simp at h
 |_::_,[],_,_,_,_,h,_=>by simp at h
 |p::P,w::vs,0,m,nd,h1,h2,hk=>by
  simp at h1 h2;subst h1;subst h2
  show bindL kindOf ((p,w)::P.zip vs) m p=_
  unfold bindL
  rw[jN fun v hv=>(List.nodup_cons.mp nd).1 (List.of_mem_zip hv).1,if_pos hk]
  simp
 |p::P,w::vs,i+1,m,nd,h1,h2,hk=>by
  show bindL kindOf ((p,w)::P.zip vs) m x=_
  unfold bindL
  exact jP (i:=i) (List.nodup_cons.mp nd).2 (by simpa using h1) (by simpa using h2) hk
theorem jQ{kindOf:Str->Option NameKind}{x:Str}{v:Value}:∀{P:Vs} {vs:Vv} {i:Nat} {m:Vr},P.Nodup->P[i]?=some x->vs[i]?=some v->kindOf x≠some .local->
  bindC kindOf (P.zip vs) m x=some v
 |[],_,_,_,_,h,_,_=>by simp at h
 |_::_,[],_,_,_,_,h,_=>by simp at h
 |p::P,w::vs,0,m,nd,h1,h2,hk=>by
  simp at h1 h2;subst h1;subst h2
  show bindC kindOf ((p,w)::P.zip vs) m p=_
  unfold bindC
  rw[jO fun v hv=>(List.nodup_cons.mp nd).1 (List.of_mem_zip hv).1,if_neg hk]
  simp
 |p::P,w::vs,i+1,m,nd,h1,h2,hk=>by
  show bindC kindOf ((p,w)::P.zip vs) m x=_
  unfold bindC
  exact jQ (i:=i) (List.nodup_cons.mp nd).2 (by simpa using h1) (by simpa using h2) hk
noncomputable def eQ(N:Vs)(vs:List V):St:=vs.map some++List.replicate (N.length - vs.length) none
noncomputable def mG(CX:qH)(P:Program)(w:World)(K:Vo)(mg:Vr)(base:Heap)(N:Vs)(qual:Str)(scope:Scope)(f:Addr)(cd:Value)(A:Around)(outer:List Env)(s:Shared)(H:Hp)(E:XK):Cx where
 prog:=P
 w:=w
 K:=K
 mg:=mg
 base:=base
 A:=A.deeper (envOfC qual scope s.heap.objs.size f cd)
 N:=N
 s₀:=s
 H₀:=H
 env:=envOfC qual scope s.heap.objs.size f cd
 outer:=outer
 stack:=envOfC qual scope s.heap.objs.size f cd::outer
 ex:=[]
 calm:=true
 fn:=fun _=>true
 pn:=[]
 xe:=fun e s'=>wpAny (model P w) (A.deeper (envOfC qual scope s.heap.objs.size f cd)) (leaving (envOfC qual scope s.heap.objs.size f cd) e) (fun _ s''=>CX outer H s E e s'') (fun e' s''=>CX outer H s E e' s'') s'
def lm{sc:Scope}{n:Nat}{x:Str}(h:sc.names.lookup x=some .cell):∃c,(cellsFrom n sc.names []).lookup x=some c:=by
 have q:=PySem.W.cellsFrom_some sc.names n [] (.inl h)
 exact Option.isSome_iff_exists.mp q
def o_{CX:qH}{P:Program}{w:World}{K:Vo}{mg:Vr}{base:Heap}{N ps:Vs}{qual:Str}{scope:Scope}{f:Addr}{cd:Value}{A:Around}{outer:List Env}{s s1:Shared}{H:Hp}{E:XK}{us:Vv}{vs:List V}
  (S:dY N ps scope) (hd:A.handled=none) (e0:Ft P w K mg base A outer s H) (hl:vs.length=ps.length) (r:Vals vs us)
  (x:InCallC s s.heap.objs.size (bindL (envOfC qual scope s.heap.objs.size f cd).kindOf (ps.zip us) fun _=>none) (cellsFrom (s.heap.objs.size+1) scope.names []) (bindC (envOfC qual scope s.heap.objs.size f cd).kindOf (ps.zip us) fun _=>none) s1) :
  Inv (mG CX P w K mg base N qual scope f cd A outer s H E) [] (eQ N vs) H s1:=by
 have hpl:ps.length<=N.length:=by have:=congrArg List.length S.pre;rw[List.length_take]at this;omega
 obtain⟨h1,tk,rfl,hk⟩:=x.done
 have HH:∀b:Addr,b ∉ (mG CX P w K mg base N qual scope f cd A outer s H E).ex:=fun b z=>absurd (show b∈([]:List Addr)from z) (by simp)
 refine⟨⟨e0.mod,S.kind,rfl,rfl,Nat.le_refl _,fun y z c h1 h2=>?_,fun y hy=>?_,fun y c _ h=>?_,fun _=>hd,Around.frames_deeper e0.frames,.inr ⟨rfl,rfl⟩,fun b z=>absurd z (HH b),e0.bs,e0.Ga,fun b _ _=>HH b,fun b z=>absurd z (HH b),e0.Eo,e0.GD⟩,
  rfl,e0.bare,Un.kept hk,⟨_,x.toInCall.ns,fun i y v h1 h2 h3=>?_⟩,fun y c h=>⟨_,x.cell y c h⟩,e0.hok.fresh (Nat.le_refl _),fun y c h=>?_,fun p hp=>absurd (show p∈([]:Va)from hp) (by simp),e0.hok.kept hk,?_⟩
 ·exact name_of_addr x.apart (PySem.mem_of_lookup h1) (PySem.mem_of_lookup h2)
 ·have hy:scope.names.lookup y=some .cell\/scope.names.lookup y=some .free:=hy
  rcases hy with hy|hy
  ·exact lm hy
  ·exact absurd rfl (S.GX _ (PySem.mem_of_lookup hy))
 ·exact Nat.le_of_lt (x.above y c (PySem.mem_of_lookup h))
 ·have hi:i < vs.length:=by
   unfold eQ at h2
   by_cases hi:i < vs.length
   ·exact hi
   ·rw[List.getElem?_append_right (by simpa using hi)]at h2
    rw[List.getElem?_replicate]at h2
    split at h2<;>cases h2
  have ha:vs[i]?=some v:=by
   unfold eQ at h2
   rw[List.getElem?_append_left (by simpa using hi),List.getElem?_map]at h2
   cases e:vs[i]? with
   |none=>rw[e]at h2;cases h2
   |some a=>rw[e]at h2;cases h2;rfl
  obtain⟨u,hu,rv⟩:=r.get ha
  have hp:ps[i]?=some y:=by
   rw[<-S.pre,List.getElem?_take_of_lt (by omega)];exact h1
  have JQ:ps.Nodup:=by rw[<-S.pre];exact S.nd.sublist (List.take_sublist _ _)
  refine⟨u,rv,?_⟩
  rcases S.par y (List.mem_of_getElem? hp)with k|k
  ·exact .inl ⟨k,jP JQ hp hu k⟩
  ·obtain⟨c,e⟩:=lm (n:=s.heap.objs.size+1) k
   refine .inr ⟨.inl k,c,e,?_⟩
   have q:=x.cell y c e
   rw[jQ JQ hp hu (by show scope.names.lookup y≠_;rw[k];decide)]at q
   exact q
 ·exact e0.hok.fresh (Nat.le_of_lt (x.above y c (PySem.mem_of_lookup h)))
 ·unfold eQ
  show _=N.length
  rw[List.length_append,List.length_map,List.length_replicate]
  omega
def ze{CX:qH}{P:Program}{w:World}{K:Vo}{mg:Vr}{base:Heap}{k:Nat}{f:Addr}{name qual:Str}{params:Arguments}{body:List Stmt}{scope:Scope}{dV kV doc pm cdv ct oc:Value}{an od:Option Addr}
  {osl:Array (Option Value)} {N ps:Vs} {sp:Sp} (lk:K.lookup f=some ⟨oc,od,.func (PySem.W.fnOf name qual params body scope dV kV doc pm an cdv ct),osl⟩) (hcd:PySem.W.codeIn K cdv qual=true) (S:dY N ps scope)
  (len:∀vs H Q E,sp vs H Q E->vs.length=ps.length)
  (hbody:∀(A:Around) (outer:List Env) (s:Shared) (H:Hp) (vs:List V) (Q:VK) (E:XK),Room k (A.deeper (envOfC qual scope s.heap.objs.size f cdv))->sp vs H Q E->
   ∃t,Fp (mG CX P w K mg base N qual scope f cdv A outer s H E) body t/\t { nx:=fun _ H'=>Q .non H',rt:=Q } (eQ N vs) H) :
  gW P w K mg base CX (k+1) f (PySem.W.fnOf name qual params body scope dV kV doc pm an cdv ct) ps sp:=by
 refine⟨len,fun A outer s H args us vs Q E hr e0 hb r GF=>?_⟩
 have hl:=len _ _ _ _ GF
 have KX:K.In s.heap:=e0.mod.Hx.keeps fun b o e=>(e0.bs b o e).1
 have lim:s.heap.NoLimit:=e0.mod.nolimit.keeps fun b o e=>(e0.bs b o e).1
 have hkind:∀y∈ps.zip us,scope.names.lookup y.1=some .local\/(scope.names.lookup y.1=some .cell/\((cellsFrom (s.heap.objs.size+1) scope.names []).lookup y.1).isSome=true):=fun⟨n,v⟩ hy=>by
  rcases S.par n (List.of_mem_zip hy).1 with q|q
  ·exact .inl q
  ·exact .inr ⟨q,PySem.W.cellsFrom_some _ _ _ (.inl q)⟩
 refine codeAny_call_function hr.depth (KX _ _ lk) rfl S.co S.gen rfl (PySem.W.codeRec_of KX hcd) (hb _ _ _ _ ?_)
 refine wpAny_newFunctionEnv_cells S.kind hkind fun env he s1 x=>?_
 subst he
 refine⟨lim.keeps x.toInCall.keep,codeAny_func ?_⟩
 obtain⟨t,ht,hq⟩:=hbody A outer s H vs Q E (hr.deeper _) GF
 have I:Inv (mG CX P w K mg base N qual scope f cdv A outer s H E) [] (eQ N vs) H s1:=o_ S hr.hd e0 hl r x
 refine wpAny_mono (ht [] s1 (eQ N vs) H _ I hq) (fun fl s' hs=>?_) fun e s' hs=>hs
 have fin:∀{σ':St} {H':Hp} {v:V} {u:Value},Inv (mG CX P w K mg base N qual scope f cdv A outer s H E) [] σ' H' s'->RelV v u->Q v H'->CE outer P w H s Q u s':=
  fun{σ' H' v u} J rv q=>⟨v,H',J.os,J.bare,J.base,J.hok,rv,q⟩
 cases fl with
 |ret u=>
  obtain⟨v,σ',H',J,rv,q⟩:=hs
  exact fin J rv q
 |next=>
  obtain⟨σ',H',J,q⟩:=hs
  exact fin (v:=V.non) (u:=Value.none) J rfl q
 |brk=>
  obtain⟨_,_,_,q⟩:=hs
  exact False.elim q
 |cont=>
  obtain⟨_,_,_,q⟩:=hs
  exact False.elim q
section
variable {X:Cx} {x:Str} {p pos:Pos} {e:Expr} {es:List Expr} {t:TA} {id T:String} {r:List V->Hp->VK->Prop}
def BZ(r:List V->Hp->VK->Prop)(t:TA):TE:=fun σ H Q=>t σ H fun vs H1=>r vs H1 Q
def qK(hc:fF X (.builtin id) r)(hg:Gl X x)(hm:X.mg x=none)(hv:bootBuiltins x=some (.builtin id))(ha:PA X (e::es) t)(hn:x ≠ "__name__":=by decide)(hdb:(x == ("__debug__":Str))=false:=by decide)
  (he:starEach (e::es) X.env=(false,eval e X.env)::starEach es X.env:=by rfl) (hpl:(backTo pos (starEach es X.env)).any (·.1)=false:=by rfl):PE X (.Call (.Name x p) (e::es) [] pos) (BZ r t):=by
 intro pins s σ H Q I h
 refine wpAny_Call_Name_kw (eP I hg hm hv ?_ hn hdb)
 exact PyProof.Rows.callWith_builtin1 (bz (ha pos pins s σ H _ I h) fun us s1 ⟨vs,H1,I1,r1,q1⟩=>hc pins s1 σ H1 vs us Q I1 r1 q1) he hpl
def pd(hc:fF X (.type T) r)(hg:Gl X x)(hm:X.mg x=none)(hv:bootBuiltins x=some (.type T))(ha:PA X (e::es) t)(hn:x ≠ "__name__":=by decide)(hdb:(x == ("__debug__":Str))=false:=by decide)
  (he:starEach (e::es) X.env=(false,eval e X.env)::starEach es X.env:=by rfl) (hpl:(backTo pos (starEach es X.env)).any (·.1)=false:=by rfl):PE X (.Call (.Name x p) (e::es) [] pos) (BZ r t):=by
 intro pins s σ H Q I h
 refine wpAny_Call_Name_kw (eP I hg hm hv ?_ hn hdb)
 exact PyProof.Rows.callWith_type1 (bz (ha pos pins s σ H _ I h) fun us s1 ⟨vs,H1,I1,r1,q1⟩=>hc pins s1 σ H1 vs us Q I1 r1 q1) he hpl
end
end L2
namespace HT
open PySem PyProof.Rows
section
open PySem.SeqAt
open PySem.AutoSeq1 (wpAny_loadPart')
open PySem.MeetsSeq PySem.MeetsSeq2 PySem.MeetsSeq3
end
section
variable {prog:Program} {w:World} {A:Around} {E:Vq} {s:Shared}
def ue{t b:Addr}{vs ws:Vv}{Q:Vq}(ht:IsTup s.heap t vs.toArray)(hb:IsTup s.heap b ws.toArray)(hv:vs≠[])
  (h1:ws=[]->Q (.ref t) s) (h2:ws≠[]->Q (.ref s.heap.objs.size) { s with heap:=s.heap.push { cls:=.type "tuple",data:=.seq (vs++ws).toArray } })
  (hsz:vs.length+ws.length<=sizeLine):wpAny (model prog w) A (binaryOp .Add (.ref t) (.ref b)) Q E s:=by
 obtain⟨⟨cls,dd,data,sl⟩,ho,hc,n,hd⟩:=id ht
 obtain⟨⟨IV,dd2,data2,sl2⟩,ho2,hc2,n2,hd2⟩:=id hb
 simp only at hc hd hc2 hd2
 subst hc hd hc2 hd2
 have e:vs.toArray++ws.toArray=(vs++ws).toArray:=by simp
 by_cases hw:ws=[]
 ·exact concat_meets ⟨_,ho,rfl⟩ ⟨_,ho2,rfl⟩ noFill_tuple_add seq_tuple_add PySem.F.slot_tuple_add PySem.F.entry_tuple_add (PySem.F.args_tuple_add_2 _ _)
   (tuple_addW1 t b vs.toArray ws.toArray n n2 dd dd2 sl sl2 (by simpa using hv) (by simp[hw])) ⟨ho,ho2,h1 hw⟩
 ·refine concat_meets ⟨_,ho,rfl⟩ ⟨_,ho2,rfl⟩ noFill_tuple_add seq_tuple_add PySem.F.slot_tuple_add PySem.F.entry_tuple_add (PySem.F.args_tuple_add_2 _ _)
   (tuple_addW2 t b vs.toArray ws.toArray n n2 dd dd2 sl sl2 (by simpa using hv) (by simpa using hw) (by rw[List.size_toArray,List.size_toArray];exact hsz)) ⟨ho,ho2,?_⟩
  rw[e]
  exact h2 hw
noncomputable def C3(n d:Nat):Option Int->Nat
 |none=>d
 |some v=>if v < 0 then (v+(n:Int)).toNat else min v.toNat n
def i3(n d:Nat):C3 n d none=d:=rfl
def kl(n d k:Nat):C3 n d (some (k:Int))=min k n:=by
 show(if (k:Int) < 0 then ((k:Int)+(n:Int)).toNat else min (k:Int).toNat n)=min k n
 rw[if_neg (by omega),Int.toNat_natCast]
def wQ(n d:Nat)(hd:d<=n)(o:Option Int):C3 n d o<=n:=by
 cases o with
 |none=>exact hd
 |some v=>
  show(if v < 0 then (v+(n:Int)).toNat else min v.toNat n)<=n
  by_cases hv:v < 0
  ·rw[if_pos hv];omega
  ·rw[if_neg hv];exact Nat.min_le_right _ _
def nY(v:Int)(n d:Nat):(if v < 0 then max (v+(n:Int)) 0 else min v (n:Int))=((C3 n d (some v):Nat):Int):=by
 show(if v < 0 then max (v+(n:Int)) 0 else min v (n:Int))=(((if v < 0 then (v+(n:Int)).toNat else min v.toNat n):Nat):Int)
 by_cases hv:v < 0
 ·simp only[if_pos hv];omega
 ·simp only[if_neg hv];omega
def mH(lo hi:Option Int)(n:Nat):Builtin.Slice.sliceAdjust lo hi 1 (n:Int)=(((C3 n 0 lo:Nat):Int),((C3 n n hi:Nat):Int)):=by
 have h1:¬((1:Int) < 0):=by omega
 unfold Builtin.Slice.sliceAdjust
 simp only[h1,if_false]
 refine Prod.ext ?_ ?_
 ·cases lo with
  |none=>rfl
  |some v=>exact nY v n 0
 ·cases hi with
  |none=>rfl
  |some v=>exact nY v n n
def mI(i j:Nat):Builtin.Slice.slicePlaces (i:Int) (j:Int) 1=j - i:=by
 unfold Builtin.Slice.slicePlaces
 have h1:(1:Int) > 0:=by omega
 simp only[h1,if_true,Int.ediv_one]
 split<;>omega
def i4{v:Value}{o:Option Int}{Q:Option Int->Shared->Prop}(p:IsPart v o)(h:Q o s):wpAny (model prog w) A (Builtin.Slice.slicePartIndex v) Q E s:=by
 cases p with
 |none=>exact slicePart_none h
 |int i t=>exact slicePart_int h
def dM{sl:Addr}{vl vu:Value}{lo hi:Option Int}{n:Nat}{Q:Int×Int×Nat->Shared->Prop}(hs:s.heap.IsSliceOf sl vl vu .none)(pl:IsPart vl lo)(pu:IsPart vu hi)
  (h:Q (((C3 n 0 lo:Nat):Int),1,C3 n n hi - C3 n 0 lo) s):wpAny (model prog w) A (Builtin.Slice.sliceApplied (.ref sl) (pure (n:Int))) Q E s:=by
 obtain⟨os,hos,hcs,hds⟩:=id hs
 unfold Builtin.Slice.sliceApplied Builtin.Slice.sliceFields
 refine wpAny_bind (wpAny_bind (wpAny_field hos hds (x:=vl) rfl (wpAny_bind (wpAny_field hos hds (x:=vu) rfl (wpAny_bind (wpAny_field hos hds (x:=.none) rfl (wpAny_pure ?_)))))))
 refine wpAny_bind (slicePart_none ?_)
 show wpAny _ _ (if ((1:Int) == 0)=true then _ else _) _ _ s
 rw[if_neg (by decide)]
 refine wpAny_bind (i4 pl (wpAny_bind (i4 pu (wpAny_bind (wpAny_pure ?_)))))
 show wpAny _ _ (match Builtin.Slice.sliceAdjust lo hi 1 (n:Int)with|(lo,hi)=>pure (lo,(1:Int),Builtin.Slice.slicePlaces lo hi 1)) _ _ s
 rw[mH lo hi n]
 show wpAny _ _ (pure (((C3 n 0 lo:Nat):Int),(1:Int),Builtin.Slice.slicePlaces ((C3 n 0 lo:Nat):Int) ((C3 n n hi:Nat):Int) 1)) _ _ s
 rw[mI]
 exact wpAny_pure h
def qL(xs:Vw)(i k:Nat):((List.range k).filterMap fun(m:Nat)=>xs[((i:Int)+(m:Int) * 1).toNat]?).toArray=((xs.toList.drop i).take k).toArray:=by
 have e:(fun(m:Nat)=>xs[((i:Int)+(m:Int) * 1).toNat]?)=fun m=>xs[i+m]?:=by
  funext m
  have:((i:Int)+(m:Int) * 1).toNat=i+m:=by omega
  rw[this]
 rw[e]
 have:=pick_run xs i k
 rw[List.filterMap_map]at this
 have e2:((fun x=>xs[x]?) ∘ fun x=>i+x)=fun m=>xs[i+m]?:=rfl
 rw[e2]at this
 rw[this]
def gq{t sl:Addr}{items:Vw}{vl vu:Value}{lo hi:Option Int}{Q:Vq}(ht:IsTup s.heap t items)(hs:s.heap.IsSliceOf sl vl vu .none)(pl:IsPart vl lo)(pu:IsPart vu hi)
  (hw:¬(C3 items.size 0 lo=0/\C3 items.size items.size hi=items.size))
  (h:Q (.ref s.heap.objs.size) { s with heap:=s.heap.push { cls:=.type "tuple",data:=.seq ((items.toList.drop (C3 items.size 0 lo)).take (C3 items.size items.size hi - C3 items.size 0 lo)).toArray } })
  (hsz:items.size<=sizeLine):wpAny (model prog w) A (getItem (.ref t) (.ref sl)) Q E s:=by
 have FE:sizeOk (.seq ((items.toList.drop (C3 items.size 0 lo)).take (C3 items.size items.size hi - C3 items.size 0 lo)).toArray):=by
  show((items.toList.drop (C3 items.size 0 lo)).take (C3 items.size items.size hi - C3 items.size 0 lo)).toArray.size<=sizeLine
  rw[List.size_toArray,List.length_take,List.length_drop,Array.length_toList]
  omega
 have hj:C3 items.size items.size hi<=items.size:=wQ _ _ (Nat.le_refl _) hi
 obtain⟨os,hos,hcs,hds⟩:=id hs
 have IW:s.TypeIs (.ref sl) "slice":=⟨os,hos,hcs⟩
 unfold getItem
 try with_reducible refine wpAny_holding ?_
 first|refine wpAny_bind (wpAny_pure ?_)|skip
 refine wpAny_bind (wpAny_sequenceKey ht.typeIs (by decide) ?_)
 refine wpAny_bind (wpAny_callSpecial?_slot (name:=Str.ofString "__getitem__") ht.typeIs PyProof.Rows.slot_tuple_getitem
  (wpAny_call_entry PyProof.Rows.slot_tuple_getitem ht.typeIs entry_tuple_getitem ?_ (args_tuple_getitem _ _)))
 show wpAny _ _ (Builtin.Tuple.tupleItemsOf (.ref t) >>= _) _ _ s
 refine wpAny_bind (tupleItemsOf_ ht ?_)
 refine wpAny_bind (wpAny_typeOf IW ?_)
 rw[if_pos (by decide)]
 refine wpAny_bind (dM hs pl pu ?_)
 have hno:¬((((C3 items.size 0 lo:Nat):Int) == 0&&(1:Int) == 1&&(C3 items.size items.size hi - C3 items.size 0 lo) == items.size)=true):=by
  intro q
  rw[Bool.and_eq_true,Bool.and_eq_true]at q
  have q1:((C3 items.size 0 lo:Nat):Int)=0:=eq_of_beq q.1.1
  have q2:C3 items.size items.size hi - C3 items.size 0 lo=items.size:=eq_of_beq q.2
  exact hw ⟨by omega,by omega⟩
 show wpAny _ _ (if (((C3 items.size 0 lo:Nat):Int) == 0&&(1:Int) == 1&&(C3 items.size items.size hi - C3 items.size 0 lo) == items.size)=true then _ else _) _ _ s
 rw[if_neg hno,qL]
 first
  |exact wpAny_bind (m:=Builtin.Tuple.tupleExact _) (wpAny_newObj_type (wpAny_pure ⟨_,rfl,wpAny_pure h⟩) FE)
  |exact wpAny_bind (m:=Builtin.Tuple.tupleExact _) (wpAny_newObj_type (wpAny_bind (wpAny_pure (wpAny_pure ⟨_,rfl,wpAny_pure h⟩))) FE)
  |exact wpAny_bind (wpAny_bind (m:=Builtin.Tuple.tupleExact _) (wpAny_newObj_type (wpAny_pure (wpAny_pure ⟨_,rfl,wpAny_pure h⟩)) FE))
  |exact wpAny_bind (wpAny_bind (m:=Builtin.Tuple.tupleExact _) (wpAny_newObj_type (wpAny_pure ⟨_,rfl,wpAny_pure h⟩) FE))
end
end HT
namespace L2
open PySem PySem.Spec PyProof.Rows
abbrev TO:=St->Hp->(Option Int->Hp->Prop)->Prop
def PO(X:Cx)(e:Option Expr)(t:TO):Prop:=
 ∀(pins:Va) (s:Shared) (σ:St) (H:Hp) (Q:Option Int->Hp->Prop),Inv X pins σ H s->t σ H Q->
  wpAny (model X.prog X.w) X.A (evalPart e X.env) (fun u s'=>∃o H',Inv X pins σ H' s'/\IsPart u o/\Q o H') X.xe s
noncomputable def uf:TO:=fun _ H Q=>Q none H
noncomputable def zf(t:TE):TO:=fun σ H Q=>t σ H fun x H1=>∃i,x = .int i/\Q (some i) H1
def mJ{ns:Vu}:∀{us:Vv},Vals (ns.map V.int) us->IntsAre us ns:=by
 induction ns with
 |nil=>intro us r;rw[List.map_nil]at r;cases r;exact .nil
 |cons n ns ih=>
  intro us r
  rw[List.map_cons]at r
  cases r with
  |cons r1 r2=>
   obtain⟨t,e⟩:=r1
   subst e
   exact .cons n t (ih r2)
section
variable {X:Cx} {e:Expr} {te:TE} {lo hi:Option Expr} {tl th:TO} {pos p2:Pos}
def ug:PO X none uf:=by
 intro pins s σ H Q I h
 rw[evalPart_none]
 exact wpAny_pure ⟨none,H,I,.none,h⟩
def uh(h:PE X e te):PO X (some e) (zf te):=by
 intro pins s σ H Q I hw
 rw[evalPart_some]
 refine bz (h pins s σ H _ I hw) fun u s1 ⟨x,H1,I1,r1,q1⟩=>?_
 obtain⟨i,rfl,q⟩:=q1
 obtain⟨t,rfl⟩:=r1
 exact⟨some i,H1,I1,.int i t,q⟩
def yB(X:Cx)(r:V->Option Int->Option Int->Hp->VK->Prop):Prop:=
 ∀(pins:Va) (s:Shared) (σ:St) (H:Hp) (x:V) (v vl vu:Value) (lo hi:Option Int) (sl:Addr) (Q:VK),Inv X pins σ H s->RelV x v->s.heap.IsSliceOf sl vl vu .none->IsPart vl lo->IsPart vu hi->r x lo hi H Q->
  ∃T id,typeLookup (.type T) "__getitem__" = pure (some (.builtin id))/\s.TypeIs v T/\wpAny (model X.prog X.w) X.A (getItem v (.ref sl)) (EP X pins σ Q) X.xe s
def Cj(r:V->Option Int->Option Int->Hp->VK->Prop)(te:TE)(tl th:TO):TE:=fun σ H Q=>te σ H fun x H1=>tl σ H1 fun l H2=>th σ H2 fun u H3=>r x l u H3 Q
def qM{r:V->Option Int->Option Int->Hp->VK->Prop}(hr:yB X r)(he:PE X e te)(hl:PO X lo tl)(hu:PO X hi th):PE X (.Subscript e (.Slice lo hi none p2) pos) (Cj r te tl th):=by
 intro pins s σ H Q I h
 refine Subscript_ (bz (he pins s σ H _ I h) fun v s1 ⟨x,H1,I1,r1,q1⟩=>?_)
 refine wpAny_Slice (bz (hl pins s1 σ H1 _ I1 q1) fun vl s2 ⟨l,H2,I2,pl,q2⟩=>bz (hu pins s2 σ H2 _ I2 q2) fun vu s3 ⟨u,H3,I3,pu,q3⟩=>?_)
 rw[evalPart_none]
 refine wpAny_pure ?_
 have I4:Inv X pins σ H3 { s3 with heap:=s3.heap.push { cls:=.type "slice",data:=.fields #[vl,vu,.none] } }:=I3.kept (t':=s3.toks) fun b ob q=>Heap.get?_push_of_some _ q
 obtain⟨T,id,hT,ht,hg⟩:=hr pins { s3 with heap:=s3.heap.push { cls:=.type "slice",data:=.fields #[vl,vu,.none] } } σ H3 x v vl vu l u s3.heap.objs.size Q I4 r1 (Heap.IsSliceOf.new ..) pl pu q3
 show wpAny (model X.prog X.w) X.A (subscriptTail e (.Slice lo hi none p2) v (.ref s3.heap.objs.size)) (EP X pins σ Q) X.xe { s3 with heap:=s3.heap.push { cls:=.type "slice",data:=.fields #[vl,vu,.none] } }
 exact tail_any (ops:=[.ref s3.heap.objs.size,v]) ht hT hg (by with_unfolding_all rfl)
noncomputable def i5(xs:List V)(lo hi:Option Int):List V:=(xs.drop (HT.C3 xs.length 0 lo)).take (HT.C3 xs.length xs.length hi - HT.C3 xs.length 0 lo)
def iA(xs:List V)(lo hi:Option Int):(i5 xs lo hi).length<=xs.length:=by
 unfold i5
 rw[List.length_take,List.length_drop]
 omega
noncomputable def Be(K:Vo):V->Option Int->Option Int->Hp->VK->Prop:=fun x lo hi H Q=>∃a xs,x = .ref a/\SqT K H a xs/\
 ¬(HT.C3 xs.length 0 lo=0/\HT.C3 xs.length xs.length hi=xs.length)/\∀p,H p=none->Q (.ref p) (upd H p (.tup (i5 xs lo hi)))
def wR:yB X (Be X.K):=by
 intro pins s σ H x v vl vu lo hi sl Q I rx hs pl pu h
 obtain⟨a,xs,rfl,hx,hw,q⟩:=h
 cases rx
 obtain⟨its,r,ht,hz⟩:=I.tuple hx
 have hlen:its.toArray.size=xs.length:=by rw[List.size_toArray];exact r.length.symm
 refine⟨"tuple",_,PyProof.Rows.slot_tuple_getitem.lookup,ht.typeIs,?_⟩
 refine HT.gq ht hs pl pu (by rw[hlen];exact hw) ?_ (by rw[hlen];exact hz)
 rw[hlen]
 refine⟨.ref s.heap.objs.size,_,I.laid (t':=s.toks) (o:=.tup (i5 xs lo hi)) (fun b ob q=>Heap.get?_push_of_some _ q) (Nat.le_refl _) ?_,rfl,q _ (I.hok.fresh (Nat.le_refl _))⟩
 exact⟨Nat.le_trans (iA xs lo hi) hz,_,(r.drop (HT.C3 xs.length 0 lo)).take (HT.C3 xs.length xs.length hi - HT.C3 xs.length 0 lo),Dh.new _ _⟩
def zg(K:Vo):R2:=fun x y H Q=>∃a b xs ys,x = .ref a/\y = .ref b/\SqT K H a xs/\SqT K H b ys/\xs≠[]/\xs.length+ys.length<=sizeLine/\
 (ys=[]->Q (.ref a) H)/\(ys≠[]->∀p,H p=none->Q (.ref p) (upd H p (.tup (xs++ys))))
def Vals.EX{xs:List V}{us:Vv}(r:Vals xs us):us=[]↔xs=[]:=by
 cases r with
 |nil=>simp
 |cons _ _=>simp
def uk:fz X (binaryOp .Add) (zg X.K):=by
 intro pins s σ H x y v u Q I rx ry h
 obtain⟨a,b,xs,ys,rfl,rfl,ha,hb,hx,hz,q1,q2⟩:=h
 cases rx
 cases ry
 obtain⟨its,r1,p1,_⟩:=I.tuple ha
 obtain⟨its2,r2,p2,_⟩:=I.tuple hb
 refine HT.ue p1 p2 (fun z=>hx (r1.EX.mp z)) (fun z=>⟨.ref a,H,I,rfl,q1 (r2.EX.mp z)⟩) (fun z=>?_) (by rw[<-r1.length,<-r2.length];exact hz)
 refine⟨.ref s.heap.objs.size,_,I.laid (t':=s.toks) (o:=.tup (xs++ys)) (fun b ob q=>Heap.get?_push_of_some _ q) (Nat.le_refl _) ?_,rfl,q2 (fun w=>z (r2.EX.mpr w)) _ (I.hok.fresh (Nat.le_refl _))⟩
 exact⟨by rw[List.length_append];exact hz,_,r1.append r2,Dh.new _ _⟩
end
noncomputable def lp(n:Nat)(i:Int):Option Nat:=if 0<=i then (if i < n then some i.toNat else none) else if -(n:Int)<=i then some (i+n).toNat else none
noncomputable def atI{α:Type}(xs:List α)(i:Int):Option α:=(lp xs.length i).bind fun j=>xs[j]?
def nZ{n:Nat}{i:Int}{j:Nat}(h:lp n i=some j):seqIndex? i n=some j/\j < n/\-(n:Int)<=i/\i < n:=by
 unfold lp at h
 by_cases h0:0<=i
 ·rw[if_pos h0]at h
  by_cases h1:i < n
  ·rw[if_pos h1]at h
   have e:i.toNat=j:=Option.some.inj h
   exact⟨by rw[seqIndex_of h0 h1,e],by omega,by omega,h1⟩
  ·rw[if_neg h1]at h;cases h
 ·rw[if_neg h0]at h
  by_cases h1:-(n:Int)<=i
  ·rw[if_pos h1]at h
   have e:(i+n).toNat=j:=Option.some.inj h
   exact⟨by rw[seqIndex_neg (by omega) h1,e],by omega,h1,by omega⟩
  ·rw[if_neg h1]at h;cases h
def km{α:Type}{xs:List α}{i:Int}{v:α}(h:atI xs i=some v):∃j,seqIndex? i xs.length=some j/\xs[j]?=some v/\j < xs.length/\-(xs.length:Int)<=i/\i < xs.length:=by
 unfold atI at h
 cases e:lp xs.length i with
 |none=>rw[e]at h;cases h
 |some j=>
  rw[e]at h
  obtain⟨h1,h2,h3,h4⟩:=nZ e
  exact⟨j,h1,h,h2,h3,h4⟩
def bE{α:Type}{xs:List α}{j:Nat}{v:α}(h:xs[j]?=some v):atI xs (j:Int)=some v:=by
 have hj:j < xs.length:=(List.getElem?_eq_some_iff.mp h).1
 have e:lp xs.length (j:Int)=some j:=by
  unfold lp
  rw[if_pos (by omega),if_pos (by omega)];simp
 unfold atI;rw[e];exact h
def iS(b:Expr):Prop:=∀o i,subscripted b false o i=operate [o,i] (getItem o i)
def yC(X:Cx)(r:R2):Prop:=
 ∀(value slice:Expr) (pins:Va) (s:Shared) (σ:St) (H:Hp) (x y:V) (v u:Value) (Q:VK),Inv X pins σ H s->RelV x v->RelV y u->r x y H Q->
  subscripted slice false v u=operate [v,u] (getItem v u)->wpAny (model X.prog X.w) X.A (subscriptTail value slice v u) (EP X pins σ Q) X.xe s
def Bf(X:Cx)(id:String)(r:V->List V->Hp->VK->Prop):Prop:=
 ∀(pins:Va) (s:Shared) (σ:St) (H:Hp) (x:V) (xs:List V) (v:Value) (us:Vv) (Q:VK),Inv X pins σ H s->RelV x v->Vals xs us->r x xs H Q->
  wpAny (model X.prog X.w) X.A (call (.builtin id) (v::us)) (EP X pins σ Q) X.xe s
section
variable {X:Cx} {a b:Expr} {ta tb:TE} {pos:Pos}
def zh{r:R2}(hr:yC X r)(ha:PE X a ta)(hb:PE X b tb)(hs:iS b):PE X (.Subscript a b pos) (yA r ta tb):=by
 intro pins s σ H Q I h
 exact Subscript_ (wC ha hb I h fun v u s2 x y H2 I2 rx ry q=>hr a b pins s2 σ H2 x y v u Q I2 rx ry q (hs _ _))
def Bg(K:Vo):R2:=fun x y H Q=>∃p xs i v,x = .ref p/\y = .int i/\SqL K H p xs/\atI xs i=some v/\Q v H
def Bh(K:Vo):R2:=fun x y H Q=>∃p xs i v,x = .ref p/\y = .int i/\SqT K H p xs/\atI xs i=some v/\Q v H
def Bi:R2:=fun x y H Q=>∃z i c,x = .str z/\y = .int i/\z.length<=sizeLine/\atI z.cps.toList i=some c/\Q (.str ⟨#[c]⟩) H
def n6:yC X (Bg X.K):=by
 intro value slice pins s σ H x y v u Q I rx ry h hs
 obtain⟨p,xs,i,z,rfl,rfl,hq,he,q⟩:=h
 cases rx
 obtain⟨t,rfl⟩:=ry
 obtain⟨its,r,pl,hz⟩:=I.list hq
 obtain⟨j,h1,h2,h3,h4,h5⟩:=km he
 obtain⟨w,ew,rw'⟩:=r.get h2
 have hl:=r.length
 have hn:=gT
 have fin:EP X pins σ Q w s:=⟨z,H,I,rw',q⟩
 by_cases h0:0<=i
 ·have hj:i.toNat=j:=by
   rw[seqIndex_of h0 h5]at h1
   exact Option.some.inj h1
  exact item_listR pl.isList h0 (by omega) (by rw[hj];simpa using ew) fin hs
 ·have hj:(i+(its.toArray.size:Int)).toNat=j:=by
   rw[seqIndex_neg (by omega) h4]at h1
   rw[List.size_toArray,<-hl]
   exact Option.some.inj h1
  exact subscriptTail_builtinR (x:=w) pl.isList.typeIs slot_list_getitem.lookup
   (wpAny_getItem_list_neg (Q:=fun r s'=>r=w/\EP X pins σ Q r s') pl.isList (by omega) (by rw[List.size_toArray]<;>omega) (by omega) (by rw[hj];simpa using ew) ⟨rfl,fin⟩) hs
def wS:yC X (Bh X.K):=by
 intro value slice pins s σ H x y v u Q I rx ry h hs
 obtain⟨p,xs,i,z,rfl,rfl,hq,he,q⟩:=h
 cases rx
 obtain⟨t,rfl⟩:=ry
 obtain⟨its,r,pl,hz⟩:=I.tuple hq
 obtain⟨j,h1,h2,h3,h4,h5⟩:=km he
 obtain⟨w,ew,rw'⟩:=r.get h2
 have hl:=r.length
 have hn:=gT
 have fin:EP X pins σ Q w s:=⟨z,H,I,rw',q⟩
 exact subscriptTail_builtinR (x:=w) pl.typeIs slot_tuple_getitem.lookup
  (getItem_tuple (j:=j) (Q:=fun r s'=>r=w/\EP X pins σ Q r s') pl (by omega) (by omega) (by rw[List.size_toArray,<-hl];exact h1) (by simpa using ew) ⟨rfl,fin⟩) hs
def wT:yC X Bi:=by
 intro value slice pins s σ H x y v u Q I rx ry h hs
 obtain⟨z,i,c,rfl,rfl,hz,he,q⟩:=h
 obtain⟨t,rfl⟩:=rx
 obtain⟨t',rfl⟩:=ry
 obtain⟨j,h1,h2,h3,h4,h5⟩:=km he
 have hl:z.cps.toList.length=z.length:=by simp[Str.length]
 rw[hl]at h1 h4 h5
 have hn:=gT
 exact tail_any (typeIs_str s z t) slot_str_getitem.lookup (getItem_str (c:=c) (by
  have e1:decide (i < -(2 ^ 63:Int))=false:=decide_eq_false (by omega)
  have e2:decide (i>=2 ^ 63)=false:=decide_eq_false (by omega)
  rw[e1,e2,Bool.or_false]) (by rw[h1];simpa using h2) ⟨.str ⟨#[c]⟩,H,I.tok _,⟨_,rfl⟩,q⟩) hs
def mK(its:Vv)(n j:Nat)(u:Value):Obj.mapSeq (·.setIfInBounds j u) { cls:=.type "list",data:=.seq its.toArray n }={ cls:=.type "list",data:=.seq (its.set j u).toArray n }:=by
 simp[Obj.mapSeq]
theorem Inv.lst{pins:Va}{σ:St}{H:Hp}{s:Shared}{p:Addr}{xs:List V}(I:Inv X pins σ H s)(h:H p=some (.lst xs)) :
  ∃(its:Vv) (n:Nat),Vals xs its/\s.heap.get? p=some { cls:=.type "list",data:=.seq its.toArray n }/\xs.length<=sizeLine:=by
 obtain⟨z,its,n,r,e⟩:=I.hok p _ h
 exact⟨its,n,r,e,z⟩
def Inv.GY{pins:Va}{σ:St}{H:Hp}{s:Shared}{p:Addr}{xs ys:List V}{its its':Vv}{n n':Nat}{f:Obj->Obj}(I:Inv X pins σ H s)(h:H p=some (.lst xs))
  (ho:s.heap.get? p=some { cls:=.type "list",data:=.seq its.toArray n }) (hf:f { cls:=.type "list",data:=.seq its.toArray n }={ cls:=.type "list",data:=.seq its'.toArray n' }) (r:Vals ys its') (hz:ys.length<=sizeLine) (t:Nat) :
  Inv X pins σ (upd H p (.lst ys)) { s with heap:=s.heap.update p f,toks:=t }:=by
 have e:(s.heap.update p f).get? p=some { cls:=.type "list",data:=.seq its'.toArray n' }:=by
  rw[Heap.get?_update_self f ho (by rw[hf]<;>rfl),hf]
 refine I.write (x:=p) (e:=p) (by rw[h];trivial) (.inl rfl) (fun b u hb q=>(Heap.get?_update_other _ _ (Ne.symm hb)).trans q) ⟨_,e⟩ ?_
 exact⟨hz,its',n',r,e⟩
noncomputable def zi:V->V->V->Hp->(Hp->Prop)->Prop:=fun o i v H Q=>∃p xs k j,o = .ref p/\i = .int k/\H p=some (.lst xs)/\lp xs.length k=some j/\Q (upd H p (.lst (xs.set j v)))
def qN:tR X zi:=by
 intro pins s σ H o i v ov iv u Q I ro ri rv h
 obtain⟨p,xs,k,j,rfl,rfl,hp,hj,q⟩:=h
 cases ro
 obtain⟨t,rfl⟩:=ri
 obtain⟨its,n,r,ho,hz⟩:=I.lst hp
 obtain⟨h1,h2,h3,h4⟩:=nZ hj
 have hl:=r.length
 have hn:=gT
 have I':Inv X pins σ (upd H p (.lst (xs.set j v))) { s with heap:=s.heap.update p (Obj.mapSeq (·.setIfInBounds j u)) }:=
  I.GY hp ho (mK its n j u) (r.set rv j) (by rw[List.length_set];exact hz) s.toks
 by_cases h0:0<=k
 ·have hk:k.toNat=j:=by
   rw[seqIndex_of h0 h4]at h1
   exact Option.some.inj h1
  exact PySem.W.ki_setAt ho h0 (by omega) (by rw[List.size_toArray,<-hl];exact h4) (by rw[hk];exact⟨_,I',q⟩)
 ·have hk:(k+(its.toArray.size:Int)).toNat=j:=by
   rw[seqIndex_neg (by omega) h3]at h1
   rw[List.size_toArray,<-hl]
   exact Option.some.inj h1
  exact PySem.W.ki_setBack ho (by omega) (by rw[List.size_toArray,<-hl];exact h3) (by omega) (by rw[hk];exact⟨_,I',q⟩)
def kn(lo hi:Option Int)(n:Nat):(sliceBounds lo hi none n).1=((HT.C3 n 0 lo:Nat):Int)/\(sliceBounds lo hi none n).2.1=((HT.C3 n n hi:Nat):Int)/\(sliceBounds lo hi none n).2.2=1:=by
 refine⟨?_,?_,rfl⟩
 ·cases lo with
  |none=>simp[sliceBounds,HT.C3]
  |some i=>
   simp only[sliceBounds,HT.C3,Option.getD_none,show(1:Int) > 0 by decide,if_true]
   by_cases h:i < 0
   ·simp only[h,if_true]<;>omega
   ·simp only[h,if_false]<;>omega
 ·cases hi with
  |none=>simp[sliceBounds,HT.C3]
  |some i=>
   simp only[sliceBounds,HT.C3,Option.getD_none,show(1:Int) > 0 by decide,if_true]
   by_cases h:i < 0
   ·simp only[h,if_true]<;>omega
   ·simp only[h,if_false]<;>omega
def jC(its:Vv)(lo hi:Option Int):slicePick its.toArray lo hi none=((its.drop (HT.C3 its.length 0 lo)).take (HT.C3 its.length its.length hi - HT.C3 its.length 0 lo)).toArray:=by
 obtain⟨h1,h2,h3⟩:=kn lo hi its.toArray.size
 unfold slicePick
 rw[h1,h2,h3]
 simp only[sliceRange_one,pick_run,List.size_toArray]<;>rfl
noncomputable def Bj(K:Vo):V->Option Int->Option Int->Hp->VK->Prop:=fun x lo hi H Q=>∃a xs,x = .ref a/\SqL K H a xs/\∀p,H p=none->Q (.ref p) (upd H p (.lst (i5 xs lo hi)))
def n9:yB X (Bj X.K):=by
 intro pins s σ H x v vl vu lo hi sl Q I rx hs pl pu h
 obtain⟨a,xs,rfl,hx,q⟩:=h
 cases rx
 obtain⟨its,r,ht,hz⟩:=I.list hx
 have hlen:=r.length
 refine⟨"list",_,slot_list_getitem.lookup,ht.isList.typeIs,?_⟩
 refine wpAny_getItem_list_slice ht.isList hs pl pu .none (by simp) ?_ (by rw[List.size_toArray]<;>omega)
 rw[jC,<-hlen]
 refine⟨.ref s.heap.objs.size,_,I.laid (t':=s.toks) (o:=.lst (i5 xs lo hi)) (fun b ob q=>Heap.get?_push_of_some _ q) (Nat.le_refl _) ?_,rfl,q _ (I.hok.fresh (Nat.le_refl _))⟩
 exact⟨Nat.le_trans (iA xs lo hi) hz,_,0,(r.drop (HT.C3 xs.length 0 lo)).take (HT.C3 xs.length xs.length hi - HT.C3 xs.length 0 lo),Heap.get?_push_size _ rfl⟩
def dZ:fF X (.builtin "len") (fun xs H Q=>∃p ys,xs=[.ref p]/\(SqL X.K H p ys\/SqT X.K H p ys)/\Q (.int ys.length) H):=by
 intro pins s σ H xs us Q I r h
 obtain⟨p,ys,rfl,hq,q⟩:=h
 obtain⟨u,rfl,rx⟩:=ix r
 cases rx
 have hn:=gT
 rcases hq with hq|hq
 ·obtain⟨its,r',pl,hz⟩:=I.list hq
  have hlen:=r'.length
  exact Calls.call_len_list pl.isList (by simp only[List.size_toArray]<;>omega) ⟨.int ys.length,H,I.tok _,⟨s.toks+1,by rw[List.size_toArray,hlen]⟩,q⟩
 ·obtain⟨its,r',pl,hz⟩:=I.tuple hq
  have hlen:=r'.length
  exact len_tuple pl (by simp only[List.size_toArray]<;>omega) ⟨.int ys.length,H,I.tok _,⟨s.toks+1,by rw[List.size_toArray,hlen]⟩,q⟩
def ko:fF X (.builtin "len") (fun xs H Q=>∃z,xs=[.str z]/\z.length<=sizeLine/\Q (.int z.length) H):=by
 intro pins s σ H xs us Q I r h
 obtain⟨z,rfl,hz,q⟩:=h
 obtain⟨u,rfl,t,rfl⟩:=ix r
 have hn:=gT
 exact len_str (by omega) ⟨.int z.length,H,I.tok _,⟨_,rfl⟩,q⟩
def fG:fF X (.type "tuple") (fun xs H Q=>∃p ys,xs=[.ref p]/\((SqL X.K H p ys/\∀l,H l=none->Q (.ref l) (upd H l (.tup ys)))\/(SqT X.K H p ys/\Q (.ref p) H))):=by
 intro pins s σ H xs us Q I r h
 obtain⟨p,ys,rfl,h⟩:=h
 obtain⟨u,rfl,rx⟩:=ix r
 cases rx
 rcases h with⟨hq,q⟩|⟨hq,q⟩
 ·obtain⟨its,r',pl,hz⟩:=I.list hq
  have hlen:=r'.length
  refine call_tuple_list pl.isList (fun h' kp=>?_) (by simp only[List.size_toArray]<;>omega)
  have I1:Inv X pins σ H { s with heap:=h' }:=I.kept (t':=s.toks) kp
  have I2:Inv X pins σ (upd H h'.objs.size (.tup ys)) { s with heap:=h'.push { cls:=.type "tuple",data:=.seq its.toArray } }:=
   I1.laid (t':=s.toks) (fun b o e=>Heap.get?_push_of_some _ e) (Nat.le_refl _) (show C7 X.prog X.w _ _ _ (.tup ys)from ⟨hz,its,r',Dh.new _ _⟩)
  exact⟨.ref h'.objs.size,_,I2,rfl,q _ (I1.hok.fresh (Nat.le_refl _))⟩
 ·obtain⟨its,r',pl,hz⟩:=I.tuple hq
  exact call_tuple_same pl ⟨.ref p,H,I,rfl,q⟩
def AM(K:Vo)(T:String)(x:V)(H:Hp):Prop:=match x with
 | .str _=>T = "str"
 | .int _=>T = "int"
 | .ref p=>(T = "list"/\∃xs,SqL K H p xs)\/(T = "tuple"/\∃o,K.lookup p=some o/\o.cls = .type "tuple"/\o.dict=none) \/
   (T = "dict"/\((∃kvs,H p=some (.dK kvs))\/∃kvs,H p=some (.dT kvs)))\/(T = "set"/\∃S n,H p=some (.set S n))
 |_=>False
def qO{pins:Va}{σ:St}{H:Hp}{s:Shared}{T:String}{x:V}{v:Value}(I:Inv X pins σ H s)(r:RelV x v)(ty:AM X.K T x H) :
  s.TypeIs v T/\∀a,v = .ref a->∃ob,s.heap.get? a=some ob/\ob.dict=none:=by
 cases x with
 |str z=>
  obtain⟨t,rfl⟩:=r
  cases (show T = "str" from ty)
  exact⟨typeIs_str s z t,fun _ e=>nomatch e⟩
 |int i=>
  obtain⟨t,rfl⟩:=r
  cases (show T = "int" from ty)
  exact⟨typeIs_int s i t,fun _ e=>nomatch e⟩
 |ref p=>
  cases r
  rcases ty with⟨rfl,xs,hq⟩|⟨rfl,o,hk,hc,hd⟩|⟨rfl,hk⟩|⟨rfl,S,n,hk⟩
  ·obtain⟨its,_,pl,_⟩:=I.list hq
   refine⟨pl.isList.typeIs,fun a e=>?_⟩
   cases e
   obtain⟨o,n,e,c,hd,_⟩:=pl
   exact⟨o,e,hd⟩
  ·refine⟨⟨o,I.FC p o hk,hc⟩,fun a e=>?_⟩
   cases e
   exact⟨o,I.FC _ o hk,hd⟩
  ·have z:∃o,s.heap.get? p=some o/\o.ExactDict:=by
    rcases hk with⟨kvs,hk⟩|⟨kvs,hk⟩
    ·obtain⟨_,_,_,_,o,_,_,e,ex,_⟩:=I.hok p _ hk
     exact⟨o,e,ex⟩
    ·obtain⟨_,_,_,_,o,_,_,e,ex,_⟩:=I.hok p _ hk
     exact⟨o,e,ex⟩
   obtain⟨o,e,ex⟩:=z
   refine⟨⟨o,e,ex.1⟩,fun a e2=>?_⟩
   cases e2
   exact⟨o,e,ex.2.1⟩
  ·obtain⟨o,_,_,_,e,ex,_⟩:=I.hok p _ hk
   refine⟨⟨o,e,ex.1⟩,fun a e2=>?_⟩
   cases e2
   exact⟨o,e,ex.2.1⟩
 |_=>exact False.elim ty
def Bl(K:Vo)(T:String)(r:V->List V->Hp->VK->Prop)(to:TE):TE:=fun σ H Q=>to σ H fun x H1=>AM K T x H1/\r x [] H1 Q
def Ck(K:Vo)(T:String)(r:V->List V->Hp->VK->Prop)(to:TE)(t:TA):TE:=fun σ H Q=>to σ H fun x H1=>AM K T x H1/\t σ H1 fun xs H2=>r x xs H2 Q
variable {o e:Expr} {es:List Expr} {to:TE} {t:TA} {name:Str} {apos cpos:Pos} {T id:String} {r:V->List V->Hp->VK->Prop}
def wU(pa:PlainAttrs T)(slot:Slot T name id)(hty:typeOf (.builtin id)=pure (.type "method_descriptor"))(hm:Bf X id r)(ho:PE X o to)
  (hbase:attributeBase o name X.env (eval o X.env)=eval o X.env:=by rfl) (hline:(apos.endLine == cpos.line)=true:=by rfl):PE X (.Call (.Attribute o name apos) [] [] cpos) (Bl X.K T r to):=by
 intro pins s σ H Q I h
 refine wpAny_Call_method0_late hbase hline (bz (ho pins s σ H _ I h) fun v s1 ⟨x,H1,I1,r1,ty,q1⟩=>?_)
 obtain⟨h1,h2⟩:=qO I1 r1 ty
 exact⟨T,id,pa,slot,hty,h1,h2,Calls.callWith_builtin rfl (PySem.evalArgs_none (hm pins s1 σ H1 x [] v [] Q I1 r1 .nil q1))⟩
def zj(pa:PlainAttrs T)(slot:Slot T name id)(hty:typeOf (.builtin id)=pure (.type "method_descriptor"))(hm:Bf X id r)(ho:PE X o to)(ha:PA X (e::es) t)
  (hbase:attributeBase o name X.env (eval o X.env)=eval o X.env:=by rfl)
  (hfew:((backTo cpos (starEach (e::es) X.env)).all (fun x=>!x.1)&&(backToKw cpos (keywordEach [] X.env)).all (fun x=>x.1.isSome)
   && decide ((e::es).length+([]:List Keyword).length+(if ([]:List Keyword).isEmpty then 0 else 1) < 30))=true:=by rfl)
  (hline:(apos.endLine == cpos.line)=true:=by rfl) (hs:starEach (e::es) X.env=(false,eval e X.env)::starEach es X.env:=by rfl) (hplain:(backTo cpos (starEach es X.env)).any (·.1)=false:=by rfl) :
  PE X (.Call (.Attribute o name apos) (e::es) [] cpos) (Ck X.K T r to t):=by
 intro pins s σ H Q I h
 refine wpAny_Call_method_late hbase hfew hline rfl (bz (ho pins s σ H _ I h) fun v s1 ⟨x,H1,I1,r1,ty,q1⟩=>?_)
 obtain⟨h1,h2⟩:=qO I1 r1 ty
 refine⟨T,id,pa,slot,hty,h1,h2,?_⟩
 have hA:=ha cpos pins s1 σ H1 _ I1 q1
 rw[hs]at hA ⊢
 refine Calls.callWith_builtin (by show(false || (backTo cpos (starEach es X.env)).any (·.1))=false;rw[hplain]<;>rfl) (Calls.evalArgs_plain ?_)
 exact bz hA fun us s2 ⟨vs,H2,I2,r2,q2⟩=>hm pins s2 σ H2 x vs v us Q I2 r1 r2 q2
end
def AN(X:Cx)(id:String)(r:V->List V->Hp->VK->Prop):Prop:=
 ∀(pins:Va) (s:Shared) (σ:St) (H:Hp) (x:V) (xs:List V) (v:Value) (us:Vv) (Q:VK),Inv X pins σ H s->RelV x v->Vals xs us->r x xs H Q->
  wpAny (model X.prog X.w) X.A (call (.builtin id) (v::us)) (EP X pins σ Q) X.xe s
theorem Vals.one:∀{x:V} {us:Vv},Vals [x] us->∃u,us=[u]/\RelV x u
 |_,_,.cons r .nil=>⟨_,rfl,r⟩
theorem Vals.zero:∀{us:Vv},Vals [] us->us=[]
 |_,.nil=>rfl
theorem Vals.dropLast{xs:List V}{us:Vv}(h:Vals xs us):Vals xs.dropLast us.dropLast:=by
 induction h with
 |nil=>exact .nil
 |cons r t ih=>
  cases t with
  |nil=>exact .nil
  |cons q t'=>exact .cons r ih
theorem Vals.eraseIdx:∀{xs:List V} {us:Vv} (i:Nat),Vals xs us->Vals (xs.eraseIdx i) (us.eraseIdx i)
 |_,_,_,.nil=>.nil
 |_,_,0,.cons _ t=>t
 |_,_,i+1,.cons r t=>.cons r (Vals.eraseIdx i t)
theorem Vals.reverse{xs:List V}{us:Vv}(h:Vals xs us):Vals xs.reverse us.reverse:=by
 induction h with
 |nil=>exact .nil
 |cons r t ih=>rw[List.reverse_cons,List.reverse_cons];exact Vals.append ih (.cons r .nil)
theorem Vals.rep{xs:List V}{us:Vv}(h:Vals xs us):∀k:Nat,Vals (List.replicate k xs).flatten (List.replicate k us).flatten
 |0=>.nil
 |k+1=>by
  rw[List.replicate_succ,List.replicate_succ,List.flatten_cons,List.flatten_cons]
  exact Vals.append h (Vals.rep h k)
def mL{α:Type}(l:List α):l.eraseIdx (l.length - 1)=l.dropLast:=by
 induction l with
 |nil=>rfl
 |cons a r ih=>
  cases r with
  |nil=>rfl
  |cons b r=>
   have e:(a::b::r).length - 1=((b::r).length - 1)+1:=by
    have h1:(a::b::r).length=r.length+2:=rfl
    have h2:(b::r).length=r.length+1:=rfl
    omega
   rw[e,List.eraseIdx_cons_succ,ih]
   all_goals rfl
theorem jR{α:Type}:∀(l:List α) (i:Nat),(l.eraseIdx i).length<=l.length
 |[],_=>Nat.le_refl _
 |_::_,0=>Nat.le_succ _
 |_::r,i+1=>Nat.succ_le_succ (jR r i)
theorem gX(its:Vv):∀(k:Nat) (acc:Vv),
  List.foldl (fun x1 x2=>x1++x2) acc.toArray (List.replicate k its.toArray)=(acc++(List.replicate k its).flatten).toArray
 |0,acc=>by simp
 |k+1,acc=>by
  have e:acc.toArray++its.toArray=(acc++its).toArray:=by simp
  have e2:(acc++its)++(List.replicate k its).flatten=acc++(List.replicate (k+1) its).flatten:=by
   rw[List.replicate_succ,List.flatten_cons,List.append_assoc]
  rw[<-e2,<-gX its k (acc++its),<-e,List.replicate_succ,List.foldl_cons]
section
variable {X:Cx} {pins:Va} {σ:St} {H:Hp} {s:Shared} {l b:Addr} {xs ys zs:List V}
def Inv.Gi{its its':Vv}{n:Nat}{f:Array Value->Array Value}{t':Nat}(I:Inv X pins σ H s)(hH:H l=some (.lst xs))
  (e:s.heap.get? l=some { cls:=.type "list",data:=.seq its.toArray n }) (hf:f its.toArray=its'.toArray) (hv:Vals ys its') (hz:ys.length<=sizeLine) :
  Inv X pins σ (upd H l (.lst ys)) { s with heap:=s.heap.update l (Obj.mapSeq f),toks:=t' }:=by
 have q:=PySem.IsL.update e f
 rw[hf]at q
 refine I.write (x:=l) (e:=l) (by rw[hH];exact trivial) (.inl rfl) (fun b' u hb hu=>(Heap.get?_update_other s.heap (Obj.mapSeq f) (Ne.symm hb)).trans hu) ⟨_,q⟩ ?_
 exact⟨hz,its',_,hv,q⟩
def Inv.FN{its:Vv}{t':Nat}(I:Inv X pins σ H s)(hv:Vals ys its)(hz:ys.length<=sizeLine) :
  Inv X pins σ (upd H s.heap.objs.size (.lst ys)) { s with heap:=s.heap.push { cls:=.type "list",data:=.seq its.toArray },toks:=t' }:=
 I.laid (fun _ _ q=>Heap.get?_push_of_some _ q) (Nat.le_refl _) ⟨hz,its,0,hv,Heap.get?_push_size _ rfl⟩
theorem Inv.fresh(I:Inv X pins σ H s):H s.heap.objs.size=none:=I.hok.fresh (Nat.le_refl _)
def Inv.Fi(I:Inv X pins σ H s)(hH:H l=some (.lst xs)):xs.length<=sizeLine/\∃(its:Vv) (n:Nat),Vals xs its/\xs.length=its.length/\s.heap.get? l=some { cls:=.type "list",data:=.seq its.toArray n }:=by
 obtain⟨z,its,n,r,e⟩:=I.hok l _ hH
 exact⟨z,its,n,r,r.length,e⟩
def lq{n:Nat}(h:n<=sizeLine):Builtin.List.listTooLong n=false:=by
 unfold Builtin.List.listTooLong
 exact decide_eq_false (by omega)
end
section
variable {X:Cx}
noncomputable def ul:V->List V->Hp->VK->Prop:=fun x vs H Q=>∃l xs y,x = .ref l/\vs=[y]/\H l=some (.lst xs)/\xs.length < sizeLine/\Q .non (upd H l (.lst (xs++[y])))
def ph:AN X "list.append" ul:=by
 intro pins s σ H x vs v us Q I rx rv h
 obtain⟨l,xs,y,rfl,rfl,hH,hz,q⟩:=h
 cases rx
 obtain⟨u,rfl,ru⟩:=rv.one
 obtain⟨z,its,n,r,hl,e⟩:=I.Fi hH
 refine call_meets F.slot_list_append ⟨_,e,rfl⟩ F.entry_list_append (F.args_list_append_2 _ _) (PySem.list_append l its.toArray n u (by rw[List.size_toArray];omega)) ⟨e,?_⟩
 refine⟨.non,_,I.Gi (its':=its++[u]) hH e (by simp) (r.append (.cons ru .nil)) ?_,rfl,q⟩
 rw[List.length_append,List.length_singleton]
 omega
noncomputable def um:V->List V->Hp->VK->Prop:=fun x vs H Q=>∃l b xs zs,x = .ref l/\vs=[.ref b]/\H l=some (.lst xs)/\H b=some (.lst zs)/\xs.length+zs.length<=sizeLine/\Q .non (upd H l (.lst (xs++zs)))
def pj:AN X "list.extend" um:=by
 intro pins s σ H x vs v us Q I rx rv h
 obtain⟨l,b,xs,zs,rfl,rfl,hH,hB,hz,q⟩:=h
 cases rx
 obtain⟨u,rfl,ru⟩:=rv.one
 cases ru
 obtain⟨z,its,n,r,hl,e⟩:=I.Fi hH
 obtain⟨z2,its2,n2,r2,hl2,e2⟩:=I.Fi hB
 have hsz:its.toArray.size+its2.toArray.size<=sizeLine:=by rw[List.size_toArray,List.size_toArray];omega
 have F1:¬(!its.toArray.isEmpty&&Builtin.List.listTooLong (its.toArray.size+its2.toArray.size))=true:=by
  rw[lq hsz,Bool.and_false]
  exact Bool.false_ne_true
 refine call_meets F.slot_list_extend ⟨_,e,rfl⟩ F.entry_list_extend (F.args_list_extend_2 _ _)
  (AutoSeq1.list_extend_list_list_0 l its.toArray n b its2.toArray n2 F1 (by rw[List.size_toArray];omega) (by omega)) ⟨e,e2,?_⟩
 refine⟨.non,_,I.Gi (its':=its++its2) hH e (by simp) (r.append r2) ?_,rfl,q⟩
 rw[List.length_append]
 omega
noncomputable def Bm:V->List V->Hp->VK->Prop:=fun x vs H Q=>∃l xs y,x = .ref l/\vs=[]/\H l=some (.lst xs)/\xs[xs.length - 1]?=some y/\Q y (upd H l (.lst xs.dropLast))
def wV:AN X "list.pop" Bm:=by
 intro pins s σ H x vs v us Q I rx rv h
 obtain⟨l,xs,y,rfl,rfl,hH,hy,q⟩:=h
 cases rx
 have KA:=rv.zero
 subst KA
 obtain⟨z,its,n,r,hl,e⟩:=I.Fi hH
 obtain⟨u,hu,ru⟩:=r.get hy
 have hy':its.toArray[its.toArray.size - 1]?=some u:=by
  show its.toArray[its.length - 1]?=some u
  rw[<-Array.getElem?_toList,<-hl]
  exact hu
 refine call_meets F.slot_list_pop ⟨_,e,rfl⟩ F.entry_list_pop (F.args_list_pop_1 _) (MeetsSeq.list_pop_last l its.toArray n u hy' (by rw[List.size_toArray];omega)) ⟨e,?_⟩
 refine⟨y,_,I.Gi (its':=its.dropLast) hH e ?_ r.dropLast ?_,ru,q⟩
 ·show its.toArray.eraseIdxIfInBounds (its.toArray.size - 1)=its.dropLast.toArray
  rw[List.size_toArray,List.eraseIdxIfInBounds_toArray,mL]
 ·rw[List.length_dropLast]
  omega
noncomputable def wW:V->List V->Hp->VK->Prop:=fun x vs H Q=>∃l xs i k y,x = .ref l/\vs=[.int i]/\H l=some (.lst xs)/\-(2 ^ 63)<=i/\i < 2 ^ 63/\seqIndex? i xs.length=some k/\xs[k]?=some y/\Q y (upd H l (.lst (xs.eraseIdx k)))
def qP:AN X "list.pop" wW:=by
 intro pins s σ H x vs v us Q I rx rv h
 obtain⟨l,xs,i,k,y,rfl,rfl,hH,h1,h2,hk,hy,q⟩:=h
 cases rx
 obtain⟨u,rfl,ru⟩:=rv.one
 obtain⟨t,rfl⟩:=ru
 obtain⟨z,its,n,r,hl,e⟩:=I.Fi hH
 obtain⟨w,hw,rw'⟩:=r.get hy
 refine call_meets F.slot_list_pop ⟨_,e,rfl⟩ F.entry_list_pop (F.args_list_pop_2 _ _)
  (MeetsSeq.list_pop_at l its.toArray n i t k w (fitsIndex_both h1 h2) (by rw[List.size_toArray,<-hl];exact hk) (by rw[<-Array.getElem?_toList];exact hw) (by rw[List.size_toArray];omega)) ⟨e,?_⟩
 refine⟨y,_,I.Gi (its':=its.eraseIdx k) hH e ?_ (r.eraseIdx k) ?_,rw',q⟩
 ·show its.toArray.eraseIdxIfInBounds k=(its.eraseIdx k).toArray
  rw[List.eraseIdxIfInBounds_toArray]
 ·have:=jR xs k
  omega
def Bn:R2:=fun x y H Q=>∃l b xs zs,x = .ref l/\y = .ref b/\H l=some (.lst xs)/\H b=some (.lst zs)/\xs.length+zs.length<=sizeLine/\∀p,H p=none->Q (.ref p) (upd H p (.lst (xs++zs)))
def wX:fz X (binaryOp .Add) Bn:=by
 intro pins s σ H x y v u Q I rx ry h
 obtain⟨l,b,xs,zs,rfl,rfl,hH,hB,hz,q⟩:=h
 cases rx
 cases ry
 obtain⟨z,its,n,r,hl,e⟩:=I.Fi hH
 obtain⟨z2,its2,n2,r2,hl2,e2⟩:=I.Fi hB
 refine PySem.P.add_list e e2 ?_ (by rw[List.size_toArray,List.size_toArray];omega)
 have ea:its.toArray++its2.toArray=(its++its2).toArray:=by simp
 rw[ea]
 exact⟨.ref _,_,I.FN (t':=s.toks) (r.append r2) (by rw[List.length_append];omega),rfl,q _ I.fresh⟩
def Bo:R2:=fun x y H Q=>∃l k xs,x = .ref l/\y = .int k/\H l=some (.lst xs)/\-(2 ^ 63)<=k/\k < 2 ^ 63/\xs.length * k.toNat<=sizeLine/\
 ∀p,H p=none->Q (.ref p) (upd H p (.lst (List.replicate k.toNat xs).flatten))
def uo{α:Type}(xs:List α)(k:Nat):(List.replicate k xs).flatten.length=k * xs.length:=by
 induction k with
 |zero=>simp
 |succ k ih=>rw[List.replicate_succ,List.flatten_cons,List.length_append,ih,Nat.succ_mul,Nat.add_comm]
def wY:fz X (binaryOp .Mult) Bo:=by
 intro pins s σ H x y v u Q I rx ry h
 obtain⟨l,k,xs,rfl,rfl,hH,h1,h2,hz,q⟩:=h
 cases rx
 obtain⟨t,rfl⟩:=ry
 obtain⟨z,its,n,r,hl,e⟩:=I.Fi hH
 have hlen:its.toArray.size * k.toNat<=sizeLine:=by rw[List.size_toArray,<-hl];exact hz
 have hcap:¬its.toArray.size * k.toNat > (2 ^ 63 - 1) / 8:=by
  have:(sizeLine:Nat)<=(2 ^ 63 - 1) / 8:=by decide
  omega
 have hfit:¬(!Builtin.List.listFitsIndex k)=true:=by
  rw[fitsIndex_both h1 h2]
  exact Bool.false_ne_true
 have F1:¬Builtin.List.listTooLong (its.toArray.size * k.toNat)=true:=by
  rw[lq hlen]
  exact Bool.false_ne_true
 have hnew:List.foldl (fun x1 x2=>x1++x2) #[] (List.replicate (if its.toArray.isEmpty=true then 0 else k.toNat) its.toArray)=(List.replicate k.toNat its).flatten.toArray:=by
  have f0:∀m:Nat,List.foldl (fun x1 x2=>x1++x2) #[] (List.replicate m its.toArray)=(List.replicate m its).flatten.toArray:=fun m=>by
   have:=gX its m []
   rw[List.nil_append]at this
   exact this
  rw[f0]
  cases its with
  |nil=>simp
  |cons a r'=>rw[if_neg (by simp)]
 refine wpAny_binaryOp_repeat_ref (T:="list") (U:="int") (by decide) ⟨_,e,rfl⟩ (fun s'=>typeIs_int s' k t) noFill_list_mul F.fills_int_mul F.slot_int_rmul repeat_list F.slot_int_index.lookup
  (call_meets F.slot_int_rmul (typeIs_int s k t) F.entry_int_rmul (F.args_int_rmul_2 _ _) (int___rmul___int_list k t l its.toArray n)
   ⟨e,rfl,⟨_,e,rfl⟩,call_meets F.slot_list_mul ⟨_,e,rfl⟩ F.entry_list_mul (F.args_list_mul_2 _ _) (AutoListH.list___mul___list_int_3 l its.toArray n k t hfit hcap F1) ⟨e,?_⟩⟩)
 rw[hnew]
 exact⟨.ref _,_,I.FN (t':=s.toks) (r.rep k.toNat) (by rw[uo,Nat.mul_comm];exact hz),rfl,q _ I.fresh⟩
end
section
variable {κ:Type} [DecidableEq κ]
noncomputable def gY(kvs:List (κ×V))(k:κ):Option V:=(kvs.find? fun kv=>decide (kv.1=k)).map (·.2)
noncomputable def eR(kvs:List (κ×V))(k:κ)(v:V):List (κ×V):=
 if (kvs.any fun kv=>decide (kv.1=k))=true then kvs.map (fun kv=>if kv.1=k then (kv.1,v) else kv) else kvs++[(k,v)]
def DO{p:κ×V}{r:List (κ×V)}{k:κ}(e:p.1=k):gY (p::r) k=some p.2:=by simp[gY,List.find?_cons,e]
def DP{p:κ×V}{r:List (κ×V)}{k:κ}(e:¬p.1=k):gY (p::r) k=gY r k:=by simp[gY,List.find?_cons,e]
theorem i6(k:κ):∀kvs:List (κ×V),(kvs.any fun kv=>decide (kv.1=k))=(gY kvs k).isSome
 |[]=>rfl
 |p::r=>by
  rw[List.any_cons]
  by_cases e:p.1=k
  ·simp only[DO e,decide_eq_true e,Bool.true_or,Option.isSome_some]
  ·rw[DP e,decide_eq_false e,Bool.false_or];exact i6 k r
def eU(kvs:List (κ×V))(k:κ)(v:V):(eR kvs k v).length<=kvs.length+1:=by
 unfold eR
 split
 ·rw[List.length_map];omega
 ·rw[List.length_append,List.length_cons,List.length_nil];omega
def DK.FO{o:Option V}{u:Option Value}(r:DK o u):o.isSome=u.isSome:=by
 cases o with
 |none=>cases u with
  |none=>rfl
  |some _=>exact(show False from r).elim
 |some _=>cases u with
  |none=>exact(show False from r).elim
  |some _=>rfl
def KV.val{kvs:List (κ×V)}{vs:List (κ×Value)}(r:KV kvs vs)(k:κ):DK (gY kvs k) (valueAt vs k):=by
 unfold KV at r
 induction r with
 |nil=>exact True.intro
 |@cons p q ps qs h t ih=>
  obtain⟨h1,h2⟩:=h
  by_cases e:p.1=k
  ·have e':q.1=k:=h1.symm.trans e
   have b:valueAt (q::qs) k=some q.2:=by simp[valueAt,List.find?_cons,e']
   rw[DO e,b];exact h2
  ·have e':¬q.1=k:=fun z=>e (h1.trans z)
   have b:valueAt (q::qs) k=valueAt qs k:=by simp[valueAt,List.find?_cons,e']
   rw[DP e,b];exact ih
theorem KV.any{kvs:List (κ×V)}{vs:List (κ×Value)}(r:KV kvs vs)(k:κ):(kvs.any fun kv=>decide (kv.1=k))=vs.any fun kv=>decide (kv.1=k):=by
 unfold KV at r
 induction r with
 |nil=>rfl
 |cons h t ih=>rw[List.any_cons,List.any_cons,ih,h.1]
def KV.repl{kvs:List (κ×V)}{vs:List (κ×Value)}(r:KV kvs vs)(k:κ){y:V}{u:Value}(ry:RelV y u) :
  KV (kvs.map fun kv=>if kv.1=k then (kv.1,y) else kv) (vs.map fun kv=>if kv.1=k then (kv.1,u) else kv):=by
 unfold KV at r ⊢
 induction r with
 |nil=>exact .nil
 |@cons p q ps qs h t ih=>
  rw[List.map_cons,List.map_cons]
  refine .cons ?_ ih
  obtain⟨h1,h2⟩:=h
  by_cases e:p.1=k
  ·rw[if_pos e,if_pos (h1.symm.trans e)];exact⟨h1,ry⟩
  ·rw[if_neg e,if_neg (fun z=>e (h1.trans z))];exact⟨h1,h2⟩
def KV.put{kvs:List (κ×V)}{vs:List (κ×Value)}(r:KV kvs vs)(k:κ){y:V}{u:Value}(ry:RelV y u):KV (eR kvs k y) (stored vs k u):=by
 unfold eR stored
 rw[r.any k]
 by_cases e:(vs.any fun kv=>decide (kv.1=k))=true
 ·rw[if_pos e,if_pos e];exact r.repl k ry
 ·rw[if_neg e,if_neg e];exact Paired.snoc r ⟨rfl,ry⟩
theorem KV.length{kvs:List (κ×V)}{vs:List (κ×Value)}(r:KV kvs vs):kvs.length=vs.length:=Paired.length r
end
def n_{P:Program}{w:World}{k:bR}{u:Value}(r:RelV (kV k) u):(br P w).is k u=true:=by
 cases k with
 |inl i=>obtain⟨t,e⟩:=(show ∃t,u=Value.int i t from r);subst e;exact ld P w i t
 |inr x=>obtain⟨t,e⟩:=(show ∃t,u=Value.str x t from r);subst e;exact lg P w x t
theorem jS{P:Program}{w:World}:∀{ks:List bR} {us:Vv},Vals (ks.map kV) us->ItemsAre (br P w) ks us
 |[],_,r=>by rw[List.map_nil]at r;cases r;exact .nil
 |k::ks,_,r=>by
  rw[List.map_cons]at r
  cases r with
  |cons h t=>exact .cons (n_ h) (jS t)
noncomputable abbrev KT(H:Hp):List (List bR×V)->List (List bR×Addr×Value)->Prop:=Paired fun p q=>p.1=q.1/\H q.2.1=some (.tup (p.1.map kV))/\RelV p.2 q.2.2
def KT.val{H:Hp}{kvs:List (List bR×V)}{xs:List (List bR×Addr×Value)}(r:KT H kvs xs)(k:List bR):DK (gY kvs k) ((atKey xs k).map (·.2)):=by
 induction r with
 |nil=>exact True.intro
 |@cons p q ps qs h t ih=>
  obtain⟨h1,_,h2⟩:=h
  by_cases e:p.1=k
  ·have e':q.1=k:=h1.symm.trans e
   have b:atKey (q::qs) k=some q.2:=by simp[atKey,List.find?_cons,e']
   rw[DO e,b];exact h2
  ·have e':¬q.1=k:=fun z=>e (h1.trans z)
   have b:atKey (q::qs) k=atKey qs k:=by simp[atKey,List.find?_cons,e']
   rw[DP e,b];exact ih
def KT.repl{H:Hp}{kvs:List (List bR×V)}{xs:List (List bR×Addr×Value)}(r:KT H kvs xs)(k:List bR){y:V}{u:Value}(ry:RelV y u) :
  KT H (kvs.map fun kv=>if kv.1=k then (kv.1,y) else kv) (xs.map (putAt k u)):=by
 induction r with
 |nil=>exact .nil
 |@cons p q ps qs h t ih=>
  rw[List.map_cons,List.map_cons]
  refine .cons ?_ ih
  obtain⟨h1,h2,h3⟩:=h
  unfold putAt
  by_cases e:p.1=k
  ·rw[if_pos e,if_pos (h1.symm.trans e)];exact⟨h1,h2,ry⟩
  ·rw[if_neg e,if_neg (fun z=>e (h1.trans z))];exact⟨h1,h2,h3⟩
def KT.put{H:Hp}{kvs:List (List bR×V)}{xs:List (List bR×Addr×Value)}(r:KT H kvs xs)(k:List bR){b:Addr}{y:V}{u:Value}(hb:H b=some (.tup (k.map kV)))(ry:RelV y u) :
  KT H (eR kvs k y) (storedH xs k b u):=by
 have e:(kvs.any fun kv=>decide (kv.1=k))=(atKey xs k).isSome:=by
  rw[i6,(r.val k).FO,Option.isSome_map]
 unfold eR storedH
 rw[e]
 by_cases q:(atKey xs k).isSome=true
 ·rw[if_pos q,if_pos q];exact r.repl k ry
 ·rw[if_neg q,if_neg q];exact Paired.snoc r ⟨rfl,hb,ry⟩
def KT.keeps{H H':Hp}{kvs:List (List bR×V)}{xs:List (List bR×Addr×Value)}(r:KT H kvs xs)(ht:∀b ys,H b=some (.tup ys)->H' b=some (.tup ys)):KT H' kvs xs:=
 Paired.GT r fun _ _ z=>⟨z.1,ht _ _ z.2.1,z.2.2⟩
section
variable {P:Program} {w:World} {H:Hp} {h:Heap} {a:Addr}
def vt{u:HO}(ok:Ea P w H h)(e:Rd H a u):C7 P w H h a u:=e.ok ok
def og{kvs:List (bR×V)}(ok:Ea P w H h)(e:Rd H a (.dK kvs)):kvs.length<=sizeLine/\(a == sysModules)=false/\∃vs,KV kvs vs/\h.DictOf (br P w) a vs:=
 show C7 P w H h a (.dK kvs)from vt ok e
def vv{kvs:List (bR×V)}(ok:Ea P w H h)(e:H a=some (.dK kvs)):kvs.length<=sizeLine/\(a == sysModules)=false/\∃vs,KV kvs vs/\h.DictOf (br P w) a vs:=og ok (.inl e)
def fP{ks:List bR}(ok:Ea P w H h)(e:H a=some (.tup (ks.map kV))):(tupleKind (br P w)).is h ks a:=by
 obtain⟨_,its,r,o,h1,_,h2,n,h3⟩:=(show C7 P w H h a (.tup (ks.map kV))from ok a _ e)
 exact⟨o,its.toArray,n,h1,h2,h3,by simpa using jS r⟩
def qQ{kvs:List (List bR×V)}(ok:Ea P w H h)(e:Rd H a (.dT kvs)):kvs.length<=sizeLine/\(a == sysModules)=false/\
  ∃xs,KT H kvs xs/\h.DictOfH (tupleKind (br P w)) a xs:=by
 obtain⟨z,y,xs,r,o,es,ep,h1,h2,h3,h4,h5⟩:=(show C7 P w H h a (.dT kvs)from vt ok e)
 refine⟨z,y,xs,r,o,es,ep,h1,h2,h3,h4,fun x hx=>?_,h5⟩
 have all:∀{l:List (List bR×V)} {m:List (List bR×Addr×Value)},KT H l m->∀x∈m,(tupleKind (br P w)).is h x.1 x.2.1:=by
  intro l m q
  induction q with
  |nil=>intro x hx;exact nomatch hx
  |@cons p q ps qs hq t ih=>
   intro x hx
   rcases List.mem_cons.mp hx with e|hx
   ·subst e
    exact fP ok (by rw[<-hq.1];exact hq.2.1)
   ·exact ih x hx
 exact all r x hx
def zk{kvs:List (List bR×V)}(ok:Ea P w H h)(e:H a=some (.dT kvs)):kvs.length<=sizeLine/\(a == sysModules)=false/\
  ∃xs,KT H kvs xs/\h.DictOfH (tupleKind (br P w)) a xs:=qQ ok (.inl e)
end
def DGet(H:Hp)(a:Addr)(y:V)(r:Option V):Prop:=
 (∃kvs k,Rd H a (.dK kvs)/\y=kV k/\r=gY kvs k)\/∃kvs k b,Rd H a (.dT kvs)/\y = .ref b/\H b=some (.tup (k.map kV))/\r=gY kvs k
def F2(H:Hp)(a:Addr)(y v:V)(H':Hp):Prop:=
 (∃kvs k,H a=some (.dK kvs)/\y=kV k/\kvs.length < sizeLine/\H'=upd H a (.dK (eR kvs k v))) \/
 ∃kvs k b,H a=some (.dT kvs)/\y = .ref b/\H b=some (.tup (k.map kV))/\kvs.length < sizeLine/\H'=upd H a (.dT (eR kvs k v))
theorem DGet.k{H:Hp}{a:Addr}{kvs:List (bR×V)}{k:bR}(e:H a=some (.dK kvs)):DGet H a (kV k) (gY kvs k):=.inl ⟨kvs,k,.inl e,rfl,rfl⟩
theorem F2.k{H:Hp}{a:Addr}{kvs:List (bR×V)}{k:bR}{v:V}(e:H a=some (.dK kvs))(hl:kvs.length < sizeLine):F2 H a (kV k) v (upd H a (.dK (eR kvs k v))):=.inl ⟨kvs,k,e,rfl,hl,rfl⟩
section
variable {X:Cx} {pins:Va} {σ:St} {H:Hp} {s:Shared} {a:Addr} {y v:V} {u r:Value} {o:Option V} {A:Around} {E:Vq}
def Inv.big(I:Inv X pins σ H s):sysModules < s.heap.objs.size:=by
 have h:mainGlobals < s.heap.objs.size:=(I.mod.glob.keeps I.bk).lt
 exact Nat.lt_trans (by decide) h
def pk{Q:Vq}(hu:A.units+1 < cLine)(I:Inv X pins σ H s)(g:DGet H a y (some v))(ry:RelV y u)(h:∀w' s',Inv X pins σ H s'->RelV v w'->Q w' s') :
  wpAny (model X.prog X.w) A (getItem (.ref a) u) Q E s:=by
 rcases g with⟨kvs,k,e,ey,l⟩|⟨kvs,k,b,e,ey,eb,l⟩
 ·subst ey
  obtain⟨z,hd,vs,rel,dd⟩:=og I.hok e
  obtain⟨w',hw,rw'⟩:=DK.some_of (v:=v) (o:=valueAt vs k) (by rw[l];exact rel.val k)
  exact wpAny_getItem_of (n_ ry) dd.mapOf hw (h w' _ (I.tok _) rw')
 ·subst ey
  cases (show u=Value.ref b from ry)
  obtain⟨z,hd,xs,rel,dd⟩:=qQ I.hok e
  obtain⟨w',hw,rw'⟩:=DK.some_of (v:=v) (o:=(atKey xs k).map (·.2)) (by rw[l];exact rel.val k)
  obtain⟨p,hp,hp2⟩:=Option.map_eq_some_iff.mp hw
  refine wpAny_getItem_heap (tupleKind_room_in1 hu) (fP I.hok eb) dd hp ?_
  rw[hp2]
  exact h w' _ (I.tok _) rw'
def kq{h':Heap}{t':Nat}{ob:HO}(I:Inv X pins σ H s)(mu:yQ (H a))(hs:Heap.SameBut a s.heap h')(he:∃q,h'.get? a=some q)(new:C7 X.prog X.w (upd H a ob) h' a ob) :
  Inv X pins σ (upd H a ob) { s with heap:=h',toks:=t' }:=
 I.write (x:=a) (e:=a) mu (.inl rfl) (fun b q hb z=>(hs.2 b hb).trans z) he new
def qR{P:Program}{w:World}{H':Hp}{h':Heap}{kvs:List (bR×V)}{vs:List (bR×Value)}(z:kvs.length<=sizeLine)(hd:(a == sysModules)=false)(rel:KV kvs vs)(dd:h'.DictOf (br P w) a vs) :
  C7 P w H' h' a (.dK kvs):=⟨z,hd,vs,rel,dd⟩
def pq{H':Hp}{Q:Unit->Shared->Prop}(hu:A.units+1 < cLine)(I:Inv X pins σ H s)(g:F2 H a y v H')(ry:RelV y u)(rv:RelV v r)(h:∀s',Inv X pins σ H' s'->Q () s') :
  wpAny (model X.prog X.w) A (setItem (.ref a) u r) Q E s:=by
 rcases g with⟨kvs,k,e,ey,l,eH⟩|⟨kvs,k,b,e,ey,eb,l,eH⟩
 ·subst ey eH
  obtain⟨z,hd,vs,rel,dd⟩:=vv I.hok e
  have hz:vs.length<=sizeLine:=by rw[<-rel.length];exact z
  have hl:(eR kvs k v).length<=sizeLine:=by have:=eU kvs k v;omega
  refine wpAny_setItem_pairs (hsz:=hz) (n_ ry) dd fun h' GZ hs=>h _ ?_
  have he:∃q,h'.get? a=some q:=let ⟨q,_,_,hq,_⟩:=GZ;⟨q,hq⟩
  exact kq I (by rw[e];exact True.intro) hs he (qR hl hd (rel.put k rv) GZ)
 ·subst ey eH
  cases (show u=Value.ref b from ry)
  obtain⟨z,hd,xs,rel,dd⟩:=zk I.hok e
  have hz:xs.length<=sizeLine:=by rw[<-Paired.length rel];exact z
  have hl:(eR kvs k v).length<=sizeLine:=by have:=eU kvs k v;omega
  refine wpAny_setItem_heap (hsz:=hz) (tupleKind_room_in1 hu) (fP I.hok eb) dd fun h' GZ hs=>h _ ?_
  obtain⟨q,es,ep,hq,h2,h3,h4,_,h5⟩:=GZ
  refine kq I (by rw[e];exact True.intro) hs ⟨q,hq⟩ ⟨hl,hd,_,(rel.put k eb rv).keeps fun c ys ec=>?_,q,es,ep,hq,h2,h3,h4,h5⟩
  rw[ay (yP ec e (fun z=>nomatch z))]
  exact ec
end
section
variable {X:Cx} {pins:Va} {σ:St} {H:Hp} {s:Shared} {a:Addr} {kvs:List (bR×V)} {k:bR} {u:Value} {A:Around} {E:Vq}
def zm{Q:Vq}(I:Inv X pins σ H s)(e:Rd H a (.dK kvs))(h:∀t s',Inv X pins σ H s'->Q (.int kvs.length t) s'):wpAny (model X.prog X.w) A (call (.builtin "len") [.ref a]) Q E s:=by
 obtain⟨z,hd,vs,rel,dd⟩:=og I.hok e
 refine call_len_dict hd dd (by rw[<-rel.length];rw[sizeLine_eq]at z;omega) ?_
 rw[<-rel.length]
 exact h _ _ (I.tok _)
end
def lu{X:Cx}{pins:Va}{σ:St}{H:Hp}{s:Shared}{a:Addr}{y:V}{o:Option V}(I:Inv X pins σ H s)(g:DGet H a y o):s.TypeIs (.ref a) "dict":=by
 rcases g with⟨kvs,k,e,_,_⟩|⟨kvs,k,b,e,_,_,_⟩
 ·obtain⟨_,_,vs,_,dd⟩:=og I.hok e
  exact dd.typeIs
 ·obtain⟨_,_,xs,_,dd⟩:=qQ I.hok e
  exact dd.typeIs
def qS{P:Program}{w:World}{H:Hp}(h:Heap)(hb:sysModules < h.objs.size):C7 P w H (h.push { cls:=.type "dict",data:=.dict #[] }) h.objs.size (.dK []):=
 ⟨Nat.zero_le _,beq_eq_false_iff_ne.mpr (Ne.symm (Nat.ne_of_lt hb)),[],.nil,Heap.DictOf.new h⟩
noncomputable def kr:List (TE×TE)->St->Hp->(List (V×V)->Hp->Prop)->Prop
 |[],_,H,Q=>Q [] H
 |(tk,tv)::r,σ,H,Q=>tk σ H fun x H1=>tv σ H1 fun y H2=>kr r σ H2 fun ps H3=>Q ((x,y)::ps) H3
noncomputable abbrev VV:List (V×V)->List (Value×Value)->Prop:=Paired fun p q=>RelV p.1 q.1/\RelV p.2 q.2
def zn(X:Cx)(pos:Pos)(keys:List (Option Expr))(values:List Expr)(ED:List (TE×TE)):Prop:=
 ∀(pins:Va) (s:Shared) (σ:St) (H:Hp) (Q:List (V×V)->Hp->Prop),Inv X pins σ H s->kr ED σ H Q->
  wpAny (model X.prog X.w) X.A (evalPairs (pairTrees keys values X.env pos)) (fun vs s'=>∃ps H',Inv X pins σ H' s'/\VV ps vs/\Q ps H') X.xe s
def uq{X:Cx}{pos:Pos}:zn X pos [] [] []:=fun pins s σ H Q I h=>pairTrees_nil_walk ⟨[],H,I,.nil,h⟩
def qT{X:Cx}{pos:Pos}{k v:Expr}{ks:List (Option Expr)}{vs:List Expr}{tk tv:TE}{ED:List (TE×TE)}(hk:PE X k tk)(hv:PE X v tv)(hr:zn X pos ks vs ED) :
  zn X pos (some k::ks) (v::vs) ((tk,tv)::ED):=fun pins s σ H Q I h=>
 pairTrees_cons_walk (bz (hk pins s σ H _ I h) fun u s1 ⟨x,H1,I1,rx,q1⟩=>bz (hv pins s1 σ H1 _ I1 q1) fun w2 s2 ⟨y,H2,I2,ry,q2⟩=>
  bz (hr pins s2 σ H2 _ I2 q2) fun ws s3 ⟨ps,H3,I3,rel,q3⟩=>⟨(x,y)::ps,H3,I3,.cons ⟨rx,ry⟩ rel,q3⟩)
noncomputable def gZ(kvs more:List (bR×V)):List (bR×V):=more.foldl (fun acc kv=>eR acc kv.1 kv.2) kvs
def KV.merge:∀{more:List (bR×V)} {rs:List (bR×Value)} {kvs:List (bR×V)} {vs:List (bR×Value)},KV more rs->KV kvs vs->KV (gZ kvs more) (merged vs rs):=by
 intro more rs kvs vs r
 unfold KV at r
 induction r generalizing kvs vs with
 |nil=>intro q;exact q
 |@cons p q ps qs h t ih=>
  intro r0
  have e:KV (eR kvs p.1 p.2) (stored vs q.1 q.2):=by
   have:=r0.put p.1 h.2
   rw[<-h.1];exact this
  exact ih e
theorem fH:∀(more kvs:List (bR×V)),(gZ kvs more).length<=kvs.length+more.length
 |[],kvs=>by show kvs.length<=kvs.length+0;omega
 |p::r,kvs=>by
  have h1:=fH r (eR kvs p.1 p.2)
  have h2:=eU kvs p.1 p.2
  show(gZ (eR kvs p.1 p.2) r).length<=_
  rw[List.length_cons];omega
theorem i7{P:Program}{w:World}:∀{kvs:List (bR×V)} {ws:List (Value×Value)},VV (kvs.map fun kv=>(kV kv.1,kv.2)) ws->∃rs,Carries (br P w) ws rs/\KV kvs rs
 |[],_,r=>by rw[List.map_nil]at r;cases r;exact⟨[],True.intro,.nil⟩
 |p::kvs,_,r=>by
  rw[List.map_cons]at r
  cases r with
  |@cons a b as bs h t=>
   obtain⟨rs,c,q⟩:=i7 (P:=P) (w:=w) t
   obtain⟨b1,b2⟩:=b
   exact⟨(p.1,b2)::rs,⟨n_ h.1,rfl,c⟩,.cons ⟨rfl,h.2⟩ q⟩
def zo(ED:List (TE×TE)):TE:=fun σ H Q=>∀p,H p=none->kr ED σ (upd H p (.dK [])) fun ps H2=>H2 p=some (.dK [])/\∃kvs:List (bR×V),ps=kvs.map (fun kv=>(kV kv.1,kv.2))/\kvs.length<=15/\Q (.ref p) (upd H2 p (.dK (gZ [] kvs)))
def ur{X:Cx}{pos:Pos}{keys:List (Option Expr)}{values:List Expr}{ED:List (TE×TE)}(h:zn X pos keys values ED)(hall:keys.all (·.isSome)=true)(hl:keys.length=values.length)(h0:keys≠[])
  (IY:keys.length<=15):PE X (.Dict keys values pos) (zo ED):=by
 intro pins s σ H Q I q
 have hn:=I.hok.fresh (Nat.le_refl s.heap.objs.size)
 have I1:=I.laid (a:=s.heap.objs.size) (o:=.dK []) (h':=s.heap.push { cls:=.type "dict",data:=.dict #[] }) (t':=s.toks) (fun _ _ q=>Heap.get?_push_of_some _ q) (Nat.le_refl _) (qS s.heap I.big)
 refine wpAny_Dict_walk (knd:=br X.prog X.w) hall hl h0 IY (bz (h pins _ σ _ _ I1 (q _ hn)) fun ws s2 ⟨ps,H2,I2,rel,e,kvs,ep,lk,q2⟩=>?_)
 subst ep
 obtain⟨rs,c,rk⟩:=i7 (P:=X.prog) (w:=X.w) rel
 obtain⟨z,hd,vs0,r0,dd⟩:=vv I2.hok e
 cases r0
 refine⟨rs,c,dd,fun h' GZ hs=>⟨.ref s.heap.objs.size,_,?_,rfl,q2⟩⟩
 have hz:(gZ [] kvs).length<=sizeLine:=by
  have h1:=fH kvs []
  rw[List.length_nil]at h1
  rw[sizeLine_eq];omega
 have he:∃q,h'.get? s.heap.objs.size=some q:=let ⟨q,_,_,hq,_⟩:=GZ;⟨q,hq⟩
 exact kq I2 (by rw[e];exact True.intro) hs he (qR hz hd (rk.merge .nil) GZ)
end L2
namespace Att
open PySem PySem.W PySem.Calls PyProof.Rows
def iJ{P:Params}{h:Heap}:∀(ns:Vu) (vs:Vv),WellAll P h vs (ns.map WData.int)->IntsAre vs ns:=by
 intro ns
 induction ns with
 |nil=>
  intro vs w
  rw[List.map_nil]at w
  cases w
  exact .nil
 |cons n ns ih=>
  intro vs w
  rw[List.map_cons]at w
  cases w with
  |cons a b=>
   cases a
   exact .cons _ _ (ih _ b)
def pA{l:OpenLaw}{n:Nat}(hn:l.most=some n){P:Params}{h:Heap}{args:List WData}{vals:Vv}
  (hpre:l.row.toRowW.claim.pre args=true) (hwl:WellAll P h vals args) :
  ∃a vs ns,vals=[Value.ref a]/\args=[WData.list (ns.map WData.int)]/\h.get? a=some { cls:=.type "list",data:=.seq vs.toArray }/\IntsAre vs ns/\ns.length<=n:=by
 have hsh:WShape.hasAll [] args [.list .int]=true:=(pre_splitW hpre).1
 have hc:l.pre.holds [] { args:=args }=true:=(pre_splitW hpre).2
 obtain⟨d,r,rfl,h1,h2⟩:=hasAllW_cons hsh
 obtain rfl:=hasAllW_nil h2
 obtain⟨xs,rfl,h3⟩:=hasW_list h1
 obtain⟨ns,rfl⟩:=items_int h3
 have hlen:ns.length<=n:=by
  unfold OpenLaw.pre at hc
  have h4:(WTm.not (.lt (.lit (.int (n:Int))) (.len (.arg 0)))).holds [] { args:=[.list (ns.map .int)] }=true:=by
   have h4:=(holds_andW hc).1
   rw[hn]at h4
   exact h4
  have h5:=condW_of h4 (w_not (w_lt w_lit (w_len_list (w_arg rfl))))
  rw[List.length_map]at h5
  refine Nat.le_of_not_lt fun q=>?_
  have q':(n:Int) < ((ns.length:Nat):Int):=by omega
  first
   |(rw[decide_eq_true q']at h5;exact absurd h5 (by decide))
   |(simp at h5;omega)
 cases hwl with
 |cons w1 w2=>
  cases w2
  cases w1 with
  |list ho hall=>exact⟨_,_,ns,rfl,rfl,ho,iJ ns _ hall,hlen⟩
def pB(l:OpenLaw)(args:List WData):l.row.toRowW.claim.post args (.bool true) args=true:=
 postW_of (r:=l.row.toRowW) (X:=(true == true))
  (show WShape.has [] (.bool true) .bool=true by first|rfl|decide|simp[WShape.has,WShape.arms,WShape.armsAll])
  (show(WTm.eq .res (.lit (.bool true))).value [] { args:=args,res:=some (.bool true),after:=args }=some (.bool (true == true))from w_eq_bool (w_res rfl) w_lit) rfl
def lx{l:OpenLaw}{n:Nat}{q:Program}{loose:Vs}{XP:(Vr)->Heap->Prop}{YP:World->Heap->Prop}{d:DefRec}
  (hn:l.most=some n) (hdf:d.params.defaults=[])
  (call:∀(w:World) (s₀ s₁:Shared) (mg mb:Vr) (fa:Addr) (o:Obj) (pm cd doc:Value) (a:Addr) (vs:Vv) (ns:Vu),
   Ground q loose [] XP w s₀ mg mb s₁.heap->YP w s₁.heap->
   s₁.heap.get? fa=some o->o.data = .func (docDef d.name d.params d.body d.scope pm cd doc)->s₁.heap.CodeRec cd d.name->mg d.name=some (.ref fa)->
   s₁.heap.get? a=some { cls:=.type "list",data:=.seq vs.toArray }->IntsAre vs ns->ns.length<=n->s₁.gens=#[]->
   codeAny (model l.prog w) callerA (.call (.ref fa) ⟨[.ref a],[]⟩) (fun r s'=>r = .ok (.ret (.bool true))/\OldK s₁.heap s'.heap/\s'.os=s₁.os/\AllBare s'.gens) s₁) :
  WalkO q loose XP YP l.row.toRowW d [] (fun f vs=>PySem.call f vs):=by
 intro w s₀ s₁ mg mb G Y fa o pm cd doc dV kV ho hd hcd hD hmg hg args vals as hpre hlay hrd hwl hlo
 obtain rfl:dV = .none:=Dflts.none hD hdf
 obtain rfl:kV = .none:=Dflts.noKw hD
 obtain⟨a,vs,ns,rfl,rfl,hobj,hints,hlen⟩:=pA hn hpre hwl
 refine enter_call (codeAny_mono (call w s₀ s₁ mg mb fa o pm cd doc a vs ns G Y ho (fd_plain hd) hcd hmg hobj hints hlen hg) fun r s' hq=>?_)
 obtain⟨rfl,h2,h3,h4⟩:=hq
 exact⟨.inl ⟨.bool true,.bool true,[],rfl,fun _=>rfl,.bool true,pB l _,fun _=>⟨List.Pairwise.nil,fun _ hm=>(nomatch hm)⟩⟩,h2,h3,h4⟩
end Att
namespace L2
open PySem PySem.Spec PyProof.Rows
theorem jT:∀{vs:Vv} {ns:Vu},IntsAre vs ns->Vals (ns.map V.int) vs
 |_,_,.nil=>.nil
 |_,_,.cons n t h=>.cons ⟨t,rfl⟩ (jT h)
def ut(H:Hp):Prop:=∀b,H b=none\/∃o xs,H b=some (.frz o (.lst xs))
def qU{P:Program}{w:World}{K:Vo}{mg mb:Vr}{CX:qH}{k:Nat}{fa a:Addr}{fd:FuncData}{x:Str}{sp:Sp}{s₁:Shared}{vs:Vv}{ns:Vu}
  (KX:K.In s₁.heap) (hns:s₁.heap.Ns mainGlobals mg) (hb:s₁.heap.Ns builtinsNs mb) (KB:∀x:Str,x ≠ "__name__"->mb x=bootBuiltins x) (hlim:s₁.heap.NoLimit) (hg:s₁.gens=#[])
  (ha:s₁.heap.get? a=some { cls:=.type "list",data:=.seq vs.toArray }) (hi:IntsAre vs ns) (hl:ns.length<=sizeLine) (hr:Room k callerA)
  (F:∀base:Heap,K.In base->base.Ns mainGlobals mg->gW P w K mg base CX k fa fd [x] sp) (hbind:∀(s:Shared) (u:Value),BindsTo s fd ⟨[u],[]⟩ [(x,u)])
  (GF:∀H:Hp,ut H->SqL K H a (ns.map V.int)->sp [.ref a] H (fun v _=>v = .bl true) fun _ _ _=>False)
  (IZ:∀H e s',CX [] H s₁ (fun _ _ _=>False) e s'->False) :
  codeAny (model P w) callerA (.call (.ref fa) ⟨[.ref a],[]⟩) (fun r s'=>r = .ok (.ret (.bool true))/\OldK s₁.heap s'.heap/\s'.os=s₁.os/\AllBare s'.gens) s₁:=by
 have rv:=jT hi
 have I9:=hi.length
 -- from an abstract heap in which nothing but the script may be tracked
 have core:∀H:Hp,ut H->SqL K H a (ns.map V.int)->Ea P w H s₁.heap->(∀b,H b≠none->b=a)->(H a≠none->K.lookup a=none)->
   codeAny (model P w) callerA (.call (.ref fa) ⟨[.ref a],[]⟩) (fun r s'=>r = .ok (.ret (.bool true))/\OldK s₁.heap s'.heap/\s'.os=s₁.os/\AllBare s'.gens) s₁:=by
  intro H hO hS hok hA hK
  have FF:∀{b:Addr} {o:Obj},s₁.heap.get? b=some o->H b=none->(kg s₁.heap H).get? b=some o:=fun e n=>qr e n
  have HH:∀{b:Addr} {o:Obj} {es:Array DictEntry} {ep:Nat},s₁.heap.get? b=some o->o.data = .dict es ep->H b=none:=fun{b o es ep} e d=>by
   cases q:H b with
   |none=>rfl
   |some u=>
    have e':b=a:=hA b (by rw[q];simp)
    subst e'
    rw[ha]at e;cases e
    have d':Data.seq vs.toArray _=Data.dict es ep:=d
    cases d'
  have Il:∀{b:Addr} {m:Vr},s₁.heap.Ns b m->(kg s₁.heap H).Ns b m:=fun{b m} ⟨o,es,ep,e,d,r⟩=>⟨o,es,ep,FF e (HH e d),d,r⟩
  have JR:K.In (kg s₁.heap H):=fun b o e=>FF (KX b o e) (by
   cases q:H b with
   |none=>rfl
   |some u=>
    have e':b=a:=hA b (by rw[q];simp)
    subst e'
    rw[hK (by rw[q];simp)]at e;cases e)
  have hM:Mod K mg (kg s₁.heap H):=⟨JR,Il hns,⟨mb,Il hb,KB⟩,let ⟨mc,h1,h2⟩:=hlim;⟨mc,Il h1,h2⟩⟩
  have e0:Ft P w K mg (kg s₁.heap H) callerA [] s₁ H:=⟨rfl,hM,fun b o e=>tM e,Nat.le_of_eq (oS _ _),trivial,fun b hb=>absurd (show b∈([]:List Addr)from hb) (by simp),hok,.of_eq hg⟩
  refine codeAny_mono ((F _ JR (Il hns)).run callerA [] s₁ H ⟨[.ref a],[]⟩ [.ref a] [.ref a] _ _ hr e0 (hbind s₁ (.ref a)) (.cons rfl .nil) (GF H hO hS)) fun r s' h=>?_
  cases r with
  |error e=>exact(IZ H e s' h).elim
  |ok fl=>
   cases fl with
   |next=>exact False.elim h
   |brk=>exact False.elim h
   |cont=>exact False.elim h
   |ret u=>
    obtain⟨v,H',os,bare,un,I_,r',q⟩:=h
    have q':v = .bl true:=q
    subst q'
    obtain rfl:u=Value.bool true:=r'
    refine⟨rfl,OldK.of_keep fun b o e=>?_,os,bare⟩
    cases q:H b with
    |none=>exact un.keep b o e q (by intro z;exact absurd (show b∈([]:List Addr)from z) (by simp)) (by simp)
    |some u=>
     rcases hO b with z|⟨ob,xs,z⟩
     ·rw[q]at z;cases z
     ·have z2:=un.EW b ob _ z
      obtain⟨e1,_⟩:=hok b _ z
      obtain⟨e2,_⟩:=I_ b _ z2
      rw[e]at e1;cases e1
      exact e2
 cases hk:K.lookup a with
 |some o=>
  -- the script is one of the module's own objects
  have e:=KX a o hk
  rw[ha]at e
  cases e
  refine core (fun _=>none) (fun _=>.inl rfl) (.inr ⟨_,vs.toArray,_,hk,rfl,rfl,rfl,by rw[List.size_toArray,I9];exact hl,by simpa using rv⟩) (fun b u z=>by have z':(none:Option HO)=some u:=z;cases z') (fun b z=>absurd rfl z) fun z=>absurd rfl z
 |none=>
  refine core (fun b=>if b=a then some (.frz { cls:=.type "list",data:=.seq vs.toArray } (.lst (ns.map V.int))) else none) (fun b=>?_) (.inl (.inr ⟨{ cls:=.type "list",data:=.seq vs.toArray },if_pos rfl⟩)) (fun b u z=>?_) (fun b z=>?_) fun _=>hk
  ·by_cases hb:b=a
   ·exact .inr ⟨_,_,if_pos hb⟩
   ·exact .inl (if_neg hb)
  ·by_cases hb:b=a
   ·have z':=(if_pos hb).symm.trans z
    cases z'
    subst hb
    exact⟨ha,by rw[List.length_map];exact hl,vs,_,rv,ha⟩
   ·have z':=(if_neg hb).symm.trans z
    cases z'
  ·by_cases hb:b=a
   ·exact hb
   ·exact absurd (if_neg hb) z
def uu{l:PySem.W.OpenLaw}{n k:Nat}{q:Program}{loose:Vs}{XP:(Vr)->Heap->Prop}{YP:World->Heap->Prop}{d:DefRec}{K:Params->PySem.W.Frag}{CX:World->qH}{sp:World->Sp}{x:Str}
  (hn:l.most=some n) (hn2:n<=sizeLine) (hdf:d.params.defaults=[]) (hr:Room k callerA)
  (hY:∀(w:World) (h:Heap),YP w h->(K w.params).In h)
  (F:∀(w:World) (mg:Vr) (fa:Addr) (h:Heap),(K w.params).In h->h.Ns mainGlobals mg->mg d.name=some (.ref fa)->
   ∃fd:FuncData,(∀(s:Shared) (u:Value),BindsTo s fd ⟨[u],[]⟩ [(x,u)])/\
    ∀base:Heap,(K w.params).In base->base.Ns mainGlobals mg->gW l.prog w (K w.params) mg base (CX w) k fa fd [x] (sp w))
  (GF:∀(w:World) (H:Hp) (a:Addr) (ns:Vu),ns.length<=n->ut H->SqL (K w.params) H a (ns.map V.int)->sp w [.ref a] H (fun v _=>v = .bl true) fun _ _ _=>False)
  (IZ:∀(w:World) (H:Hp) (s:Shared) (e:Value) (s':Shared),CX w [] H s (fun _ _ _=>False) e s'->False) :
  PySem.W.WalkO q loose XP YP l.row.toRowW d [] (fun f vs=>PySem.call f vs):=by
 refine Att.lx hn hdf fun w s₀ s₁ mg mb fa o pm cd doc a vs ns G Y ho hd hcd hmg hobj hints hlen hg=>?_
 have KX:=hY w _ Y
 obtain⟨fd,hb,hF⟩:=F w mg fa _ KX G.T.g hmg
 exact qU KX G.T.g G.T.b G.T.builtins G.T.nolimit hg hobj hints (Nat.le_trans hlen hn2) hr hF hb (fun H hO hS=>GF w H a ns hlen hO hS) fun H e s'=>IZ w H s₁ e s'
noncomputable def cZ(s:Stmt):Arguments:=match s with
 | .FunctionDef _ a _ _ _ _ _ _ _ _=>a
 |_=>{ posonlyargs:=[],args:=[],vararg:=none,kwonlyargs:=[],kw_defaults:=[],kwarg:=none,defaults:=[] }
noncomputable def bG(s:Stmt):List Stmt:=match s with
 | .FunctionDef _ _ b _ _ _ _ _ _ _=>b
 |_=>[]
noncomputable def aJ(s:Stmt):Scope:=match s with
 | .FunctionDef _ _ _ _ _ _ sc _ _ _=>sc
 |_=>{ kind:=.function,names:=[],isGenerator:=false,isCoroutine:=false }
noncomputable abbrev vx:qH:=fun _ _ _ _ _ _=>False
noncomputable abbrev E0:XK:=fun _ _ _=>False
def oh{X:Cx}:fO vx X E0:=fun _ _ _ _ _ _ _ h=>h.elim
structure Gj (K:Vo) (x qual:Str) (st:Stmt) (f:Addr) (fd:FuncData):Prop where
 ex:∃(oc:Value) (od:Option Addr) (kV doc pm:Value) (an:Option Addr) (cdv ct:Value) (osl:Array (Option Value)),
  fd=PySem.W.fnOf x qual (cZ st) (bG st) (aJ st) .none kV doc pm an cdv ct/\K.lookup f=some ⟨oc,od,.func fd,osl⟩/\PySem.W.codeIn K cdv qual=true
 kp:PySem.W.keepIn K (.ref f)=true
section
variable {P:Program} {w:World} {K:Vo} {mg:Vr} {base:Heap}
def Gj.ok{x qual:Str}{st:Stmt}{f:Addr}{fd:FuncData}{N ps:Vs}{k:Nat}{sp:Sp}(F:Gj K x qual st f fd)(S:dY N ps (aJ st))(len:∀vs H Q E,sp vs H Q E->vs.length=ps.length)
  (hbody:∀(cdv:Value) (A:Around) (outer:List Env) (s:Shared) (H:Hp) (vs:List V) (Q:VK) (E:XK),Room k (A.deeper (envOfC qual (aJ st) s.heap.objs.size f cdv))->sp vs H Q E->
   ∃t,Fp (mG vx P w K mg base N qual (aJ st) f cdv A outer s H E).HE (bG st) t/\t { nx:=fun _ H'=>Q .non H',rt:=Q } (eQ N vs) H):gW P w K mg base vx (k+1) f fd ps sp:=by
 obtain⟨oc,od,kV,doc,pm,an,cdv,ct,osl,rfl,lk,hcd⟩:=F.ex
 refine ze lk hcd S len fun A outer s H vs Q E hr GF=>?_
 obtain⟨t,h,q⟩:=hbody cdv A outer s H vs Q E hr GF
 exact⟨t,h.HE,q⟩
def Gj.binds{x qual:Str}{st:Stmt}{f:Addr}{fd:FuncData}{ps:Vs}(F:Gj K x qual st f fd)
  (h:∀(kV doc pm:Value) (an:Option Addr) (cdv ct:Value) (us:Vv),us.length=ps.length->bindArgs (PySem.W.fnOf x qual (cZ st) (bG st) (aJ st) .none kV doc pm an cdv ct) ⟨us,[]⟩=pure (ps.zip us)):Binds K fd ps []:=by
 obtain⟨oc,od,kV,doc,pm,an,cdv,ct,osl,rfl,lk,hcd⟩:=F.ex
 exact .all (h kV doc pm an cdv ct)
def ku{x qual:Str}{st:Stmt}{f:Addr}{oc:Value}{od an:Option Addr}{osl:Array (Option Value)}{kV doc pm cdv ct:Value}(l:K.lookup f=some ⟨oc,od,.func (PySem.W.fnOf x qual (cZ st) (bG st) (aJ st) .none kV doc pm an cdv ct),osl⟩)
  (c:PySem.W.codeIn K cdv qual=true) (k:PySem.W.keepIn K (.ref f)=true):Gj K x qual st f (PySem.W.fnOf x qual (cZ st) (bG st) (aJ st) .none kV doc pm an cdv ct):=⟨⟨oc,od,kV,doc,pm,an,cdv,ct,osl,rfl,l,c⟩,k⟩
end
def fv{n:Nat}(h:n<=1000):n < sizeLine:=Nat.lt_of_le_of_lt h (by decide)
section
variable {X:Cx}
def pC:fF X (.builtin "len") (fun xs H Q=>∃a kvs,xs=[V.ref a]/\H a=some (.dK kvs)/\Q (.int kvs.length) H):=by
 intro pins s σ H xs us Q I r h
 obtain⟨a,kvs,rfl,ha,q⟩:=h
 obtain⟨u,rfl,ru⟩:=ix r
 cases ru
 exact zm I (.inl ha) fun t s' I'=>⟨.int kvs.length,H,I',⟨t,rfl⟩,q⟩
end
end L2
set_option maxHeartbeats 4000000
namespace L2
open PySem PySem.Spec PyProof.Rows
def kx{prog:Program}{w:World}{A:Around}{R:Result->Shared->Prop}{s:Shared}{elt target iter:Expr}{ifs:List Expr}{scope:Scope}{pos:Pos}{it acc:Value}{env:Env}(I:Nat->Shared->Prop)
  (turn:∀n s,I n s->wpAny (model prog w) A (pyNext it) (fun r s₁=>match r with
   |none=>R (.ok .next) s₁
   |some v=>wpAny (model prog w) A (letOwnedTupleGo target it v) (fun _ s₁'=>wpAny (model prog w) A (assign target env v) (fun _ s₂=>
     wpAny (model prog w) A (forIn ifs true fun c r=>if r=true then do let ok <-isTrue c env (eval c env);pure (ForInStep.yield ok) else pure (ForInStep.yield r)) (fun ok s₃=>
      if ok=true then wpAny (model prog w) A (eval elt env) (fun x s₄=>
       wpAny (model prog w) A (call (.builtin "list.append") [acc,x]) (fun _ s₅=>∃m,m < n/\I m s₅) (fun _ _=>False) s₄) (fun _ _=>False) s₃
      else ∃m,m < n/\I m s₃) (fun _ _=>False) s₂) (fun _ _=>False) s₁') (fun _ _=>False) s₁) (fun _ _=>False) s)
  (n:Nat) (h:I n s) :
  codeAny (model prog w) A (.compLoop (.ListComp elt [⟨target,iter,ifs,0⟩] scope pos) 0 it acc env) R s:=by
 refine codeAny_loop rfl I (fun n s hI=>?_) n h
 show wpAny _ A ((compTurn (.ListComp elt [⟨target,iter,ifs,0⟩] scope pos) 0 it acc env).onRaise (fun x=>do noteFrame x env;theTreesLotGoes x)) _ _ s
 refine wpAny_noted ?_
 rw[compTurn_list]
 refine wpAny_bind (wpAny_standAt (wpAny_bind (wpAny_mono (turn n s hI) (fun r s₁ h₁=>?_) fun _ _ h'=>h'.elim)))
 cases r with
 |none=>exact wpAny_pure h₁
 |some v=>
  refine wpAny_bind (wpAny_mono h₁ (fun _ s₁' h₁'=>?_) fun _ _ h'=>h'.elim)
  refine wpAny_bind (wpAny_mono h₁' (fun _ s₂ h₂=>wpAny_bind (wpAny_mono h₂ (fun ok s₃ h₃=>?_) fun _ _ h'=>h'.elim)) fun _ _ h'=>h'.elim)
  cases ok with
  |false=>exact wpAny_pure ⟨rfl,h₃⟩
  |true=>
   exact wpAny_bind (wpAny_bind (wpAny_mono h₃ (fun x s₄ h₄=>wpAny_bind (wpAny_mono h₄ (fun _ s₅ h₅=>wpAny_pure (wpAny_pure ⟨rfl,h₅⟩)) fun _ _ h'=>h'.elim)) fun _ _ h'=>h'.elim))
structure Bk where
 C:Addr
 s:Shared
 H:Hp
 fp:List Addr
 pn:Va
noncomputable def cI(env:Env)(fs:Vs):List (Str×Addr):=fs.map fun x=>(x,(env.cells.lookup x).getD 0)
noncomputable abbrev Cx.DW(X:Cx)(N:Vs)(scope:Scope)(fs:Vs)(B:Bk):Cx:=
 { X with N:=N,s₀:=B.s,H₀:=B.H,env:=compEnvC scope (cI X.env fs) B.C X.env,outer:=X.stack,ex:=B.fp,fn:=fun _=>false,pn:=B.pn,xe:=fun _ _=>False }
noncomputable def ci(env:Env):List Str->Prop
 |[]=>True
 |x::r=>(∃c,env.cells.lookup x=some c)/\ci env r
theorem iB{env:Env}:∀{fs:Vs},ci env fs->∀{x:Str} {c:Addr},(cI env fs).lookup x=some c->env.cells.lookup x=some c
 |[],_,x,c,h=>by cases h
 |y::r,k,x,c,h=>by
  obtain⟨⟨d,hd⟩,k⟩:=k
  have h':List.lookup x ((y,(env.cells.lookup y).getD 0)::cI env r)=some c:=h
  rw[List.lookup_cons]at h'
  cases e:x == y with
  |true=>
   rw[e]at h'
   have e':x=y:=by simpa using e
   subst e'
   rw[hd]at h'
   rw[hd]
   exact h'
  |false=>
   rw[e]at h'
   exact iB k h'
noncomputable def ky(names:List (Str×NameKind))(cl:List (Str×Addr)):Bool:=names.all fun y=>(y.2 != .cell&&y.2 != .free) || (cl.lookup y.1).isSome
def qV{names:List (Str×NameKind)}{cl:List (Str×Addr)}{x:Str}{k:NameKind}(h:ky names cl=true)(e:names.lookup x=some k)(hk:k = .cell\/k = .free):∃c,cl.lookup x=some c:=by
 have hm:(x,k)∈names:=PySem.mem_of_lookup e
 have q:=List.all_eq_true.mp h _ hm
 have z:(cl.lookup x).isSome=true:=by
  rcases hk with rfl|rfl
  ·simpa using q
  ·simpa using q
 exact Option.isSome_iff_exists.mp z
noncomputable def Dl(env:Env)(scope:Scope)(cl:List (Str×Addr)):List Str->Prop
 |[]=>True
 |x::r=>((env.scope.names.lookup x=some .cell\/env.scope.names.lookup x=some .free)/\((relabel scope env).names.lookup x=some .cell\/(relabel scope env).names.lookup x=some .free)/\cl.lookup x=env.cells.lookup x)/\Dl env scope cl r
theorem Dl.mem{env:Env}{scope:Scope}{cl:List (Str×Addr)}:∀{l:Vs},Dl env scope cl l->∀x∈l,
  (env.scope.names.lookup x=some .cell\/env.scope.names.lookup x=some .free)/\((relabel scope env).names.lookup x=some .cell\/(relabel scope env).names.lookup x=some .free)/\cl.lookup x=env.cells.lookup x
 |[],_,x,h=>nomatch h
 |y::r,k,x,h=>by
  rcases List.mem_cons.mp h with rfl|h
  ·exact k.1
  ·exact Dl.mem k.2 x h
noncomputable def dN(own:Nat)(fr:List Nat)(σ:St):St:=List.replicate own none++fr.map fun j=>(σ[j]?).getD none
noncomputable abbrev g6(us:Vv):Obj:={ cls:=.type "list",data:=.seq us.toArray us.length }
def pD(us:Vv)(u:Value):({ cls:=.type "list",data:=.seq (us.toArray.push u) (us.length+1) }:Obj)=g6 (us++[u]):=by
 show({ cls:=.type "list",data:=.seq (us.toArray.push u) (us.length+1) }:Obj)={ cls:=.type "list",data:=.seq (us++[u]).toArray (us++[u]).length }
 rw[List.length_append,List.length_singleton,List.push_toArray]
section
variable {X:Cx} {pins:Va} {σ:St} {H:Hp} {s:Shared}
def Inv.HI{D:Addr}{us:Vv}{n:Nat}{ys:List V}(I:Inv X pins σ H s)(f:eN X pins H D)(e:s.heap.get? D=some { cls:=.type "list",data:=.seq us.toArray n })(r:Vals ys us)(hz:ys.length<=sizeLine) :
  Inv X pins σ (upd H D (.lst ys)) s:=by
 obtain⟨f0,f1,f2,f3,f4,f5⟩:=f
 have nD:∀b u,H b=some u->b≠D:=fun b u q=>aV q f0
 have hok:Ea X.prog X.w (upd H D (.lst ys)) s.heap:=fun b u q=>by
  by_cases hb:b=D
  ·subst hb
   rw[ax]at q
   cases q
   exact⟨hz,us,n,r,e⟩
  ·rw[ay hb]at q
   exact(I.hok b u q).stay (fun _ _ _ z=>z) (fun c z=>by rw[ay (nD c _ z)];exact z) fun c xs z=>by rw[ay (nD c _ z)];exact z
 exact I.step (H':=upd H D (.lst ys)) (h':=s.heap) (g':=s.gens) (t':=s.toks) (d':=s.drawn) (ch:=[D])
  (fun b hb=>by
   have z:b=D:=by simpa using hb
   subst z
   exact⟨f3,f1,f4,f5⟩)
  (fun _ _ _ _ _ q _=>q) (fun _ o _ _ _ q _=>⟨o.slots,q⟩)
  (fun b o hb _ n=>by rw[ay (fun z=>hb (by simp[z]))];exact n)
  (fun _ o _ q=>⟨o,q⟩) (fun b xs q=>by rw[ay (nD b _ q)];exact q) (fun b o u q=>by rw[ay (nD b _ q)];exact q)
  (fun b ps q=>⟨#[],by rw[ay (nD b _ q),q];simp⟩) (fun _ q=>q) hok I.bare
def wZ{N:Vs}{scope:Scope}{fs:Vs}{C:Addr}{fp:List Addr}(I:Inv X pins σ H s)(hkind:scope.kind = .function)(hC:s.heap.objs.size<=C)(hcl:ci X.env fs)
  (hhas:ky (relabel scope X.env).names (cI X.env fs)=true) (hf:∀b∈fp,eN X pins H b) (hlt:∀b∈fp,b < s.heap.objs.size):(X.DW N scope fs ⟨C,s,H,fp,X.pn++pins⟩).Ok where
 mod:=I.ok.mod
 kind:=hkind
 glob:=I.ok.glob
 blt:=I.ok.blt
 above:=hC
 inj:=fun x y c h1 h2=>I.ok.inj x y c (iB hcl h1) (iB hcl h2)
 has:=fun x hx=>by
  rcases hx with e|e
  ·exact qV hhas e (.inl rfl)
  ·exact qV hhas e (.inr rfl)
 Hi:=fun x c h=>by cases h
 hd:=I.ok.hd
 frames:=I.ok.frames
 stk:=.inl rfl
 IN:=fun b hb=>⟨Nat.ne_of_lt (Nat.lt_of_lt_of_le (hlt b hb) hC),fun x c e=>(hf b hb).2.2.2.2.1 x c (iB hcl e)⟩
 bs:=I.bs
 Ga:=Nat.le_trans I.ok.Ga I.sz
 FM:=fun b o e hb=>(hf b hb).2.2.2.1.elim (fun z=>I.ok.FM b o e z) fun z=>absurd (Nat.lt_of_lt_of_le (Heap.lt_size e) (Nat.le_trans I.ok.Ga z)) (Nat.lt_irrefl _)
 F0:=fun b hb z=>(List.mem_cons.mp (I.Ep b z)).elim (hf b hb).2.1 (hf b hb).2.2.1
 Eo:=I.stack
 GD:=I.FD
def uv{N:Vs}{scope:Scope}{fs:Vs}{C D:Addr}{fp:List Addr}{own:Nat}{fr:List Nat}{h₁:Heap}{m0:Vr}{t':Nat}(I:Inv X pins σ H s)
  (ok:(X.DW N scope fs ⟨C,s,H,fp,X.pn++pins⟩).Ok) (hC:s.heap.objs.size<=C) (hD:s.heap.objs.size<=D) (hDC:D≠C) (hcl:ci X.env fs)
  (old:∀b o,s.heap.get? b=some o->h₁.get? b=some o) (hns:h₁.Ns C m0) (hacc:h₁.get? D=some (g6 [])) (hlen:N.length=own+fr.length) (hN:(N.drop own).map some=fr.map fun j=>X.N[j]?)
  (hF:Dl X.env scope (cI X.env fs) (N.drop own)) :
  Inv (X.DW N scope fs ⟨C,s,H,fp,X.pn++pins⟩) [(D,g6 [])] (dN own fr σ) H { s with heap:=h₁,toks:=t' }:=by
 refine⟨ok,rfl,I.bare,Un.kept old,⟨m0,hns,fun i x v e1 e2 e3=>?_⟩,fun x c e=>?_,I.hok.fresh hC,fun x c e=>I.DM x c (iB hcl e),fun p hp=>?_,I.hok.kept old,?_⟩
 ·have e1:N[i]?=some x:=e1
  by_cases hi:i < own
  ·unfold dN at e2
   rw[List.getElem?_append_left (by rw[List.length_replicate];exact hi),List.getElem?_replicate,if_pos hi]at e2
   cases e2
  ·obtain⟨k,rfl⟩:∃k,i=own+k:=⟨i - own,by omega⟩
   have e1':(N.drop own)[k]?=some x:=by rw[List.getElem?_drop];exact e1
   have q:=congrArg (fun l=>l[k]?) hN
   simp only[List.getElem?_map,e1',Option.map_some]at q
   unfold dN at e2
   rw[List.getElem?_append_right (by rw[List.length_replicate];omega),List.length_replicate,Nat.add_sub_cancel_left,List.getElem?_map]at e2
   cases hj:fr[k]? with
   |none=>rw[hj]at e2;cases e2
   |some j=>
    rw[hj]at e2 q
    simp only[Option.map_some,Option.some.injEq]at e2 q
    have hσ:σ[j]?=some (some v):=by
     cases z:σ[j]? with
     |none=>rw[z]at e2;cases e2
     |some w=>rw[z]at e2;simp only[Option.getD_some]at e2;rw[e2]
    obtain⟨k1,k2,k3⟩:=hF.mem x (List.mem_of_getElem? e1')
    obtain⟨m,hn,hl⟩:=I.loc
    have vis:AH X.env.scope x:=by
     rcases k1 with z|z
     ·exact .inr (.inl z)
     ·exact .inr (.inr z)
    obtain⟨u,ru,l⟩:=hl j x v q.symm hσ vis
    rcases l with⟨hk,_⟩|⟨_,c,hc,o,ho,hd⟩
    ·have hk':X.env.scope.names.lookup x=some .local:=hk
     rcases k1 with z|z
     ·rw[z]at hk';cases hk'
     ·rw[z]at hk';cases hk'
    ·exact⟨u,ru,.inr ⟨k2,c,k3.trans hc,o,old _ _ ho,hd⟩⟩
 ·obtain⟨v,o,ho,hd⟩:=I.cell x c (iB hcl e)
  exact⟨v,o,old _ _ ho,hd⟩
 ·rcases List.mem_append.mp hp with z|z
  ·obtain⟨e,n,ne,nf,d⟩:=I.pin p z
   exact⟨old _ _ e,n,Nat.ne_of_lt (Nat.lt_of_lt_of_le (Heap.lt_size e) hC),fun q=>(List.mem_cons.mp (I.Ep _ q)).elim ne nf,d⟩
  ·have z':p=(D,g6 []):=by simpa using z
   subst z'
   exact⟨hacc,I.hok.fresh hD,hDC,fun q=>(List.mem_cons.mp (I.Ep _ q)).elim (fun e=>absurd e (Nat.ne_of_gt (Nat.lt_of_lt_of_le I.lt hD))) (I.Hy hD),fun v z=>by cases z⟩
 ·show(dN own fr σ).length=N.length
  unfold dN
  rw[List.length_append,List.length_replicate,List.length_map,hlen]
end
def PF(X:Cx)(ifs:List Expr)(t:TT):Prop:=
 ∀(pins:Va) (s:Shared) (σ:St) (H:Hp) (Q:Bool->Hp->Prop),Inv X pins σ H s->t σ H Q->
  wpAny (model X.prog X.w) X.A (forIn ifs true fun c r=>if r=true then do let ok <-isTrue c X.env (eval c X.env);pure (ForInStep.yield ok) else pure (ForInStep.yield r)) (TP X pins σ Q) X.xe s
def Bp:TT:=fun _ H Q=>Q true H
def w4{X:Cx}:PF X [] Bp:=fun _ _ _ H _ I h=>wpAny_tests_nil ⟨H,I,h⟩
def w5{X:Cx}{c:Expr}{t:TT}(h:PT X c t):PF X [c] t:=fun pins s σ H Q I q=>wpAny_tests_one (h pins s σ H Q I q)
def vy(J:It)(g:TG)(tc:TT)(te:TE)(own:Nat)(σ':St)(fin:List V->Hp->Prop)(H1:Hp):Prop:=
 ∃W:Nat->Nat->List V->Hp->Prop,(∃m,W 0 m [] H1)/\∀i m ys H,W i m ys H->
  (J.stop i H/\ys.length<=sizeLine/\fin ys H) \/
  (J.go i H/\ys.length<=sizeLine/\∃Nx:List V->Hp->Prop,(∀ys' H',Nx ys' H'->∃m',m' < m/\W (i+1) m' ys' H')/\∀x H',J.Ik i H x H'->g x σ' H' fun σ2 H2=>σ2.drop own=σ'.drop own/\tc σ2 H2 fun b H3=>
   if b=true then te σ2 H3 fun y H4=>Nx (ys++[y]) H4 else Nx ys H3)
section
variable {X:Cx} {pins:Va} {σ:St} {H:Hp} {s:Shared}
variable {elt iter tg:Expr} {ifs:List Expr} {scope:Scope} {pos:Pos} {N:Vs} {own:Nat} {fr:List Nat} {fs:Vs} {g:TG} {tc:TT} {te:TE}
def i8{J:It}{fp:List Addr}{it:Addr}{tn:Nat->Heap->Prop}{fin:List V->Hp->Prop}{E:Vq}{RR:Value->Addr->Result->Shared->Prop}
  (hc:X.calm=true) (hcell:∀y∈scope.names,y.2 ≠ .cell) (hkind:scope.kind = .function) (hcl:ci X.env fs) (hhas:ky (relabel scope X.env).names (cI X.env fs)=true)
  (hlen:N.length=own+fr.length) (hN:(N.drop own).map some=fr.map fun j=>X.N[j]?) (hF:Dl X.env scope (cI X.env fs) (N.drop own))
  (hg:∀B,PG (X.DW N scope fs B) tg g) (hf:∀B,PF (X.DW N scope fs B) ifs tc) (he:∀B,PE (X.DW N scope fs B) elt te)
  (I:Inv X pins σ H s) (T:ki X.prog X.w X.K tg J fp it tn) (st:tn 0 s.heap) (f:∀b∈fp,eN X pins H b) (W:vy J g tc te own (dN own fr σ) fin H)
  (hRR:∀D C s' ys H' m',Inv X pins σ (upd H' D (.lst ys)) s'->H' D=none->s'.heap.Ns C m'->eN X pins (upd H' D (.lst ys)) C->fin ys H'->RR (.ref D) C (.ok .next) s') :
  wpAny (model X.prog X.w) X.A (newList []) (fun acc s₃=>wpAny (model X.prog X.w) X.A (newFunctionEnv scope X.env.globals (cI X.env fs) [] X.env.qual none .none (some X.env)) (fun cenv s₄=>
   codeAny (model X.prog X.w) X.A (.compStart (.ListComp elt [⟨tg,iter,ifs,0⟩] scope pos) 0 (.ref it) acc { cenv with scope:=relabel scope X.env }) (RR acc cenv.locals) s₄) E s₃) E s:=by
 refine wpAny_newObj_type (wpAny_newFunctionEnv hcell (by intro y hy;simp at hy) (fun h₁ G1 Gk=>?_) hkind)
 dsimp only at G1 Gk ⊢
 generalize Ja:s.heap.push { cls:=.type "list",dict:=none,data:=.seq ([]:Vv).toArray }=H2 at G1 Gk ⊢
 have hC:H2.objs.size=s.heap.objs.size+1:=by rw[<-Ja,Heap.size_push]
 have G2:s.heap.objs.size<=H2.objs.size:=by rw[hC];exact Nat.le_succ _
 have hDC:s.heap.objs.size≠H2.objs.size:=by rw[hC];exact Nat.ne_of_lt (Nat.lt_succ_self _)
 have below:∀b,b < s.heap.objs.size->b≠H2.objs.size/\b≠s.heap.objs.size:=fun b hb=>⟨by rw[hC];exact Nat.ne_of_lt (Nat.lt_succ_of_lt hb),Nat.ne_of_lt hb⟩
 have old:∀b o,s.heap.get? b=some o->h₁.get? b=some o:=fun b o e=>Gk.extBut b o (below b (Heap.lt_size e)).1 (Heap.get?_push_of_some _ (Ja▸Heap.get?_push_of_some _ e))
 have hacc:h₁.get? s.heap.objs.size=some (g6 []):=Gk.extBut _ _ hDC (Heap.get?_push_of_some _ (Ja▸Heap.get?_push_size _ rfl))
 have hlt:∀b∈fp,b < s.heap.objs.size:=fun b hb=>by
  obtain⟨o,e,_⟩:=T.obj 0 _ st b hb
  exact Heap.lt_size e
 obtain⟨Wv,⟨m0,w0⟩,turn⟩:=W
 have ok:=wZ (N:=N) I hkind G2 hcl hhas f hlt
 have loop:∀s₃:Shared,s₃={ s with heap:=h₁,toks:=s.toks+([]:List (Str×Value)).length }->
   codeAny (model X.prog X.w) X.A (.compLoop (.ListComp elt [⟨tg,iter,ifs,0⟩] scope pos) 0 (.ref it) (.ref s.heap.objs.size) (compEnvC scope (cI X.env fs) H2.objs.size X.env))
    (RR (.ref s.heap.objs.size) H2.objs.size) s₃:=by
  rintro s₃ rfl
  have I0:=uv (own:=own) (fr:=fr) (t':=s.toks+([]:List (Str×Value)).length) I ok G2 (Nat.le_refl _) hDC hcl old G1 hacc hlen hN hF
  have KC:tn 0 h₁:=T.keep 0 _ _ st fun b _ o e=>old b o e
  have stat:∀{us:Vv} {H':Hp},(∀b∈fp,H' b=none)->∀b∈fp,eN (X.DW N scope fs ⟨H2.objs.size,s,H,fp,X.pn++pins⟩) [(s.heap.objs.size,g6 us)] H' b:=fun{us H'} hn b hb=>by
   obtain⟨f0,f1,f2,f3,f4,f5⟩:=f b hb
   refine⟨hn b hb,(below b (hlt b hb)).1,fun z=>(List.mem_cons.mp (I.Ep b z)).elim f1 f2,.inl hb,fun x c e=>f4 x c (iB hcl e),fun p hp=>?_⟩
   rcases List.mem_append.mp hp with z|z
   ·exact f5 p z
   ·have z':p=(s.heap.objs.size,g6 us):=by simpa using z
    subst z'
    exact Ne.symm (below b (hlt b hb)).2
  have Jb:∀p∈X.pn++pins,p.1 < s.heap.objs.size:=fun p hp=>Heap.lt_size (I.pin p hp).1
  refine kx (fun k s'=>∃i ys us H',Inv (X.DW N scope fs ⟨H2.objs.size,s,H,fp,X.pn++pins⟩) [(s.heap.objs.size,g6 us)] (dN own fr σ) H' s'/\Vals ys us/\tn i s'.heap/\(∀b∈fp,H' b=none)/\Wv i k ys H') ?_ m0
   ⟨0,[],[],H,I0,.nil,KC,fun b hb=>(f b hb).1,w0⟩
  rintro n s' ⟨i,ys,us,H',I',rv,st',JS,w'⟩
  rcases turn i n ys H' w' with⟨stop,hz,Jc⟩|⟨go,hz,Nx,JT,step⟩
  ·refine bz (T.done (X.DW N scope fs ⟨H2.objs.size,s,H,fp,X.pn++pins⟩) rfl rfl rfl hc i _ s' _ H' (fun _ _=>False) I' (stat JS) st' stop) (fun r s1 ⟨hr,I1⟩=>?_)
   subst hr
   show RR _ _ (.ok .next) s1
   have IX:Inv X pins σ H' s1:=I.HD I1.os I1.base I1.hok I1.bare fun b hb=>by
    obtain⟨f0,f1,f2,f3,f4,f5⟩:=f b hb
    exact⟨f3,f1,f4,f5⟩
   obtain⟨eD,nD,_⟩:=I1.pin (s.heap.objs.size,g6 us) (by simp)
   have IT:=IX.HI (I.EA (H':=H') (Nat.le_refl _) nD) eD rv hz
   obtain⟨m',hn',_⟩:=I1.loc
   exact hRR _ _ s1 ys H' m' IT nD hn' (I.EA G2 (by rw[ay (Ne.symm hDC)];exact I1.free)) Jc
  ·refine bz (T.item (X.DW N scope fs ⟨H2.objs.size,s,H,fp,X.pn++pins⟩) rfl rfl rfl hc i _ s' _ H' (fun _ _=>False) I' (stat JS) st' go) (fun r s1 ⟨u,hr,h1⟩=>?_)
   subst hr
   show wpAny _ _ (letOwnedTupleGo tg (.ref it) u) _ _ s1
   refine bz h1 (fun _ s5 ⟨x,H5,I5,r5,y5,Gg,IS⟩=>?_)
   have IU:=I5.pinned (stat IS) (T.obj _ _ Gg)
   refine bz (hg _ _ s5 _ H5 x u _ IU r5 (step x H5 y5)) (fun _ s6 ⟨σ6,H6,I6,KD,q6⟩=>?_)
   refine bz (hf _ _ s6 σ6 H6 _ I6 q6) (fun b s7 ⟨H7,I7,q7⟩=>?_)
   -- G3 the turn's own names
   have forget:∀{H8:Hp} {s8:Shared} {pl:Va},Inv (X.DW N scope fs ⟨H2.objs.size,s,H,fp,X.pn++pins⟩) pl σ6 H8 s8->Inv (X.DW N scope fs ⟨H2.objs.size,s,H,fp,X.pn++pins⟩) pl (dN own fr σ) H8 s8:=fun{H8 s8 pl} I8=>by
    refine I8.weak (I0.len.trans I8.len.symm) fun j v e=>?_
    by_cases hj:j < own
    ·unfold dN at e
     rw[List.getElem?_append_left (by rw[List.length_replicate];exact hj),List.getElem?_replicate,if_pos hj]at e
     cases e
    ·obtain⟨k,rfl⟩:∃k,j=own+k:=⟨j - own,by omega⟩
     rw[<-List.getElem?_drop]at e ⊢
     rw[KD]
     exact e
   have Im:∀{H8:Hp} {s8:Shared},Inv (X.DW N scope fs ⟨H2.objs.size,s,H,fp,X.pn++pins⟩) ([(s.heap.objs.size,g6 us)]++iZ fp s5.heap) σ6 H8 s8->∀b∈fp,∀o,s5.heap.get? b=some o->s8.heap.get? b=some o/\H8 b=none:=fun I8 b hb o e=>
    let z:=I8.pin (b,o) (List.mem_append_right _ (List.mem_append_right _ (fN hb e)))
    ⟨z.1,z.2.1⟩
   cases b with
   |false=>
    show ∃m,m < n/\_
    obtain⟨m',hm,w7⟩:=JT _ _ (show Nx ys H7 from q7)
    refine⟨m',hm,i+1,ys,us,H7,(forget I7).Ei,rv,T.keep _ _ _ Gg fun b hb o e=>(Im I7 b hb o e).1,fun b hb=>?_,w7⟩
    obtain⟨o,e,_⟩:=T.obj _ _ Gg b hb
    exact(Im I7 b hb o e).2
   |true=>
    show wpAny _ _ (eval elt _) _ _ s7
    have KE:te σ6 H7 fun y H4=>Nx (ys++[y]) H4:=q7
    refine bz (he _ _ s7 σ6 H7 _ I7 KE) (fun v s8 ⟨y,H8,I8,r8,n8⟩=>?_)
    obtain⟨m',hm,w8⟩:=JT _ _ n8
    obtain⟨eD,nD,JU,KF,_⟩:=I8.pin (s.heap.objs.size,g6 us) (List.mem_append_right _ (List.mem_append_left _ (by simp)))
    refine append_at (hsz:=by show us.toArray.size<=sizeLine;rw[List.size_toArray,<-rv.length];exact hz) eD fun h9 JV KG=>?_
    have J0:Inv (X.DW N scope fs ⟨H2.objs.size,s,H,fp,X.pn++pins⟩) [] σ6 H8 s8:=I8.EC fun p hp=>nomatch hp
    have J1:Inv (X.DW N scope fs ⟨H2.objs.size,s,H,fp,X.pn++pins⟩) [] σ6 H8 { s8 with heap:=h9 }:=J0.turned (t':=s8.toks) (it:=s.heap.objs.size) (fun b o hb e=>(JV.2 b hb).trans e) nD JU (.inr (Nat.le_refl _))
     (fun x c e z=>by
      obtain⟨v',q⟩:=I.cell x c (iB hcl e)
      exact absurd (Nat.lt_of_lt_of_le q.lt (by rw[z];exact Nat.le_refl _)) (Nat.lt_irrefl _))
     (fun p hp=>by
      rw[List.append_nil]at hp
      exact Nat.ne_of_lt (Jb p hp))
    have J2:Inv (X.DW N scope fs ⟨H2.objs.size,s,H,fp,X.pn++pins⟩) [(s.heap.objs.size,g6 (us++[v]))] σ6 H8 { s8 with heap:=h9 }:=J1.EC fun p hp=>by
     have z':p=(s.heap.objs.size,g6 (us++[v])):=by simpa using hp
     subst z'
     exact⟨KG.trans (congrArg some (pD us v)),nD,JU,KF,fun v z=>by cases z⟩
    refine⟨m',hm,i+1,ys++[y],us++[v],H8,forget J2,Vals.append rv (.cons r8 .nil),T.keep _ _ _ Gg fun b hb o e=>(JV.2 b (below b (hlt b hb)).2).trans (Im I8 b hb o e).1,fun b hb=>?_,w8⟩
    obtain⟨o,e,_⟩:=T.obj _ _ Gg b hb
    exact(Im I8 b hb o e).2
 exact codeAny_compStart_list (loop _ rfl) (T.self _ 0 _ _ _ (T.keep 0 _ _ st fun b _ o e=>old b o e) (loop _ rfl))
def qW(wi:TI)(g:TG)(tc:TT)(te:TE)(own:Nat)(fr:List Nat):TE:=fun σ H Q=>wi σ H fun J H1=>
 vy J g tc te own (dN own fr σ) (fun ys H2=>∀D,H2 D=none->Q (.ref D) (upd H2 D (.lst ys))) H1
def uw(fs:Vs)(own:Nat)(fr:List Nat)(N:Vs){wi:TI}(hc:X.calm=true)(hclos:closureFor scope X.env=pure (cI X.env fs))(hcell:∀y∈scope.names,y.2 ≠ .cell)(hkind:scope.kind = .function)
  (hnames:∀x∈scope.names,x.2 = .local->scope.names.lookup x.1=some .local) (hcl:ci X.env fs) (hhas:ky (relabel scope X.env).names (cI X.env fs)=true)
  (hlen:N.length=own+fr.length) (hN:(N.drop own).map some=fr.map fun j=>X.N[j]?) (hF:Dl X.env scope (cI X.env fs) (N.drop own))
  (hi:PI X tg iter wi) (hg:∀B,PG (X.DW N scope fs B) tg g) (hf:∀B,PF (X.DW N scope fs B) ifs tc) (he:∀B,PE (X.DW N scope fs B) elt te)
  (hs:∀x,foldedSetIterable iter X.env x=pure x:=by intro _;rfl):PE X (.ListComp elt [⟨tg,iter,ifs,0⟩] scope pos) (qW wi g tc te own fr):=by
 intro pins s σ H Q I h
 rw[eval_ListComp]
 refine wpAny_comprehension_free (use:=none) (g:=⟨tg,iter,ifs,0⟩) (gs:=[]) rfl hs hclos hkind hnames (bz (hi pins s σ H _ I h) fun v s1 h1=>bz h1 fun itv s2 h2=>?_)
 obtain⟨it,fp,tn,J,H2,e,I2,T,st2,f2,W⟩:=h2
 subst e
 refine i8 (RR:=fun acc C=>compPost (model X.prog X.w) X.A X.xe none (EP X pins σ Q) acc C) hc hcell hkind hcl hhas hlen hN hF hg hf he I2 T st2 f2 W ?_
 intro D C s' ys H' m' I' nD hn fC fin
 exact⟨m',hn,fun h' hs'=>⟨.ref D,_,I'.turned (t':=s'.toks) (fun b o hb e=>(hs'.2 b hb).trans e) fC.1 fC.2.1 fC.2.2.2.1 fC.2.2.2.2.1 fC.2.2.2.2.2,rfl,fin D nD⟩⟩
def ux(fs:Vs)(own:Nat)(fr:List Nat)(N:Vs){wi:TI}{i:Nat}{y:Str}{py spos:Pos}(hX:X.N.Nodup)(hix:X.N[i]?=some y)(hy:X.env.scope.names.lookup y=some .local)
  (hsw:swapsWith (.ListComp elt [⟨tg,iter,ifs,0⟩] scope pos) (some (.Name y py)) spos.line X.env=pure true)
  (hc:X.calm=true) (hclos:closureFor scope X.env=pure (cI X.env fs)) (hcell:∀y∈scope.names,y.2 ≠ .cell) (hkind:scope.kind = .function)
  (hnames:∀x∈scope.names,x.2 = .local->scope.names.lookup x.1=some .local) (hcl:ci X.env fs) (hhas:ky (relabel scope X.env).names (cI X.env fs)=true)
  (hlen:N.length=own+fr.length) (hN:(N.drop own).map some=fr.map fun j=>X.N[j]?) (hF:Dl X.env scope (cI X.env fs) (N.drop own))
  (hi:PI X tg iter wi) (hg:∀B,PG (X.DW N scope fs B) tg g) (hf:∀B,PF (X.DW N scope fs B) ifs tc) (he:∀B,PE (X.DW N scope fs B) elt te)
  (hs:∀x,foldedSetIterable iter X.env x=pure x:=by intro _;rfl):PS X (.Assign [.Name y py] (.ListComp elt [⟨tg,iter,ifs,0⟩] scope pos) spos) (tU (qW wi g tc te own fr) (li i)):=by
 intro pins s σ H D I h
 rw[exec_Assign_Name_used _ _ _ _ hsw]
 refine wpAny_bind (wpAny_standAt (wpAny_bind ?_))
 show wpAny _ X.A (do let _ <-comprehension (.ListComp elt [⟨tg,iter,ifs,0⟩] scope pos) scope X.env _ (newList []) false (eval iter X.env) (some (assign (.Name y py) X.env))) _ _ s
 refine wpAny_bind (wpAny_mono (wpAny_comprehension_free (use:=some (assign (.Name y py) X.env)) (Q:=fun _ s'=>SP X pins D .next s') (g:=⟨tg,iter,ifs,0⟩) (gs:=[]) rfl hs hclos hkind hnames
  (bz (hi pins s σ H _ I h) fun v s1 h1=>bz h1 fun itv s2 h2=>?_)) (fun _ s' hq=>wpAny_pure (wpAny_pure hq)) fun _ _ e=>e)
 obtain⟨it,fp,tn,J,H2,e,I2,T,st2,f2,W⟩:=h2
 subst e
 refine i8 (RR:=fun acc C=>compPost (model X.prog X.w) X.A X.xe (some (assign (.Name y py) X.env)) (fun _ s'=>SP X pins D .next s') acc C) hc hcell hkind hcl hhas hlen hN hF hg hf he I2 T st2 f2 W ?_
 intro Da C s' ys H' m' I' nD hn fC fin
 show wpAny _ X.A (assign (.Name y py) X.env (.ref Da)) _ _ s'
 refine wpAny_assign_Name (jL (v:=.ref Da) I' hX hix (.inl hy) rfl (fun s2 I3 ⟨a,sb,ha⟩=>?_) (.inr hy))
 have ca:C≠a:=by
  rcases ha with z|z
  ·rw[z];exact fC.2.1
  ·exact Ne.symm (fC.2.2.2.2.1 _ _ z)
 exact⟨m',hn.sameBut sb ca,fun h' hs'=>⟨_,_,I3.turned (t':=s2.toks) (fun b o hb e=>(hs'.2 b hb).trans e) fC.1 fC.2.1 fC.2.2.2.1 fC.2.2.2.2.1 fC.2.2.2.2.2,fin Da nD⟩⟩
end
end L2
namespace PySem
open Sem (wp)
namespace F
def pE:typeLookup (.type "list_reverseiterator") "__len__" = pure none:=by rw[typeLookup_type,builtinLookup_eq_fast];kernel_rfl
def qX:typeLookup (.type "list_reverseiterator") "__length_hint__" = pure (some (.builtin "list_reverseiterator.__length_hint__")):=by rw[typeLookup_type,builtinLookup_eq_fast];kernel_rfl
end F
section
variable {prog:Program} {w:World} {A:Around} {s:Shared} {R:Result->Shared->Prop}
variable {I:Addr} {fp wr:List Addr} {G:Array GenState->Array GenState->Prop} {n:Nat} {P:Nat->Value->Prop} {St:Nat->Shared->Prop}
def mM(W:WalksS prog w A.in1 I fp wr G n P St)(hT:∀i s,St i s->s.TypeIs (.ref I) "list_reverseiterator")(S:Addr)(res:Value)(c₀:Nat)(hst:St 0 s)(hSf:S ∉ fp)(hI:I∈fp)
  (hS:s.heap.get? S=some { cls:=.type "list",data:=.seq #[] c₀ })
  (hR:∀s' acc' c',Moved (S::wr) G s s'->s'.heap.get? S=some { cls:=.type "list",dict:=none,data:=.seq acc' c',slots:=#[] }->ItemsOf P acc' n->R (.ok (.ret res)) s') (hn:n<=sizeLine) :
  wpAny (model prog w) A.in1 (Builtin.List.listExtendWith (.ref S) (.ref I) res)
   (fun fin s'=>match fin with | .done f=>R (.ok f) s' | .again c'=>c'.quiet=true/\codeAny (model prog w) A c' R s') (fun e s'=>R (.error e) s') s:=by
 have hSI:S≠I:=fun e=>hSf (e▸hI)
 have h1:Builtin.List.listSameRef (.ref S) (.ref I)=false:=by simp[Builtin.List.listSameRef,hSI]
 unfold Builtin.List.listExtendWith
 refine wpAny_bind (wpAny_typeOf (hT 0 _ hst) ?_)
 rw[if_neg (by rw[h1];decide)]
 refine wpAny_bind (W.self 0 _ _ _ hst ?_)
 refine wpAny_bind (wpAny_holding ?_)
 unfold Builtin.List.listLengthHint
 refine wpAny_bind (wpAny_specialOf (hT 0 _ hst) F.pE ?_)
 show wpAny _ A.in1 (specialOf (Value.ref I) (Str.ofString "__length_hint__") >>= _) _ _ _
 refine wpAny_bind (wpAny_specialOf (hT 0 _ hst) F.qX ?_)
 (generalize hid:("list_reverseiterator.__length_hint__":String)=KH;wp_delta;rw[show splitId KH=some ("list_reverseiterator","__length_hint__")from by subst hid;decide +kernel];subst hid)
 refine wpAny_bind (wpAny_isInstance (b:=true) (hT 0 _ hst) (by rw[isSubtype_type];kernel_rfl) ?_)
 refine wpAny_pure ?_
 rw[if_neg (by decide)]
 exact wpAny_pure ⟨plainId_quiet F.plain_extend_loop _,codeAny_extend_loopS W hn _ hSf _ n 0 _ _ _ rfl (Nat.zero_le _) hst hS (ItemsOf.nil P) fun s' acc' c' hm hS' hacc=>hR s' acc' c' hm hS' hacc⟩
def jD(W:WalksS prog w A.in1 I fp wr G n P St)(hT:∀i s,St i s->s.TypeIs (.ref I) "list_reverseiterator")(S:Addr)(hst:St 0 s)(hSf:S ∉ fp)(hI:I∈fp)
  (hS:s.heap.get? S=some { cls:=.type "list",data:=.seq #[] })
  (hR:∀s' acc' c',Moved (S::wr) G s s'->s'.heap.get? S=some { cls:=.type "list",dict:=none,data:=.seq acc' c',slots:=#[] }->ItemsOf P acc' n->R (.ok (.ret .none)) s') (hn:n<=sizeLine) :
  wpAny (model prog w) A.in1 (Builtin.«list.__init__» ⟨[.ref S,.ref I],[]⟩)
   (fun fin s'=>match fin with | .done f=>R (.ok f) s' | .again c'=>c'.quiet=true/\codeAny (model prog w) A c' R s') (fun e s'=>R (.error e) s') s:=by
 show wpAny _ A.in1 (do let old <-Builtin.List.listItems (.ref S);Builtin.List.listUpdate (.ref S) (fun _=>#[]);letGo old.toList.reverse;Builtin.List.listExtendWith (.ref S) (.ref I) .none) _ _ s
 refine wpAny_bind ?_
 unfold Builtin.List.listItems
 refine wpAny_bind (wpAny_seqItems hS rfl (wpAny_pure ?_))
 show wpAny _ A.in1 (updateSeq S (fun _=>#[]) >>= fun _=>letGo (#[]:Vw).toList.reverse >>= fun _=>Builtin.List.listExtendWith (.ref S) (.ref I) .none) _ _ s
 refine wpAny_bind (wpAny_updateSeq hS rfl ?_)
 have KI:=Heap.get?_update_self (Obj.mapSeq (fun _=>(#[]:Vw))) hS rfl
 have EY:∀b o,b≠S->s.heap.get? b=some o->(s.heap.update S (Obj.mapSeq (fun _=>(#[]:Vw)))).get? b=some o:=
  fun b o hb e=>(Heap.get?_update_other _ _ (Ne.symm hb)).trans e
 refine wpAny_bind (wpAny_letGo ?_)
 refine mM (hn:=hn) W hT S .none _ (W.frame 0 s _ s.toks hst (Nat.le_refl _) fun b hb o e=>EY b o (fun h=>hSf (h▸hb)) e) hSf hI KI fun s' acc' c' hm hS' hacc=>?_
 exact hR s' acc' c' (Moved.trans W.gtrans ((Moved.refl W.grefl).then_heap (Nat.le_refl _) fun b o hb e=>EY b o (fun h=>hb (h▸List.mem_cons_self)) e) hm) hS' hacc
end
section
variable {prog:Program} {w:World} {A:Around} {E:Vq} {s:Shared}
def jE{I l:Addr}{items:Vw}{Q:Vq}(hh:A.handled=none)(hl:s.heap.IsList l items)(hit:s.heap.IsRevIter I l ((items.size:Int) - 1))(hne:l≠I)(hn:items.size<=sizeLine)
  (hQ:∀h' tk acc' c',(∀b o,b≠I->s.heap.get? b=some o->h'.get? b=some o)->h'.get? s.heap.objs.size=some { cls:=.type "list",dict:=none,data:=.seq acc' c',slots:=#[] }->
   acc'.toList=items.toList.reverse->Q (.ref s.heap.objs.size) { s with heap:=h',toks:=tk }) :
  wpAny (model prog w) A (call (.type "list") [.ref I]) Q E s:=by
 have W:=(Walks.listRev (prog:=prog) (w:=w) (A:=A.in1.in1) hh I l hne items).toS
 have Jd:I < s.heap.objs.size:=by obtain⟨o,ho,_⟩:=hit;exact Heap.lt_size ho
 have Je:l < s.heap.objs.size:=by obtain⟨o,ho,_⟩:=hl;exact Heap.lt_size ho
 have hfp:∀b∈[I,l],b < s.heap.objs.size:=fun b hb=>by
  rcases List.mem_cons.mp hb with rfl|hb
  ·exact Jd
  ·rw[List.mem_singleton.mp hb];exact Je
 have hSf:s.heap.objs.size ∉ [I,l]:=fun hm=>Nat.lt_irrefl _ (hfp _ hm)
 have hst:(fun i (s:Shared)=>i<=items.size/\s.heap.IsRevIter I l ((items.size:Int) - 1 - (i:Int))/\s.heap.IsList l items) 0 s:=⟨Nat.zero_le _,by simpa using hit,hl⟩
 refine callType_codes (Q₁:=fun obj s₁=>obj = .ref s.heap.objs.size/\s₁={ s with heap:=s.heap.push { cls:=.type "list",data:=.seq #[] } }) F.called_list (F.typeCall_list_1 _) F.entry_list_init
  (code_list_new _ ⟨rfl,rfl⟩) fun obj s₁ h₁=>?_
 obtain⟨rfl,rfl⟩:=h₁
 have hS:(s.heap.push { cls:=.type "list",data:=.seq #[] }).get? s.heap.objs.size=some { cls:=.type "list",data:=.seq #[] }:=Heap.get?_push_size _ rfl
 refine⟨⟨_,hS,rfl⟩,F.args_list_init_2 _ _,jD (hn:=hn) W (fun i s st=>st.2.1.typeIs) _ (W.frame 0 s _ s.toks hst (Nat.le_refl _) fun b _ o e=>Heap.get?_push_of_some _ e) hSf (List.mem_cons_self ..) hS fun s' acc' c' hm hS' hacc=>?_⟩
 refine⟨rfl,?_⟩
 rw[hm.eq_with]
 refine hQ s'.heap s'.toks acc' c' (fun b o hb e=>hm.heap b o (fun z=>?_) (Heap.get?_push_of_some _ e)) hS' ?_
 ·rcases List.mem_cons.mp z with z|z
  ·exact absurd (Heap.lt_size e) (by rw[z];exact Nat.lt_irrefl _)
  ·exact hb (List.mem_singleton.mp z)
 ·obtain⟨hsz,hP⟩:=hacc
  apply List.ext_getElem?
  intro j
  by_cases hj:j < items.size
  ·have hj':j < acc'.size:=by rw[hsz];exact hj
   have q:=hP j acc'[j] (by simp[hj'])
   have e1:acc'.toList[j]?=some acc'[j]:=by simp[hj']
   rw[e1,List.getElem?_reverse (by simpa using hj)]
   simpa using q.symm
  ·rw[List.getElem?_eq_none (by simpa [hsz]using hj),List.getElem?_eq_none (by simpa using hj)]
end
end PySem
namespace L2
open PySem PySem.Spec PyProof.Rows
section
variable {X:Cx}
def qY(K:Vo)(te:TE):TE:=fun σ H Q=>te σ H fun x H1=>∃a xs,x = .ref a/\SqL K H1 a xs/\∀q,H1 q=none->Q (.ref q) (upd H1 q (.lst xs.reverse))
def mN{e:Expr}{te:TE}{p1 p2 q1 q2:Pos}(hc:X.calm=true)(he:PE X e te)(Jf:Gl X "list")(hm1:X.mg "list" = none)(Jg:Gl X "reversed")(hm2:X.mg "reversed" = none)
  (hs:starEach [e] X.env=[(false,eval e X.env)]:=by rfl) (hs2:starEach [.Call (.Name "reversed" p2) [e] [] q2] X.env=[(false,eval (.Call (.Name "reversed" p2) [e] [] q2) X.env)]:=by rfl) :
  PE X (.Call (.Name "list" p1) [.Call (.Name "reversed" p2) [e] [] q2] [] q1) (qY X.K te):=by
 intro pins s σ H Q I h
 refine wpAny_Call_Name_kw (eP I Jf hm1 (u:=.type "list") (by decide +kernel) ?_)
 refine PyProof.Rows.callWith_type1 ?_ hs2 rfl
 rw[hs2]
 show wpAny _ _ (spliced ((false,eval (.Call (.Name "reversed" p2) [e] [] q2) X.env)::backTo q1 [])) _ _ s
 refine Calls.spliced_cons ?_
 refine wpAny_Call_Name_kw (eP I Jg hm2 (u:=.type "reversed") boot_reversed ?_)
 refine PyProof.Rows.callWith_type1 ?_ hs rfl
 rw[hs]
 show wpAny _ _ (spliced ((false,eval e X.env)::backTo q2 [])) _ _ s
 refine Calls.spliced_cons (bz (he pins s σ H _ I h) fun u s1 ⟨x,H1,I1,r1,a,xs,ex,hx,q⟩=>?_)
 subst ex
 cases r1
 obtain⟨its,rv,p,hz⟩:=I1.list hx
 have hl:=rv.length
 have hal:a < s1.heap.objs.size:=by obtain⟨o,ho,_⟩:=p.isList;exact Heap.lt_size ho
 refine Calls.spliced_nil (call_reversed_list p.isList ?_)
 refine Calls.spliced_nil ?_
 refine jE (I.ok.hd hc) (p.isList.push _) ⟨_,Heap.get?_push_size _ rfl,rfl,rfl⟩ (Nat.ne_of_lt hal) (by rw[List.size_toArray,<-hl];exact hz) fun h' tk acc c hk hS ha=>?_
 have hsz:(s1.heap.push (revObj a ((its.toArray.size:Int) - 1))).objs.size=s1.heap.objs.size+1:=Heap.size_push _ _
 have hle:s1.heap.objs.size<=(s1.heap.push (revObj a ((its.toArray.size:Int) - 1))).objs.size:=by rw[hsz];exact Nat.le_succ _
 refine⟨.ref _,_,I1.laid (a:=(s1.heap.push (revObj a ((its.toArray.size:Int) - 1))).objs.size) (o:=.lst xs.reverse) (h':=h') (t':=tk) (fun b u e=>hk b u (Nat.ne_of_lt (Heap.lt_size e)) (Heap.get?_push_of_some _ e)) hle ?_,rfl,q _ (I1.hok.fresh hle)⟩
 refine⟨by rw[List.length_reverse];exact hz,its.reverse,c,Vals.reverse rv,?_⟩
 rw[hS]
 have e:acc=its.reverse.toArray:=by
  apply Array.toList_inj.mp
  rw[ha]
 rw[e]
end
section
variable {X:Cx}
noncomputable abbrev sgn(c:Nat):Str:=⟨#[c]⟩
noncomputable def Bq(z:Str):It:=⟨fun i _=>i < z.cps.size,fun i H x H'=>H'=H/\∃c,z.cps[i]?=some c/\x = .str (sgn c),fun i _=>z.cps.size<=i⟩
def qZ{P:Program}{w:World}{K:Vo}{tg:Expr}{ty:String}(hty:ty = "str_ascii_iterator" \/ ty = "str_iterator")(it:Addr)(z:Str)(t:Tok):ki P w K tg (Bq z) [it] it (fun i h=>i<=z.cps.size/\h.IsStrIter it ty z t i):=by
 have W:∀A':Around,A'.handled=none->Walks P w A' it [it] [it] z.cps.size (SignAt z) (fun i h=>h.IsStrIter it ty z t i):=fun A' hA=>by
  rcases hty with rfl|rfl
  ·exact Walks.strAscii hA it z t
  ·exact Walks.strWide hA it z t
 have nt:(["enumerate","zip","dict_itemiterator","dict_reverseitemiterator","odict_iterator","itertools.zip_longest","itertools.pairwise"].contains ty)=false:=by
  rcases hty with rfl|rfl<;>decide
 refine⟨by simp,fun i h st b hb=>?_,fun i h h' st k=>?_,?_,?_,?_⟩
 ·have e:b=it:=by simpa using hb
  subst e
  obtain⟨_,o,e,c,d⟩:=st
  exact⟨o,e,fun v q=>by rw[d]at q;cases q⟩
 ·obtain⟨hi,o,e,r⟩:=st
  exact⟨hi,o,k it (by simp) o e,r⟩
 ·intro X hP hw hK hc i pins s σ H E I hf st hg
  subst hP hw hK
  obtain⟨f0,f1,f2,f3,f4,f5⟩:=hf it (by simp)
  refine(W X.A (I.ok.hd hc)).item i s _ _ hg st.2 fun v h' tk hv st' kk=>?_
  obtain⟨c,u,hcp,rfl⟩:=hv
  have I1:Inv X pins σ H { s with heap:=h',toks:=tk }:=I.turned (fun b o hb e=>kk b o (by simpa using hb) e) f0 f1 f3 f4 f5
  obtain⟨o,e,co,d⟩:=id st'
  exact⟨_,rfl,nU (s:={ s with heap:=h',toks:=tk }) e co d nt ⟨.str (sgn c),H,I1,⟨u,rfl⟩,⟨rfl,c,hcp,rfl⟩,⟨hg,st'⟩,fun b hb=>(hf b hb).1⟩⟩
 ·intro X hP hw hK hc i pins s σ H E I hf st hg
  subst hP hw hK
  obtain⟨f0,f1,f2,f3,f4,f5⟩:=hf it (by simp)
  have e:i=z.cps.size:=Nat.le_antisymm st.1 hg
  subst e
  exact(W X.A (I.ok.hd hc)).done s _ _ st.2 fun h' tk kk=>⟨rfl,I.turned (fun b o hb e=>kk b o (by simpa using hb) e) f0 f1 f3 f4 f5⟩
 ·intro A i s Q E st h
  rcases hty with rfl|rfl
  ·exact wpAny_pyIter_striter_ascii st.2 h
  ·exact wpAny_pyIter_striter_wide st.2 h
end
section
variable {X:Cx}
noncomputable def Br:V->Option Int->Option Int->Hp->VK->Prop:=fun x lo hi H Q=>∃z,x = .str z/\z.length<=sizeLine/\Q (.str (Txt.slice z lo hi)) H
def w9:yB X Br:=by
 intro pins s σ H x v vl vu lo hi sl Q I rx hs pl pu h
 obtain⟨z,rfl,hz,q⟩:=h
 obtain⟨t,rfl⟩:=rx
 refine⟨"str",_,F.slot_str_getitem.lookup,typeIs_str _ _ _,?_⟩
 obtain⟨o,e,c,d⟩:=hs
 have fin:∀l u:Option (Int×Tok),(vl=partValue l/\lo=l.map (·.1))->(vu=partValue u/\hi=u.map (·.1))->wpAny (model X.prog X.w) X.A (getItem (.str z t) (.ref sl)) (EP X pins σ Q) X.xe s:=by
  rintro l u ⟨rfl,rfl⟩ ⟨rfl,rfl⟩
  exact wpAny_getItem_str_slice (l:=l) (u:=u) (st:=none) ⟨o,e,c,d⟩ rfl (post_val_or_str ⟨Nat.le_trans (Txt.slice_le z _ _) hz,fun t' k=>⟨.str _,H,I.tok k,⟨t',rfl⟩,q⟩⟩)
 cases pl with
 |none=>
  cases pu with
  |none=>exact fin none none ⟨rfl,rfl⟩ ⟨rfl,rfl⟩
  |int j uj=>exact fin none (some (j,uj)) ⟨rfl,rfl⟩ ⟨rfl,rfl⟩
 |int i ui=>
  cases pu with
  |none=>exact fin (some (i,ui)) none ⟨rfl,rfl⟩ ⟨rfl,rfl⟩
  |int j uj=>exact fin (some (i,ui)) (some (j,uj)) ⟨rfl,rfl⟩ ⟨rfl,rfl⟩
end
end L2
namespace Zt
open PySem
open Sem (wp)
def Si(kd:Bool)(h:Heap)(a t:Addr)(i:Nat):Prop:=cond kd (h.IsListIter a t i) (h.IsTupleIter a t i)
def Sq(kd:Bool)(h:Heap)(a:Addr)(xs:Vw):Prop:=cond kd (h.IsList a xs) (h.IsTuple a xs)
theorem Si.at{kd:Bool}{h h':Heap}{a t:Addr}{i:Nat}(x:Si kd h a t i)(e:∀o,h.get? a=some o->h'.get? a=some o):Si kd h' a t i:=match kd,x with|true,x=>Heap.IsListIter.at x e|false,x=>Heap.IsTupleIter.at x e
theorem Sq.at{kd:Bool}{h h':Heap}{a:Addr}{xs:Vw}(x:Sq kd h a xs)(e:∀o,h.get? a=some o->h'.get? a=some o):Sq kd h' a xs:=match kd,x with|true,x=>Heap.IsList.at x e|false,x=>Heap.IsTuple.at x e
def Sq.lt{kd:Bool}{h:Heap}{a:Addr}{xs:Vw}(x:Sq kd h a xs):a < h.objs.size:=match kd,x with|true,⟨_,e,_⟩=>Heap.lt_size e|false,⟨_,e,_⟩=>Heap.lt_size e
def Si.ob{kd:Bool}{h:Heap}{a t:Addr}{i:Nat}(x:Si kd h a t i):∃o f,h.get? a=some o/\o.data = .fields f:=match kd,x with|true,⟨o,e,_,d⟩=>⟨o,_,e,d⟩|false,⟨o,e,_,d⟩=>⟨o,_,e,d⟩
def Si.extBut{kd:Bool}{h h':Heap}{a c t:Addr}{i:Nat}(x:Si kd h a t i)(e:Heap.ExtBut c h h')(n:a≠c):Si kd h' a t i:=x.at fun _ q=>e _ _ n q
def Sq.extBut{kd:Bool}{h h':Heap}{a c:Addr}{xs:Vw}(x:Sq kd h a xs)(e:Heap.ExtBut c h h')(n:a≠c):Sq kd h' a xs:=x.at fun _ q=>e _ _ n q
section
variable {prog:Program} {w:World} {A:Around} {E:Vq} {s:Shared}
def nx{j t:Addr}{i:Nat}{its:Vw}{x:Value}{Q:Vq}(hj:s.heap.IsTupleIter j t i)(ht:s.heap.IsTuple t its)(hx:its[i]?=some x)
  (k:∀g:Heap,g.IsTupleIter j t (i+1)->Heap.SameBut j s.heap g->Q x { s with heap:=g }):wpAny (model prog w) A (Builtin.SmallTypes.nextOf (.ref j)) Q E s:=by
 obtain⟨ob,eb,kb,db⟩:=id hj
 obtain⟨oc,ec,_,nc,dc⟩:=ht
 unfold Builtin.SmallTypes.nextOf
 refine wpAny_bind (wpAny_callSpecial?_slot (name:=Str.ofString "__next__") hj.typeIs F.slot_tuple_iterator_next (wpAny_call_entry F.slot_tuple_iterator_next hj.typeIs F.entry_tuple_iterator_next ?_ (F.args_tuple_iterator_next_1 _)))
 show wpAny _ _ (field (.ref j) 0 >>= _) _ _ s;refine wpAny_bind (wpAny_field eb db (x:=.ref t) rfl ?_)
 show wpAny _ _ (if (Value.ref t == Value.none)=true then _ else _) _ _ s;rw[if_neg (show ¬((Value.ref t == Value.none)=true)from Bool.false_ne_true)]
 show wpAny _ _ (field (.ref j) 1 >>= _) _ _ s;refine wpAny_bind (wpAny_field eb db (x:=.int i 0) rfl ?_)
 show wpAny _ _ (seqItems? (.ref t) >>= _) _ _ s;refine wpAny_bind (wpAny_seqItems ec dc ?_)
 simp only[Int.toNat_natCast,hx];refine wpAny_bind (wpAny_setField eb db (by simp) (wpAny_pure ⟨x,rfl,wpAny_pure (k _ ?_ (Heap.SameBut.update ..))⟩))
 exact⟨_,Heap.get?_update_self _ eb (Obj.isFreed_of_fields (Obj.data_mapFields db _)),(Obj.cls_mapFields ..).trans kb,by rw[Obj.data_mapFields db];simp[rawInt]⟩
def B5{j t:Addr}{i:Nat}{its:Vw}{Q:Vq}(hh:A.handled=none)(hj:s.heap.IsTupleIter j t i)(ht:s.heap.IsTuple t its)(hx:its[i]?=none)
  (k:∀(g:Heap) (e:Addr),Heap.ExtBut j s.heap g->(∃o,g.get? e=some o/\o.cls = .type "StopIteration")->E (.ref e) { s with heap:=g }):wpAny (model prog w) A (Builtin.SmallTypes.nextOf (.ref j)) Q E s:=by
 obtain⟨ob,eb,kb,db⟩:=id hj
 obtain⟨oc,ec,_,nc,dc⟩:=ht
 unfold Builtin.SmallTypes.nextOf
 refine wpAny_bind (wpAny_callSpecial?_slot (name:=Str.ofString "__next__") hj.typeIs F.slot_tuple_iterator_next (wpAny_call_entry F.slot_tuple_iterator_next hj.typeIs F.entry_tuple_iterator_next ?_ (F.args_tuple_iterator_next_1 _)))
 show wpAny _ _ (field (.ref j) 0 >>= _) _ _ s;refine wpAny_bind (wpAny_field eb db (x:=.ref t) rfl ?_)
 show wpAny _ _ (if (Value.ref t == Value.none)=true then _ else _) _ _ s;rw[if_neg (show ¬((Value.ref t == Value.none)=true)from Bool.false_ne_true)]
 show wpAny _ _ (field (.ref j) 1 >>= _) _ _ s;refine wpAny_bind (wpAny_field eb db (x:=.int i 0) rfl ?_)
 show wpAny _ _ (seqItems? (.ref t) >>= _) _ _ s;refine wpAny_bind (wpAny_seqItems ec dc ?_)
 simp only[Int.toNat_natCast,hx];refine wpAny_bind (wpAny_rule (wpAny_bind (wpAny_setField eb db (by simp) ?_)))
 show wpAny _ _ (newExc (.type "StopIteration") [] >>= _) _ _ _;refine wpAny_bind ?_
 simp only[newExc,newTuple];refine wpAny_bind (wpAny_newObj_type ?_ (by size_fits))
 refine wpAny_bind (m:=firstArgMember _ _) (wpAny_of_eq (a:=Value.none) (by first|rfl|(simp only[firstArgMember];rfl)) ?_);refine wpAny_newObj_type ?_ (by size_fits)
 simp only[raiseNew];refine wpAny_bind (wpAny_handled ?_)
 first|(rw[hh])|(rw[show A.in1.handled=none from hh])
 exact wpAny_bind (wpAny_pure (wpAny_throw (k _ _ (((Heap.SameBut.update ..).extBut.push _).push _) ⟨_,Heap.get?_push_size _ rfl,rfl⟩)))
def Bt{kd:Bool}{j t:Addr}{i:Nat}{its:Vw}{x:Value}{Q:Vq}(hj:Si kd s.heap j t i)(ht:Sq kd s.heap t its)(hx:its[i]?=some x)
  (k:∀g:Heap,Si kd g j t (i+1)->Heap.SameBut j s.heap g->Q x { s with heap:=g }):wpAny (model prog w) A (Builtin.SmallTypes.nextOf (.ref j)) Q E s:=by
 cases kd with
 |true=>exact wpAny_nextOf_list_item hj ht hx k
 |false=>exact nx hj ht hx k
def zp{kd:Bool}{j t:Addr}{i:Nat}{its:Vw}{Q:Vq}(hh:A.handled=none)(hj:Si kd s.heap j t i)(ht:Sq kd s.heap t its)(hx:its[i]?=none)
  (k:∀(g:Heap) (e:Addr),Heap.ExtBut j s.heap g->(∃o,g.get? e=some o/\o.cls = .type "StopIteration")->E (.ref e) { s with heap:=g }):wpAny (model prog w) A (Builtin.SmallTypes.nextOf (.ref j)) Q E s:=by
 cases kd with
 |true=>exact wpAny_nextOf_list_end hh hj ht hx k
 |false=>exact B5 hh hj ht hx k
variable {ka kb:Bool} {z TI TO i1 i2 l1 l2:Addr} {k1 k2:Nat} {xs ys:Vw} {x y a b:Value}
def uy{Q:Vq}(D:ZipApart z TI TO i1 i2 l1 l2)(gz:IsZip s.heap z TI TO .none)(gI:IsPair s.heap TI (.ref i1) (.ref i2))(gO:IsPair s.heap TO a b)
  (g1:Si ka s.heap i1 l1 k1) (g2:Si kb s.heap i2 l2 k2) (t1:Sq ka s.heap l1 xs) (t2:Sq kb s.heap l2 ys) (hx:xs[k1]?=some x) (hy:ys[k2]?=some y)
  (k:∀g,IsZip g z TI TO (rawInt s.heap.objs.size)->IsPair g TO x y->Si ka g i1 l1 (k1+1)->Si kb g i2 l2 (k2+1)->IsPair g s.heap.objs.size x y->
   (∀c o,c≠z->c≠TO->c≠i1->c≠i2->s.heap.get? c=some o->g.get? c=some o)->Q (.ref s.heap.objs.size) { s with heap:=g }) :
  wpAny (model prog w) A (Builtin.«zip.__next__» ⟨[.ref z],[]⟩) (fun fin s'=>∃v,fin = .done (.ret v)/\Q v s') E s:=by
 show wpAny _ _ (field (.ref z) 2 >>= _) _ _ _;refine wpAny_bind (wpAny_field gz rfl (x:=.bool false) rfl ?_)
 show wpAny _ _ (field (.ref z) 3 >>= _) _ _ _;refine wpAny_bind (wpAny_field gz rfl (x:=.ref TI) rfl (wpAny_bind (wpAny_seqItems gI rfl ?_)))
 show wpAny _ _ (Builtin.SmallTypes.ownedTupleIsFree (.ref z) >>= _) _ _ _;refine wpAny_bind ?_;unfold Builtin.SmallTypes.ownedTupleIsFree
 refine wpAny_bind (wpAny_field gz rfl (x:=.none) rfl (wpAny_pure ?_));simp only[if_true]
 refine wpAny_bind (wpAny_rule (wpAny_bind (wpAny_field gz rfl (x:=.ref TO) rfl (wpAny_bind (wpAny_setField_rec gz (by simp) fun h₁ z1 q1=>?_)))))
 replace z1:IsZip h₁ z TI TO .ellipsis:=z1
 refine wpAny_bind ?_;simp only[List.zipIdx_cons,List.zipIdx_nil,List.forIn_cons,List.forIn_nil]
 refine wpAny_bind (wpAny_bind (wpAny_onRaise ?_));show wpAny _ _ (Builtin.SmallTypes.nextOf (.ref i1) >>= _) _ _ _
 refine wpAny_bind (Bt (g1.extBut q1.extBut D.i1z) (t1.extBut q1.extBut D.l1z) hx fun h₂ n1 q2=>wpAny_pure ?_)
 have o2:IsPair h₂ TO a b:=q2.extBut _ _ D.TOi1 (q1.extBut _ _ D.TOz gO)
 refine wpAny_bind (wpAny_seqItems o2 rfl (wpAny_bind (wpAny_updateSeq_pair o2 fun h₃ o3 q3=>?_)))
 replace o3:IsPair h₃ TO x b:=o3
 refine wpAny_bind (wpAny_letGo (wpAny_pure ?_));refine wpAny_bind (wpAny_bind (wpAny_onRaise ?_));show wpAny _ _ (Builtin.SmallTypes.nextOf (.ref i2) >>= _) _ _ _
 refine wpAny_bind (Bt (((g2.extBut q1.extBut D.i2z).extBut q2.extBut D.i12.symm).extBut q3.extBut D.TOi2.symm) (((t2.extBut q1.extBut D.l2z).extBut q2.extBut D.l2i1).extBut q3.extBut D.l2TO) hy fun h₄ n2 q4=>wpAny_pure ?_)
 have o4:IsPair h₄ TO x b:=q4.extBut _ _ D.TOi2 o3
 refine wpAny_bind (wpAny_seqItems o4 rfl (wpAny_bind (wpAny_updateSeq_pair o4 fun h₅ o5 q5=>?_)))
 replace o5:IsPair h₅ TO x y:=o5
 refine wpAny_bind (wpAny_letGo (wpAny_pure (wpAny_pure ?_)));refine wpAny_bind (wpAny_seqItems o5 rfl (wpAny_bind (wpAny_newTuple ?_)))
 have sz:h₅.objs.size=s.heap.objs.size:=by rw[q5.1,q4.1,q3.1,q2.1,q1.1]
 have z5:IsZip h₅ z TI TO .ellipsis:=q5.extBut _ _ D.TOz.symm (q4.extBut _ _ D.i2z.symm (q3.extBut _ _ D.TOz.symm (q2.extBut _ _ D.i1z.symm z1)))
 have kk:∀c o,c≠z->c≠TO->c≠i1->c≠i2->s.heap.get? c=some o->h₅.get? c=some o:=fun c o c1 c2 c3 c4 e=>q5.extBut _ _ c2 (q4.extBut _ _ c4 (q3.extBut _ _ c2 (q2.extBut _ _ c3 (q1.extBut _ _ c1 e))))
 have m1:Si ka h₅ i1 l1 (k1+1):=((n1.extBut q3.extBut D.TOi1.symm).extBut q4.extBut D.i12).extBut q5.extBut D.TOi1.symm
 have m2:Si kb h₅ i2 l2 (k2+1):=n2.extBut q5.extBut D.TOi2.symm
 have zl:z < h₅.objs.size:=Heap.lt_size z5
 show wpAny _ _ (Builtin.SmallTypes.ownedTupleHandOut (.ref z) (.ref h₅.objs.size) >>= _) _ _ _;refine wpAny_bind ?_;unfold Builtin.SmallTypes.ownedTupleHandOut
 have z6:IsZip (h₅.push { cls:=.type "tuple",data:=.seq #[x,y] }) z TI TO .ellipsis:=Heap.get?_push_of_some _ z5
 refine wpAny_bind (wpAny_setField_rec z6 (by simp) fun h₇ z7 q7=>?_)
 replace z7:IsZip h₇ z TI TO (rawInt h₅.objs.size):=z7
 refine wpAny_setField_rec z7 (by simp) fun h₈ z8 q8=>?_
 replace z8:IsZip h₈ z TI TO (rawInt h₅.objs.size):=z8
 have up:∀c o,c≠z->h₅.get? c=some o->h₈.get? c=some o:=fun c o c1 e=>q8.extBut _ _ c1 (q7.extBut _ _ c1 (Heap.get?_push_of_some _ e))
 have T8:IsPair h₈ h₅.objs.size x y:=q8.extBut _ _ (Nat.ne_of_gt zl) (q7.extBut _ _ (Nat.ne_of_gt zl) (Heap.get?_push_size _ rfl))
 rw[sz]at z8 T8
 refine wpAny_pure ⟨_,rfl,?_⟩
 show Q (.ref h₅.objs.size) _
 rw[sz]
 exact k h₈ z8 (up _ _ D.TOz o5) (m1.at fun o e=>up _ o D.i1z e) (m2.at fun o e=>up _ o D.i2z e) T8 fun c o c1 c2 c3 c4 e=>up c o c1 (kk c o c1 c2 c3 c4 e)
def w_{Q:Fin->Shared->Prop}(hh:A.handled=none)(D:ZipApart z TI TO i1 i2 l1 l2)(gz:IsZip s.heap z TI TO .none)(gI:IsPair s.heap TI (.ref i1) (.ref i2))(gO:IsPair s.heap TO a b)
  (g1:Si ka s.heap i1 l1 k1) (g2:Si kb s.heap i2 l2 k2) (t1:Sq ka s.heap l1 xs) (t2:Sq kb s.heap l2 ys) (he:xs[k1]?=none\/ys[k2]?=none)
  (k:∀(g:Heap) (e:Addr),(∀c o,c≠z->c≠TO->c≠i1->c≠i2->s.heap.get? c=some o->g.get? c=some o)->(∃o,g.get? e=some o/\o.cls = .type "StopIteration")->E (.ref e) { s with heap:=g }) :
  wpAny (model prog w) A (Builtin.«zip.__next__» ⟨[.ref z],[]⟩) Q E s:=by
 show wpAny _ _ (field (.ref z) 2 >>= _) _ _ _;refine wpAny_bind (wpAny_field gz rfl (x:=.bool false) rfl ?_)
 show wpAny _ _ (field (.ref z) 3 >>= _) _ _ _;refine wpAny_bind (wpAny_field gz rfl (x:=.ref TI) rfl (wpAny_bind (wpAny_seqItems gI rfl ?_)))
 show wpAny _ _ (Builtin.SmallTypes.ownedTupleIsFree (.ref z) >>= _) _ _ _;refine wpAny_bind ?_;unfold Builtin.SmallTypes.ownedTupleIsFree
 refine wpAny_bind (wpAny_field gz rfl (x:=.none) rfl (wpAny_pure ?_));simp only[if_true]
 refine wpAny_bind (wpAny_rule (wpAny_bind (wpAny_field gz rfl (x:=.ref TO) rfl (wpAny_bind (wpAny_setField_rec gz (by simp) fun h₁ z1 q1=>?_)))))
 replace z1:IsZip h₁ z TI TO .ellipsis:=z1
 refine wpAny_bind ?_;simp only[List.zipIdx_cons,List.zipIdx_nil,List.forIn_cons,List.forIn_nil]
 refine wpAny_bind (wpAny_bind (wpAny_onRaise ?_));show wpAny _ _ (Builtin.SmallTypes.nextOf (.ref i1) >>= _) _ _ _
 cases hx:xs[k1]? with
 |none=>
  refine wpAny_bind (zp hh (g1.extBut q1.extBut D.i1z) (t1.extBut q1.extBut D.l1z) hx fun h₂ e q2 ⟨oe,ge,ce⟩=>?_)
  have z2:IsZip h₂ z TI TO .ellipsis:=q2 _ _ D.i1z.symm z1
  have ez:e≠z:=fun u=>by subst u;rw[z2]at ge;cases ge;simp at ce
  exact wpAny_setField_rec z2 (by simp) fun h₃ _ q3=>k h₃ e (fun c o c1 _ c3 _ u=>q3.extBut _ _ c1 (q2 _ _ c3 (q1.extBut _ _ c1 u))) ⟨oe,q3.extBut _ _ ez ge,ce⟩
 |some x=>
  have hy:ys[k2]?=none:=he.elim (fun q=>by rw[hx]at q;cases q) id
  refine wpAny_bind (Bt (g1.extBut q1.extBut D.i1z) (t1.extBut q1.extBut D.l1z) hx fun h₂ n1 q2=>wpAny_pure ?_)
  have o2:IsPair h₂ TO a b:=q2.extBut _ _ D.TOi1 (q1.extBut _ _ D.TOz gO)
  refine wpAny_bind (wpAny_seqItems o2 rfl (wpAny_bind (wpAny_updateSeq_pair o2 fun h₃ o3 q3=>?_)))
  refine wpAny_bind (wpAny_letGo (wpAny_pure ?_));refine wpAny_bind (wpAny_bind (wpAny_onRaise ?_));show wpAny _ _ (Builtin.SmallTypes.nextOf (.ref i2) >>= _) _ _ _
  refine wpAny_bind (zp hh (((g2.extBut q1.extBut D.i2z).extBut q2.extBut D.i12.symm).extBut q3.extBut D.TOi2.symm) (((t2.extBut q1.extBut D.l2z).extBut q2.extBut D.l2i1).extBut q3.extBut D.l2TO) hy fun h₄ e q4 ⟨oe,ge,ce⟩=>?_)
  have z4:IsZip h₄ z TI TO .ellipsis:=q4 _ _ D.i2z.symm (q3.extBut _ _ D.TOz.symm (q2.extBut _ _ D.i1z.symm z1))
  have ez:e≠z:=fun u=>by subst u;rw[z4]at ge;cases ge;simp at ce
  exact wpAny_setField_rec z4 (by simp) fun h₅ _ q5=>k h₅ e (fun c o c1 c2 c3 c4 u=>q5.extBut _ _ c1 (q4 _ _ c4 (q3.extBut _ _ c2 (q2.extBut _ _ c3 (q1.extBut _ _ c1 u))))) ⟨oe,q5.extBut _ _ ez ge,ce⟩
def pF{Q:Option Value->Shared->Prop}(D:ZipApart z TI TO i1 i2 l1 l2)(gz:IsZip s.heap z TI TO .none)(gI:IsPair s.heap TI (.ref i1) (.ref i2))(gO:IsPair s.heap TO a b)
  (g1:Si ka s.heap i1 l1 k1) (g2:Si kb s.heap i2 l2 k2) (t1:Sq ka s.heap l1 xs) (t2:Sq kb s.heap l2 ys) (hx:xs[k1]?=some x) (hy:ys[k2]?=some y)
  (k:∀g,IsZip g z TI TO (rawInt s.heap.objs.size)->IsPair g TO x y->Si ka g i1 l1 (k1+1)->Si kb g i2 l2 (k2+1)->IsPair g s.heap.objs.size x y->
   (∀c o,c≠z->c≠TO->c≠i1->c≠i2->s.heap.get? c=some o->g.get? c=some o)->Q (some (.ref s.heap.objs.size)) { s with heap:=g }):wpAny (model prog w) A (pyNext (.ref z)) Q E s:=by
 have ty:s.TypeIs (.ref z) "zip":=⟨_,gz,rfl⟩
 unfold pyNext
 exact wpAny_bind (wpAny_attempt (wpAny_callSpecial?_slot (name:=Str.ofString "__next__") ty F.slot_zip_next (wpAny_call_entry F.slot_zip_next ty F.entry_zip_next
  (uy D gz gI gO g1 g2 t1 t2 hx hy fun g a1 a2 a3 a4 a5 a6=>wpAny_pure (k g a1 a2 a3 a4 a5 a6)) (F.args_zip_next_1 _))))
def q9{Q:Option Value->Shared->Prop}(hh:A.handled=none)(D:ZipApart z TI TO i1 i2 l1 l2)(gz:IsZip s.heap z TI TO .none)(gI:IsPair s.heap TI (.ref i1) (.ref i2))(gO:IsPair s.heap TO a b)
  (g1:Si ka s.heap i1 l1 k1) (g2:Si kb s.heap i2 l2 k2) (t1:Sq ka s.heap l1 xs) (t2:Sq kb s.heap l2 ys) (he:xs[k1]?=none\/ys[k2]?=none)
  (k:∀g:Heap,(∀c o,c≠z->c≠TO->c≠i1->c≠i2->s.heap.get? c=some o->g.get? c=some o)->Q none { s with heap:=g }):wpAny (model prog w) A (pyNext (.ref z)) Q E s:=by
 have ty:s.TypeIs (.ref z) "zip":=⟨_,gz,rfl⟩
 unfold pyNext
 refine wpAny_bind (wpAny_attempt (wpAny_callSpecial?_slot (name:=Str.ofString "__next__") ty F.slot_zip_next (wpAny_call_entry F.slot_zip_next ty F.entry_zip_next (w_ hh D gz gI gO g1 g2 t1 t2 he fun g e kk ⟨o,ho,hc⟩=>?_) (F.args_zip_next_1 _))))
 exact wpAny_bind (wpAny_isInstance (T:="StopIteration") (b:=true) ⟨o,ho,hc⟩ isSubtype_stop (wpAny_pure (k _ kk)))
end
noncomputable abbrev it(kd:Bool)(l:Addr):Obj:={ cls:=.type (cond kd "list_iterator" "tuple_iterator"),data:=.fields #[.ref l,.int 0 0] }
def Si.mk{kd:Bool}{h:Heap}{a l:Addr}(e:h.get? a=some (it kd l)):Si kd h a l 0:=match kd,e with|true,e=>⟨_,e,rfl,rfl⟩|false,e=>⟨_,e,rfl,rfl⟩
noncomputable abbrev H1(ka:Bool)(h:Heap)(l1:Addr):Heap:=h.push (it ka l1)
noncomputable abbrev H2(ka kb:Bool)(h:Heap)(l1 l2:Addr):Heap:=(H1 ka h l1).push (it kb l2)
noncomputable abbrev H3(ka kb:Bool)(h:Heap)(l1 l2:Addr):Heap:=(H2 ka kb h l1 l2).push { cls:=.type "tuple",data:=.seq #[.ref h.objs.size,.ref (H1 ka h l1).objs.size] }
noncomputable abbrev H4(ka kb:Bool)(h:Heap)(l1 l2:Addr):Heap:=(H3 ka kb h l1 l2).push { cls:=.type "tuple",data:=.seq #[.none,.none] }
noncomputable abbrev H5(ka kb:Bool)(h:Heap)(l1 l2:Addr):Heap:=(H4 ka kb h l1 l2).push { cls:=.type "zip",data:=.fields #[.none,.bool false,.bool false,.ref (H2 ka kb h l1 l2).objs.size,.ref (H3 ka kb h l1 l2).objs.size] }
def g7(ka kb:Bool)(l1 l2:Addr)(xs ys:Vw) :
  Meets (Builtin.«zip.__new__» ⟨[.type "zip",.ref l1,.ref l2],[]⟩) (fun _ R s=>Sq ka s.heap l1 xs/\Sq kb s.heap l2 ys/\R (.ok (.ret (.ref (H4 ka kb s.heap l1 l2).objs.size))) { s with heap:=H5 ka kb s.heap l1 l2 }):=
 .of_wp fun prog w A R s h=>by
  obtain⟨hp,g,d,tk,os⟩:=s;obtain⟨e1,e2,h⟩:=h
  have hsub:=sub_zip
  match ka,kb,e1,e2,h with
  |false,false,e1,e2,h=>
   have L1:Heap.IsTuple (Shared.heap ⟨hp,g,d,tk,os⟩) l1 xs:=e1
   have L2:Heap.IsTuple (Shared.heap ⟨hp.push { cls:=.type "tuple_iterator",data:=.fields #[.ref l1,.int 0 0] },g,d,tk,os⟩) l2 ys:=Heap.IsTuple.push e2 _
   wp_walk using wpAny_pyIter_tuple L1,wpAny_pyIter_tuple L2
   exact⟨_,rfl,h⟩
  |false,true,e1,e2,h=>
   have L1:Heap.IsTuple (Shared.heap ⟨hp,g,d,tk,os⟩) l1 xs:=e1
   have L2:Heap.IsList (Shared.heap ⟨hp.push { cls:=.type "tuple_iterator",data:=.fields #[.ref l1,.int 0 0] },g,d,tk,os⟩) l2 ys:=Heap.IsList.push e2 _
   wp_walk using wpAny_pyIter_tuple L1,wpAny_pyIter_list L2
   exact⟨_,rfl,h⟩
  |true,false,e1,e2,h=>
   have L1:Heap.IsList (Shared.heap ⟨hp,g,d,tk,os⟩) l1 xs:=e1
   have L2:Heap.IsTuple (Shared.heap ⟨hp.push { cls:=.type "list_iterator",data:=.fields #[.ref l1,.int 0 0] },g,d,tk,os⟩) l2 ys:=Heap.IsTuple.push e2 _
   wp_walk using wpAny_pyIter_list L1,wpAny_pyIter_tuple L2
   exact⟨_,rfl,h⟩
  |true,true,e1,e2,h=>
   have L1:Heap.IsList (Shared.heap ⟨hp,g,d,tk,os⟩) l1 xs:=e1
   have L2:Heap.IsList (Shared.heap ⟨hp.push { cls:=.type "list_iterator",data:=.fields #[.ref l1,.int 0 0] },g,d,tk,os⟩) l2 ys:=Heap.IsList.push e2 _
   wp_walk using wpAny_pyIter_list L1,wpAny_pyIter_list L2
   exact⟨_,rfl,h⟩
section
variable {ka kb:Bool} {prog:Program} {w:World} {A:Around} {E:Vq} {s:Shared}
def i9{l1 l2:Addr}{xs ys:Vw}{Q:Vq}(e1:Sq ka s.heap l1 xs)(e2:Sq kb s.heap l2 ys)
  (k:∀g,IsZip g (s.heap.objs.size+4) (s.heap.objs.size+2) (s.heap.objs.size+3) .none->IsPair g (s.heap.objs.size+2) (.ref s.heap.objs.size) (.ref (s.heap.objs.size+1))->
   IsPair g (s.heap.objs.size+3) .none .none->Si ka g s.heap.objs.size l1 0->Si kb g (s.heap.objs.size+1) l2 0->
   (∀c o,s.heap.get? c=some o->g.get? c=some o)->Q (.ref (s.heap.objs.size+4)) { s with heap:=g }) :
  wpAny (model prog w) A (call (.type "zip") [.ref l1,.ref l2]) Q E s:=by
 refine callType_new F.called_zip (by decide) (F.typeCall_zip_2 _ _) (F.newCall_zip_2 _ _) (fun obj=>F.args_object_init_3 obj _ _) F.entry_zip_new (g7 ka kb l1 l2 xs ys) ⟨e1,e2,?_⟩
 have z1:(H1 ka s.heap l1).objs.size=s.heap.objs.size+1:=Heap.size_push ..
 have z2:(H2 ka kb s.heap l1 l2).objs.size=s.heap.objs.size+2:=by rw[Heap.size_push,z1]
 have z3:(H3 ka kb s.heap l1 l2).objs.size=s.heap.objs.size+3:=by rw[Heap.size_push,z2]
 have z4:(H4 ka kb s.heap l1 l2).objs.size=s.heap.objs.size+4:=by rw[Heap.size_push,z3]
 have g5:(H5 ka kb s.heap l1 l2).get? (H4 ka kb s.heap l1 l2).objs.size=some _:=Heap.get?_push_size _ rfl
 have g4:(H5 ka kb s.heap l1 l2).get? (H3 ka kb s.heap l1 l2).objs.size=some _:=Heap.get?_push_of_some _ (Heap.get?_push_size _ rfl)
 have g3:(H5 ka kb s.heap l1 l2).get? (H2 ka kb s.heap l1 l2).objs.size=some _:=Heap.get?_push_of_some _ (Heap.get?_push_of_some _ (Heap.get?_push_size _ rfl))
 have g2:(H5 ka kb s.heap l1 l2).get? (H1 ka s.heap l1).objs.size=some _:=Heap.get?_push_of_some _ (Heap.get?_push_of_some _ (Heap.get?_push_of_some _ (Heap.get?_push_size _ rfl)))
 have g1:(H5 ka kb s.heap l1 l2).get? s.heap.objs.size=some _:=Heap.get?_push_of_some _ (Heap.get?_push_of_some _ (Heap.get?_push_of_some _ (Heap.get?_push_of_some _ (Heap.get?_push_size _ rfl))))
 show _/\_
 rw[z2,z3,z4]at g5
 rw[z1,z2]at g3
 rw[z3]at g4
 rw[z1]at g2
 rw[z4]
 exact⟨⟨_,g5,rfl⟩,k _ g5 g3 g4 (.mk g1) (.mk g2) fun c o e=>Heap.get?_push_of_some _ (Heap.get?_push_of_some _ (Heap.get?_push_of_some _ (Heap.get?_push_of_some _ (Heap.get?_push_of_some _ e))))⟩
end
end Zt
namespace L2
open PySem PySem.Spec PyProof.Rows
section
variable {X:Cx} {pins:Va} {σ:St} {H:Hp} {s:Shared} {h':Heap}
def Inv.DX{t':Nat}{fp:List Addr}(I:Inv X pins σ H s)(k:∀b o,b ∉ fp->s.heap.get? b=some o->h'.get? b=some o)(hf:∀b∈fp,eN X pins H b):Inv X pins σ H { s with heap:=h',toks:=t' }:=by
 have HC:∀b u,H b=some u->b ∉ fp:=fun b u e z=>by rw[(hf b z).1]at e;cases e
 refine I.step (g':=s.gens) (d':=s.drawn) (ch:=fp) (fun b hb=>?_) (fun b o _ _ hc e _=>k b o hc e) (fun b o _ _ hc e _=>⟨o.slots,k b o hc e⟩) (fun _ _ _ _ n=>n)
  (fun b o hc e=>⟨o,k b o hc e⟩) (fun _ _ e=>e) (fun _ _ _ e=>e) (fun b ps e=>⟨#[],by rw[e];simp⟩) (fun m hm=>?_) (fun b u e=>?_) I.bare
 ·obtain⟨f0,f1,f2,f3,f4,f5⟩:=hf b hb
  exact⟨f3,f1,f4,f5⟩
 ·obtain⟨o,es,ep,ho,r⟩:=hm
  exact⟨o,es,ep,k _ o (fun z=>(hf _ z).2.1 rfl) ho,r⟩
 ·refine(I.hok b u e).stay (fun c v hc q=>k c v ?_ q) (fun _ q=>q) fun _ _ q=>q
  rcases hc with z|z
  ·rw[z];exact HC b u e
  ·exact HC c _ z
def Inv.Fu{D:Addr}{us:Vv}{ys:List V}(I:Inv X pins σ H s)(f:eN X pins H D)(e:Dh s.heap D us.toArray)(r:Vals ys us)(hz:ys.length<=sizeLine) :
  Inv X pins σ (upd H D (.tup ys)) s:=by
 obtain⟨f0,f1,f2,f3,f4,f5⟩:=f
 have nD:∀b u,H b=some u->b≠D:=fun b u q=>aV q f0
 have hok:Ea X.prog X.w (upd H D (.tup ys)) s.heap:=fun b u q=>by
  by_cases hb:b=D
  ·subst hb
   rw[ax]at q
   cases q
   exact⟨hz,us,r,e⟩
  ·rw[ay hb]at q
   exact(I.hok b u q).stay (fun _ _ _ z=>z) (fun c z=>by rw[ay (nD c _ z)];exact z) fun c xs z=>by rw[ay (nD c _ z)];exact z
 exact I.step (H':=upd H D (.tup ys)) (h':=s.heap) (g':=s.gens) (t':=s.toks) (d':=s.drawn) (ch:=[D])
  (fun b hb=>by
   have z:b=D:=by simpa using hb
   subst z
   exact⟨f3,f1,f4,f5⟩)
  (fun _ _ _ _ _ q _=>q) (fun _ o _ _ _ q _=>⟨o.slots,q⟩)
  (fun b o hb _ n=>by rw[ay (fun z=>hb (by simp[z]))];exact n)
  (fun _ o _ q=>⟨o,q⟩) (fun b xs q=>by rw[ay (nD b _ q)];exact q) (fun b o u q=>by rw[ay (nD b _ q)];exact q)
  (fun b ps q=>⟨#[],by rw[ay (nD b _ q),q];simp⟩) (fun _ q=>q) hok I.bare
end
def pG(kd:Bool)(K:Vo)(H:Hp)(a:Addr)(xs:List V):Prop:=cond kd (SqL K H a xs) (SqT K H a xs)
def Inv.FP{X:Cx}{pins:Va}{σ:St}{H:Hp}{s:Shared}{kd:Bool}{a:Addr}{xs:List V}(I:Inv X pins σ H s)(h:pG kd X.K H a xs):∃its:List Value,Vals xs its/\Zt.Sq kd s.heap a its.toArray:=by
 cases kd with
 |true=>obtain⟨i,r,p,z⟩:=I.list h;exact⟨i,r,p.isList⟩
 |false=>obtain⟨i,r,p,z⟩:=I.tuple h;exact⟨i,r,p⟩
def Inv.Fj{X:Cx}{pins:Va}{σ:St}{H:Hp}{s:Shared}{kd:Bool}{a:Addr}{xs ys:List V}(I:Inv X pins σ H s)(h:pG kd X.K H a xs)(g:pG kd X.K H a ys):xs=ys:=by
 cases kd with
 |true=>exact I.EE h g
 |false=>exact I.Er h g
noncomputable def Bu(ka kb:Bool)(K:Vo)(a b:Addr):It:=
  ⟨fun i H=>∃xs ys x y,pG ka K H a xs/\pG kb K H b ys/\xs[i]?=some x/\ys[i]?=some y,
   fun i H v H'=>∃p x y,v = .ref p/\H p=none/\H'=upd H p (.tup [x,y])/\∀xs ys,pG ka K H a xs->pG kb K H b ys->xs[i]?=some x/\ys[i]?=some y,
   fun i H=>∃xs ys,pG ka K H a xs/\pG kb K H b ys/\(xs.length<=i\/ys.length<=i)⟩
def q_{ka kb:Bool}{P:Program}{w:World}{K:Vo}{elts:List Expr}{k0:Nat}{Ee:Pos}{z TI TO i1 i2 a b:Addr}(D:ZipApart z TI TO i1 i2 a b) :
  ki P w K (.Tuple elts k0 Ee) (Bu ka kb K a b) [z,TI,TO,i1,i2] z (fun i h=>IsZip h z TI TO .none/\IsPair h TI (.ref i1) (.ref i2)/\(∃x y,IsPair h TO x y)/\Zt.Si ka h i1 a i/\Zt.Si kb h i2 b i) where
 mem:=by simp
 obj:=fun i h st c hc=>by
  obtain⟨gz,gI,⟨x,y,gO⟩,g1,g2⟩:=st
  obtain⟨o1,_,e1,d1⟩:=g1.ob;obtain⟨o2,_,e2,d2⟩:=g2.ob
  simp only[List.mem_cons,List.not_mem_nil,or_false]at hc
  rcases hc with rfl|rfl|rfl|rfl|rfl
  ·exact⟨_,gz,fun v q=>by cases q⟩
  ·exact⟨_,gI,fun v q=>by cases q⟩
  ·exact⟨_,gO,fun v q=>by cases q⟩
  ·exact⟨_,e1,fun v q=>by rw[d1]at q;cases q⟩
  ·exact⟨_,e2,fun v q=>by rw[d2]at q;cases q⟩
 keep:=fun i h h' st k=>by
  obtain⟨gz,gI,⟨x,y,gO⟩,g1,g2⟩:=st
  exact⟨k z (by simp) _ gz,k TI (by simp) _ gI,⟨x,y,k TO (by simp) _ gO⟩,g1.at fun o e=>k i1 (by simp) o e,g2.at fun o e=>k i2 (by simp) o e⟩
 item:=by
  intro X hP hw hK hc i pins s σ H E I hf st hg
  subst hP hw hK
  obtain⟨gz,gI,⟨ta,tb,gO⟩,g1,g2⟩:=st
  obtain⟨xs,ys,x,y,FG,Io,hx,hy⟩:=hg
  obtain⟨ia,ra,pa⟩:=I.FP FG
  obtain⟨ib,rb,pb⟩:=I.FP Io
  obtain⟨u,hu,ru⟩:=ra.get hx
  obtain⟨v,hv,rv⟩:=rb.get hy
  refine Zt.pF D gz gI gO g1 g2 pa pb (x:=u) (y:=v) (by simpa using hu) (by simpa using hv) fun g a1 a2 a3 a4 a5 a6=>?_
  refine⟨_,rfl,wpAny_letOwnedTupleGo_zip (s:={ s with heap:=g }) a1 fun g' z' q'=>?_⟩
  have kk:∀c o,c ∉ [z,TI,TO,i1,i2]->s.heap.get? c=some o->g'.get? c=some o:=fun c o hc e=>by
   simp only[List.mem_cons,List.not_mem_nil,or_false,not_or]at hc
   exact q'.extBut _ _ hc.1 (a6 c o hc.1 hc.2.2.1 hc.2.2.2.1 hc.2.2.2.2 e)
  have I1:Inv X pins σ H { s with heap:=g' }:=I.DX (t':=s.toks) kk hf
  have f0:eN X pins H s.heap.objs.size:=I.EA (Nat.le_refl _) (I.hok.fresh (Nat.le_refl _))
  have eT:Dh g' s.heap.objs.size [u,v].toArray:=⟨_,q'.extBut _ _ (Nat.ne_of_gt (Heap.lt_size gz)) a5,rfl,rfl,_,rfl⟩
  have I2:=I1.Fu f0 eT (.cons ru (.cons rv .nil)) (by show 2<=sizeLine;decide)
  refine⟨.ref s.heap.objs.size,_,I2,rfl,⟨s.heap.objs.size,x,y,rfl,f0.1,rfl,fun xs' ys' h1 h2=>by rw[I.Fj h1 FG,I.Fj h2 Io];exact⟨hx,hy⟩⟩,
   ⟨z',q'.extBut _ _ D.TIz (a6 TI _ D.TIz D.TITO D.TIi1 D.TIi2 gI),⟨_,_,q'.extBut _ _ D.TOz a2⟩,a3.extBut q'.extBut D.i1z,a4.extBut q'.extBut D.i2z⟩,fun c hc=>?_⟩
  have hlt:c < s.heap.objs.size:=by
   obtain⟨_,_,e1,_⟩:=g1.ob
   obtain⟨_,_,e2,_⟩:=g2.ob
   simp only[List.mem_cons,List.not_mem_nil,or_false]at hc
   rcases hc with rfl|rfl|rfl|rfl|rfl
   ·exact Heap.lt_size gz
   ·exact Heap.lt_size gI
   ·exact Heap.lt_size gO
   ·exact Heap.lt_size e1
   ·exact Heap.lt_size e2
  rw[ay (Nat.ne_of_lt hlt)]
  exact(hf c hc).1
 done:=by
  intro X hP hw hK hc i pins s σ H E I hf st hg
  subst hP hw hK
  obtain⟨gz,gI,⟨ta,tb,gO⟩,g1,g2⟩:=st
  obtain⟨xs,ys,FG,Io,hl⟩:=hg
  obtain⟨ia,ra,pa⟩:=I.FP FG
  obtain⟨ib,rb,pb⟩:=I.FP Io
  have la:=ra.length
  have lb:=rb.length
  refine Zt.q9 (I.ok.hd hc) D gz gI gO g1 g2 pa pb ?_ fun g kk=>⟨rfl,I.DX (t':=s.toks) (fun c o hc e=>?_) hf⟩
  ·rcases hl with q|q
   ·exact .inl (by simp;omega)
   ·exact .inr (by simp;omega)
  ·simp only[List.mem_cons,List.not_mem_nil,or_false,not_or]at hc
   exact kk c o hc.1 hc.2.2.1 hc.2.2.2.1 hc.2.2.2.2 e
 self:=fun _ _ _ _ _ st h=>wpAny_pyIter_zip st.1 h
section
variable {X:Cx}
def Bv(K:Vo)(ta:TA):TI:=fun σ H R=>ta σ H fun vs H1=>∃ka kb a b,vs=[.ref a,.ref b]/\(∃xs,pG ka K H1 a xs)/\(∃ys,pG kb K H1 b ys)/\R (Bu ka kb K a b) H1
def rc{elts:List Expr}{k0:Nat}{Ee:Pos}{a b:Expr}{ta:TA}{p pos:Pos}(hg:Gl X "zip")(hm:X.mg "zip" = none)(hv:bootBuiltins "zip" = some (.type "zip"))(ha:PA X [a,b] ta)
  (hs:starEach [a,b] X.env=[(false,eval a X.env),(false,eval b X.env)]:=by rfl) (hs2:starEach [b] X.env=[(false,eval b X.env)]:=by rfl):PI X (.Tuple elts k0 Ee) (.Call (.Name "zip" p) [a,b] [] pos) (Bv X.K ta):=by
 intro pins s σ H R I h
 refine Call_ (eP I hg hm hv (PyProof.Rows.callWith_type1 (bz (ha pos pins s σ H _ I h) fun us s1 ⟨vs,H1,I1,r1,q1⟩=>?_) (by rw[hs,hs2]) (by rw[hs2];rfl)))
 obtain⟨ka,kb,a,b,e,⟨xs,qa⟩,⟨ys,qb⟩,q⟩:=q1
 subst e
 obtain⟨u,v,rfl,ru,rv⟩:=vp r1
 cases ru
 cases rv
 obtain⟨ia,ra,pa⟩:=I1.FP qa
 obtain⟨ib,rb,pb⟩:=I1.FP qb
 have la:a < s1.heap.objs.size:=pa.lt
 have lb:b < s1.heap.objs.size:=pb.lt
 refine Zt.i9 pa pb fun g gz gI gO g1 g2 kk=>?_
 refine wpAny_pyIter_zip (s:={ s1 with heap:=g }) gz ?_
 refine⟨_,[s1.heap.objs.size+4,s1.heap.objs.size+2,s1.heap.objs.size+3,s1.heap.objs.size,s1.heap.objs.size+1],_,_,H1,rfl,I1.kept (t':=s1.toks) kk,q_ (zipApart_new la lb),⟨gz,gI,⟨_,_,gO⟩,g1,g2⟩,fun c hc=>?_,q⟩
 have hle:s1.heap.objs.size<=c:=by
  simp only[List.mem_cons,List.not_mem_nil,or_false]at hc
  rcases hc with rfl|rfl|rfl|rfl|rfl
  ·exact Nat.le_add_right _ _
  ·exact Nat.le_add_right _ _
  ·exact Nat.le_add_right _ _
  ·exact Nat.le_refl _
  ·exact Nat.le_add_right _ _
 exact I1.EA hle (I1.hok.fresh hle)
end
section
variable {env:Env} {rest:List Expr} {pos:Pos}
def pI{a:Expr}{gs:List Comprehension}{sc:Scope}:starEach (.ListComp a gs sc pos::rest) env=(false,eval (.ListComp a gs sc pos) env)::starEach rest env:=rfl
end
noncomputable def Bw(K:Vo)(a:Addr):It:=
  ⟨fun i H=>∃xs x,SqL K H a xs/\xs[i]?=some x,
   fun i H v H'=>∃p x,v = .ref p/\H p=none/\H'=upd H p (.tup [.int (i:Nat),x])/\∀xs,SqL K H a xs->xs[i]?=some x,
   fun i H=>∃xs,SqL K H a xs/\xs.length<=i⟩
def pJ{P:Program}{w:World}{K:Vo}{elts:List Expr}{k0:Nat}{Ee:Pos}{e it a:Addr}(hei:e≠it) :
  ki P w K (.Tuple elts k0 Ee) (Bw K a) [e,it] e (fun i h=>(∃old,IsEnum h e it i old)/\h.IsListIter it a i) where
 mem:=by simp
 obj:=fun i h st c hc=>by
  obtain⟨⟨old,ge⟩,⟨o1,e1,_,d1⟩⟩:=st
  simp only[List.mem_cons,List.not_mem_nil,or_false]at hc
  rcases hc with rfl|rfl
  ·exact⟨_,ge,fun v q=>by cases q⟩
  ·exact⟨_,e1,fun v q=>by rw[d1]at q;cases q⟩
 keep:=fun i h h' st k=>by
  obtain⟨⟨old,ge⟩,g1⟩:=st
  exact⟨⟨old,k e (by simp) _ ge⟩,g1.at fun o q=>k it (by simp) o q⟩
 item:=by
  intro X hP hw hK hc i pins s σ H E I hf st hg
  subst hP hw hK
  obtain⟨⟨old,ge⟩,g1⟩:=st
  obtain⟨xs,x,FG,hx⟩:=hg
  obtain⟨ia,ra,pa,za⟩:=I.list FG
  obtain⟨u,hu,ru⟩:=ra.get hx
  refine wpAny_pyNext_enum_item ge g1 pa.isList (x:=u) (by simpa using hu) hei fun g a1 a2 a3 a4 a5=>?_
  refine⟨_,rfl,wpAny_letOwnedTupleGo_enum (s:={ s with heap:=g,toks:=s.toks+1 }) a1 fun g' z' q'=>?_⟩
  have kk:∀c o,c ∉ [e,it]->s.heap.get? c=some o->g'.get? c=some o:=fun c o hc q=>by
   simp only[List.mem_cons,List.not_mem_nil,or_false,not_or]at hc
   exact(q'.2 c hc.1).trans (a5 c o hc.1 hc.2 q)
  have I1:Inv X pins σ H { s with heap:=g',toks:=s.toks+1 }:=I.DX kk hf
  have f0:eN X pins H s.heap.objs.size:=I.EA (Nat.le_refl _) (I.hok.fresh (Nat.le_refl _))
  have Jh:s.heap.objs.size≠e:=Nat.ne_of_gt (Heap.lt_size ge)
  have eT:Dh g' s.heap.objs.size [Value.int i s.toks,u].toArray:=⟨_,(q'.2 _ Jh).trans a3,rfl,rfl,_,rfl⟩
  have I2:=I1.Fu (ys:=[.int i,x]) f0 eT (.cons ⟨_,rfl⟩ (.cons ru .nil)) (by show 2<=sizeLine;decide)
  refine⟨.ref s.heap.objs.size,_,I2,rfl,⟨s.heap.objs.size,x,rfl,f0.1,rfl,fun xs' h1=>by rw[I.EE h1 FG];exact hx⟩,⟨⟨u,by simpa using z'⟩,a2.at fun o q=>(q'.2 it hei.symm).trans q⟩,fun c hc=>?_⟩
  have hlt:c < s.heap.objs.size:=by
   obtain⟨o1,e1,_⟩:=g1
   simp only[List.mem_cons,List.not_mem_nil,or_false]at hc
   rcases hc with rfl|rfl
   ·exact Heap.lt_size ge
   ·exact Heap.lt_size e1
  rw[ay (Nat.ne_of_lt hlt)]
  exact(hf c hc).1
 done:=by
  intro X hP hw hK hc i pins s σ H E I hf st hg
  subst hP hw hK
  obtain⟨⟨old,ge⟩,g1⟩:=st
  obtain⟨xs,FG,hl⟩:=hg
  obtain⟨ia,ra,pa,za⟩:=I.list FG
  have la:=ra.length
  refine wpAny_pyNext_enum_end (I.ok.hd hc) ge g1 pa.isList (by simp;omega) fun g kk=>⟨rfl,I.DX (t':=s.toks) (fun c o hc q=>?_) hf⟩
  simp only[List.mem_cons,List.not_mem_nil,or_false,not_or]at hc
  exact kk c o hc.2 q
 self:=fun _ _ _ _ _ st h=>by
  obtain⟨⟨old,ge⟩,_⟩:=st
  exact wpAny_pyIter_enum ge h
end L2
namespace Et
open PySem
open Sem (wp)
open AutoSeq1 (wpAny_loadPart')
def vz{P:Program}{w:World}{A:Around}(hh:A.handled=none)(it t:Addr)(hne:t≠it)(its:Vw) :
  Draws P w A it [it,t] its.size (fun i v=>its[i]?=some v) (fun i h=>h.IsTupleIter it t i/\h.IsTuple t its) where
 live:=fun i h st=>let ⟨⟨o,e,_⟩,_⟩:=st;⟨o,e⟩
 frame:=fun i h h' st k=>⟨st.1.at fun o e=>k it (by simp) o e,let ⟨o,e,r⟩:=st.2;⟨o,k t (by simp) o e,r⟩⟩
 item:=fun i s Q E hi st hQ=>Zt.nx st.1 st.2 (Array.getElem?_eq_getElem hi) fun g a b=>hQ _ g s.toks (Array.getElem?_eq_getElem hi) ⟨a,st.2.extBut b.extBut hne⟩ b
 done:=fun s Q E st hE=>Zt.B5 hh st.1 st.2 (Array.getElem?_eq_none (Nat.le_refl _)) hE
noncomputable abbrev E1(h:Heap)(l:Addr):Heap:=h.push { cls:=.type "tuple_iterator",data:=.fields #[.ref l,.int 0 0] }
noncomputable abbrev E2(h:Heap)(l:Addr):Heap:=(E1 h l).push { cls:=.type "enumerate",data:=.fields #[.none,.bool false,.ref h.objs.size,rawInt 0,.none,.none] }
def g7(l:Addr)(its:Vw)(n:Nat)(dct:Option Addr)(sl:Array (Option Value)) :
  Meets (Builtin.«enumerate.__new__» ⟨[.type "enumerate",.ref l],[]⟩) (fun _ R s=>s.heap.get? l=some { cls:=.type "tuple",dict:=dct,data:=.seq its n,slots:=sl }/\R (.ok (.ret (.ref (E1 s.heap l).objs.size))) { s with heap:=E2 s.heap l }):=
 .of_wp fun prog w A R s h=>by
  obtain⟨hp,g,d,tk,os⟩:=s;obtain⟨hl,h⟩:=h
  have hsub:=sub_enumerate
  have T:Heap.IsTuple (Shared.heap ⟨hp,g,d,tk,os⟩) l its:=⟨_,hl,rfl,n,rfl⟩
  wp_walk using wpAny_loadPart' hl
  refine wpAny_stack_any fun st=>wpAny_pure ?_
  split
  ·rename_i c _ _ _ _ _
   cases (c == Value.type "enumerate")
   ·wp_walk using wpAny_loadPart' hl,wpAny_pyIter_tuple T
    exact⟨_,rfl,h⟩
   ·wp_walk using wpAny_loadPart' hl,wpAny_pyIter_tuple T
    exact⟨_,rfl,h⟩
  ·wp_walk using wpAny_loadPart' hl,wpAny_pyIter_tuple T
   exact⟨_,rfl,h⟩
def i9{P:Program}{w:World}{A:Around}{E:Vq}{s:Shared}{l:Addr}{its:Vw}{Q:Vq}(hT:s.heap.IsTuple l its)
  (k:∀g,IsEnum g (s.heap.objs.size+1) s.heap.objs.size 0 .none->g.IsTupleIter s.heap.objs.size l 0->(∀b o,s.heap.get? b=some o->g.get? b=some o)->Q (.ref (s.heap.objs.size+1)) { s with heap:=g }) :
  wpAny (model P w) A (call (.type "enumerate") [.ref l]) Q E s:=by
 obtain⟨⟨c,dct,dt,sl⟩,hl,hc,n,hd⟩:=hT
 replace hc:c = .type "tuple":=hc
 replace hd:dt = .seq its n:=hd
 subst hc hd
 refine callType_new F.called_enumerate (by decide) (F.typeCall_enumerate_1 _) (F.newCall_enumerate_1 _) (fun obj=>F.args_object_init_2 obj _) F.entry_enumerate_new (g7 l its n dct sl) ⟨hl,?_⟩
 have hz:(E1 s.heap l).objs.size=s.heap.objs.size+1:=Heap.size_push ..
 show _/\_
 rw[hz]
 have he:IsEnum (E2 s.heap l) (s.heap.objs.size+1) s.heap.objs.size 0 .none:=by
  have q:=Heap.get?_push_size (E1 s.heap l) (o:={ cls:=.type "enumerate",data:=.fields #[.none,.bool false,.ref s.heap.objs.size,rawInt 0,.none,.none] }) rfl
  rw[hz]at q
  exact q
 exact⟨⟨_,he,rfl⟩,k _ he ⟨_,Heap.get?_push_of_some _ (Heap.get?_push_size _ rfl),rfl,rfl⟩ fun b o x=>Heap.get?_push_of_some _ (Heap.get?_push_of_some _ x)⟩
end Et
namespace L2
open PySem PySem.Spec PyProof.Rows
noncomputable def Bx(K:Vo)(a:Addr):It:=
  ⟨fun i H=>∃xs x,SqT K H a xs/\xs[i]?=some x,
   fun i H v H'=>∃p x,v = .ref p/\H p=none/\H'=upd H p (.tup [.int (i:Nat),x])/\∀xs,SqT K H a xs->xs[i]?=some x,
   fun i H=>∃xs,SqT K H a xs/\xs.length=i⟩
def mO{P:Program}{w:World}{K:Vo}{elts:List Expr}{k0:Nat}{Ee:Pos}{e it a:Addr}(hei:e≠it)(KJ:a≠e)(hai:a≠it) :
  ki P w K (.Tuple elts k0 Ee) (Bx K a) [e,it] e (fun i h=>(∃old,IsEnum h e it i old)/\h.IsTupleIter it a i) where
 mem:=by simp
 obj:=fun i h st c hc=>by
  obtain⟨⟨old,ge⟩,⟨o1,e1,_,d1⟩⟩:=st
  simp only[List.mem_cons,List.not_mem_nil,or_false]at hc
  rcases hc with rfl|rfl
  ·exact⟨_,ge,fun v q=>by cases q⟩
  ·exact⟨_,e1,fun v q=>by rw[d1]at q;cases q⟩
 keep:=fun i h h' st k=>by
  obtain⟨⟨old,ge⟩,g1⟩:=st
  exact⟨⟨old,k e (by simp) _ ge⟩,g1.at fun o q=>k it (by simp) o q⟩
 item:=by
  intro X hP hw hK hc i pins s σ H E I hf st hg
  subst hP hw hK
  obtain⟨⟨old,ge⟩,g1⟩:=st
  obtain⟨xs,x,FG,hx⟩:=hg
  obtain⟨ia,ra,pa,za⟩:=I.tuple FG
  obtain⟨u,hu,ru⟩:=ra.get hx
  have hil:i < ia.toArray.size:=by
   rcases Nat.lt_or_ge i ia.length with q|q
   ·simpa using q
   ·rw[List.getElem?_eq_none q]at hu;cases hu
  refine wpAny_pyNext_enum_itemD (Et.vz (P:=X.prog) (w:=X.w) (A:=X.A.in1) (I.ok.hd hc) it a hai ia.toArray) ge ⟨g1,(show s.heap.IsTuple a ia.toArray from pa)⟩ hil hei (by simp[hei,Ne.symm KJ]) fun v g tk hv a1 a2 a3 a4 a5=>?_
  have ev:v=u:=by
   have q:ia[i]?=some v:=by simpa using hv
   rw[q]at hu
   exact Option.some.inj hu
  subst ev
  refine⟨_,rfl,wpAny_letOwnedTupleGo_enum (s:={ s with heap:=g,toks:=tk+1 }) a1 fun g' z' q'=>?_⟩
  have kk:∀c o,c ∉ [e,it]->s.heap.get? c=some o->g'.get? c=some o:=fun c o hc q=>by
   simp only[List.mem_cons,List.not_mem_nil,or_false,not_or]at hc
   exact(q'.2 c hc.1).trans (a5 c o hc.1 hc.2 q)
  have I1:Inv X pins σ H { s with heap:=g',toks:=tk+1 }:=I.DX kk hf
  have f0:eN X pins H s.heap.objs.size:=I.EA (Nat.le_refl _) (I.hok.fresh (Nat.le_refl _))
  have Jh:s.heap.objs.size≠e:=Nat.ne_of_gt (Heap.lt_size ge)
  have eT:Dh g' s.heap.objs.size [Value.int i tk,v].toArray:=⟨_,(q'.2 _ Jh).trans a3,rfl,rfl,_,rfl⟩
  have I2:=I1.Fu (ys:=[.int i,x]) f0 eT (.cons ⟨_,rfl⟩ (.cons ru .nil)) (by show 2<=sizeLine;decide)
  refine⟨.ref s.heap.objs.size,_,I2,rfl,⟨s.heap.objs.size,x,rfl,f0.1,rfl,fun xs' h1=>by rw[I.Er h1 FG];exact hx⟩,⟨⟨v,by simpa using z'⟩,a2.1.at fun o q=>(q'.2 it hei.symm).trans q⟩,fun c hc=>?_⟩
  have hlt:c < s.heap.objs.size:=by
   obtain⟨o1,e1,_⟩:=g1
   simp only[List.mem_cons,List.not_mem_nil,or_false]at hc
   rcases hc with rfl|rfl
   ·exact Heap.lt_size ge
   ·exact Heap.lt_size e1
  rw[ay (Nat.ne_of_lt hlt)]
  exact(hf c hc).1
 done:=by
  intro X hP hw hK hc i pins s σ H E I hf st hg
  subst hP hw hK
  obtain⟨⟨old,ge⟩,g1⟩:=st
  obtain⟨xs,FG,hl⟩:=hg
  obtain⟨ia,ra,pa,za⟩:=I.tuple FG
  have la:=ra.length
  have ei:i=ia.toArray.size:=by simp;omega
  subst ei
  refine wpAny_pyNext_enum_endD (Et.vz (P:=X.prog) (w:=X.w) (A:=X.A.in1) (I.ok.hd hc) it a hai ia.toArray) ge ⟨g1,(show s.heap.IsTuple a ia.toArray from pa)⟩ fun g kk=>⟨rfl,I.DX (t':=s.toks) (fun c o hc q=>?_) hf⟩
  simp only[List.mem_cons,List.not_mem_nil,or_false,not_or]at hc
  exact kk c o hc.2 q
 self:=fun _ _ _ _ _ st h=>by
  obtain⟨⟨old,ge⟩,_⟩:=st
  exact wpAny_pyIter_enum ge h
section
variable {X:Cx}
def xa:fz X (compareOp .Is) (fun x y H Q=>x = .bl true/\y = .bl true/\Q (.bl true) H):=by
 intro pins s σ H x y v u Q I rx ry h
 obtain⟨rfl,rfl,q⟩:=h
 cases (show v=Value.bool true from rx)
 cases (show u=Value.bool true from ry)
 exact wpAny_is_self rfl ⟨.bl true,H,I,rfl,q⟩
def pK:fz X (compareOp .IsNot) (fun x y H Q=>x = .bl true/\y = .bl true/\Q (.bl false) H):=by
 intro pins s σ H x y v u Q I rx ry h
 obtain⟨rfl,rfl,q⟩:=h
 cases (show v=Value.bool true from rx)
 cases (show u=Value.bool true from ry)
 exact wpAny_isNot_self rfl ⟨.bl false,H,I,rfl,q⟩
end
end L2
namespace Wd
open PySem L2 PyProof.Rows
end Wd
namespace M3
noncomputable def aK(t b:Int):Int:=(if b < 0 then -t else t) / (Int.gcd t b:Int)
noncomputable def aC(t b:Int):Int:=(if b < 0 then -b else b) / (Int.gcd t b:Int)
def d0{t b:Int}(h:b≠0):0 < Int.gcd t b:=Nat.gcd_pos_of_pos_right _ (by omega)
def mP{t b:Int}(h:b≠0):(Int.gcd t b:Int)<=b.natAbs:=by
 have q:Nat.gcd t.natAbs b.natAbs<=b.natAbs:=Nat.gcd_le_right _ (by omega)
 have e:Int.gcd t b=Nat.gcd t.natAbs b.natAbs:=rfl
 omega
def rd(t b:Int):Int.gcd (-t) (-b)=Int.gcd t b:=by rw[Int.gcd_neg,Int.neg_gcd]
def vA(t b:Int):∃x y:Int,t=(Int.gcd t b:Int) * x/\b=(Int.gcd t b:Int) * y:=by
 obtain⟨x,hx⟩:=Int.gcd_dvd_left t b
 obtain⟨y,hy⟩:=Int.gcd_dvd_right t b
 exact⟨x,y,hx,hy⟩
def mQ{t b x y g:Int}(hg:g=(Int.gcd t b:Int))(h:b≠0)(ht:t=g * x)(hb:b=g * y):aK t b=(if y < 0 then -x else x)/\aC t b=(if y < 0 then -y else y):=by
 have gp:0 < g:=by rw[hg];exact Int.natCast_pos.mpr (d0 h)
 have hy:b < 0↔y < 0:=by
  rw[hb]
  constructor
  ·intro q
   by_cases z:y < 0
   ·exact z
   ·have:=Int.mul_nonneg (Int.le_of_lt gp) (Int.not_lt.mp z)
    omega
  ·intro q
   exact Int.mul_neg_of_pos_of_neg gp q
 unfold aK aC
 rw[<-hg]
 by_cases z:y < 0
 ·rw[if_pos (hy.mpr z),if_pos (hy.mpr z),if_pos z,if_pos z]
  constructor
  ·rw[ht,<-Int.mul_neg,Int.mul_ediv_cancel_left _ (by omega)]
  ·rw[hb,<-Int.mul_neg,Int.mul_ediv_cancel_left _ (by omega)]
 ·rw[if_neg (fun q=>z (hy.mp q)),if_neg (fun q=>z (hy.mp q)),if_neg z,if_neg z]
  constructor
  ·rw[ht,Int.mul_ediv_cancel_left _ (by omega)]
  ·rw[hb,Int.mul_ediv_cancel_left _ (by omega)]
def uz{t b x y:Int}(h:b≠0)(ht:t=(Int.gcd t b:Int) * x)(hb:b=(Int.gcd t b:Int) * y):Int.gcd x y=1:=by
 have gp:=d0 (t:=t) h
 have q:Int.gcd ((Int.gcd t b:Int) * x) ((Int.gcd t b:Int) * y)=(Int.gcd t b:Int).natAbs * Int.gcd x y:=Int.gcd_mul_left _ _ _
 rw[<-ht,<-hb,Int.natAbs_natCast]at q
 have q2:Int.gcd t b * 1=Int.gcd t b * Int.gcd x y:=by omega
 exact(Nat.eq_of_mul_eq_mul_left gp q2).symm
structure yD (a b:Int):Prop where
 pos:0 < b
 one:Int.gcd a b=1
def c_{t b:Int}(h:b≠0):yD (aK t b) (aC t b):=by
 obtain⟨x,y,ht,hb⟩:=vA t b
 have c:=uz h ht hb
 obtain⟨e1,e2⟩:=mQ rfl h ht hb
 have y0:y≠0:=fun z=>h (by rw[hb,z,Int.mul_zero])
 rw[e1,e2]
 by_cases z:y < 0
 ·rw[if_pos z,if_pos z]
  exact⟨by omega,by rw[rd];exact c⟩
 ·rw[if_neg z,if_neg z]
  exact⟨by omega,c⟩
def i_{a b x y:Int}(L:yD a b)(hy:0 < y)(e:x * b=a * y):aK x y=a/\aC x y=b:=by
 have b0:=L.pos
 have d1:b.natAbs ∣ a.natAbs * y.natAbs:=by
  rw[<-Int.natAbs_mul,<-e,Int.natAbs_mul]
  exact Nat.dvd_mul_left _ _
 have c:Nat.Coprime b.natAbs a.natAbs:=by
  show Nat.gcd b.natAbs a.natAbs=1
  rw[Nat.gcd_comm]
  exact L.one
 obtain⟨k,hk⟩:=Int.natAbs_dvd_natAbs.mp (c.dvd_of_dvd_mul_left d1)
 have k0:0 < k:=by
  by_cases z:0 < k
  ·exact z
  ·have:=Int.mul_nonneg (Int.le_of_lt b0) (show 0 <= -k by omega)
   rw[Int.mul_neg]at this
   omega
 have hx:x=a * k:=by
  have q:x * b=a * k * b:=by rw[e,hk,Int.mul_assoc,Int.mul_comm k b]
  exact Int.eq_of_mul_eq_mul_right (by omega) q
 have g:(Int.gcd x y:Int)=k:=by
  rw[hx,hk,Int.gcd_mul_right,L.one,Nat.one_mul]
  omega
 have q:=mQ (g:=k) (x:=a) (y:=b) (t:=x) (b:=y) g.symm (by omega) (by rw[hx,Int.mul_comm]) (by rw[hk,Int.mul_comm])
 rw[if_neg (by omega),if_neg (by omega)]at q
 exact q
def re{a b:Int}(L:yD a b):aK a b=a/\aC a b=b:=i_ L L.pos rfl
def aZ{t b:Int}(h:b≠0):aK t b * b=t * aC t b:=by
 obtain⟨x,y,ht,hb⟩:=vA t b
 obtain⟨e1,e2⟩:=mQ rfl h ht hb
 rw[e1,e2]
 have q:x * b=t * y:=by
  have e3:x * ((Int.gcd t b:Int) * y)=(Int.gcd t b:Int) * x * y:=by rw[<-Int.mul_assoc,Int.mul_comm x]
  rw[<-ht,<-hb]at e3
  exact e3
 by_cases z:y < 0
 ·rw[if_pos z,if_pos z,Int.neg_mul,Int.mul_neg,q]
 ·rw[if_neg z,if_neg z]
  exact q
def xb{g x y:Int}(h:g≠0)(e:x * g=y * g):x=y:=Int.eq_of_mul_eq_mul_right h e
def ly{t b:Int}(h:b≠0):t.fdiv (if b < 0 then -(Int.gcd t b:Int) else (Int.gcd t b:Int))=aK t b/\b.fdiv (if b < 0 then -(Int.gcd t b:Int) else (Int.gcd t b:Int))=aC t b:=by
 have gp:(0:Int) < (Int.gcd t b:Int):=Int.natCast_pos.mpr (d0 h)
 have d1:=Int.gcd_dvd_left t b
 have d2:=Int.gcd_dvd_right t b
 unfold aK aC
 by_cases z:b < 0
 ·rw[if_pos z,if_pos z,if_pos z,Int.fdiv_neg (by omega),if_pos d1,Int.fdiv_neg (by omega),if_pos d2,Int.fdiv_eq_ediv_of_dvd d1,Int.fdiv_eq_ediv_of_dvd d2,Int.neg_ediv_of_dvd d1,Int.neg_ediv_of_dvd d2]
  exact⟨rfl,rfl⟩
 ·rw[if_neg z,if_neg z,if_neg z,Int.fdiv_eq_ediv_of_dvd d1,Int.fdiv_eq_ediv_of_dvd d2]
  exact⟨rfl,rfl⟩
def lA(x y:Int):Int.gcd y (x.fmod y)=Int.gcd x y:=by
 have q:=Int.mul_fdiv_add_fmod x y
 have e:Int.gcd y (x.fmod y+x.fdiv y * y)=Int.gcd y (x.fmod y):=Int.gcd_add_mul_right_right _ _ _
 rw[<-e,Int.mul_comm (x.fdiv y) y,Int.add_comm,q,Int.gcd_comm]
def ja{t b T B:Int}(h:b≠0)(h1:-T<=t)(h2:t<=T)(h3:-B<=b)(h4:b<=B)(hT:0<=T)(hB:0<=B):-T<=aK t b/\aK t b<=T/\0 < aC t b/\aC t b<=B:=by
 have gp:(0:Int) < (Int.gcd t b:Int):=Int.natCast_pos.mpr (d0 h)
 have L:=(c_ (t:=t) h).pos
 have key:∀z M:Int,0<=M->-M<=z->z<=M->-M<=z / (Int.gcd t b:Int)/\z / (Int.gcd t b:Int)<=M:=fun z M hM z1 z2=>by
  generalize (Int.gcd t b:Int)=g at gp
  have m2:M * 1<=M * g:=Int.mul_le_mul_of_nonneg_left (by omega) hM
  have m3:-M * g = -(M * g):=Int.neg_mul M g
  exact⟨Int.le_ediv_of_mul_le gp (by omega),Int.ediv_le_of_le_mul gp (by omega)⟩
 have k1:=key (if b < 0 then -t else t) T hT (by split<;>omega) (by split<;>omega)
 have k2:=key (if b < 0 then -b else b) B hB (by split<;>omega) (by split<;>omega)
 exact⟨k1.1,k1.2,L,k2.2⟩
end M3
namespace Xc
open PySem PySem.W PySem.Calls PyProof.Rows Builtin Builtin.ObjectAttr
structure By (h:Heap) (e:Addr) (oe:Obj) (vs:Vw):Prop where
 at_:h.get? e=some oe
 dat:oe.data = .fields vs
 tb:vs[1]?=some .none\/∃T oT ts,vs[1]?=some (.ref T)/\T≠e/\h.get? T=some oT/\oT.data = .fields ts/\ts[3]?=some .none
end Xc
namespace L2
open PySem PySem.Spec PyProof.Rows Xc
def Cm(X:Cx)(pins:Va)(H:Hp)(h:Heap)(a C dx:Addr):Prop:=
 ∃oe vs,By h a oe vs/\oe.cls = .ref C/\oe.dict=some dx/\eN X pins H a/\∀T,vs[1]?=some (.ref T)->eN X pins H T
def XD(dx:Addr)(fs:List (Str×V))(h:Heap):Prop:=∃mA,h.Ns1 dx mA/\(∀f,DK (fs.lookup f) (mA f))/\PySem.Within mA (fs.map (·.1))
end L2
namespace L3
open PySem L2
inductive PV where
 |non|bl (b:Bool)|int (i:Int)|str (x:Str)|tup (xs:List PV)|cl (xs:List PV)|ref (a:Addr)|ty (n:String)|exc (c:Str) (ks:Vs) (ps:List PV)|cls (c:Str)
def Hj(K:Vo)(H:Hp)(a:Addr)(xs:List V):Prop:=
 (∃o,H a=some (.frz o (.lst xs))) \/
  ∃(o:Obj) (its:Vw) (n:Nat),K.lookup a=some o/\o.cls = .type "list"/\o.dict=none/\o.data = .seq its n/\its.size<=sizeLine/\Vals xs its.toList
def Hj.sq{K:Vo}{H:Hp}{a:Addr}{xs:List V}(h:Hj K H a xs):SqL K H a xs:=h.elim (fun z=>.inl (.inr z)) .inr
def Ip(H:Hp)(a C:Addr)(ks:Vs)(vs:List V):Prop:=
 ∃oe dx od,H a=some (.frz oe (.ext fun _=>True))/\oe.cls = .ref C/\oe.dict=some dx/\(∀c,oe.data ≠ .cls c)/\H dx=some (.frz od (.ext (XD dx (ks.zip vs))))
def EB(K:Vo)(c:Str)(C:Addr):Prop:=PySem.W.nsIn K mainGlobals c=some (some (.ref C))
mutual
inductive Rep (K:Vo) (H:Hp):V->PV->Prop
 |non:Rep K H .non .non
 |bl (b:Bool):Rep K H (.bl b) (.bl b)
 |int (i:Int):Rep K H (.int i) (.int i)
 |str (x:Str):Rep K H (.str x) (.str x)
 |ty (n:String):Rep K H (.ty n) (.ty n)
 |ref (a:Addr):Rep K H (.ref a) (.ref a)
 |tup {a:Addr} {vs:List V} {ps:List PV}:SqT K H a vs->Reps K H vs ps->Rep K H (.ref a) (.tup ps)
 |cl {a:Addr} {vs:List V} {ps:List PV}:Hj K H a vs->Reps K H vs ps->Rep K H (.ref a) (.cl ps)
 |exc {a C:Addr} {c:Str} {ks:Vs} {vs:List V} {ps:List PV}:EB K c C->Ip H a C ks vs->Reps K H vs ps->Rep K H (.ref a) (.exc c ks ps)
 |cls {C:Addr} {c:Str}:EB K c C->Rep K H (.ref C) (.cls c)
inductive Reps (K:Vo) (H:Hp):List V->List PV->Prop
 |nil:Reps K H [] []
 |cons {v:V} {p:PV} {vs:List V} {ps:List PV}:Rep K H v p->Reps K H vs ps->Reps K H (v::vs) (p::ps)
end
structure Grow (K:Vo) (H H':Hp):Prop where
 t:∀a vs,SqT K H a vs->SqT K H' a vs
 c:∀a vs,Hj K H a vs->Hj K H' a vs
 x:∀a o u,H a=some (.frz o u)->H' a=some (.frz o u)
def Grow.refl{K:Vo}{H:Hp}:Grow K H H:=⟨fun _ _ h=>h,fun _ _ h=>h,fun _ _ _ h=>h⟩
def Grow.trans{K:Vo}{H H1 H2:Hp}(a:Grow K H H1)(b:Grow K H1 H2):Grow K H H2:=⟨fun x vs h=>b.t x vs (a.t x vs h),fun x vs h=>b.c x vs (a.c x vs h),fun x o u h=>b.x x o u (a.x x o u h)⟩
def Ip.mono{K:Vo}{H H':Hp}(g:Grow K H H'){a C:Addr}{ks:Vs}{vs:List V}(h:Ip H a C ks vs):Ip H' a C ks vs:=let ⟨oe,dx,od,h1,h2,h3,h4,h5⟩:=h;⟨oe,dx,od,g.x _ _ _ h1,h2,h3,h4,g.x _ _ _ h5⟩
def Grow.of{K:Vo}{H H':Hp}(h:∀a xs,H a=some (.tup xs)->H' a=some (.tup xs))(h2:∀a o u,H a=some (.frz o u)->H' a=some (.frz o u)):Grow K H H':=by
 refine⟨fun a vs q=>?_,fun a vs q=>?_,h2⟩
 ·rcases q with(q|⟨o,q⟩)|q
  ·exact .inl (.inl (h a vs q))
  ·exact .inl (.inr ⟨o,h2 a o _ q⟩)
  ·exact .inr q
 ·rcases q with⟨o,q⟩|q
  ·exact .inl ⟨o,h2 a o _ q⟩
  ·exact .inr q
def Grow.same{K:Vo}{H H':Hp}(h:∀c o,H c=some o->H' c=some o):Grow K H H':=.of (fun a _ q=>h a _ q) (fun a _ _ q=>h a _ q)
def Grow.new{K:Vo}{H:Hp}{p:Addr}{o:HO}(h:H p=none):Grow K H (upd H p o):=.same fun c u q=>by rw[ay (aV q h)];exact q
noncomputable def Mu:HO->Prop
 | .tup _=>False
 | .frz _ _=>False
 |_=>True
def Grow.mut{K:Vo}{H:Hp}{p:Addr}{o u:HO}(h:H p=some u)(m:Mu u):Grow K H (upd H p o):=
 .of (fun a xs q=>by rw[ay (fun e=>by subst e;rw[h]at q;cases q;exact m)];exact q) (fun a _ _ q=>by rw[ay (fun e=>by subst e;rw[h]at q;cases q;exact m)];exact q)
mutual
theorem Rep.mono{K:Vo}{H H':Hp}(g:Grow K H H'):∀{v:V} {p:PV},Rep K H v p->Rep K H' v p
 |_,_,.non=>.non
 |_,_,.bl b=>.bl b
 |_,_,.int i=>.int i
 |_,_,.str x=>.str x
 |_,_,.ty n=>.ty n
 |_,_,.ref a=>.ref a
 |_,_,.tup h r=>.tup (g.t _ _ h) (Reps.mono g r)
 |_,_,.cl h r=>.cl (g.c _ _ h) (Reps.mono g r)
 |_,_,.exc n h r=>.exc n (h.mono g) (Reps.mono g r)
 |_,_,.cls n=>.cls n
theorem Reps.mono{K:Vo}{H H':Hp}(g:Grow K H H'):∀{vs:List V} {ps:List PV},Reps K H vs ps->Reps K H' vs ps
 |_,_,.nil=>.nil
 |_,_,.cons a r=>.cons (Rep.mono g a) (Reps.mono g r)
end
theorem Reps.length{K:Vo}{H:Hp}:∀{vs:List V} {ps:List PV},Reps K H vs ps->vs.length=ps.length
 |_,_,.nil=>rfl
 |_,_,.cons _ r=>by rw[List.length_cons,List.length_cons,Reps.length r]
theorem Reps.append{K:Vo}{H:Hp}:∀{vs us:List V} {ps qs:List PV},Reps K H vs ps->Reps K H us qs->Reps K H (vs++us) (ps++qs)
 |_,_,_,_,.nil,s=>s
 |_,_,_,_,.cons a r,s=>.cons a (Reps.append r s)
theorem Reps.get{K:Vo}{H:Hp}:∀{vs:List V} {ps:List PV} {i:Nat} {p:PV},Reps K H vs ps->ps[i]?=some p->∃v,vs[i]?=some v/\Rep K H v p
 |_,_,_,_,.nil,e=>by simp at e
 |_,_,0,_,.cons a r,e=>by simp at e;subst e;exact⟨_,rfl,a⟩
 |_,_,i+1,p,.cons a r,e=>by
  obtain⟨v,h1,h2⟩:=Reps.get (i:=i) (p:=p) r (by simpa using e)
  exact⟨v,by simpa using h1,h2⟩
theorem Reps.take{K:Vo}{H:Hp}:∀{vs:List V} {ps:List PV} (n:Nat),Reps K H vs ps->Reps K H (vs.take n) (ps.take n)
 |_,_,0,_=>.nil
 |_,_,_+1,.nil=>.nil
 |_,_,n+1,.cons a r=>.cons a (Reps.take n r)
theorem Reps.drop{K:Vo}{H:Hp}:∀{vs:List V} {ps:List PV} (n:Nat),Reps K H vs ps->Reps K H (vs.drop n) (ps.drop n)
 |_,_,0,r=>r
 |_,_,_+1,.nil=>.nil
 |_,_,n+1,.cons _ r=>Reps.drop n r
theorem Reps.set{K:Vo}{H:Hp}{v:V}{p:PV}(q:Rep K H v p):∀{vs:List V} {ps:List PV} (n:Nat),Reps K H vs ps->Reps K H (vs.set n v) (ps.set n p)
 |_,_,_,.nil=>.nil
 |_,_,0,.cons _ r=>.cons q r
 |_,_,n+1,.cons a r=>.cons a (Reps.set q n r)
theorem Reps.eraseIdx{K:Vo}{H:Hp}:∀{vs:List V} {ps:List PV} (n:Nat),Reps K H vs ps->Reps K H (vs.eraseIdx n) (ps.eraseIdx n)
 |_,_,_,.nil=>.nil
 |_,_,0,.cons _ r=>r
 |_,_,n+1,.cons a r=>.cons a (Reps.eraseIdx n r)
theorem Reps.reverse{K:Vo}{H:Hp}:∀{vs:List V} {ps:List PV},Reps K H vs ps->Reps K H vs.reverse ps.reverse
 |_,_,.nil=>.nil
 |_,_,.cons a r=>by rw[List.reverse_cons,List.reverse_cons];exact(Reps.reverse r).append (.cons a .nil)
theorem Reps.dropLast{K:Vo}{H:Hp}{vs:List V}{ps:List PV}(r:Reps K H vs ps):Reps K H vs.dropLast ps.dropLast:=by
 rw[List.dropLast_eq_take,List.dropLast_eq_take,r.length]
 exact r.take _
inductive SO where
 |lst (xs:List PV)
 |dct (kvs:List (bR×PV))
 |ins (c:Str) (fs:List (Str×PV))
abbrev ar:=Addr->Option SO
noncomputable def CG(S:ar)(a:Addr)(o:SO):ar:=fun b=>if b=a then some o else S b
def aa{S:ar}{a:Addr}{o:SO}:CG S a o a=some o:=by unfold CG;rw[if_pos rfl]
def ak{S:ar}{a b:Addr}{o:SO}(h:b≠a):CG S a o b=S b:=by unfold CG;rw[if_neg h]
inductive CP (K:Vo) (H:Hp) {κ:Type}:List (κ×V)->List (κ×PV)->Prop
 |nil:CP K H [] []
 |cons {k:κ} {v:V} {p:PV} {vs:List (κ×V)} {ps:List (κ×PV)}:Rep K H v p->CP K H vs ps->CP K H ((k,v)::vs) ((k,p)::ps)
theorem CP.mono{K:Vo}{H H':Hp}(g:Grow K H H'){κ:Type}:∀{vs:List (κ×V)} {ps:List (κ×PV)},CP K H vs ps->CP K H' vs ps
 |_,_,.nil=>.nil
 |_,_,.cons a r=>.cons (a.mono g) (CP.mono g r)
theorem CP.length{K:Vo}{H:Hp}{κ:Type}:∀{vs:List (κ×V)} {ps:List (κ×PV)},CP K H vs ps->vs.length=ps.length
 |_,_,.nil=>rfl
 |_,_,.cons _ r=>by rw[List.length_cons,List.length_cons,CP.length r]
noncomputable def EZ(K:Vo)(H:Hp)(a:Addr):SO->Prop
 | .lst xs=>∃vs,H a=some (.lst vs)/\Reps K H vs xs
 | .dct kvs=>∃kv,H a=some (.dK kv)/\CP K H kv kvs
 | .ins c fs=>∃C dx f',EB K c C/\H a=some (.ins C dx f')/\CP K H f' fs
theorem EZ.stay{K:Vo}{H H':Hp}(g:Grow K H H'){a:Addr}(e:H' a=H a):∀{o:SO},EZ K H a o->EZ K H' a o
 | .lst _,⟨vs,h,r⟩=>⟨vs,e.trans h,r.mono g⟩
 | .dct _,⟨vs,h,r⟩=>⟨vs,e.trans h,r.mono g⟩
 | .ins _ _,⟨C,dx,vs,n,h,r⟩=>⟨C,dx,vs,n,e.trans h,r.mono g⟩
theorem EZ.some{K:Vo}{H:Hp}{a:Addr}:∀{o:SO},EZ K H a o->∃u,H a=Option.some u/\Mu u
 | .lst _,⟨_,h,_⟩=>⟨_,h,trivial⟩
 | .dct _,⟨_,h,_⟩=>⟨_,h,trivial⟩
 | .ins _ _,⟨_,_,_,_,h,_⟩=>⟨_,h,trivial⟩
def CK(K:Vo)(H:Hp)(S:ar):Prop:=∀a o,S a=some o->EZ K H a o
def CK.free{K:Vo}{H:Hp}{S:ar}(r:CK K H S){p:Addr}(h:H p=none):S p=none:=by
 cases e:S p with
 |none=>rfl
 |some o=>
  obtain⟨u,q,_⟩:=(r p o e).some
  rw[h]at q;cases q
def CK.grow{K:Vo}{H H':Hp}{S:ar}(r:CK K H S)(h:∀c o,H c=some o->H' c=some o):CK K H' S:=fun a o e=>by
 obtain⟨u,q,_⟩:=(r a o e).some
 exact(r a o e).stay (.same h) ((h a u q).trans q.symm)
def CK.other{K:Vo}{H:Hp}{S:ar}(r:CK K H S){p:Addr}{o:HO}(h:H p=none):CK K (upd H p o) S:=r.grow fun c u q=>by rw[ay (aV q h)];exact q
theorem CK.new{K:Vo}{H:Hp}{S:ar}(r:CK K H S){p:Addr}{u:HO}{o:SO}(h:H p=none)(q:EZ K (upd H p u) p o):CK K (upd H p u) (CG S p o):=fun a x e=>by
 by_cases z:a=p
 ·subst z;rw[aa]at e;cases e;exact q
 ·rw[ak z]at e;exact(r a x e).stay (.new h) (ay z)
def CK.put{K:Vo}{H:Hp}{S:ar}(r:CK K H S){p:Addr}{u0 u:HO}{o:SO}(h:H p=some u0)(m:Mu u0)(q:EZ K (upd H p u) p o):CK K (upd H p u) (CG S p o):=fun a x e=>by
 by_cases z:a=p
 ·subst z;rw[aa]at e;cases e;exact q
 ·rw[ak z]at e;exact(r a x e).stay (.mut h m) (ay z)
abbrev cN:=List (Option PV)
noncomputable def lk:cN->Nat->Option PV
 |[],_=>none
 |x::_,0=>x
 |_::r,i+1=>lk r i
def rg{σ:cN}{i:Nat}{p:PV}(h:lk σ i=some p):σ[i]?=some (some p):=by
 induction σ generalizing i with
 |nil=>cases h
 |cons x r ih=>
  cases i with
  |zero=>exact congrArg some h
  |succ i=>exact ih h
structure CQ (K:Vo) (H:Hp) (σ:St) (σ3:cN):Prop where
 len:σ.length=σ3.length
 at':∀(i:Nat) (p:PV),σ3[i]?=some (some p)->∃v,σ[i]?=some (some v)/\Rep K H v p
theorem CQ.mono{K:Vo}{H H':Hp}{σ:St}{σ3:cN}(r:CQ K H σ σ3)(g:Grow K H H'):CQ K H' σ σ3:=⟨r.len,fun i p e=>let ⟨v,h,q⟩:=r.at' i p e;⟨v,h,q.mono g⟩⟩
theorem CQ.set{K:Vo}{H:Hp}{σ:St}{σ3:cN}(r:CQ K H σ σ3){v:V}{p:PV}(q:Rep K H v p)(i:Nat):CQ K H (σ.set i (some v)) (σ3.set i (some p)):=by
 refine⟨by rw[List.length_set,List.length_set,r.len],fun j x e=>?_⟩
 rw[List.getElem?_set]at e ⊢
 split at e
 ·rename_i hij
  rw[if_pos hij]
  subst hij
  split at e
  ·rename_i hl
   cases e
   rw[if_pos (by rw[r.len];exact hl)]
   exact⟨v,rfl,q⟩
  ·cases e
 ·rename_i hij
  rw[if_neg hij]
  exact r.at' j x e
abbrev bH:=PV->ar->Prop
abbrev cg:=PV->cN->ar->Prop
abbrev aS:=cN->ar->bH->cg->Prop
abbrev iK:=cN->ar->(Bool->ar->Prop)->cg->Prop
abbrev Co:=cN->ar->(List PV->ar->Prop)->cg->Prop
structure jU where
 nx:cN->ar->Prop
 rt:bH
 ex:cg
 bk:cN->ar->Prop:=fun _ _=>False
 ct:cN->ar->Prop:=fun _ _=>False
abbrev bX:=jU->cN->ar->Prop
def FY(X:Cx)(H:Hp)(E:cg):Prop:=∀(c:Str) (ks:Vs) (ps:List PV) (σ3:cN) (S':ar) (H':Hp) (pins:Va) (σ:St) (s':Shared) (a C dx:Addr) (od:Obj) (vs:List V),E (.exc c ks ps) σ3 S'->EB X.K c C->vs.length=ks.length->
 H' dx=some (.frz od (.ext (XD dx (ks.zip vs))))->Reps X.K H' vs ps->CK X.K H' S'->CQ X.K H' σ σ3->Grow X.K H H'->Inv X pins σ H' s'->Cm X pins H' s'.heap a C dx->X.xe (.ref a) s'
def FY.mono{X:Cx}{H H':Hp}{E:cg}(x:FY X H E)(g:Grow X.K H H'):FY X H' E:=fun c ks ps σ3 S' H2 pins σ s' a C dx od vs h1 h2 h3 h4 h5 h6 h7 h8 h9 KK=>x c ks ps σ3 S' H2 pins σ s' a C dx od vs h1 h2 h3 h4 h5 h6 h7 (g.trans h8) h9 KK
def FZ(K:Vo)(H:Hp)(Q3:bH)(Q:VK):Prop:=∀p S' v H',Q3 p S'->Rep K H' v p->CK K H' S'->Grow K H H'->Q v H'
def FZ.mono{K:Vo}{H H':Hp}{Q3:bH}{Q:VK}(r:FZ K H Q3 Q)(g:Grow K H H'):FZ K H' Q3 Q:=fun p S' v H2 h1 h2 h3 h4=>r p S' v H2 h1 h2 h3 (g.trans h4)
def Hk(K:Vo)(H:Hp)(N3:cN->ar->Prop)(N:St->Hp->Prop):Prop:=∀σ3 S' σ H',N3 σ3 S'->CQ K H' σ σ3->CK K H' S'->Grow K H H'->N σ H'
def Hk.mono{K:Vo}{H H':Hp}{Q3:cN->ar->Prop}{Q:St->Hp->Prop}(r:Hk K H Q3 Q)(g:Grow K H H'):Hk K H' Q3 Q:=fun p S' v H2 h1 h2 h3 h4=>r p S' v H2 h1 h2 h3 (g.trans h4)
def LE(X:Cx)(t:aS):TE:=fun σ H Q=>∃σ3 S Q3 E3,CQ X.K H σ σ3/\CK X.K H S/\t σ3 S Q3 E3/\FY X H E3/\FZ X.K H Q3 Q
def LT(X:Cx)(t:iK):TT:=fun σ H Q=>∃σ3 S Q3 E3,CQ X.K H σ σ3/\CK X.K H S/\t σ3 S Q3 E3/\FY X H E3/\∀b S' H',Q3 b S'->CK X.K H' S'->Grow X.K H H'->Q b H'
def LS(X:Cx)(t:bX):TS:=fun D σ H=>∃σ3 S D3,CQ X.K H σ σ3/\CK X.K H S/\t D3 σ3 S/\FY X H D3.ex/\Hk X.K H D3.nx D.nx/\FZ X.K H D3.rt D.rt/\Hk X.K H D3.bk D.bk/\Hk X.K H D3.ct D.ct
structure bh (X:Cx) (e:Expr) (t:aS):Prop where
 ok:PE X e (LE X t)
structure pL (X:Cx) (e:Expr) (t:iK):Prop where
 ok:PT X e (LT X t)
structure xg (X:Cx) (e:Expr) (t:iK):Prop where
 ok:PW X e (LT X t)
structure oi (X:Cx) (st:Stmt) (t:bX):Prop where
 ok:PS X st (LS X t)
structure iL (X:Cx) (st:List Stmt) (t:bX):Prop where
 ok:Fp X st (LS X t)
def aR{X:Cx}{e:Expr}{t t':TE}(h:PE X e t)(k:∀σ H Q,t' σ H Q->t σ H Q):PE X e t':=fun pins s σ H Q I q=>h pins s σ H Q I (k σ H Q q)
def rh{X:Cx}{e:Expr}{t t':TT}(h:PT X e t)(k:∀σ H Q,t' σ H Q->t σ H Q):PT X e t':=fun pins s σ H Q I q=>h pins s σ H Q I (k σ H Q q)
def rj{X:Cx}{e:Expr}{t t':TT}(h:PW X e t)(k:∀σ H Q,t' σ H Q->t σ H Q):PW X e t':=fun wh pins s σ H Q I q=>h wh pins s σ H Q I (k σ H Q q)
def dE{X:Cx}{e:Stmt}{t t':TS}(h:PS X e t)(k:∀D σ H,t' D σ H->t D σ H):PS X e t':=fun pins s σ H D I q=>h pins s σ H D I (k D σ H q)
def oj{X:Cx}{e:List Stmt}{t t':TS}(h:Fp X e t)(k:∀D σ H,t' D σ H->t D σ H):Fp X e t':=fun pins s σ H D I q=>h pins s σ H D I (k D σ H q)
section
variable {X:Cx} {a b c e o:Expr} {es:List Expr} {ta tb tc te:aS} {pos:Pos}
def v3(i:Nat):aS:=fun σ S Q _=>match lk σ i with|some p=>Q p S|none=>False
def ad(i:Nat){x:Str}(hN:X.N[i]?=some x:=by rfl)(hv:AH X.env.scope x:=by first|exact Or.inl rfl|exact Or.inr (Or.inl rfl)|exact Or.inr (Or.inr rfl))(hd:(x == ("__debug__":Str))=false:=by decide)
  (hcd:(x == ("__classdict__":Str))=false:=by decide):bh X (.Name x pos) (v3 i):=
 ⟨aR (we hN hv hd hcd) fun σ H Q ⟨σ3,S,Q3,E3,rσ,rS,h,xo,k⟩=>by
  unfold v3 at h
  split at h
  ·rename_i p e
   obtain⟨v,ev,rv⟩:=rσ.at' i p (rg e)
   exact⟨v,ev,k p S v H h rv rS .refl⟩
  ·exact h.elim⟩
def c3(p:PV):aS:=fun _ S Q _=>Q p S
def af{i:Int}{j:Nat}:bh X (.Constant (.int i) j pos) (c3 (.int i)):=⟨aR wf fun σ H Q ⟨σ3,S,Q3,E3,rσ,rS,h,xo,k⟩=>k _ S _ H h (.int i) rS .refl⟩
def xi{i:Bool}{j:Nat}:bh X (.Constant (.bool i) j pos) (c3 (.bl i)):=⟨aR yR fun σ H Q ⟨σ3,S,Q3,E3,rσ,rS,h,xo,k⟩=>k _ S _ H h (.bl i) rS .refl⟩
def cO{i:Str}{j:Nat}:bh X (.Constant (.str i) j pos) (c3 (.str i)):=⟨aR wj fun σ H Q ⟨σ3,S,Q3,E3,rσ,rS,h,xo,k⟩=>k _ S _ H h (.str i) rS .refl⟩
def jb{j:Nat}:bh X (.Constant .none j pos) (c3 .non):=⟨aR wg fun σ H Q ⟨σ3,S,Q3,E3,rσ,rS,h,xo,k⟩=>k _ S _ H h .non rS .refl⟩
noncomputable def ag:List aS->Co
 |[],_,S,Q,_=>Q [] S
 |t::ts,σ,S,Q,E=>t σ S (fun x S1=>ag ts σ S1 (fun xs S2=>Q (x::xs) S2) E) E
noncomputable def AO:List TE->TA
 |[]=>t8
 |t::ts=>qG t (AO ts)
structure jc (X:Cx) (es:List Expr) (ts:List aS):Prop where
 ok:PA X es (AO (ts.map (LE X)))
def rm:jc X [] []:=⟨wM⟩
def rq{ts:List aS}(hs:starEach (e::es) X.env=(false,eval e X.env)::starEach es X.env)(ha:bh X e te)(hr:jc X es ts):jc X (e::es) (te::ts):=⟨t9 ha.ok hr.ok hs⟩
theorem b_:∀{ts:List aS} {σ:L2.St} {H:Hp} {Q:List V->Hp->Prop} {σ3:cN} {S:ar} {Q3:List PV->ar->Prop} {E3:cg},CQ X.K H σ σ3->CK X.K H S->ag ts σ3 S Q3 E3->FY X H E3->
  (∀ps S' vs H',ps.length=ts.length->Q3 ps S'->Reps X.K H' vs ps->CK X.K H' S'->Grow X.K H H'->Q vs H')->AO (ts.map (LE X)) σ H Q
 |[],σ,H,Q,σ3,S,Q3,E3,rσ,rS,h,xo,k=>k [] S [] H rfl h .nil rS .refl
 |t::ts,σ,H,Q,σ3,S,Q3,E3,rσ,rS,h,xo,k=>
  ⟨σ3,S,_,E3,rσ,rS,h,xo,fun p S1 v H1 h1 rv CT g1=>b_ (rσ.mono g1) CT h1 (xo.mono g1) fun ps S2 vs H2 hl h2 Ji Eb g2=>k (p::ps) S2 (v::vs) H2 (by rw[List.length_cons,List.length_cons,hl]) h2 (.cons (rv.mono g2) Ji) Eb (g1.trans g2)⟩
def aM(ts:List aS):aS:=fun σ S Q E=>ag ts σ S (fun xs S1=>Q (.tup xs) S1) E
def aY{ts:List aS}{x1:Nat}(h:jc X es ts)(hn:ts.length<=1000:=by exact Nat.le_of_ble_eq_true rfl):bh X (.Tuple es x1 pos) (aM ts):=
 ⟨aR (wN h.ok) fun σ H Q ⟨σ3,S,Q3,E3,rσ,rS,hq,xo,k⟩=>b_ rσ rS hq xo fun ps S' vs H' hl q rv DQ g=>
  ⟨Nat.le_of_lt (fv (by rw[rv.length,hl];exact hn)),fun p hp=>k _ S' _ _ q (.tup (SqT.of ax) (rv.mono (.new hp))) (DQ.other hp) (g.trans (.new hp))⟩⟩
def cC(ts:List aS):aS:=fun σ S Q E=>ag ts σ S (fun xs S1=>∀p,S1 p=none->Q (.ref p) (CG S1 p (.lst xs))) E
def eF{ts:List aS}(h:jc X es ts)(hn:ts.length<=1000:=by exact Nat.le_of_ble_eq_true rfl):bh X (.List es pos) (cC ts):=
 ⟨aR (wO h.ok) fun σ H Q ⟨σ3,S,Q3,E3,rσ,rS,hq,xo,k⟩=>b_ rσ rS hq xo fun ps S' vs H' hl q rv DQ g=>
  ⟨Nat.le_of_lt (fv (by rw[rv.length,hl];exact hn)),fun p hp=>k _ _ _ _ (q p (DQ.free hp)) (.ref p) (DQ.new hp ⟨vs,ax,rv.mono (.new hp)⟩) (g.trans (.new hp))⟩⟩
abbrev R3:=PV->PV->ar->bH->Prop
def LR(X:Cx)(r:R3):R2:=fun x y H Q=>∃px py S Q3,Rep X.K H x px/\Rep X.K H y py/\CK X.K H S/\r px py S Q3/\FZ X.K H Q3 Q
structure gb (X:Cx) (f:Value->Value->Sem Value) (r:R3):Prop where
 ok:fz X f (LR X r)
def ah(r:R3)(ta tb:aS):aS:=fun σ S Q E=>ta σ S (fun x S1=>tb σ S1 (fun y S2=>r x y S2 Q) E) E
def gr{r:R3}{σ:L2.St}{H:Hp}{Q:VK}:LE X (ah r ta tb) σ H Q->yA (LR X r) (LE X ta) (LE X tb) σ H Q:=fun⟨σ3,S,Q3,E3,rσ,rS,h,xo,k⟩=>
 ⟨σ3,S,_,E3,rσ,rS,h,xo,fun x S1 v H1 h1 rx CT g1=>⟨σ3,S1,_,E3,rσ.mono g1,CT,h1,xo.mono g1,fun y S2 u H2 h2 ry Eb g2=>⟨x,y,S2,Q3,rx.mono g2,ry,Eb,h2,k.mono (g1.trans g2)⟩⟩⟩
def av{op:Operator}{r:R3}(ho:gb X (binaryOp op) r)(ha:bh X a ta)(hb:bh X b tb):bh X (.BinOp a op b pos) (ah r ta tb):=⟨aR (y3 ho.ok ha.ok hb.ok) fun _ _ _=>gr⟩
def ol{op:CmpOp}{r:R3}(ho:gb X (compareOp op) r)(ha:bh X a ta)(hb:bh X b tb)(hm:behindInMarks op b=false):bh X (.Compare a [op] [b] pos) (ah r ta tb):=⟨aR (tY ho.ok ha.ok hb.ok hm) fun _ _ _=>gr⟩
def cE(t:aS):iK:=fun σ S Q E=>t σ S (fun v S'=>match v with | .bl k=>Q k S'|_=>False) E
def rA{σ:L2.St}{H:Hp}{Q:Bool->Hp->Prop}:LT X (cE te) σ H Q->LE X te σ H (fun x H'=>∃k,x = .bl k/\Q k H'):=fun⟨σ3,S,Q3,E3,rσ,rS,h,xo,k⟩=>
 ⟨σ3,S,_,E3,rσ,rS,h,xo,fun p S' v H' h1 rv DQ g=>by
  cases p with
  |bl z=>cases rv;exact⟨z,rfl,k z S' H' h1 DQ g⟩
  |_=>exact h1.elim⟩
def cF{op:CmpOp}{r:R3}(ho:gb X (compareOp op) r)(ha:bh X a ta)(hb:bh X b tb)(hm:behindInMarks op b=false):pL X (.Compare a [op] [b] pos) (cE (ah r ta tb)):=
 ⟨rh (tZ ho.ok ha.ok hb.ok hm) fun σ H Q ⟨σ3,S,Q3,E3,rσ,rS,h,xo,k⟩=>gr ⟨σ3,S,_,E3,rσ,rS,h,xo,fun p S' v H' h1 rv DQ g=>by
  cases p with
  |bl z=>cases rv;exact⟨z,rfl,k z S' H' h1 DQ g⟩
  |_=>exact h1.elim⟩⟩
def vB(h:bh X e te)(he:∀whole,isTrue e X.env whole=(do let v <-whole;standAt e.pos;holding [v] (truthy v)):=by intro _;rfl):pL X e (cE te):=
 ⟨rh (wk h.ok he) fun σ H Q q=>rA q⟩
end
section
variable {X:Cx} {a b c:Expr} {rest:List Expr} {ta tb te:aS} {tA tB:iK} {pos:Pos}
def kz(t u:iK):iK:=fun σ S Q E=>t σ S (fun c S1=>if c=true then u σ S1 Q E else Q false S1) E
def vC(t u:iK):iK:=fun σ S Q E=>t σ S (fun c S1=>if c=true then Q true S1 else u σ S1 Q E) E
def mR(ha:pL X a tA):xg X (.BoolOp .And [a] pos) tA:=⟨tN ha.ok⟩
def vD(ha:pL X a tA):xg X (.BoolOp .Or [a] pos) tA:=⟨wm ha.ok⟩
def rB(ha:pL X a tA)(hb:xg X (.BoolOp .And (b::rest) pos) tB):xg X (.BoolOp .And (a::b::rest) pos) (kz tA tB):=
 ⟨rj (wo ha.ok hb.ok) fun σ H Q ⟨σ3,S,Q3,E3,rσ,rS,h,xo,k⟩=>⟨σ3,S,_,E3,rσ,rS,h,xo,fun c S1 H1 h1 CT g1=>by
  cases c with
  |true=>rw[if_pos rfl]at h1 ⊢;exact⟨σ3,S1,Q3,E3,rσ.mono g1,CT,h1,xo.mono g1,fun b S2 H2 h2 Eb g2=>k b S2 H2 h2 Eb (g1.trans g2)⟩
  |false=>rw[if_neg (by decide)]at h1 ⊢;exact k false S1 H1 h1 CT g1⟩⟩
def zq(ha:pL X a tA)(hb:xg X (.BoolOp .Or (b::rest) pos) tB):xg X (.BoolOp .Or (a::b::rest) pos) (vC tA tB):=
 ⟨rj (yS ha.ok hb.ok) fun σ H Q ⟨σ3,S,Q3,E3,rσ,rS,h,xo,k⟩=>⟨σ3,S,_,E3,rσ,rS,h,xo,fun c S1 H1 h1 CT g1=>by
  cases c with
  |true=>rw[if_pos rfl]at h1 ⊢;exact k true S1 H1 h1 CT g1
  |false=>rw[if_neg (by decide)]at h1 ⊢;exact⟨σ3,S1,Q3,E3,rσ.mono g1,CT,h1,xo.mono g1,fun b S2 H2 h2 Eb g2=>k b S2 H2 h2 Eb (g1.trans g2)⟩⟩⟩
def zr(h:xg X a tA):pL X a tA:=⟨h.ok.pt⟩
def lB(t:iK)(ta tb:aS):aS:=fun σ S Q E=>t σ S (fun c S1=>if c=true then ta σ S1 Q E else tb σ S1 Q E) E
def vE(hc:pL X c tA)(ha:bh X a ta)(hb:bh X b tb):bh X (.IfExp c a b pos) (lB tA ta tb):=
 ⟨aR (qt hc.ok ha.ok hb.ok) fun σ H Q ⟨σ3,S,Q3,E3,rσ,rS,h,xo,k⟩=>⟨σ3,S,_,E3,rσ,rS,h,xo,fun c S1 H1 h1 CT g1=>by
  cases c with
  |true=>rw[if_pos rfl]at h1 ⊢;exact⟨σ3,S1,Q3,E3,rσ.mono g1,CT,h1,xo.mono g1,k.mono g1⟩
  |false=>rw[if_neg (by decide)]at h1 ⊢;exact⟨σ3,S1,Q3,E3,rσ.mono g1,CT,h1,xo.mono g1,k.mono g1⟩⟩⟩
abbrev zt:=PV->ar->bH->Prop
noncomputable def Cp(X:Cx)(r:zt):V->Hp->VK->Prop:=fun x H Q=>∃px S Q3,Rep X.K H x px/\CK X.K H S/\r px S Q3/\FZ X.K H Q3 Q
structure B6 (X:Cx) (f:Value->Sem Value) (r:zt):Prop where
 ok:AK X f (Cp X r)
def iC(r:zt)(ta:aS):aS:=fun σ S Q E=>ta σ S (fun x S1=>r x S1 Q) E
def iM{op:UnaryOp}{r:zt}(ho:B6 X (unaryOp op) r)(ha:bh X a ta):bh X (.UnaryOp op a pos) (iC r ta):=
 ⟨aR (y4 ho.ok ha.ok) fun σ H Q ⟨σ3,S,Q3,E3,rσ,rS,h,xo,k⟩=>⟨σ3,S,_,E3,rσ,rS,h,xo,fun p S1 v H1 h1 rv CT g1=>⟨p,S1,Q3,rv,CT,h1,k.mono g1⟩⟩⟩
noncomputable def cP:zt:=fun x S Q=>match x with | .int i=>Q (.int (-i)) S|_=>False
def cU:B6 X (unaryOp .USub) cP:=⟨fun pins s σ H x v Q I rx ⟨px,S,Q3,r1,rS,h,k⟩=>by
 cases px with
 |int i=>cases r1;exact wI pins s σ H _ v Q I rx ⟨i,rfl,k _ S _ H h (.int _) rS .refl⟩
 |_=>exact h.elim⟩
end
section
variable {X:Cx}
def cj(g:Int->Int->PV):R3:=fun x y S Q=>match x,y with | .int i,.int j=>Q (g i j) S|_,_=>False
def eG(C:Int->Int->Prop)(g:Int->Int->PV):R3:=fun x y S Q=>match x,y with | .int i,.int j=>C i j/\Q (g i j) S|_,_=>False
def xk{f:Value->Value->Sem Value}{g:Int->Int->Int}(h:fz X f (tV fun i j=>.int (g i j))):gb X f (cj fun i j=>.int (g i j)):=⟨fun pins s σ H x y v u Q I rx ry ⟨px,py,S,Q3,r1,r2,rS,q,k⟩=>by
 cases px with
 |int i=>
  cases py with
  |int j=>cases r1;cases r2;exact h pins s σ H _ _ v u Q I rx ry ⟨i,j,rfl,rfl,k _ S _ H q (.int _) rS .refl⟩
  |_=>exact q.elim
 |_=>exact q.elim⟩
def kA{f:Value->Value->Sem Value}{g:Int->Int->Bool}(h:fz X f (tV fun i j=>.bl (g i j))):gb X f (cj fun i j=>.bl (g i j)):=⟨fun pins s σ H x y v u Q I rx ry ⟨px,py,S,Q3,r1,r2,rS,q,k⟩=>by
 cases px with
 |int i=>
  cases py with
  |int j=>cases r1;cases r2;exact h pins s σ H _ _ v u Q I rx ry ⟨i,j,rfl,rfl,k _ S _ H q (.bl _) rS .refl⟩
  |_=>exact q.elim
 |_=>exact q.elim⟩
def kB{f:Value->Value->Sem Value}{C:Int->Int->Prop}{g:Int->Int->Int}(h:fz X f (rI C fun i j=>.int (g i j))):gb X f (eG C fun i j=>.int (g i j)):=⟨fun pins s σ H x y v u Q I rx ry ⟨px,py,S,Q3,r1,r2,rS,q,k⟩=>by
 cases px with
 |int i=>
  cases py with
  |int j=>cases r1;cases r2;exact h pins s σ H _ _ v u Q I rx ry ⟨i,j,rfl,rfl,q.1,k _ S _ H q.2 (.int _) rS .refl⟩
  |_=>exact q.elim
 |_=>exact q.elim⟩
def jd(i j:Int):Prop:=j≠0/\j.natAbs < 2 ^ 8000
def mS{n:Nat}(h:n < 2 ^ 8000):n.log2 < 9000:=by
 by_cases z:n=0
 ·rw[z];decide +kernel
 ·exact Nat.lt_trans ((Nat.log2_lt z).mpr h) (by decide)
def xn:gb X (binaryOp .Sub) (cj fun i j=>.int (i - j)):=xk wG
def xq:gb X (binaryOp .Mod) (eG (fun _ j=>j≠0) fun i j=>.int (i.fmod j)):=kB tW
def uA:gb X (binaryOp .FloorDiv) (eG jd fun i j=>.int (i.fdiv j)):=kB (AL fun _ _ _ _ _ _ _ hc q=>PyProof.Rows.floordiv_int hc.1 q (.inl (PyProof.noPylong_of_log2 (mS hc.2))))
def xr:gb X (binaryOp .Pow) (eG wE fun i j=>.int (i ^ j.toNat)):=kB wH
def zu:gb X (compareOp .Lt) (cj fun i j=>.bl (decide (i < j))):=kA y8
def zv:gb X (compareOp .Gt) (cj fun i j=>.bl (decide (j < i))):=kA y9
def zw:gb X (compareOp .GtE) (cj fun i j=>.bl (decide (j<=i))):=kA y_
end
end L3
namespace L2
open PySem PySem.Spec PyProof.Rows
section
variable {X:Cx}
def zx(K:Vo):R2:=fun x y H Q=>∃a b xs ys,x = .ref a/\y = .ref b/\SqT K H a xs/\SqT K H b ys/\xs.length+ys.length<=sizeLine/\∀r H',(∀c o,H c=some o->H' c=some o)->SqT K H' r (xs++ys)->Q (.ref r) H'
def uB:fz X (binaryOp .Add) (zx X.K):=by
 intro pins s σ H x y v u Q I rx ry h
 obtain⟨a,b,xs,ys,rfl,rfl,ha,hb,hz,q⟩:=h
 by_cases hx:xs=[]
 ·subst hx
  cases rx
  cases ry
  obtain⟨its,r1,p1,_⟩:=I.tuple ha
  obtain⟨its2,r2,p2,_⟩:=I.tuple hb
  cases r1
  obtain⟨⟨cls,dd,data,sl⟩,ho,hc,n,hd⟩:=id p1
  obtain⟨⟨IV,dd2,data2,sl2⟩,ho2,hc2,n2,hd2⟩:=id p2
  simp only at hc hd hc2 hd2
  subst hc hd hc2 hd2
  exact concat_meets ⟨_,ho,rfl⟩ ⟨_,ho2,rfl⟩ noFill_tuple_add seq_tuple_add PySem.F.slot_tuple_add PySem.F.entry_tuple_add (PySem.F.args_tuple_add_2 _ _)
   (tuple_addW0 a b _ its2.toArray n n2 dd dd2 sl sl2 rfl) ⟨ho,ho2,⟨.ref b,H,I,rfl,q b H (fun _ _ e=>e) hb⟩⟩
 ·exact uk pins s σ H _ _ v u Q I rx ry ⟨a,b,xs,ys,rfl,rfl,ha,hb,hx,hz,fun e=>q a H (fun _ _ e=>e) (by rw[e,List.append_nil];exact ha),
   fun _ p hp=>q p _ (fun c o e=>by rw[ay (aV e hp)];exact e) (SqT.of ax)⟩
end
end L2
namespace L3
open PySem L2
section
variable {X:Cx}
def aP:R3:=fun x y S Q=>match x,y with
 | .int i,.int j=>Q (.int (i+j)) S
 | .str i,.str j=>i.length+j.length<=sizeLine/\Q (.str (i++j)) S
 | .tup i,.tup j=>i.length+j.length<=sizeLine/\Q (.tup (i++j)) S
 | .ref i,.ref j=>match S i,S j with
  |some (.lst xs),some (.lst ys)=>xs.length+ys.length<=sizeLine/\∀p,S p=none->Q (.ref p) (CG S p (.lst (xs++ys)))
  |_,_=>False
 |_,_=>False
def aH:gb X (binaryOp .Add) aP:=⟨fun pins s σ H x y v u Q I rx ry ⟨px,py,S,Q3,r1,r2,rS,q,k⟩=>by
 unfold aP at q
 split at q
 ·cases r1;cases r2
  exact wF pins s σ H _ _ v u Q I rx ry ⟨_,_,rfl,rfl,k _ S _ H q (.int _) rS .refl⟩
 ·cases r1;cases r2
  exact mz pins s σ H _ _ v u Q I rx ry ⟨_,_,rfl,rfl,q.1,k _ S _ H q.2 (.str _) rS .refl⟩
 ·cases r1 with
  |tup h1 s1=>
   cases r2 with
   |tup h2 s2=>
    refine uB pins s σ H _ _ v u Q I rx ry ⟨_,_,_,_,rfl,rfl,h1,h2,by rw[s1.length,s2.length];exact q.1,fun r H' hs hr=>?_⟩
    exact k _ S _ H' q.2 (.tup hr ((s1.mono (.same hs)).append (s2.mono (.same hs)))) (rS.grow hs) (.same hs)
 ·cases r1;cases r2
  split at q
  ·rename_i i j xs ys e1 e2
   obtain⟨vs,h1,s1⟩:=rS _ _ e1
   obtain⟨us,h2,s2⟩:=rS _ _ e2
   exact wX pins s σ H _ _ v u Q I rx ry ⟨_,_,_,_,rfl,rfl,h1,h2,by rw[s1.length,s2.length];exact q.1,fun p hp=>k _ _ _ _ (q.2 p (rS.free hp)) (.ref p) (rS.new hp ⟨_,ax,(s1.append s2).mono (.new hp)⟩) (.new hp)⟩
  ·exact q.elim
 ·exact q.elim⟩
end
mutual
inductive Dat (S:ar):PV->PyData->Prop
 |non:Dat S .non .none
 |bl (b:Bool):Dat S (.bl b) (.bool b)
 |int (i:Int):Dat S (.int i) (.int i)
 |str (x:Str):Dat S (.str x) (.str x)
 |tup {ps:List PV} {ds:List PyData}:Es S ps ds->Dat S (.tup ps) (.tuple ds)
 |cl {ps:List PV} {ds:List PyData}:Es S ps ds->Dat S (.cl ps) (.list ds)
 |ref {a:Addr} {ps:List PV} {ds:List PyData}:S a=some (.lst ps)->Es S ps ds->Dat S (.ref a) (.list ds)
inductive Es (S:ar):List PV->List PyData->Prop
 |nil:Es S [] []
 |cons {p:PV} {d:PyData} {ps:List PV} {ds:List PyData}:Dat S p d->Es S ps ds->Es S (p::ps) (d::ds)
end
section
variable {X:Cx} {pins:Va} {σ:L2.St} {H:Hp} {s:Shared} {S:ar}
def mT(I:Inv X pins σ H s)(rS:CK X.K H S):(∀{p:PV} {d:PyData},Dat S p d->∀{v:V} {u:Value},Rep X.K H v p->RelV v u->∃as,Reads s.heap u d as)/\∀{ps:List PV} {ds:List PyData},Es S ps ds->∀{vs:List V} {us:Vv},Reps X.K H vs ps->Vals vs us->∃as,ReadsAll s.heap us ds as:=by
 have one:=@Dat.rec S (motive_1:=fun p d _=>∀{v:V} {u:Value},Rep X.K H v p->RelV v u->∃as,Reads s.heap u d as) (motive_2:=fun ps ds _=>∀{vs:List V} {us:Vv},Reps X.K H vs ps->Vals vs us->∃as,ReadsAll s.heap us ds as)
 have two:=@Es.rec S (motive_1:=fun p d _=>∀{v:V} {u:Value},Rep X.K H v p->RelV v u->∃as,Reads s.heap u d as) (motive_2:=fun ps ds _=>∀{vs:List V} {us:Vv},Reps X.K H vs ps->Vals vs us->∃as,ReadsAll s.heap us ds as)
 have c1:∀{v:V} {u:Value},Rep X.K H v .non->RelV v u->∃as,Reads s.heap u .none as:=fun h r=>by cases h;cases r;exact⟨_,.none⟩
 have c2:∀(b:Bool) {v:V} {u:Value},Rep X.K H v (.bl b)->RelV v u->∃as,Reads s.heap u (.bool b) as:=fun b _ _ h r=>by cases h;cases r;exact⟨_,.bool b⟩
 have c3:∀(i:Int) {v:V} {u:Value},Rep X.K H v (.int i)->RelV v u->∃as,Reads s.heap u (.int i) as:=fun i _ _ h r=>by cases h;obtain⟨t,rfl⟩:=r;exact⟨_,.int i t⟩
 have c4:∀(x:Str) {v:V} {u:Value},Rep X.K H v (.str x)->RelV v u->∃as,Reads s.heap u (.str x) as:=fun x _ _ h r=>by cases h;obtain⟨t,rfl⟩:=r;exact⟨_,.str x t⟩
 have c5:∀{ps:List PV} {ds:List PyData},Es S ps ds->(∀{vs:List V} {us:Vv},Reps X.K H vs ps->Vals vs us->∃as,ReadsAll s.heap us ds as)->∀{v:V} {u:Value},Rep X.K H v (.tup ps)->RelV v u->∃as,Reads s.heap u (.tuple ds) as:=fun _ ih _ _ h r=>by
  cases h with
  |tup h rs=>
   cases r
   obtain⟨its,rv,⟨o,ho,hc,n,hd⟩,hz⟩:=I.tuple h
   obtain⟨as,q⟩:=ih rs rv
   exact⟨as,.tuple ho hc hd (by simpa using q)⟩
 have c6:∀{ps:List PV} {ds:List PyData},Es S ps ds->(∀{vs:List V} {us:Vv},Reps X.K H vs ps->Vals vs us->∃as,ReadsAll s.heap us ds as)->∀{v:V} {u:Value},Rep X.K H v (.cl ps)->RelV v u->∃as,Reads s.heap u (.list ds) as:=fun _ ih _ _ h r=>by
  cases h with
  |cl h rs=>
   cases r
   obtain⟨its,rv,⟨o,n,ho,hc,_,hd⟩,hz⟩:=I.list h.sq
   obtain⟨as,q⟩:=ih rs rv
   exact⟨_,.list ho hc hd (by simpa using q)⟩
 have c7:∀{a:Addr} {ps:List PV} {ds:List PyData},S a=some (.lst ps)->Es S ps ds->(∀{vs:List V} {us:Vv},Reps X.K H vs ps->Vals vs us->∃as,ReadsAll s.heap us ds as)->∀{v:V} {u:Value},Rep X.K H v (.ref a)->RelV v u->∃as,Reads s.heap u (.list ds) as:=fun e _ ih _ _ h r=>by
  cases h
  cases r
  obtain⟨vs,hv,rs⟩:=rS _ _ e
  obtain⟨its,rv,⟨o,n,ho,hc,_,hd⟩,hz⟩:=I.list (SqL.of hv)
  obtain⟨as,q⟩:=ih rs rv
  exact⟨_,.list ho hc hd (by simpa using q)⟩
 have c8:∀{vs:List V} {us:Vv},Reps X.K H vs []->Vals vs us->∃as,ReadsAll s.heap us [] as:=fun h r=>by cases h;cases r;exact⟨_,.nil⟩
 have c9:∀{p:PV} {d:PyData} {ps:List PV} {ds:List PyData},Dat S p d->Es S ps ds->(∀{v:V} {u:Value},Rep X.K H v p->RelV v u->∃as,Reads s.heap u d as)->(∀{vs:List V} {us:Vv},Reps X.K H vs ps->Vals vs us->∃as,ReadsAll s.heap us ds as)->∀{vs:List V} {us:Vv},Reps X.K H vs (p::ps)->Vals vs us->∃as,ReadsAll s.heap us (d::ds) as:=fun _ _ i1 i2 _ _ h r=>by
  cases h with
  |cons a rs=>
   cases r with
   |cons r1 r2=>
    obtain⟨as,q⟩:=i1 a r1
    obtain⟨bs,q2⟩:=i2 rs r2
    exact⟨_,.cons q q2⟩
 exact⟨fun h=>one c1 c2 c3 c4 c5 c6 c7 c8 c9 h,fun h=>two c1 c2 c3 c4 c5 c6 c7 c8 c9 h⟩
def Dat.reads(I:Inv X pins σ H s)(rS:CK X.K H S){p:PV}{d:PyData}{v:V}{u:Value}(h:Dat S p d)(r:Rep X.K H v p)(r2:RelV v u):∃as,Reads s.heap u d as:=(mT I rS).1 h r r2
end
section
variable {X:Cx}
def fQ(neg:Bool):R3:=fun x y S Q=>match x,y with
 | .int i,.int j=>Q (.bl (neg != decide (i=j))) S
 | .str i,.str j=>Q (.bl (neg != decide (i=j))) S
 | .bl i,.bl j=>Q (.bl (neg != decide (i=j))) S
 |x,y=>∃d d',Dat S x d/\Dat S y d'/\d.canLay0=true/\d'.canLay0=true/\min d.depth d'.depth<=150/\Q (.bl (neg != PyData.eqv d d')) S
def rC(hu:X.A.units+150 < cLine):gb X (compareOp .Eq) (fQ false):=⟨fun pins s σ H x y v u Q I rx ry ⟨px,py,S,Q3,r1,r2,rS,q,k⟩=>by
 unfold fQ at q
 split at q
 ·cases r1;cases r2
  exact qA pins s σ H _ _ v u Q I rx ry ⟨rfl,k _ S _ H (by simpa using q) (.bl _) rS .refl⟩
 ·cases r1;cases r2
  exact qA pins s σ H _ _ v u Q I rx ry ⟨rfl,k _ S _ H (by simpa using q) (.bl _) rS .refl⟩
 ·cases r1;cases r2
  exact qA pins s σ H _ _ v u Q I rx ry ⟨rfl,k _ S _ H (by simpa using q) (.bl _) rS .refl⟩
 ·obtain⟨d,d',h1,h2,c1,c2,hd,q⟩:=q
  obtain⟨as,a1⟩:=h1.reads I rS r1 rx
  obtain⟨bs,a2⟩:=h2.reads I rS r2 ry
  exact SeqAt.compareEq_reads a1 a2 c1 c2 (by omega) ⟨.bl _,H,I,rfl,k _ S _ H (by simpa using q) (.bl _) rS .refl⟩⟩
def zy(hu:X.A.units+150 < cLine):gb X (compareOp .NotEq) (fQ true):=⟨fun pins s σ H x y v u Q I rx ry ⟨px,py,S,Q3,r1,r2,rS,q,k⟩=>by
 unfold fQ at q
 split at q
 ·cases r1;cases r2
  exact qB pins s σ H _ _ v u Q I rx ry ⟨rfl,k _ S _ H (by simpa using q) (.bl _) rS .refl⟩
 ·cases r1;cases r2
  exact qB pins s σ H _ _ v u Q I rx ry ⟨rfl,k _ S _ H (by simpa using q) (.bl _) rS .refl⟩
 ·cases r1;cases r2
  exact qB pins s σ H _ _ v u Q I rx ry ⟨rfl,k _ S _ H (by simpa using q) (.bl _) rS .refl⟩
 ·obtain⟨d,d',h1,h2,c1,c2,hd,q⟩:=q
  obtain⟨as,a1⟩:=h1.reads I rS r1 rx
  obtain⟨bs,a2⟩:=h2.reads I rS r2 ry
  exact SeqAt.compareNe_reads a1 a2 c1 c2 (by omega) ⟨.bl _,H,I,rfl,k _ S _ H (by simpa using q) (.bl _) rS .refl⟩⟩
def mj(neg:Bool):R3:=fun x y S Q=>match y with
 | .non=>Q (.bl (neg != match x with | .non=>true|_=>false)) S
 | .bl true=>match x with | .bl true=>Q (.bl (neg != true)) S|_=>False
 |_=>False
def vF:gb X (compareOp .Is) (mj false):=⟨fun pins s σ H x y v u Q I rx ry ⟨px,py,S,Q3,r1,r2,rS,q,k⟩=>by
 unfold mj at q
 split at q
 ·cases r2
  refine wJ pins s σ H _ _ v u Q I rx ry ⟨rfl,?_⟩
  cases r1<;>exact k _ S _ H (by simpa using q) (.bl _) rS .refl
 ·cases r2
  split at q
  ·cases r1
   exact xa pins s σ H _ _ v u Q I rx ry ⟨rfl,rfl,k _ S _ H (by simpa using q) (.bl _) rS .refl⟩
  ·exact q.elim
 ·exact q.elim⟩
def rD:gb X (compareOp .IsNot) (mj true):=⟨fun pins s σ H x y v u Q I rx ry ⟨px,py,S,Q3,r1,r2,rS,q,k⟩=>by
 unfold mj at q
 split at q
 ·cases r2
  refine tX pins s σ H _ _ v u Q I rx ry ⟨rfl,?_⟩
  cases r1<;>exact k _ S _ H (by simpa using q) (.bl _) rS .refl
 ·cases r2
  split at q
  ·cases r1
   exact pK pins s σ H _ _ v u Q I rx ry ⟨rfl,rfl,k _ S _ H (by simpa using q) (.bl _) rS .refl⟩
  ·exact q.elim
 ·exact q.elim⟩
noncomputable def eV(S:ar):PV->Option (List PV)
 | .tup xs=>some xs
 | .cl xs=>some xs
 | .ref a=>match S a with|some (.lst xs)=>some xs|_=>none
 |_=>none
def xu{H:Hp}{S:ar}{v:V}{p:PV}{xs:List PV}(rS:CK X.K H S)(r:Rep X.K H v p)(h:eV S p=some xs):∃a vs,v = .ref a/\(SqL X.K H a vs\/SqT X.K H a vs)/\Reps X.K H vs xs:=by
 unfold eV at h
 split at h
 ·cases h;cases r with|tup h1 rs=>exact⟨_,_,rfl,.inr h1,rs⟩
 ·cases h;cases r with|cl h1 rs=>exact⟨_,_,rfl,.inl h1.sq,rs⟩
 ·cases r
  split at h
  ·rename_i e
   cases h
   obtain⟨vs,hv,rs⟩:=rS _ _ e
   exact⟨_,vs,rfl,.inl (SqL.of hv),rs⟩
  ·cases h
 ·cases h
theorem CP.any{K:Vo}{H:Hp}{κ:Type} [DecidableEq κ](k:κ):∀{vs:List (κ×V)} {ps:List (κ×PV)},CP K H vs ps->(gY vs k).isSome=ps.any fun kv=>decide (kv.1=k)
 |_,_,.nil=>rfl
 |_,_,.cons (k:=k') a r=>by
  rw[List.any_cons,<-CP.any k r]
  by_cases e:k'=k
  ·rw[DO e];simp[e]
  ·rw[DP e];simp[e]
end
end L3
namespace HT
open PySem PySem.Spec PyProof.Rows
section
variable {prog:Program} {w:World} {A:Around} {E:Vq} {s:Shared}
def gv{t sl:Addr}{items:Vw}{vl vu:Value}{lo hi:Option Int}{Q:Vq}(ht:IsTup s.heap t items)(hs:s.heap.IsSliceOf sl vl vu .none)(pl:IsPart vl lo)(pu:IsPart vu hi)
  (hw:C3 items.size 0 lo=0/\C3 items.size items.size hi=items.size)
  (h:Q (.ref t) s):wpAny (model prog w) A (getItem (.ref t) (.ref sl)) Q E s:=by
 obtain⟨os,hos,hcs,hds⟩:=id hs
 have IW:s.TypeIs (.ref sl) "slice":=⟨os,hos,hcs⟩
 unfold getItem
 try with_reducible refine wpAny_holding ?_
 first|refine wpAny_bind (wpAny_pure ?_)|skip
 refine wpAny_bind (wpAny_sequenceKey ht.typeIs (by decide) ?_)
 refine wpAny_bind (wpAny_callSpecial?_slot (name:=Str.ofString "__getitem__") ht.typeIs PyProof.Rows.slot_tuple_getitem
  (wpAny_call_entry PyProof.Rows.slot_tuple_getitem ht.typeIs entry_tuple_getitem ?_ (args_tuple_getitem _ _)))
 show wpAny _ _ (Builtin.Tuple.tupleItemsOf (.ref t) >>= _) _ _ s
 refine wpAny_bind (tupleItemsOf_ ht ?_)
 refine wpAny_bind (wpAny_typeOf IW ?_)
 rw[if_pos (by decide)]
 refine wpAny_bind (dM hs pl pu ?_)
 have hyes:(((C3 items.size 0 lo:Nat):Int) == 0&&(1:Int) == 1&&(C3 items.size items.size hi - C3 items.size 0 lo) == items.size)=true:=by
  rw[hw.1,hw.2];simp
 show wpAny _ _ (if (((C3 items.size 0 lo:Nat):Int) == 0&&(1:Int) == 1&&(C3 items.size items.size hi - C3 items.size 0 lo) == items.size)=true then _ else _) _ _ s
 rw[if_pos hyes]
 unfold Builtin.Tuple.tupleIsExact
 refine wpAny_bind (wpAny_bind (wpAny_typeOf ht.typeIs (wpAny_pure ?_)))
 rw[if_pos (by decide)]
 first
  |exact wpAny_bind (wpAny_rule (wpAny_pure ⟨_,rfl,wpAny_pure h⟩))
  |exact wpAny_bind (wpAny_rule (wpAny_bind (wpAny_pure (wpAny_pure ⟨_,rfl,wpAny_pure h⟩))))
  |exact wpAny_bind (wpAny_rule (wpAny_bind (wpAny_pure ⟨_,rfl,wpAny_pure h⟩)))
end
end HT
namespace L2
open PySem PySem.Spec PyProof.Rows
section
variable {X:Cx}
noncomputable def zz(K:Vo):V->Option Int->Option Int->Hp->VK->Prop:=fun x lo hi H Q=>∃a xs,x = .ref a/\SqT K H a xs/\∀r H',(∀c o,H c=some o->H' c=some o)->SqT K H' r (i5 xs lo hi)->Q (.ref r) H'
def uC:yB X (zz X.K):=by
 intro pins s σ H x v vl vu lo hi sl Q I rx hs pl pu h
 obtain⟨a,xs,rfl,hx,q⟩:=h
 by_cases hw:HT.C3 xs.length 0 lo=0/\HT.C3 xs.length xs.length hi=xs.length
 ·cases rx
  obtain⟨its,r,ht,hz⟩:=I.tuple hx
  have hlen:its.toArray.size=xs.length:=by rw[List.size_toArray];exact r.length.symm
  refine⟨"tuple",_,PyProof.Rows.slot_tuple_getitem.lookup,ht.typeIs,HT.gv ht hs pl pu (by rw[hlen];exact hw) ⟨.ref a,H,I,rfl,q a H (fun _ _ e=>e) ?_⟩⟩
  have e:i5 xs lo hi=xs:=by unfold i5;rw[hw.1,hw.2];simp
  rw[e];exact hx
 ·exact wR pins s σ H _ v vl vu lo hi sl Q I rx hs pl pu ⟨a,xs,rfl,hx,hw,fun p hp=>q p _ (fun c o e=>by rw[ay (aV e hp)];exact e) (SqT.of ax)⟩
def uD(hu:X.A.units+1 < cLine):yC X (fun x y H Q=>∃a v,x = .ref a/\DGet H a y (some v)/\Q v H):=by
 intro value slice pins s σ H x y v u Q I rx ry h hs
 obtain⟨a,z,rfl,g,q⟩:=h
 cases rx
 exact tail_any (lu I g) PySem.F.slot_dict_getitem.lookup (pk hu I g ry fun w' s3 I3 rw'=>⟨z,H,I3,rw',q⟩) hs
def rE(hu:X.A.units+1 < cLine):tR X (fun o i v H Q=>∃a H',o = .ref a/\F2 H a i v H'/\Q H'):=by
 intro pins s σ H o i v ov iv u Q I ro ri rv h
 obtain⟨a,H',rfl,g,q⟩:=h
 cases ro
 exact pq hu I g ri rv fun s' I'=>⟨H',I',q⟩
end
end L2
namespace L3
open PySem L2
theorem Reps.atI{K:Vo}{H:Hp}{vs:List V}{ps:List PV}{i:Int}{p:PV}(r:Reps K H vs ps)(h:L2.atI ps i=some p):∃v,L2.atI vs i=some v/\Rep K H v p:=by
 unfold L2.atI at h ⊢
 rw[r.length]
 cases e:lp ps.length i with
 |none=>rw[e]at h;cases h
 |some j=>
  rw[e]at h
  obtain⟨v,h1,h2⟩:=r.get h
  exact⟨v,h1,h2⟩
noncomputable def mU:PV->Option bR
 | .int i=>some (.inl i)
 | .str x=>some (.inr x)
 |_=>none
def fP{K:Vo}{H:Hp}{v:V}{p:PV}{k:bR}(r:Rep K H v p)(h:mU p=some k):v=kV k:=by
 cases p with
 |int i=>cases h;cases r;rfl
 |str i=>cases h;cases r;rfl
 |_=>cases h
noncomputable def jF{κ:Type} [DecidableEq κ]:List (κ×PV)->κ->Option PV
 |[],_=>none
 |(k',v)::r,k=>if k'=k then some v else jF r k
theorem CP.val{K:Vo}{H:Hp}{κ:Type} [DecidableEq κ]{k:κ}{p:PV}:∀{vs:List (κ×V)} {ps:List (κ×PV)},CP K H vs ps->jF ps k=some p->∃v,gY vs k=some v/\Rep K H v p
 |_,_,.nil,h=>by cases h
 |_,_,.cons (k:=k') a r,h=>by
  unfold jF at h
  split at h
  ·rename_i e;cases h;exact⟨_,DO e,a⟩
  ·rename_i e;rw[DP e];exact CP.val r h
section
variable {X:Cx} {a b e lo hi:Expr} {ta tb te:aS} {pos p2:Pos}
structure B7 (X:Cx) (r:R3):Prop where
 ok:yC X (LR X r)
def zA{r:R3}(hr:B7 X r)(ha:bh X a ta)(hb:bh X b tb)(hs:iS b):bh X (.Subscript a b pos) (ah r ta tb):=⟨aR (zh hr.ok ha.ok hb.ok hs) fun _ _ _=>gr⟩
def al:R3:=fun x y S Q=>match x with
 | .tup xs=>match y with | .int i=>(match atI xs i with|some v=>Q v S|none=>False)|_=>False
 | .cl xs=>match y with | .int i=>(match atI xs i with|some v=>Q v S|none=>False)|_=>False
 | .str z=>match y with | .int i=>z.length<=sizeLine/\(match atI z.cps.toList i with|some c=>Q (.str ⟨#[c]⟩) S|none=>False)|_=>False
 | .ref a=>match S a with
  |some (.lst xs)=>(match y with | .int i=>(match atI xs i with|some v=>Q v S|none=>False)|_=>False)
  |some (.dct kvs)=>(match mU y with|some k=>(match jF kvs k with|some v=>Q v S|none=>False)|none=>False)
  |_=>False
 |_=>False
def B8(hu:X.A.units+1 < cLine):B7 X al:=⟨fun value slice pins s σ H x y v u Q I rx ry ⟨px,py,S,Q3,r1,r2,rS,q,k⟩ hs=>by
 unfold al at q
 split at q
 ·split at q
  ·split at q
   ·rename_i e
    cases r2
    cases r1 with
    |tup h1 rs=>
     obtain⟨w,hw,rw'⟩:=rs.atI e
     exact wS value slice pins s σ H _ _ v u Q I rx ry ⟨_,_,_,w,rfl,rfl,h1,hw,k _ S _ H q rw' rS .refl⟩ hs
   ·exact q.elim
  ·exact q.elim
 ·split at q
  ·split at q
   ·rename_i e
    cases r2
    cases r1 with
    |cl h1 rs=>
     obtain⟨w,hw,rw'⟩:=rs.atI e
     exact n6 value slice pins s σ H _ _ v u Q I rx ry ⟨_,_,_,w,rfl,rfl,h1.sq,hw,k _ S _ H q rw' rS .refl⟩ hs
   ·exact q.elim
  ·exact q.elim
 ·split at q
  ·obtain⟨hz,q⟩:=q
   split at q
   ·rename_i e
    cases r1;cases r2
    exact wT value slice pins s σ H _ _ v u Q I rx ry ⟨_,_,_,rfl,rfl,hz,e,k _ S _ H q (.str _) rS .refl⟩ hs
   ·exact q.elim
  ·exact q.elim
 ·split at q
  ·rename_i e0
   split at q
   ·split at q
    ·rename_i e
     cases r1;cases r2
     obtain⟨vs,hv,rs⟩:=rS _ _ e0
     obtain⟨w,hw,rw'⟩:=rs.atI e
     exact n6 value slice pins s σ H _ _ v u Q I rx ry ⟨_,_,_,w,rfl,rfl,SqL.of hv,hw,k _ S _ H q rw' rS .refl⟩ hs
    ·exact q.elim
   ·exact q.elim
  ·rename_i e0
   split at q
   ·rename_i ek
    split at q
    ·rename_i ev
     cases r1
     have e1:=fP r2 ek
     subst e1
     obtain⟨kv,hv,rk⟩:=rS _ _ e0
     obtain⟨w,hw,rw'⟩:=rk.val ev
     refine uD hu value slice pins s σ H _ _ v u Q I rx ry ⟨_,w,rfl,?_,k _ S _ H q rw' rS .refl⟩ hs
     rw[<-hw]
     exact DGet.k hv
    ·exact q.elim
   ·exact q.elim
  ·exact q.elim
 ·exact q.elim⟩
abbrev yE:=cN->ar->(Option Int->ar->Prop)->cg->Prop
noncomputable def LO(X:Cx)(t:yE):TO:=fun σ H Q=>∃σ3 S Q3 E3,CQ X.K H σ σ3/\CK X.K H S/\t σ3 S Q3 E3/\FY X H E3/\∀o S' H',Q3 o S'->CK X.K H' S'->Grow X.K H H'->Q o H'
structure AQ (X:Cx) (e:Option Expr) (t:yE):Prop where
 ok:PO X e (LO X t)
noncomputable def pM:yE:=fun _ S Q _=>Q none S
noncomputable def k5(t:aS):yE:=fun σ S Q E=>t σ S (fun v S'=>match v with | .int i=>Q (some i) S'|_=>False) E
def rF{e:Option Expr}{t t':TO}(h:PO X e t)(k:∀σ H Q,t' σ H Q->t σ H Q):PO X e t':=fun pins s σ H Q I q=>h pins s σ H Q I (k σ H Q q)
def je:AQ X none pM:=⟨rF ug fun σ H Q ⟨σ3,S,Q3,E3,rσ,rS,h,xo,k⟩=>k none S H h rS .refl⟩
def d3(h:bh X e te):AQ X (some e) (k5 te):=⟨rF (uh h.ok) fun σ H Q ⟨σ3,S,Q3,E3,rσ,rS,h,xo,k⟩=>⟨σ3,S,_,E3,rσ,rS,h,xo,fun p S' v H' h1 rv DQ g=>by
 cases p with
 |int i=>cases rv;exact⟨i,rfl,k _ S' H' h1 DQ g⟩
 |_=>exact h1.elim⟩⟩
noncomputable def cV{α:Type}(xs:List α)(lo hi:Option Int):List α:=(xs.drop (HT.C3 xs.length 0 lo)).take (HT.C3 xs.length xs.length hi - HT.C3 xs.length 0 lo)
def Reps.cut{K:Vo}{H:Hp}{vs:List V}{ps:List PV}(r:Reps K H vs ps)(lo hi:Option Int):Reps K H (i5 vs lo hi) (cV ps lo hi):=by
 unfold i5 cV
 rw[r.length]
 exact(r.drop _).take _
def iN(x:PV)(lo hi:Option Int)(S:ar)(Q:bH):Prop:=match x with
 | .tup xs=>Q (.tup (cV xs lo hi)) S
 | .cl xs=>∀p,S p=none->Q (.ref p) (CG S p (.lst (cV xs lo hi)))
 | .str z=>z.length<=sizeLine/\Q (.str (Txt.slice z lo hi)) S
 | .ref a=>match S a with|some (.lst xs)=>∀p,S p=none->Q (.ref p) (CG S p (.lst (cV xs lo hi)))|_=>False
 |_=>False
noncomputable def Cq(X:Cx):V->Option Int->Option Int->Hp->VK->Prop:=fun x lo hi H Q=>∃px S Q3,Rep X.K H x px/\CK X.K H S/\iN px lo hi S Q3/\FZ X.K H Q3 Q
def Cr:yB X (Cq X):=by
 intro pins s σ H x v vl vu lo hi sl Q I rx hs pl pu ⟨px,S,Q3,r1,rS,q,k⟩
 unfold iN at q
 split at q
 ·cases r1 with
  |tup h1 rs=>exact uC pins s σ H _ v vl vu lo hi sl Q I rx hs pl pu ⟨_,_,rfl,h1,fun r H' hh hr=>k _ S _ H' q (.tup hr ((rs.cut lo hi).mono (.same hh))) (rS.grow hh) (.same hh)⟩
 ·cases r1 with
  |cl h1 rs=>exact n9 pins s σ H _ v vl vu lo hi sl Q I rx hs pl pu ⟨_,_,rfl,h1.sq,fun p hp=>k _ _ _ _ (q p (rS.free hp)) (.ref p) (rS.new hp ⟨_,ax,(rs.cut lo hi).mono (.new hp)⟩) (.new hp)⟩
 ·cases r1
  exact w9 pins s σ H _ v vl vu lo hi sl Q I rx hs pl pu ⟨_,rfl,q.1,k _ S _ H q.2 (.str _) rS .refl⟩
 ·split at q
  ·rename_i e
   cases r1
   obtain⟨vs,hv,rs⟩:=rS _ _ e
   exact n9 pins s σ H _ v vl vu lo hi sl Q I rx hs pl pu ⟨_,_,rfl,SqL.of hv,fun p hp=>k _ _ _ _ (q p (rS.free hp)) (.ref p) (rS.new hp ⟨_,ax,(rs.cut lo hi).mono (.new hp)⟩) (.new hp)⟩
  ·exact q.elim
 ·exact q.elim
def bV(te:aS)(tl th:yE):aS:=fun σ S Q E=>te σ S (fun x S1=>tl σ S1 (fun l S2=>th σ S2 (fun u S3=>iN x l u S3 Q) E) E) E
def d4{lo hi:Option Expr}{tl th:yE}(he:bh X e te)(hl:AQ X lo tl)(hu:AQ X hi th):bh X (.Subscript e (.Slice lo hi none p2) pos) (bV te tl th):=
 ⟨aR (qM Cr he.ok hl.ok hu.ok) fun σ H Q ⟨σ3,S,Q3,E3,rσ,rS,h,xo,k⟩=>⟨σ3,S,_,E3,rσ,rS,h,xo,fun x S1 v H1 h1 rx CT g1=>⟨σ3,S1,_,E3,rσ.mono g1,CT,h1,xo.mono g1,fun l S2 H2 h2 Eb g2=>
  ⟨σ3,S2,_,E3,rσ.mono (g1.trans g2),Eb,h2,xo.mono (g1.trans g2),fun u S3 H3 h3 HJ g3=>⟨x,S3,Q3,rx.mono (g2.trans g3),HJ,h3,k.mono (g1.trans (g2.trans g3))⟩⟩⟩⟩⟩
def uE:fz X (binaryOp .Mult) (rI IntMulOk fun i j=>.int (i * j)):=AL fun _ _ _ _ _ _ _ hc q=>PyProof.Rows.mul_int q hc
def aL:R3:=fun x y S Q=>match x,y with
 | .int i,.int j=>IntMulOk i j/\Q (.int (i * j)) S
 | .ref a,.int j=>(match S a with|some (.lst xs)=>-(2 ^ 63)<=j/\j < 2 ^ 63/\xs.length * j.toNat<=sizeLine/\∀p,S p=none->Q (.ref p) (CG S p (.lst (List.replicate j.toNat xs).flatten))|_=>False)
 |_,_=>False
theorem Reps.rep{K:Vo}{H:Hp}{vs:List V}{ps:List PV}(r:Reps K H vs ps):∀n:Nat,Reps K H (List.replicate n vs).flatten (List.replicate n ps).flatten
 |0=>.nil
 |n+1=>by
  rw[List.replicate_succ,List.replicate_succ,List.flatten_cons,List.flatten_cons]
  exact r.append (Reps.rep r n)
def aG:gb X (binaryOp .Mult) aL:=⟨fun pins s σ H x y v u Q I rx ry ⟨px,py,S,Q3,r1,r2,rS,q,k⟩=>by
 unfold aL at q
 split at q
 ·cases r1;cases r2
  exact uE pins s σ H _ _ v u Q I rx ry ⟨_,_,rfl,rfl,q.1,k _ S _ H q.2 (.int _) rS .refl⟩
 ·split at q
  ·rename_i e
   cases r1;cases r2
   obtain⟨vs,hv,rs⟩:=rS _ _ e
   exact wY pins s σ H _ _ v u Q I rx ry ⟨_,_,_,rfl,rfl,hv,q.1,q.2.1,by rw[rs.length];exact q.2.2.1,fun p hp=>k _ _ _ _ (q.2.2.2 p (rS.free hp)) (.ref p) (rS.new hp ⟨_,ax,(rs.rep _).mono (.new hp)⟩) (.new hp)⟩
  ·exact q.elim
 ·exact q.elim⟩
end
end L3
namespace L2
open PySem PySem.Spec PyProof.Rows
end L2
namespace L3
open PySem L2
abbrev mV:=List PV->ar->bH->Prop
section
variable {X:Cx} {e o:Expr} {es:List Expr} {te to:aS} {ts:List aS} {x:Str} {p pos apos cpos:Pos}
noncomputable def LC(X:Cx)(r:mV):List V->Hp->VK->Prop:=fun xs H Q=>∃ps S Q3,Reps X.K H xs ps/\CK X.K H S/\r ps S Q3/\FZ X.K H Q3 Q
structure eW (X:Cx) (f:Value) (r:mV):Prop where
 ok:fF X f (LC X r)
def ai(r:mV)(ts:List aS):aS:=fun σ S Q E=>ag ts σ S (fun ps S1=>r ps S1 Q) E
def om{r:mV}{σ:L2.St}{H:Hp}{Q:VK}:LE X (ai r ts) σ H Q->AO (ts.map (LE X)) σ H fun vs H1=>LC X r vs H1 Q:=fun⟨σ3,S,Q3,E3,rσ,rS,h,xo,k⟩=>
 b_ rσ rS h xo fun ps S' vs H' hl q rv DQ g=>⟨ps,S',Q3,rv,DQ,q,k.mono g⟩
def uF{id:String}{r:mV}(hc:eW X (.builtin id) r)(hg:Gl X x)(hm:X.mg x=none)(hv:bootBuiltins x=some (.builtin id))(he:starEach (e::es) X.env=(false,eval e X.env)::starEach es X.env)(ha:jc X (e::es) ts)
  (hn:x ≠ "__name__":=by decide) (hdb:(x == ("__debug__":Str))=false:=by decide) (hpl:(backTo pos (starEach es X.env)).any (·.1)=false:=by rfl):bh X (.Call (.Name x p) (e::es) [] pos) (ai r ts):=
 ⟨aR (qK hc.ok hg hm hv ha.ok hn hdb he hpl) fun _ _ _=>om⟩
def uG{id:String}{r:mV}(hc:eW X (.type id) r)(hg:Gl X x)(hm:X.mg x=none)(hv:bootBuiltins x=some (.type id))(he:starEach (e::es) X.env=(false,eval e X.env)::starEach es X.env)(ha:jc X (e::es) ts)
  (hn:x ≠ "__name__":=by decide) (hdb:(x == ("__debug__":Str))=false:=by decide) (hpl:(backTo pos (starEach es X.env)).any (·.1)=false:=by rfl):bh X (.Call (.Name x p) (e::es) [] pos) (ai r ts):=
 ⟨aR (pd hc.ok hg hm hv ha.ok hn hdb he hpl) fun _ _ _=>om⟩
def bA:mV:=fun ps S Q=>match ps with
 |[.tup xs]=>Q (.int xs.length) S
 |[.cl xs]=>Q (.int xs.length) S
 |[.str z]=>z.length<=sizeLine/\Q (.int z.length) S
 |[.ref a]=>(match S a with|some (.lst xs)=>Q (.int xs.length) S|some (.dct kvs)=>Q (.int kvs.length) S|_=>False)
 |_=>False
def cG:eW X (.builtin "len") bA:=⟨fun pins s σ H xs us Q I r ⟨ps,S,Q3,rp,rS,q,k⟩=>by
 unfold bA at q
 split at q
 ·cases rp with|cons a rr=>cases rr;cases a with|tup h rs=>exact dZ pins s σ H _ us Q I r ⟨_,_,rfl,.inr h,by rw[rs.length];exact k _ S _ H q (.int _) rS .refl⟩
 ·cases rp with|cons a rr=>cases rr;cases a with|cl h rs=>exact dZ pins s σ H _ us Q I r ⟨_,_,rfl,.inl h.sq,by rw[rs.length];exact k _ S _ H q (.int _) rS .refl⟩
 ·cases rp with|cons a rr=>cases rr;cases a;exact ko pins s σ H _ us Q I r ⟨_,rfl,q.1,k _ S _ H q.2 (.int _) rS .refl⟩
 ·cases rp with
  |cons a rr=>
   cases rr;cases a
   split at q
   ·rename_i e
    obtain⟨vs,hv,rs⟩:=rS _ _ e
    exact dZ pins s σ H _ us Q I r ⟨_,_,rfl,.inl (SqL.of hv),by rw[rs.length];exact k _ S _ H q (.int _) rS .refl⟩
   ·rename_i e
    obtain⟨vs,hv,rs⟩:=rS _ _ e
    exact pC pins s σ H _ us Q I r ⟨_,_,rfl,hv,by rw[rs.length];exact k _ S _ H q (.int _) rS .refl⟩
   ·exact q.elim
 ·exact q.elim⟩
def lC:mV:=fun ps S Q=>match ps with|[.int i]=>Q (.int (if i < 0 then -i else i)) S|_=>False
def vG:eW X (.builtin "abs") lC:=⟨fun pins s σ H xs us Q I r ⟨ps,S,Q3,rp,rS,q,k⟩=>by
 unfold lC at q
 split at q
 ·cases rp with|cons a rr=>cases rr;cases a;exact qC pins s σ H _ us Q I r ⟨_,rfl,k _ S _ H q (.int _) rS .refl⟩
 ·exact q.elim⟩
def jf:mV:=fun ps S Q=>match ps with|[.int i,.int j]=>Q (.int (if j > i then j else i)) S|_=>False
def rG(hc:X.calm=true):eW X (.builtin "max") jf:=⟨fun pins s σ H xs us Q I r ⟨ps,S,Q3,rp,rS,q,k⟩=>by
 unfold jf at q
 split at q
 ·cases rp with|cons a rr=>cases rr with|cons b r3=>cases r3;cases a;cases b;exact oX hc pins s σ H _ us Q I r ⟨_,_,rfl,k _ S _ H q (.int _) rS .refl⟩
 ·exact q.elim⟩
def eX:mV:=fun ps S Q=>match ps with|[.int i]=>Q (.int i) S|[.bl b]=>Q (.int (if b then 1 else 0)) S|_=>False
def vH:eW X (.type "int") eX:=⟨fun pins s σ H xs us Q I r ⟨ps,S,Q3,rp,rS,q,k⟩=>by
 unfold eX at q
 split at q
 ·cases rp with|cons a rr=>cases rr;cases a;exact jM pins s σ H _ us Q I r (.inl ⟨_,rfl,k _ S _ H q (.int _) rS .refl⟩)
 ·cases rp with|cons a rr=>cases rr;cases a;exact jM pins s σ H _ us Q I r (.inr ⟨_,rfl,k _ S _ H q (.int _) rS .refl⟩)
 ·exact q.elim⟩
def aD:mV:=fun ps S Q=>match ps with
 |[v]=>(match eV S v with|some xs=>Q (.tup xs) S|none=>False)
 |_=>False
def ck:eW X (.type "tuple") aD:=⟨fun pins s σ H xs us Q I r ⟨ps,S,Q3,rp,rS,q,k⟩=>by
 unfold aD at q
 split at q
 ·cases rp with
  |cons a rr=>
   cases rr
   split at q
   ·rename_i e
    obtain⟨b,vs,rfl,hs,rs⟩:=xu rS a e
    rcases hs with hs|hs
    ·exact fG pins s σ H _ us Q I r ⟨_,_,rfl,.inl ⟨hs,fun p hp=>k _ S _ _ q (.tup (SqT.of ax) (rs.mono (.new hp))) (rS.other hp) (.new hp)⟩⟩
    ·exact fG pins s σ H _ us Q I r ⟨_,_,rfl,.inr ⟨hs,k _ S _ _ q (.tup hs rs) rS .refl⟩⟩
   ·exact q.elim
 ·exact q.elim⟩
def lD:mV:=fun ps S Q=>match ps with
 |[.int _]=>False
 |[.str _]=>False
 |[.bl _]=>False
 |[.non]=>False
 |[.ty _]=>False
 |[v]=>∃d,Dat S v d/\d.showable=true/\d.hasDict=false/\d.depth<=100/\d.shown.length<=sizeLine/\Q (.str d.shown) S
 |_=>False
def xv(hu:X.A.units+150 < cLine)(hg:X.A.guards=some []):eW X (.builtin "repr") lD:=⟨fun pins s σ H xs us Q I r ⟨ps,S,Q3,rp,rS,q,k⟩=>by
 unfold lD at q
 have main:∀{v:PV} {x:V} {u:Value} {a:Addr},u = .ref a->Rep X.K H x v->RelV x u->(∃d,Dat S v d/\d.showable=true/\d.hasDict=false/\d.depth<=100/\d.shown.length<=sizeLine/\Q3 (.str d.shown) S)->wpAny (model X.prog X.w) X.A (call (.builtin "repr") [u]) (EP X pins σ Q) X.xe s:=by
  rintro v x u a rfl rv rx ⟨d,hd,h1,h2,h3,h4,q⟩
  obtain⟨as,R⟩:=hd.reads I rS rv rx
  exact repr_of_reads' R h1 (PyData.noDict_hsm h2) hg (by omega) (fun _ _ e=>e) (fun h' u tk hk=>⟨.str _,H,I.kept hk,⟨u,rfl⟩,k _ S _ H q (.str _) rS .refl⟩) h4
 split at q
 ·exact q.elim
 ·exact q.elim
 ·exact q.elim
 ·exact q.elim
 ·exact q.elim
 ·rename_i n1 n2 n3 n4 n5
  cases rp with
  |cons a rr=>
   cases rr
   cases r with
   |cons r1 r2=>
    cases r2
    cases a with
    |non=>exact absurd rfl n4
    |bl b=>exact absurd rfl (n3 b)
    |int i=>exact absurd rfl (n1 i)
    |str i=>exact absurd rfl (n2 i)
    |ty i=>exact absurd rfl (n5 i)
    |ref b=>cases r1;exact main rfl (.ref b) rfl q
    |tup h rs=>cases r1;exact main rfl (.tup h rs) rfl q
    |cl h rs=>cases r1;exact main rfl (.cl h rs) rfl q
    |exc h1 h2 rs=>cases r1;exact main rfl (.exc h1 h2 rs) rfl q
    |cls h=>cases r1;exact main rfl (.cls h) rfl q
 ·exact q.elim⟩
end
abbrev uH:=PV->List PV->ar->bH->Prop
section
variable {X:Cx} {e o:Expr} {es:List Expr} {te to:aS} {ts:List aS} {name:Str} {p pos apos cpos:Pos} {T id:String}
noncomputable def LM(X:Cx)(r:uH):V->List V->Hp->VK->Prop:=fun x xs H Q=>∃px ps S Q3,Rep X.K H x px/\Reps X.K H xs ps/\CK X.K H S/\r px ps S Q3/\FZ X.K H Q3 Q
structure xx (X:Cx) (id:String) (r:uH):Prop where
 ok:Bf X id (LM X r)
def pN(T:String)(x:PV)(S:ar):Prop:=match x with
 | .str _=>T = "str"
 | .ref a=>(match S a with|some (.lst _)=>T = "list" | some (.dct _)=>T = "dict" | _=>False)
 | .cl _=>T = "list"
 |_=>False
def rH{H:Hp}{S:ar}{v:V}{p:PV}(rS:CK X.K H S)(r:Rep X.K H v p)(h:pN T p S):AM X.K T v H:=by
 cases r with
 |str x=>exact h
 |ref a=>
  unfold pN at h
  simp only at h
  split at h
  ·rename_i e
   obtain⟨vs,hv,_⟩:=rS _ _ e
   exact .inl ⟨h,_,SqL.of hv⟩
  ·rename_i e
   obtain⟨vs,hv,_⟩:=rS _ _ e
   exact .inr (.inr (.inl ⟨h,.inl ⟨_,hv⟩⟩))
  ·exact h.elim
 |cl h1 _=>exact .inl ⟨h,_,h1.sq⟩
 |_=>exact h.elim
def jg(T:String)(r:uH)(to:aS)(ts:List aS):aS:=fun σ S Q E=>to σ S (fun x S1=>pN T x S1/\ag ts σ S1 (fun ps S2=>r x ps S2 Q) E) E
def Bz{r:uH}(pa:PlainAttrs T)(slot:Slot T name id)(hty:typeOf (.builtin id)=pure (.type "method_descriptor"))(hm:xx X id r)(hs:starEach (e::es) X.env=(false,eval e X.env)::starEach es X.env)(ho:bh X o to)(ha:jc X (e::es) ts)
  (hbase:attributeBase o name X.env (eval o X.env)=eval o X.env:=by rfl)
  (hfew:((backTo cpos (starEach (e::es) X.env)).all (fun x=>!x.1)&&(backToKw cpos (keywordEach [] X.env)).all (fun x=>x.1.isSome)
   && decide ((e::es).length+([]:List Keyword).length+(if ([]:List Keyword).isEmpty then 0 else 1) < 30))=true:=by rfl)
  (hline:(apos.endLine == cpos.line)=true:=by rfl) (hplain:(backTo cpos (starEach es X.env)).any (·.1)=false:=by rfl):bh X (.Call (.Attribute o name apos) (e::es) [] cpos) (jg T r to ts):=
 ⟨aR (zj pa slot hty hm.ok ho.ok ha.ok hbase hfew hline hs hplain) fun σ H Q ⟨σ3,S,Q3,E3,rσ,rS,h,xo,k⟩=>⟨σ3,S,_,E3,rσ,rS,h,xo,fun x S1 v H1 h1 rx CT g1=>
  ⟨rH CT rx h1.1,b_ (rσ.mono g1) CT h1.2 (xo.mono g1) fun ps S2 vs H2 hl q rv Eb g2=>⟨x,ps,S2,Q3,rx.mono g2,rv,Eb,q,k.mono (g1.trans g2)⟩⟩⟩⟩
def zB{r:uH}(pa:PlainAttrs T)(slot:Slot T name id)(hty:typeOf (.builtin id)=pure (.type "method_descriptor"))(hm:xx X id r)(ho:bh X o to)
  (hbase:attributeBase o name X.env (eval o X.env)=eval o X.env:=by rfl) (hline:(apos.endLine == cpos.line)=true:=by rfl):bh X (.Call (.Attribute o name apos) [] [] cpos) (jg T r to []):=
 ⟨aR (wU pa slot hty hm.ok ho.ok hbase hline) fun σ H Q ⟨σ3,S,Q3,E3,rσ,rS,h,xo,k⟩=>⟨σ3,S,_,E3,rσ,rS,h,xo,fun x S1 v H1 h1 rx CT g1=>
  ⟨rH CT rx h1.1,⟨x,[],S1,Q3,rx,.nil,CT,h1.2,k.mono g1⟩⟩⟩⟩
def bv:uH:=fun x ps S Q=>match x,ps with
 | .ref a,[y]=>(match S a with|some (.lst xs)=>xs.length < sizeLine/\Q .non (CG S a (.lst (xs++[y])))|_=>False)
 |_,_=>False
def eZ:xx X "list.append" bv:=⟨fun pins s σ H x xs v us Q I rx rs ⟨px,ps,S,Q3,r1,rp,rS,q,k⟩=>by
 unfold bv at q
 split at q
 ·split at q
  ·rename_i e
   cases r1
   cases rp with
   |cons b rr=>
    cases rr
    obtain⟨vs,hv,rl⟩:=rS _ _ e
    exact ph pins s σ H _ _ v us Q I rx rs ⟨_,_,_,rfl,rfl,hv,by rw[rl.length];exact q.1,k _ _ _ _ q.2 .non (rS.put hv trivial ⟨_,ax,(rl.append (.cons b .nil)).mono (.mut hv trivial)⟩) (.mut hv trivial)⟩
  ·exact q.elim
 ·exact q.elim⟩
def da:uH:=fun x ps S Q=>match x,ps with
 | .ref a,[.ref b]=>(match S a,S b with|some (.lst xs),some (.lst ys)=>xs.length+ys.length<=sizeLine/\Q .non (CG S a (.lst (xs++ys)))|_,_=>False)
 |_,_=>False
def lE:xx X "list.extend" da:=⟨fun pins s σ H x xs v us Q I rx rs ⟨px,ps,S,Q3,r1,rp,rS,q,k⟩=>by
 unfold da at q
 split at q
 ·split at q
  ·rename_i e e2
   cases r1
   cases rp with
   |cons b rr=>
    cases rr
    cases b
    obtain⟨vs,hv,rl⟩:=rS _ _ e
    obtain⟨us',hu,ru⟩:=rS _ _ e2
    exact pj pins s σ H _ _ v us Q I rx rs ⟨_,_,_,_,rfl,rfl,hv,hu,by rw[rl.length,ru.length];exact q.1,k _ _ _ _ q.2 .non (rS.put hv trivial ⟨_,ax,(rl.append ru).mono (.mut hv trivial)⟩) (.mut hv trivial)⟩
  ·exact q.elim
 ·exact q.elim⟩
def lF:uH:=fun x ps S Q=>match x,ps with
 | .ref a,[]=>(match S a with|some (.lst xs)=>(match xs[xs.length - 1]? with|some y=>Q y (CG S a (.lst xs.dropLast))|none=>False)|_=>False)
 | .ref a,[.int i]=>(match S a with|some (.lst xs)=>-(2 ^ 63)<=i/\i < 2 ^ 63/\(match seqIndex? i xs.length with|some j=>(match xs[j]? with|some y=>Q y (CG S a (.lst (xs.eraseIdx j)))|none=>False)|none=>False)|_=>False)
 |_,_=>False
def vI:xx X "list.pop" lF:=⟨fun pins s σ H x xs v us Q I rx rs ⟨px,ps,S,Q3,r1,rp,rS,q,k⟩=>by
 unfold lF at q
 split at q
 ·split at q
  ·rename_i e
   split at q
   ·rename_i ey
    cases r1
    cases rp
    obtain⟨vs,hv,rl⟩:=rS _ _ e
    rw[<-rl.length]at ey
    obtain⟨y',Jj,ry⟩:=rl.get ey
    exact wV pins s σ H _ _ v us Q I rx rs ⟨_,_,_,rfl,rfl,hv,Jj,k _ _ _ _ q (ry.mono (.mut hv trivial)) (rS.put hv trivial ⟨_,ax,rl.dropLast.mono (.mut hv trivial)⟩) (.mut hv trivial)⟩
   ·exact q.elim
  ·exact q.elim
 ·split at q
  ·rename_i e
   obtain⟨h1,h2,q⟩:=q
   split at q
   ·rename_i ej
    split at q
    ·rename_i ey
     cases r1
     cases rp with
     |cons b rr=>
      cases rr;cases b
      obtain⟨vs,hv,rl⟩:=rS _ _ e
      obtain⟨y',Jj,ry⟩:=rl.get ey
      rw[<-rl.length]at ej
      exact qP pins s σ H _ _ v us Q I rx rs ⟨_,_,_,_,_,rfl,rfl,hv,h1,h2,ej,Jj,k _ _ _ _ q (ry.mono (.mut hv trivial)) (rS.put hv trivial ⟨_,ax,(rl.eraseIdx _).mono (.mut hv trivial)⟩) (.mut hv trivial)⟩
    ·exact q.elim
   ·exact q.elim
  ·exact q.elim
 ·exact q.elim⟩
end
section
variable {X:Cx} {e c:Expr} {te:aS} {st:Stmt} {rest a b:List Stmt} {t u:bX} {tc:iK} {pos:Pos}
def d5:bX:=fun D σ S=>D.nx σ S
def aj(t u:bX):bX:=fun D σ S=>t { D with nx:=u D } σ S
def eI:iL X [] d5:=⟨oj tO fun D σ H ⟨σ3,S,D3,rσ,rS,h,xo,n,r,bk,ct⟩=>n σ3 S σ H h rσ rS .refl⟩
def ae(h1:oi X st t)(h2:iL X rest u):iL X (st::rest) (aj t u):=
 ⟨oj (qu h1.ok h2.ok) fun D σ H ⟨σ3,S,D3,rσ,rS,h,xo,n,r,bk,ct⟩=>⟨σ3,S,{ D3 with nx:=u D3 },rσ,rS,h,xo,fun σ4 S' σ' H' h' Gb DQ g=>⟨σ4,S',D3,Gb,DQ,h',xo.mono g,n.mono g,r.mono g,bk.mono g,ct.mono g⟩,r,bk,ct⟩⟩
def au(h1:oi X st t):iL X [st] t:=⟨tP h1.ok⟩
def bS(te:aS):bX:=fun D σ S=>te σ S (fun _ S1=>D.nx σ S1) D.ex
def d6(he:bh X e te)(hs:swapsWith e none pos.line X.env=pure false:=by rfl):oi X (.Expr e pos) (bS te):=
 ⟨dE (tQ he.ok hs) fun D σ H ⟨σ3,S,D3,rσ,rS,h,xo,n,r,bk,ct⟩=>⟨σ3,S,_,D3.ex,rσ,rS,h,xo,fun p S1 v H1 h1 rv CT g1=>n σ3 S1 σ H1 h1 (rσ.mono g1) CT g1⟩⟩
def aE(te:aS):bX:=fun D σ S=>te σ S D.rt D.ex
def aN(he:bh X e te):oi X (.Return (some e) pos) (aE te):=
 ⟨dE (wq he.ok) fun D σ H ⟨σ3,S,D3,rσ,rS,h,xo,n,r,bk,ct⟩=>⟨σ3,S,D3.rt,D3.ex,rσ,rS,h,xo,r⟩⟩
def gc(c:iK)(t u:bX):bX:=fun D σ S=>c σ S (fun b S1=>if b=true then t D σ S1 else u D σ S1) D.ex
def g_(hc:pL X c tc)(ha:iL X a t)(hb:iL X b u):oi X (.If c a b pos) (gc tc t u):=
 ⟨dE (yV hc.ok ha.ok hb.ok) fun D σ H ⟨σ3,S,D3,rσ,rS,h,xo,n,r,bk,ct⟩=>⟨σ3,S,_,D3.ex,rσ,rS,h,xo,fun z S1 H1 h1 CT g1=>by
  cases z with
  |true=>rw[if_pos rfl]at h1 ⊢;exact⟨σ3,S1,D3,rσ.mono g1,CT,h1,xo.mono g1,n.mono g1,r.mono g1,bk.mono g1,ct.mono g1⟩
  |false=>rw[if_neg (by decide)]at h1 ⊢;exact⟨σ3,S1,D3,rσ.mono g1,CT,h1,xo.mono g1,n.mono g1,r.mono g1,bk.mono g1,ct.mono g1⟩⟩⟩
def ap(i:Nat)(te:aS):bX:=fun D σ S=>te σ S (fun v S1=>D.nx (σ.set i (some v)) S1) D.ex
def rJ{i:Nat}{D:kh}{σ:L2.St}{H:Hp}:LS X (ap i te) D σ H->tU (LE X te) (li i) D σ H:=fun⟨σ3,S,D3,rσ,rS,h,xo,n,r,bk,ct⟩=>
 ⟨σ3,S,_,D3.ex,rσ,rS,h,xo,fun p S1 v H1 h1 rv CT g1=>n _ S1 _ H1 h1 ((rσ.mono g1).set rv i) CT g1⟩
def zC{i:Nat}{x:Str}{pos':Pos}(hN:X.N.Nodup)(hi:X.N[i]?=some x)(hx:vm X.env.scope x)(he:bh X e te)(hs:swapsWith e (some (.Name x pos')) pos.line X.env=pure false:=by rfl)
  (hf:X.fn x=true\/X.env.scope.names.lookup x=some .local:=by first|exact .inl rfl|exact .inr rfl|assumption):oi X (.Assign [.Name x pos'] e pos) (ap i te):=⟨dE (wy hN hi hx he.ok hs hf) fun _ _ _=>rJ⟩
def iO(i j:Nat)(ta tb:aS):bX:=fun D σ S=>ta σ S (fun v S1=>tb σ S1 (fun w S2=>D.nx ((σ.set i (some v)).set j (some w)) S2) D.ex) D.ex
def lG{i j:Nat}{x y:Str}{a b:Expr}{ta tb:aS}{px py pt:Pos}{kt k2 GW}(hc:X.calm=true)(hN:X.N.Nodup)(hi:X.N[i]?=some x)(hj:X.N[j]?=some y)(hij:i≠j)
  (hx:X.env.scope.names.lookup x=some .local) (hy:X.env.scope.names.lookup y=some .local) (ha:jc X [a,b] [ta,tb])
  (hw:swappedStores [.Tuple [.Name x px,.Name y py] kt pt] (.Tuple [a,b] k2 GW) X.env=pure (some [x,y]):=by rfl)
  (hs:swapsWithSole [.Tuple [.Name x px,.Name y py] kt pt] (.Tuple [a,b] k2 GW) pos.line X.env=pure false:=by rfl) :
  oi X (.Assign [.Tuple [.Name x px,.Name y py] kt pt] (.Tuple [a,b] k2 GW) pos) (iO i j ta tb):=
 ⟨dE (wz hc hN hi hj hij hx hy ha.ok hw hs) fun D σ H ⟨σ3,S,D3,rσ,rS,h,xo,n,r,bk,ct⟩=>
  ⟨σ3,S,_,D3.ex,rσ,rS,h,xo,fun v S1 v' H1 h1 rv CT g1=>⟨σ3,S1,_,D3.ex,rσ.mono g1,CT,h1,xo.mono g1,fun w S2 w' H2 h2 rw' Eb g2=>
   ⟨v',w',rfl,n _ S2 _ H2 h2 (((rσ.mono (g1.trans g2)).set (rv.mono g2) i).set rw' j) Eb (g1.trans g2)⟩⟩⟩⟩
inductive Tg where
 |n (i:Nat)|tp (l:Tg)|nil|cons (a r:Tg)
mutual
noncomputable def Tg.put:Tg->PV->cN->Option cN
 | .n i,p,σ=>some (σ.set i (some p))
 | .tp l,.tup xs,σ=>l.Dr xs σ
 |_,_,_=>none
noncomputable def Tg.Dr:Tg->List PV->cN->Option cN
 | .nil,[],σ=>some σ
 | .cons a r,x::xs,σ=>(match a.put x σ with|some σ'=>r.Dr xs σ'|none=>none)
 |_,_,_=>none
end
noncomputable def Tg.len:Tg->Nat
 | .cons _ r=>r.len+1
 |_=>0
mutual
noncomputable def Tg.g2(K:Vo):Tg->TG
 | .n i=>li i
 | .tp l=>yY K l.len (l.GG K)
 |_=>fun _ _ _ _=>False
noncomputable def Tg.GG(K:Vo):Tg->vn
 | .nil=>yX
 | .cons a r=>vo (a.g2 K) (r.GG K)
 |_=>fun _ _ _ _=>False
end
noncomputable def Tg.under(own:Nat):Tg->Bool
 | .n i=>decide (i < own)
 | .tp l=>l.under own
 | .nil=>true
 | .cons a r=>a.under own&&r.under own
theorem Tg.Fk:∀(g:Tg) {ps:List PV} {σ3 σ4:cN},g.Dr ps σ3=some σ4->ps.length=g.len
 | .nil,ps,σ3,σ4,h=>by
  cases ps with
  |nil=>rfl
  |cons _ _=>unfold Tg.Dr at h;cases h
 | .cons a r,ps,σ3,σ4,h=>by
  cases ps with
  |nil=>unfold Tg.Dr at h;cases h
  |cons x xs=>
   unfold Tg.Dr at h
   split at h
   ·rw[List.length_cons,Tg.Fk r h];rfl
   ·cases h
 | .n _,ps,σ3,σ4,h=>by unfold Tg.Dr at h;cases h
 | .tp _,ps,σ3,σ4,h=>by unfold Tg.Dr at h;cases h
mutual
theorem Tg.Fv{K:Vo}{H:Hp}{own:Nat}:∀(g:Tg) {v:V} {p:PV} {σ:L2.St} {σ3 σ4:cN} {Q:L2.St->Hp->Prop},Rep K H v p->CQ K H σ σ3->g.put p σ3=some σ4->(∀σ',CQ K H σ' σ4->(g.under own=true->σ'.drop own=σ.drop own)->Q σ' H)->g.g2 K v σ H Q
 | .n i,v,p,σ,σ3,σ4,Q,r,rσ,h,k=>by
  unfold Tg.put at h
  cases h
  unfold Tg.g2
  refine k _ (rσ.set r i) fun hb=>?_
  have hi:i < own:=of_decide_eq_true hb
  rw[List.drop_set]
  rw[if_pos hi]
 | .tp l,v,p,σ,σ3,σ4,Q,r,rσ,h,k=>by
  cases p with
  |tup xs=>
   unfold Tg.put at h
   cases r with
   |tup hq rs=>
    have hg:=Tg.FH (own:=own) l rs rσ h k
    unfold Tg.g2
    exact⟨_,_,rfl,hq,rs.length.trans (Tg.Fk l h),hg⟩
  |_=>unfold Tg.put at h;cases h
 | .nil,v,p,σ,σ3,σ4,Q,r,rσ,h,k=>by unfold Tg.put at h;cases h
 | .cons _ _,v,p,σ,σ3,σ4,Q,r,rσ,h,k=>by unfold Tg.put at h;cases h
theorem Tg.FH{K:Vo}{H:Hp}{own:Nat}:∀(g:Tg) {vs:List V} {ps:List PV} {σ:L2.St} {σ3 σ4:cN} {Q:L2.St->Hp->Prop},Reps K H vs ps->CQ K H σ σ3->g.Dr ps σ3=some σ4->(∀σ',CQ K H σ' σ4->(g.under own=true->σ'.drop own=σ.drop own)->Q σ' H)->g.GG K vs σ H Q
 | .nil,vs,ps,σ,σ3,σ4,Q,r,rσ,h,k=>by
  cases ps with
  |nil=>
   unfold Tg.Dr at h
   cases h
   cases r
   unfold Tg.GG
   exact⟨rfl,k _ rσ fun _=>rfl⟩
  |cons _ _=>unfold Tg.Dr at h;cases h
 | .cons a r',vs,ps,σ,σ3,σ4,Q,r,rσ,h,k=>by
  cases ps with
  |nil=>unfold Tg.Dr at h;cases h
  |cons x xs=>
   unfold Tg.Dr at h
   split at h
   ·rename_i σ5 e5
    cases r with
    |cons r1 r2=>
     unfold Tg.GG
     refine⟨_,_,rfl,Tg.Fv (own:=own) a r1 rσ e5 fun σ' Gb d1=>Tg.FH (own:=own) r' r2 Gb h fun KL Jk d2=>k KL Jk fun hb=>?_⟩
     have hb':a.under own=true/\r'.under own=true:=by simpa [Tg.under]using hb
     rw[d2 hb'.2,d1 hb'.1]
   ·cases h
 | .n _,vs,ps,σ,σ3,σ4,Q,r,rσ,h,k=>by unfold Tg.Dr at h;cases h
 | .tp _,vs,ps,σ,σ3,σ4,Q,r,rσ,h,k=>by unfold Tg.Dr at h;cases h
end
structure uI (X:Cx) (e:Expr) (g:Tg):Prop where
 ok:PG X e (g.g2 X.K)
structure uJ (X:Cx) (es:List Expr) (g:Tg):Prop where
 ok:yW X es (g.GG X.K)
 len:(assignEach es X.env).length=g.len
def Cs(i:Nat){x:Str}(hN:X.N.Nodup)(hi:X.N[i]?=some x)(hx:vm X.env.scope x)(hf:X.fn x=true\/X.env.scope.names.lookup x=some .local:=by first|exact .inl rfl|exact .inr rfl|assumption):uI X (.Name x pos) (.n i):=⟨by
 have h:=tS (pos:=pos) hN hi hx hf
 unfold Tg.g2
 exact h⟩
def jh:uJ X [] .nil:=⟨by unfold Tg.GG;exact tT,rfl⟩
def b8{es:List Expr}{a r:Tg}(h1:uI X e a)(h2:uJ X es r)(hs:(assignEach (e::es) X.env).map (·.2)=assign e X.env::(assignEach es X.env).map (·.2):=by rfl)(hl:(assignEach (e::es) X.env).length=(assignEach es X.env).length+1:=by rfl):uJ X (e::es) (.cons a r):=
 ⟨by unfold Tg.GG;exact qv h1.ok h2.ok hs,by rw[hl,h2.len];rfl⟩
def xy{es:List Expr}{k:Nat}{l:Tg}(hc:X.calm=true)(h:uJ X es l)(hst:(assignEach es X.env).findIdx? (·.1)=none:=by rfl):uI X (.Tuple es k pos) (.tp l):=⟨by
 have h:=wv (pos:=pos) (k:=k) hc h.ok h.len hst
 unfold Tg.g2
 exact h⟩
end
noncomputable def kC{κ:Type} [DecidableEq κ](kvs:List (κ×PV))(k:κ)(v:PV):List (κ×PV):=
 if (kvs.any fun kv=>decide (kv.1=k))=true then kvs.map (fun kv=>if kv.1=k then (kv.1,v) else kv) else kvs++[(k,v)]
theorem CP.append{K:Vo}{H:Hp}{κ:Type}:∀{vs us:List (κ×V)} {ps qs:List (κ×PV)},CP K H vs ps->CP K H us qs->CP K H (vs++us) (ps++qs)
 |_,_,_,_,.nil,s=>s
 |_,_,_,_,.cons a r,s=>.cons a (CP.append r s)
def CP.put{K:Vo}{H:Hp}{κ:Type} [DecidableEq κ]{k:κ}{v:V}{p:PV}(q:Rep K H v p){vs:List (κ×V)}{ps:List (κ×PV)}(r:CP K H vs ps):CP K H (eR vs k v) (kC ps k p):=by
 have e:(vs.any fun kv=>decide (kv.1=k))=(ps.any fun kv=>decide (kv.1=k)):=by rw[i6,r.any]
 unfold eR kC
 rw[e]
 split
 ·clear e
  rename_i h
  clear h
  induction r with
  |nil=>exact .nil
  |@cons k' v' p' vs' ps' a r ih=>
   rw[List.map_cons,List.map_cons]
   by_cases z:k'=k
   ·rw[if_pos z,if_pos z];exact .cons q ih
   ·rw[if_neg z,if_neg z];exact .cons a ih
 ·exact r.append (.cons q .nil)
def cW(o i v:PV)(S:ar)(Q:ar->Prop):Prop:=match o with
 | .ref a=>(match S a with
  |some (.lst xs)=>(match i with | .int k=>(match lp xs.length k with|some j=>Q (CG S a (.lst (xs.set j v)))|none=>False)|_=>False)
  |some (.dct kvs)=>(match mU i with|some k=>kvs.length < sizeLine/\Q (CG S a (.dct (kC kvs k v)))|none=>False)
  |_=>False)
 |_=>False
section
variable {X:Cx} {e o i:Expr} {te to ti:aS} {pos pos':Pos}
noncomputable def BA(X:Cx):V->V->V->Hp->(Hp->Prop)->Prop:=fun o i v H Q=>∃po pi pv S Q3,Rep X.K H o po/\Rep X.K H i pi/\Rep X.K H v pv/\CK X.K H S/\cW po pi pv S Q3/\∀S' H',Q3 S'->CK X.K H' S'->Grow X.K H H'->Q H'
def xz(hu:X.A.units+1 < cLine):tR X (BA X):=by
 intro pins s σ H o i v ov iv u Q I ro ri rv ⟨po,pi,pv,S,Q3,r1,r2,r3,rS,q,k⟩
 unfold cW at q
 split at q
 ·split at q
  ·rename_i e
   split at q
   ·split at q
    ·rename_i ej
     cases r1;cases r2
     obtain⟨vs,hv,rl⟩:=rS _ _ e
     rw[<-rl.length]at ej
     exact qN pins s σ H _ _ _ ov iv u Q I ro ri rv ⟨_,_,_,_,rfl,rfl,hv,ej,k _ _ q (rS.put hv trivial ⟨_,ax,((rl.set r3 _).mono (.mut hv trivial))⟩) (.mut hv trivial)⟩
    ·exact q.elim
   ·exact q.elim
  ·rename_i e
   split at q
   ·rename_i ek
    cases r1
    have e1:=fP r2 ek
    subst e1
    obtain⟨kv,hv,rk⟩:=rS _ _ e
    exact rE hu pins s σ H _ _ _ ov iv u Q I ro ri rv ⟨_,_,rfl,F2.k hv (by rw[rk.length];exact q.1),k _ _ q.2 (rS.put hv trivial ⟨_,ax,(rk.put r3).mono (.mut hv trivial)⟩) (.mut hv trivial)⟩
   ·exact q.elim
  ·exact q.elim
 ·exact q.elim
def d8(te to ti:aS):bX:=fun D σ S=>te σ S (fun v S1=>to σ S1 (fun o S2=>ti σ S2 (fun i S3=>cW o i v S3 (fun S4=>D.nx σ S4)) D.ex) D.ex) D.ex
def gx(hu:X.A.units+1 < cLine)(he:bh X e te)(ho:bh X o to)(hi:bh X i ti)
  (ha:∀v,assign (.Subscript o i pos') X.env v=(do
   let ov <-holding [v] (eval o X.env)
   let iv <-holding [v,ov] (eval i X.env)
   standAt pos'
   holding [v,ov,iv] (setItem ov iv v)
   release [v,ov,iv] []):=by intro _;rfl)
  (hs:swapsWithSole [.Subscript o i pos'] e pos.line X.env=pure false:=by rfl) (hw:swappedStores [.Subscript o i pos'] e X.env=pure none:=by rfl)
  (h1:(assignEach [.Subscript o i pos'] X.env).map (·.2)=[assign (.Subscript o i pos') X.env]:=by rfl):oi X (.Assign [.Subscript o i pos'] e pos) (d8 te to ti):=
 ⟨dE (wx he.ok (ww ho.ok hi.ok (xz hu) ha) hs hw h1) fun D σ H ⟨σ3,S,D3,rσ,rS,h,xo,n,r,bk,ct⟩=>⟨σ3,S,_,D3.ex,rσ,rS,h,xo,fun v S1 v' H1 h1 rv CT g1=>
  ⟨σ3,S1,_,D3.ex,rσ.mono g1,CT,h1,xo.mono g1,fun o S2 o' H2 h2 ro Eb g2=>⟨σ3,S2,_,D3.ex,rσ.mono (g1.trans g2),Eb,h2,xo.mono (g1.trans g2),fun i S3 i' H3 h3 ri HJ g3=>
   ⟨o,i,v,S3,_,ro.mono g3,ri,rv.mono (g2.trans g3),HJ,h3,fun S4 H4 h4 KM g4=>n _ S4 _ H4 h4 (rσ.mono (g1.trans (g2.trans (g3.trans g4)))) KM (g1.trans (g2.trans (g3.trans g4)))⟩⟩⟩⟩⟩
end
end L3
namespace L2
open PySem PySem.Spec PyProof.Rows
section
variable {X:Cx} {tg:Expr}
def BB(K:Vo)(tl:TE):TI:=fun σ H R=>tl σ H fun x H1=>(∃a,x = .ref a/\(∃xs,SqL K H1 a xs)/\R (AI K a) H1)\/(∃a,x = .ref a/\(∃xs,SqT K H1 a xs)/\R (A8 K a) H1)\/∃z,x = .str z/\R (Bq z) H1
def xA{l:Expr}{tl:TE}(hl:PE X l tl):PI X tg l (BB X.K tl):=by
 intro pins s σ H R I h
 refine bz (hl pins s σ H _ I h) fun v s1 ⟨x,H1,I1,r1,q1⟩=>?_
 rcases q1 with⟨a,e,⟨xs,hq⟩,q⟩|⟨a,e,⟨xs,hq⟩,q⟩|⟨z,e,q⟩
 ·subst e
  cases r1
  obtain⟨its,rv,p,hz⟩:=I1.list hq
  refine wpAny_pyIter_list p.isList ?_
  refine⟨s1.heap.objs.size,[s1.heap.objs.size],_,_,H1,rfl,I1.kept (t':=s1.toks) fun b o e=>Heap.get?_push_of_some _ e,oU a _,⟨_,Heap.get?_push_size _ rfl,rfl,rfl⟩,fun b hb=>?_,q⟩
  have e:b=s1.heap.objs.size:=by simpa using hb
  subst e
  exact I1.EA (Nat.le_refl _) (I1.hok.fresh (Nat.le_refl _))
 ·subst e
  cases r1
  obtain⟨its,rv,p,hz⟩:=I1.tuple hq
  refine wpAny_pyIter_tuple (show s1.heap.IsTuple a its.toArray from p) ?_
  refine⟨s1.heap.objs.size,[s1.heap.objs.size],_,_,H1,rfl,I1.kept (t':=s1.toks) fun b o e=>Heap.get?_push_of_some _ e,mx a _,⟨_,Heap.get?_push_size _ rfl,rfl,rfl⟩,fun b hb=>?_,q⟩
  have e:b=s1.heap.objs.size:=by simpa using hb
  subst e
  exact I1.EA (Nat.le_refl _) (I1.hok.fresh (Nat.le_refl _))
 ·subst e
  obtain⟨t,rfl⟩:=r1
  have fin:∀ty,(ty = "str_ascii_iterator" \/ ty = "str_iterator")->A7 X pins σ tg R (.ref s1.heap.objs.size) { s1 with heap:=s1.heap.push { cls:=.type ty,data:=.fields #[.str z t,.int 0 0] } }:=fun ty hty=>by
   refine⟨s1.heap.objs.size,[s1.heap.objs.size],_,_,H1,rfl,I1.kept (t':=s1.toks) fun b o e=>Heap.get?_push_of_some _ e,qZ hty _ z t,⟨Nat.zero_le _,_,Heap.get?_push_size _ rfl,rfl,rfl⟩,fun b hb=>?_,q⟩
   have e:b=s1.heap.objs.size:=by simpa using hb
   subst e
   exact I1.EA (Nat.le_refl _) (I1.hok.fresh (Nat.le_refl _))
  cases ha:z.cps.all (· < 128)
  ·exact wpAny_pyIter_wide ha (fin _ (.inr rfl))
  ·exact wpAny_pyIter_ascii ha (fin _ (.inl rfl))
def xB(K:Vo)(ta:TA):TI:=fun σ H R=>ta σ H fun vs H1=>∃a,vs=[.ref a]/\(((∃xs,SqL K H1 a xs)/\R (Bw K a) H1)\/((∃xs,SqT K H1 a xs)/\R (Bx K a) H1))
def rK{elts:List Expr}{k0:Nat}{Ee:Pos}{a:Expr}{ta:TA}{p pos:Pos}(hg:Gl X "enumerate")(hm:X.mg "enumerate" = none)(hv:bootBuiltins "enumerate" = some (.type "enumerate"))(ha:PA X [a] ta)
  (hs:starEach [a] X.env=[(false,eval a X.env)]:=by rfl):PI X (.Tuple elts k0 Ee) (.Call (.Name "enumerate" p) [a] [] pos) (xB X.K ta):=by
 intro pins s σ H R I h
 refine Call_ (eP I hg hm hv (PyProof.Rows.callWith_type1 (bz (ha pos pins s σ H _ I h) fun us s1 ⟨vs,H1,I1,r1,q1⟩=>?_) hs rfl))
 obtain⟨a,e,q⟩:=q1
 subst e
 obtain⟨u,rfl,ru⟩:=ix r1
 cases ru
 rcases q with⟨⟨xs,qa⟩,q⟩|⟨⟨xs,qa⟩,q⟩
 ·obtain⟨ia,ra,pa,za⟩:=I1.list qa
  refine call_enumerate_list pa.isList fun g ge g1 gz kk=>?_
  refine wpAny_pyIter_enum (s:={ s1 with heap:=g }) ge ?_
  refine⟨_,[s1.heap.objs.size+1,s1.heap.objs.size],_,_,H1,rfl,I1.kept (t':=s1.toks) kk,pJ (Nat.succ_ne_self _),⟨⟨_,ge⟩,g1⟩,fun c hc=>?_,q⟩
  have hle:s1.heap.objs.size<=c:=by
   simp only[List.mem_cons,List.not_mem_nil,or_false]at hc
   rcases hc with rfl|rfl
   ·exact Nat.le_add_right _ _
   ·exact Nat.le_refl _
  exact I1.EA hle (I1.hok.fresh hle)
 ·obtain⟨ia,ra,pa,za⟩:=I1.tuple qa
  have la:a < s1.heap.objs.size:=by obtain⟨o,e,_⟩:=pa;exact Heap.lt_size e
  refine Et.i9 (show s1.heap.IsTuple a ia.toArray from pa) fun g ge g1 kk=>?_
  refine wpAny_pyIter_enum (s:={ s1 with heap:=g }) ge ?_
  refine⟨_,[s1.heap.objs.size+1,s1.heap.objs.size],_,_,H1,rfl,I1.kept (t':=s1.toks) kk,mO (Nat.succ_ne_self _) (Nat.ne_of_lt (Nat.lt_succ_of_lt la)) (Nat.ne_of_lt la),⟨⟨_,ge⟩,g1⟩,fun c hc=>?_,q⟩
  have hle:s1.heap.objs.size<=c:=by
   simp only[List.mem_cons,List.not_mem_nil,or_false]at hc
   rcases hc with rfl|rfl
   ·exact Nat.le_add_right _ _
   ·exact Nat.le_refl _
  exact I1.EA hle (I1.hok.fresh hle)
end
end L2
namespace L3
open PySem L2
structure BC where
 items:List PV
 keep:ar->Prop
def gy(K:Vo)(H0:Hp)(J:It)(src:BC):Prop:=∀(i:Nat) (S:ar) (H:Hp),Grow K H0 H->CK K H S->src.keep S->
 (∀p,src.items[i]?=some p->J.go i H/\∀x H',J.Ik i H x H'->Rep K H' x p/\CK K H' S/\Grow K H H')/\(i=src.items.length->J.stop i H)
abbrev qp:=cN->ar->(BC->ar->Prop)->cg->Prop
def LI(X:Cx)(t:qp):TI:=fun σ H R=>∃σ3 S R3 E3,CQ X.K H σ σ3/\CK X.K H S/\t σ3 S R3 E3/\FY X H E3/\∀src S' J H',R3 src S'->gy X.K H' J src->CK X.K H' S'->Grow X.K H H'->R J H'
structure tI (X:Cx) (tg iter:Expr) (t:qp):Prop where
 ok:PI X tg iter (LI X t)
def ji{X:Cx}{tg iter:Expr}{t t':TI}(h:PI X tg iter t)(k:∀σ H R,t' σ H R->t σ H R):PI X tg iter t':=fun pins s σ H R I q=>h pins s σ H R I (k σ H R q)
section
variable {X:Cx} {e tg:Expr} {es:List Expr} {te:aS} {ts:List aS} {p pos:Pos}
noncomputable def bY(S:ar):PV->Option BC
 | .tup xs=>some ⟨xs,fun _=>True⟩
 | .cl xs=>some ⟨xs,fun _=>True⟩
 | .str z=>some ⟨z.cps.toList.map fun c=>.str (sgn c),fun _=>True⟩
 | .ref a=>(match S a with|some (.lst xs)=>some ⟨xs,fun S'=>S' a=some (.lst xs)⟩|_=>none)
 |_=>none
def aO(te:aS):qp:=fun σ S R E=>te σ S (fun v S1=>match bY S1 v with|some src=>R src S1|none=>False) E
end
section
variable {X:Cx} {e tg a b:Expr} {es:List Expr} {te ta tb:aS} {ts:List aS} {p pos:Pos}
def rL{K:Vo}{H0:Hp}{a:Addr}{xs:List PV}:gy K H0 (AI K a) ⟨xs,fun S'=>S' a=some (.lst xs)⟩:=by
 intro i S H g rS hk
 obtain⟨vs,hv,rs⟩:=rS a _ hk
 refine⟨fun p hp=>?_,fun hi=>⟨vs,SqL.of hv,by rw[rs.length,hi];exact Nat.le_refl _⟩⟩
 obtain⟨v,hx,rv⟩:=rs.get hp
 refine⟨⟨vs,v,SqL.of hv,hx⟩,fun x H' ⟨e,h⟩=>?_⟩
 subst e
 have:=h vs (SqL.of hv)
 rw[hx]at this
 cases this
 exact⟨rv,rS,.refl⟩
def uK{K:Vo}{H0:Hp}{a:Addr}{vs:List V}{xs:List PV}(h:SqT K H0 a vs)(rs:Reps K H0 vs xs):gy K H0 (A8 K a) ⟨xs,fun _=>True⟩:=by
 intro i S H g rS _
 have hv:=g.t _ _ h
 refine⟨fun p hp=>?_,fun hi=>⟨vs,hv,by rw[rs.length,hi];exact Nat.le_refl _⟩⟩
 obtain⟨v,hx,rv⟩:=rs.get hp
 refine⟨⟨vs,v,hv,hx⟩,fun x H' ⟨e,h⟩=>?_⟩
 subst e
 have:=h vs hv
 rw[hx]at this
 cases this
 exact⟨rv.mono g,rS,.refl⟩
def xC{K:Vo}{H0:Hp}{a:Addr}{vs:List V}{xs:List PV}(h:Hj K H0 a vs)(rs:Reps K H0 vs xs):gy K H0 (AI K a) ⟨xs,fun _=>True⟩:=by
 intro i S H g rS _
 have hv:=(g.c _ _ h).sq
 refine⟨fun p hp=>?_,fun hi=>⟨vs,hv,by rw[rs.length,hi];exact Nat.le_refl _⟩⟩
 obtain⟨v,hx,rv⟩:=rs.get hp
 refine⟨⟨vs,v,hv,hx⟩,fun x H' ⟨e,h⟩=>?_⟩
 subst e
 have:=h vs hv
 rw[hx]at this
 cases this
 exact⟨rv.mono g,rS,.refl⟩
def uL{K:Vo}{H0:Hp}{z:Str}:gy K H0 (Bq z) ⟨z.cps.toList.map fun c=>.str (sgn c),fun _=>True⟩:=by
 intro i S H g rS _
 refine⟨fun p hp=>?_,fun hi=>by show z.cps.size<=i;rw[hi,List.length_map,Array.length_toList];exact Nat.le_refl _⟩
 rw[List.getElem?_map]at hp
 cases hc:z.cps.toList[i]? with
 |none=>rw[hc]at hp;cases hp
 |some c=>
  rw[hc]at hp
  cases hp
  have hc':z.cps[i]?=some c:=by simpa using hc
  refine⟨?_,fun x H' ⟨e,c',h1,h2⟩=>?_⟩
  ·show i < z.cps.size
   by_cases hi:i < z.cps.size
   ·exact hi
   ·rw[Array.getElem?_eq_none (by omega)]at hc';cases hc'
  ·subst e
   rw[hc']at h1
   cases h1
   subst h2
   exact⟨.str _,rS,.refl⟩
def cm(he:bh X e te):tI X tg e (aO te):=⟨ji (xA he.ok) fun σ H R ⟨σ3,S,R3,E3,rσ,rS,h,xo,k⟩=>⟨σ3,S,_,E3,rσ,rS,h,xo,fun v S1 v' H1 h1 rv CT g1=>by
 dsimp only at h1
 split at h1
 ·rename_i src hs
  unfold bY at hs
  split at hs
  ·cases hs
   cases rv with
   |tup hq rs=>exact .inr (.inl ⟨_,rfl,⟨_,hq⟩,k _ S1 _ H1 h1 (uK hq rs) CT g1⟩)
  ·cases hs
   cases rv with
   |cl hq rs=>exact .inl ⟨_,rfl,⟨_,hq.sq⟩,k _ S1 _ H1 h1 (xC hq rs) CT g1⟩
  ·cases hs
   cases rv
   exact .inr (.inr ⟨_,rfl,k _ S1 _ H1 h1 uL CT g1⟩)
  ·cases rv
   split at hs
   ·rename_i ea
    cases hs
    obtain⟨vs,hv,rs⟩:=CT _ _ ea
    exact .inl ⟨_,rfl,⟨_,SqL.of hv⟩,k _ S1 _ H1 h1 rL CT g1⟩
   ·cases hs
  ·cases hs
 ·exact h1.elim⟩⟩
noncomputable def bB(lo:Int)(n:Nat):List PV:=(List.range n).map fun(i:Nat)=>PV.int (lo+i)
def pO{K:Vo}{H0:Hp}{lo:Int}{n:Nat}:gy K H0 (AJ lo n) ⟨bB lo n,fun _=>True⟩:=by
 intro i S H g rS _
 refine⟨fun p hp=>?_,fun hi=>by show n<=i;rw[hi];simp[bB]⟩
 unfold bB at hp
 rw[List.getElem?_map]at hp
 by_cases hi:i < n
 ·rw[List.getElem?_range hi]at hp
  cases hp
  refine⟨hi,fun x H' ⟨e,h⟩=>?_⟩
  subst e h
  exact⟨.int _,rS,.refl⟩
 ·rw[List.getElem?_eq_none (by simpa using hi)]at hp
  cases hp
def bm(ta:aS):qp:=fun σ S R E=>ta σ S (fun v S1=>match v with | .int j=>-(2 ^ 62)<=j/\j < 2 ^ 62/\R ⟨bB 0 j.toNat,fun _=>True⟩ S1|_=>False) E
def aW(hs:starEach [a] X.env=[(false,eval a X.env)])(hg:Gl X "range")(hm:X.mg "range" = none)(ha:jc X [a] [ta]):tI X tg (.Call (.Name "range" p) [a] [] pos) (bm ta):=
 ⟨ji (oV hg hm ha.ok hs) fun σ H R ⟨σ3,S,R3,E3,rσ,rS,h,xo,k⟩=>⟨σ3,S,_,E3,rσ,rS,h,xo,fun v S1 v' H1 h1 rv CT g1=>by
  dsimp only at h1
  split at h1
  ·cases rv
   exact⟨_,rfl,h1.1,h1.2.1,k _ S1 _ H1 h1.2.2 pO CT g1⟩
  ·exact h1.elim⟩⟩
noncomputable def a8(xs:List PV):List PV:=xs.mapIdx fun i x=>.tup [.int i,x]
def pP{K:Vo}{H0:Hp}{a:Addr}{xs:List PV}:gy K H0 (Bw K a) ⟨a8 xs,fun S'=>S' a=some (.lst xs)⟩:=by
 intro i S H g rS hk
 obtain⟨vs,hv,rs⟩:=rS a _ hk
 refine⟨fun p hp=>?_,fun hi=>⟨vs,SqL.of hv,by rw[rs.length,hi];simp[a8]⟩⟩
 unfold a8 at hp
 rw[List.getElem?_mapIdx]at hp
 cases hx:xs[i]? with
 |none=>rw[hx]at hp;cases hp
 |some y=>
  rw[hx]at hp
  cases hp
  obtain⟨v,hx',rv⟩:=rs.get hx
  refine⟨⟨vs,v,SqL.of hv,hx'⟩,fun x H' ⟨q,x2,e1,hq,e2,h⟩=>?_⟩
  subst e1 e2
  have:=h vs (SqL.of hv)
  rw[hx']at this
  cases this
  exact⟨.tup (SqT.of ax) (.cons (.int _) (.cons (rv.mono (.new hq)) .nil)),rS.other hq,.new hq⟩
def pQ{K:Vo}{H0:Hp}{a:Addr}{vs:List V}{xs:List PV}(h0:SqT K H0 a vs)(rs:Reps K H0 vs xs):gy K H0 (Bx K a) ⟨a8 xs,fun _=>True⟩:=by
 intro i S H g rS _
 have hv:=g.t _ _ h0
 refine⟨fun p hp=>?_,fun hi=>⟨vs,hv,by rw[rs.length,hi];simp[a8]⟩⟩
 unfold a8 at hp
 rw[List.getElem?_mapIdx]at hp
 cases hx:xs[i]? with
 |none=>rw[hx]at hp;cases hp
 |some y=>
  rw[hx]at hp
  cases hp
  obtain⟨v,hx',rv⟩:=rs.get hx
  refine⟨⟨vs,v,hv,hx'⟩,fun x H' ⟨q,x2,e1,hq,e2,h⟩=>?_⟩
  subst e1 e2
  have:=h vs hv
  rw[hx']at this
  cases this
  exact⟨.tup (SqT.of ax) (.cons (.int _) (.cons ((rv.mono g).mono (.new hq)) .nil)),rS.other hq,.new hq⟩
def iD(ta:aS):qp:=fun σ S R E=>ta σ S (fun v S1=>match v with
 | .tup xs=>R ⟨a8 xs,fun _=>True⟩ S1
 | .ref a=>(match S1 a with|some (.lst xs)=>R ⟨a8 xs,fun S'=>S' a=some (.lst xs)⟩ S1|_=>False)
 |_=>False) E
def rM{elts:List Expr}{k0:Nat}{Ee:Pos}(hs:starEach [a] X.env=[(false,eval a X.env)])(hg:Gl X "enumerate")(hm:X.mg "enumerate" = none)(hv:bootBuiltins "enumerate" = some (.type "enumerate"))(ha:jc X [a] [ta]):tI X (.Tuple elts k0 Ee) (.Call (.Name "enumerate" p) [a] [] pos) (iD ta):=
 ⟨ji (rK hg hm hv ha.ok hs) fun σ H R ⟨σ3,S,R3,E3,rσ,rS,h,xo,k⟩=>⟨σ3,S,_,E3,rσ,rS,h,xo,fun v S1 v' H1 h1 rv CT g1=>by
  dsimp only at h1
  split at h1
  ·cases rv with
   |tup hq rs=>exact⟨_,rfl,.inr ⟨⟨_,hq⟩,k _ S1 _ H1 h1 (pQ hq rs) CT g1⟩⟩
  ·cases rv
   split at h1
   ·rename_i ea
    obtain⟨vs,hv,rs⟩:=CT _ _ ea
    exact⟨_,rfl,.inl ⟨⟨_,SqL.of hv⟩,k _ S1 _ H1 h1 pP CT g1⟩⟩
   ·exact h1.elim
  ·exact h1.elim⟩⟩
noncomputable def aX(xs ys:List PV):List PV:=(xs.zip ys).map fun z=>.tup [z.1,z.2]
def FQ(K:Vo)(H0:Hp)(ka:Bool)(a:Addr)(xs:List PV)(keep:ar->Prop):Prop:=∀S H,Grow K H0 H->CK K H S->keep S->∃vs,pG ka K H a vs/\Reps K H vs xs
def FQ.tup{K:Vo}{H0:Hp}{a:Addr}{vs:List V}{xs:List PV}{keep:ar->Prop}(h:SqT K H0 a vs)(r:Reps K H0 vs xs):FQ K H0 false a xs keep:=fun _ _ g _ _=>⟨vs,g.t _ _ h,r.mono g⟩
theorem FQ.lst{K:Vo}{H0:Hp}{a:Addr}{xs:List PV}{keep:ar->Prop}(h:∀S,keep S->S a=some (.lst xs)):FQ K H0 true a xs keep:=fun S _ _ rS k=>let ⟨vs,hv,r⟩:=rS _ _ (h S k);⟨vs,SqL.of hv,r⟩
def gC{K:Vo}{H0:Hp}{ka kb:Bool}{a b:Addr}{xs ys:List PV}{keep:ar->Prop}(h1:FQ K H0 ka a xs keep)(h2:FQ K H0 kb b ys keep):gy K H0 (Bu ka kb K a b) ⟨aX xs ys,keep⟩:=by
 intro i S H g rS kp
 obtain⟨vs,hv,r1⟩:=h1 S H g rS kp
 obtain⟨us,hu,r2⟩:=h2 S H g rS kp
 have l1:=r1.length
 have l2:=r2.length
 refine⟨fun p hp=>?_,fun hi=>⟨vs,us,hv,hu,?_⟩⟩
 ·unfold aX at hp
  rw[List.getElem?_map]at hp
  cases hz:(xs.zip ys)[i]? with
  |none=>rw[hz]at hp;cases hp
  |some z=>
   rw[hz]at hp
   cases hp
   obtain⟨e1,e2⟩:=List.getElem?_zip_eq_some.mp hz
   obtain⟨v,hx',rv⟩:=r1.get e1
   obtain⟨u,hy',ru⟩:=r2.get e2
   refine⟨⟨vs,us,v,u,hv,hu,hx',hy'⟩,fun x H' ⟨q,x2,y2,e3,hq,e4,h⟩=>?_⟩
   subst e3 e4
   obtain⟨k1,k2⟩:=h vs us hv hu
   rw[hx']at k1
   rw[hy']at k2
   cases k1;cases k2
   exact⟨.tup (SqT.of ax) (.cons (rv.mono (.new hq)) (.cons (ru.mono (.new hq)) .nil)),rS.other hq,.new hq⟩
 ·have e:(aX xs ys).length=min xs.length ys.length:=by simp[aX]
  rw[e]at hi
  by_cases hle:xs.length<=ys.length
  ·exact .inl (by omega)
  ·exact .inr (by omega)
def pS(ta tb:aS):qp:=fun σ S R E=>ta σ S (fun v S1=>tb σ S1 (fun w S2=>match v,w with
 | .tup xs,.tup ys=>R ⟨aX xs ys,fun _=>True⟩ S2
 |_,_=>False) E) E
def zD{elts:List Expr}{k0:Nat}{Ee:Pos}(hs:starEach [a,b] X.env=[(false,eval a X.env),(false,eval b X.env)])(hs2:starEach [b] X.env=[(false,eval b X.env)])(hg:Gl X "zip")(hm:X.mg "zip" = none)(hv:bootBuiltins "zip" = some (.type "zip"))(ha:jc X [a,b] [ta,tb]) :
  tI X (.Tuple elts k0 Ee) (.Call (.Name "zip" p) [a,b] [] pos) (pS ta tb):=
 ⟨ji (rc hg hm hv ha.ok hs hs2) fun σ H R ⟨σ3,S,R3,E3,rσ,rS,h,xo,k⟩=>⟨σ3,S,_,E3,rσ,rS,h,xo,fun v S1 v' H1 h1 rv CT g1=>⟨σ3,S1,_,E3,rσ.mono g1,CT,h1,xo.mono g1,fun w S2 w' H2 h2 rw' Eb g2=>by
  dsimp only at h2
  split at h2
  ·cases rv with
   |tup hq rs=>
    cases rw' with
    |tup hq2 G4=>exact⟨false,false,_,_,rfl,⟨_,g2.t _ _ hq⟩,⟨_,hq2⟩,k _ S2 _ H2 h2 (gC (.tup (g2.t _ _ hq) (rs.mono g2)) (.tup hq2 G4)) Eb (g1.trans g2)⟩
  ·exact h2.elim⟩⟩⟩
end
section
variable {X:Cx} {iter tg c:Expr} {body:List Stmt} {ti:qp} {g:Tg} {tb:bX} {tc:iK} {pos:Pos}
noncomputable def kD(g:Tg)(tb:bX)(D:jU)(keep:ar->Prop):List PV->cN->ar->Prop
 |[],σ,S=>keep S/\D.nx σ S
 |x::r,σ,S=>keep S/\match g.put x σ with|some σ'=>tb { D with nx:=kD g tb D keep r,ct:=kD g tb D keep r,bk:=D.nx } σ' S|none=>False
def bM(ti:qp)(g:Tg)(tb:bX):bX:=fun D σ S=>ti σ S (fun src S1=>kD g tb D src.keep src.items σ S1) D.ex
def dy(hp:PassesOwn (model X.prog X.w) X.A X.env X.xe)(hc:X.calm=true)(hi:tI X tg iter ti)(hg:uI X tg g)(hb:iL X body tb)(hs:∀x,foldedSetIterable iter X.env x=pure x:=by intro _;rfl):oi X (.For tg iter body [] pos) (bM ti g tb):=
 ⟨dE (wB hp hc hi.ok hg.ok hb.ok hs) fun D σ H ⟨σ3,S,D3,rσ,rS,h,xo,n,r,bk,ct⟩=>⟨σ3,S,_,D3.ex,rσ,rS,h,xo,fun src S1 J H1 h1 sim CT g1=>by
  refine⟨fun i m σ' H'=>i+m=src.items.length/\∃σ4 S',CQ X.K H' σ' σ4/\CK X.K H' S'/\Grow X.K H1 H'/\kD g tb D3 src.keep (src.items.drop i) σ4 S',⟨src.items.length,Nat.zero_add _,σ3,S1,rσ.mono g1,CT,.refl,by simpa using h1⟩,?_⟩
  rintro i m σ' H' ⟨hm,σ4,S',Gb,DQ,g',hw⟩
  cases hd:src.items.drop i with
  |nil=>
   rw[hd]at hw
   have hi:i=src.items.length:=by
    have:=congrArg List.length hd
    rw[List.length_drop,List.length_nil]at this
    omega
   exact .inl ⟨(sim i S' H' g' DQ hw.1).2 hi,n _ S' _ H' hw.2 Gb DQ (g1.trans g')⟩
  |cons x rest=>
   rw[hd]at hw
   have hx:src.items[i]?=some x:=by
    have:=congrArg (fun l=>l[0]?) hd
    simpa using this
   have hrest:src.items.drop (i+1)=rest:=by
    have:=congrArg List.tail hd
    simpa [List.tail_drop]using this
   have hlt:i < src.items.length:=by
    by_cases z:i < src.items.length
    ·exact z
    ·rw[List.getElem?_eq_none (by omega)]at hx;cases hx
   obtain⟨go,yl⟩:=(sim i S' H' g' DQ hw.1).1 x hx
   refine .inr ⟨go,fun σ5 H5=>∃σ6 S6,CQ X.K H5 σ5 σ6/\CK X.K H5 S6/\Grow X.K H1 H5/\kD g tb D3 src.keep rest σ6 S6,?_,fun v H5 hv=>?_⟩
   ·rintro σ5 H5 ⟨σ6,S6,q1,q2,q3,q4⟩
    exact⟨m - 1,by omega,by omega,σ6,S6,q1,q2,q3,by rw[hrest];exact q4⟩
   ·obtain⟨rv,Jl,g5⟩:=yl v H5 hv
    obtain⟨_,hw⟩:=hw
    split at hw
    ·rename_i σ6 e6
     refine Tg.Fv (own:=0) g rv (Gb.mono g5) e6 fun σ7 Iq _=>?_
     exact⟨σ6,S',_,Iq,Jl,hw,xo.mono (g1.trans (g'.trans g5)),fun σ8 S8 σ9 H9 q1 q2 q3 q4=>⟨σ8,S8,q2,q3,g'.trans (g5.trans q4),q1⟩,r.mono (g1.trans (g'.trans g5)),n.mono (g1.trans (g'.trans g5)),
      fun σ8 S8 σ9 H9 q1 q2 q3 q4=>⟨σ8,S8,q2,q3,g'.trans (g5.trans q4),q1⟩⟩
    ·exact hw.elim⟩⟩
def hG(tc:iK)(tb:bX):bX:=fun D σ S=>∃W:Nat->cN->ar->Prop,(∃m,W m σ S)/\∀m σ S,W m σ S->
 tc σ S (fun b S1=>if b=true then ∃N:cN->ar->Prop,(∀σ' S',N σ' S'->∃m',m' < m/\W m' σ' S')/\tb { D with nx:=N,ct:=N,bk:=D.nx } σ S1 else D.nx σ S1) D.ex
def gD(hp:PassesOwn (model X.prog X.w) X.A X.env X.xe)(hc:pL X c tc)(hb:iL X body tb):oi X (.While c body [] pos) (hG tc tb):=
 ⟨dE (qw hp hc.ok hb.ok) fun D σ H ⟨σ3,S,D3,rσ,rS,⟨W,⟨m0,w0⟩,turn⟩,xo,n,r,bk,ct⟩=>by
  refine⟨fun m σ' H'=>∃σ4 S',CQ X.K H' σ' σ4/\CK X.K H' S'/\Grow X.K H H'/\W m σ4 S',⟨m0,σ3,S,rσ,rS,.refl,w0⟩,?_⟩
  rintro m σ' H' ⟨σ4,S',Gb,DQ,g',w'⟩
  refine⟨σ4,S',_,D3.ex,Gb,DQ,turn m σ4 S' w',xo.mono g',fun b S1 H1 h1 CT g1=>?_⟩
  cases b with
  |true=>
   rw[if_pos rfl]at h1 ⊢
   obtain⟨N,hN,h1⟩:=h1
   refine⟨fun σ5 H5=>∃σ6 S6,CQ X.K H5 σ5 σ6/\CK X.K H5 S6/\Grow X.K H H5/\N σ6 S6,?_,?_⟩
   ·rintro σ5 H5 ⟨σ6,S6,q1,q2,q3,q4⟩
    obtain⟨m',hm,w6⟩:=hN σ6 S6 q4
    exact⟨m',hm,σ6,S6,q1,q2,q3,w6⟩
   ·exact⟨σ4,S1,_,Gb.mono g1,CT,h1,xo.mono (g'.trans g1),fun σ8 S8 σ9 H9 q1 q2 q3 q4=>⟨σ8,S8,q2,q3,g'.trans (g1.trans q4),q1⟩,r.mono (g'.trans g1),n.mono (g'.trans g1),
     fun σ8 S8 σ9 H9 q1 q2 q3 q4=>⟨σ8,S8,q2,q3,g'.trans (g1.trans q4),q1⟩⟩
  |false=>
   rw[if_neg (by decide)]at h1 ⊢
   exact n _ S1 _ H1 h1 (Gb.mono g1) CT (g'.trans g1)⟩
end
noncomputable def fD:cg:=fun _ _ _=>False
def FY.no{X:Cx}{H:Hp}:FY X H fD:=fun _ _ _ _ _ _ _ _ _ _ _ _ _ _ h=>h.elim
section
variable {X:Cx} {elt iter tg c:Expr} {ifs:List Expr} {scope:Scope} {pos:Pos} {ti:qp} {g:Tg} {tc:iK} {te:aS} {fs N:Vs} {own:Nat} {fr:List Nat}
noncomputable def dz(g:Tg)(tc:iK)(te:aS)(σ':cN)(keep:ar->Prop)(fin:List PV->ar->Prop):List PV->List PV->ar->Prop
 |[],ys,S=>keep S/\ys.length<=sizeLine/\fin ys S
 |x::r,ys,S=>keep S/\ys.length<=sizeLine/\match g.put x σ' with
  |some σ2=>tc σ2 S (fun b S3=>if b=true then te σ2 S3 (fun y S4=>dz g tc te σ' keep fin r (ys++[y]) S4) fD else dz g tc te σ' keep fin r ys S3) fD
  |none=>False
def bg:iK:=fun _ S Q _=>Q true S
structure yF (X:Cx) (ifs:List Expr) (t:iK):Prop where
 ok:PF X ifs (LT X t)
def mW{t t':TT}(h:PF X ifs t)(k:∀σ H Q,t' σ H Q->t σ H Q):PF X ifs t':=fun pins s σ H Q I q=>h pins s σ H Q I (k σ H Q q)
def bI:yF X [] bg:=⟨mW w4 fun σ H Q ⟨σ3,S,Q3,E3,rσ,rS,h,xo,k⟩=>k true S H h rS .refl⟩
def rN(h:pL X c tc):yF X [c] tc:=⟨w5 h.ok⟩
noncomputable def bN(own:Nat)(fr:List Nat)(σ:cN):cN:=List.replicate own none++fr.map fun j=>lk σ j
def uM{K:Vo}{H:Hp}{σ:L2.St}{σ3:cN}(r:CQ K H σ σ3)(own:Nat)(fr:List Nat):CQ K H (dN own fr σ) (bN own fr σ3):=by
 refine⟨by unfold dN bN;simp,fun i p e=>?_⟩
 unfold bN at e
 unfold dN
 by_cases hi:i < own
 ·rw[List.getElem?_append_left (by simpa using hi),List.getElem?_replicate,if_pos hi]at e
  cases e
 ·rw[List.getElem?_append_right (by simpa using hi),List.length_replicate,List.getElem?_map]at e ⊢
  cases hj:fr[i - own]? with
  |none=>rw[hj]at e;cases e
  |some j=>
   rw[hj]at e
   simp only[Option.map_some,Option.some.injEq]at e ⊢
   obtain⟨v,hv,rv⟩:=r.at' j p (rg e)
   exact⟨v,by rw[hv];rfl,rv⟩
def aw(ti:qp)(g:Tg)(tc:iK)(te:aS)(own:Nat)(fr:List Nat):aS:=fun σ S Q E=>ti σ S (fun src S1=>dz g tc te (bN own fr σ) src.keep (fun ys S2=>∀p,S2 p=none->Q (.ref p) (CG S2 p (.lst ys))) src.items [] S1) E
def jV{σ:L2.St}{H:Hp}{Q:VK}(Gm:g.under own=true)(B0:Bk):LE X (aw ti g tc te own fr) σ H Q->qW (LI X ti) (g.g2 X.K) (fun σ H Q=>∃σ3 S Q3,CQ X.K H σ σ3/\CK X.K H S/\tc σ3 S Q3 fD/\∀b S' H',Q3 b S'->CK X.K H' S'->Grow X.K H H'->Q b H')
  (fun σ H Q=>∃σ3 S Q3,CQ X.K H σ σ3/\CK X.K H S/\te σ3 S Q3 fD/\FZ X.K H Q3 Q) own fr σ H Q:=fun⟨σ3,S,Q3,E3,rσ,rS,h,xo,k⟩=>by
 refine⟨σ3,S,_,E3,rσ,rS,h,xo,fun src S1 J H1 h1 sim CT g1=>?_⟩
 refine⟨fun i m ys H'=>i+m=src.items.length/\∃zs S',Reps X.K H' ys zs/\CK X.K H' S'/\Grow X.K H1 H'/\dz g tc te (bN own fr σ3) src.keep (fun ys S2=>∀p,S2 p=none->Q3 (.ref p) (CG S2 p (.lst ys))) (src.items.drop i) zs S',⟨src.items.length,Nat.zero_add _,[],S1,.nil,CT,.refl,by simpa using h1⟩,?_⟩
 rintro i m ys H' ⟨hm,zs,S',rz,DQ,g',hw⟩
 cases hd:src.items.drop i with
 |nil=>
  rw[hd]at hw
  have hi:i=src.items.length:=by
   have:=congrArg List.length hd
   rw[List.length_drop,List.length_nil]at this
   omega
  refine .inl ⟨(sim i S' H' g' DQ hw.1).2 hi,by rw[rz.length];exact hw.2.1,fun D hD=>?_⟩
  exact k _ _ _ _ (hw.2.2 D (DQ.free hD)) (.ref D) (DQ.new hD ⟨_,ax,rz.mono (.new hD)⟩) (g1.trans (g'.trans (.new hD)))
 |cons x rest=>
  rw[hd]at hw
  have hx:src.items[i]?=some x:=by
   have:=congrArg (fun l=>l[0]?) hd
   simpa using this
  have hrest:src.items.drop (i+1)=rest:=by
   have:=congrArg List.tail hd
   simpa [List.tail_drop]using this
  have hlt:i < src.items.length:=by
   by_cases z:i < src.items.length
   ·exact z
   ·rw[List.getElem?_eq_none (by omega)]at hx;cases hx
  obtain⟨go,yl⟩:=(sim i S' H' g' DQ hw.1).1 x hx
  refine .inr ⟨go,by rw[rz.length];exact hw.2.1,fun ys' H5=>∃zs' S6,Reps X.K H5 ys' zs'/\CK X.K H5 S6/\Grow X.K H1 H5/\dz g tc te (bN own fr σ3) src.keep (fun ys S2=>∀p,S2 p=none->Q3 (.ref p) (CG S2 p (.lst ys))) rest zs' S6,?_,fun v H5 hv=>?_⟩
  ·rintro ys' H5 ⟨zs',S6,q1,q2,q3,q4⟩
   exact⟨m - 1,by omega,by omega,zs',S6,q1,q2,q3,by rw[hrest];exact q4⟩
  ·obtain⟨rv,Jl,g5⟩:=yl v H5 hv
   obtain⟨_,_,hw⟩:=hw
   split at hw
   ·rename_i σ6 e6
    refine Tg.Fv (own:=own) g rv ((uM rσ own fr).mono (g1.trans (g'.trans g5))) e6 fun σ7 Iq d7=>⟨d7 Gm,?_⟩
    refine⟨σ6,S',_,Iq,Jl,hw,fun b S8 H8 h8 JW g8=>?_⟩
    cases b with
    |true=>
     rw[if_pos rfl]at h8 ⊢
     exact⟨σ6,S8,_,Iq.mono g8,JW,h8,fun y S9 y' H9 h9 ry KN g9=>⟨zs++[y],S9,(rz.mono (g5.trans (g8.trans g9))).append (.cons ry .nil),KN,g'.trans (g5.trans (g8.trans g9)),h9⟩⟩
    |false=>
     rw[if_neg (by decide)]at h8 ⊢
     exact⟨zs,S8,rz.mono (g5.trans g8),JW,g'.trans (g5.trans g8),h8⟩
   ·exact hw.elim
def xD(fs:Vs)(own:Nat)(fr:List Nat)(N:Vs)(Gm:g.under own=true)(hc:X.calm=true)(hclos:closureFor scope X.env=pure (cI X.env fs))(hcell:∀y∈scope.names,y.2 ≠ .cell)(hkind:scope.kind = .function)
  (hnames:∀x∈scope.names,x.2 = .local->scope.names.lookup x.1=some .local) (hcl:ci X.env fs) (hhas:ky (relabel scope X.env).names (cI X.env fs)=true)
  (hlen:N.length=own+fr.length) (hN:(N.drop own).map some=fr.map fun j=>X.N[j]?) (hF:Dl X.env scope (cI X.env fs) (N.drop own))
  (hi:tI X tg iter ti) (hg:∀B,uI (X.DW N scope fs B) tg g) (hf:∀B,yF (X.DW N scope fs B) ifs tc) (he:∀B,bh (X.DW N scope fs B) elt te)
  (hs:∀x,foldedSetIterable iter X.env x=pure x:=by intro _;rfl):bh X (.ListComp elt [⟨tg,iter,ifs,0⟩] scope pos) (aw ti g tc te own fr):=
 ⟨aR (uw fs own fr N hc hclos hcell hkind hnames hcl hhas hlen hN hF hi.ok (fun B=>(hg B).ok)
  (fun B=>mW (hf B).ok fun σ H Q ⟨σ3,S,Q3,rσ,rS,h,k⟩=>⟨σ3,S,Q3,fD,rσ,rS,h,.no,k⟩) (fun B=>aR (he B).ok fun σ H Q ⟨σ3,S,Q3,rσ,rS,h,k⟩=>⟨σ3,S,Q3,fD,rσ,rS,h,.no,k⟩) hs) fun _ _ _=>jV Gm ⟨0,X.s₀,X.H₀,[],[]⟩⟩
def xE(fs:Vs)(own:Nat)(fr:List Nat)(N:Vs){i:Nat}{y:Str}{py spos:Pos}(hX:X.N.Nodup)(hix:X.N[i]?=some y)(hy:X.env.scope.names.lookup y=some .local)
  (hsw:swapsWith (.ListComp elt [⟨tg,iter,ifs,0⟩] scope pos) (some (.Name y py)) spos.line X.env=pure true)
  (Gm:g.under own=true) (hc:X.calm=true) (hclos:closureFor scope X.env=pure (cI X.env fs)) (hcell:∀y∈scope.names,y.2 ≠ .cell) (hkind:scope.kind = .function)
  (hnames:∀x∈scope.names,x.2 = .local->scope.names.lookup x.1=some .local) (hcl:ci X.env fs) (hhas:ky (relabel scope X.env).names (cI X.env fs)=true)
  (hlen:N.length=own+fr.length) (hN:(N.drop own).map some=fr.map fun j=>X.N[j]?) (hF:Dl X.env scope (cI X.env fs) (N.drop own))
  (hi:tI X tg iter ti) (hg:∀B,uI (X.DW N scope fs B) tg g) (hf:∀B,yF (X.DW N scope fs B) ifs tc) (he:∀B,bh (X.DW N scope fs B) elt te)
  (hs:∀x,foldedSetIterable iter X.env x=pure x:=by intro _;rfl):oi X (.Assign [.Name y py] (.ListComp elt [⟨tg,iter,ifs,0⟩] scope pos) spos) (ap i (aw ti g tc te own fr)):=
 ⟨dE (ux fs own fr N hX hix hy hsw hc hclos hcell hkind hnames hcl hhas hlen hN hF hi.ok (fun B=>(hg B).ok)
  (fun B=>mW (hf B).ok fun σ H Q ⟨σ3,S,Q3,rσ,rS,h,k⟩=>⟨σ3,S,Q3,fD,rσ,rS,h,.no,k⟩) (fun B=>aR (he B).ok fun σ H Q ⟨σ3,S,Q3,rσ,rS,h,k⟩=>⟨σ3,S,Q3,fD,rσ,rS,h,.no,k⟩) hs)
  fun D σ H ⟨σ3,S,D3,rσ,rS,h,xo,n,r,bk,ct⟩=>jV Gm ⟨0,X.s₀,X.H₀,[],[]⟩ ⟨σ3,S,_,D3.ex,rσ,rS,h,xo,fun p S1 v H1 h1 rv CT g1=>n _ S1 _ H1 h1 ((rσ.mono g1).set rv i) CT g1⟩⟩
end
abbrev aF:=List PV->ar->bH->cg->Prop
noncomputable def zE(K:Vo)(n:Nat)(sp:aF):Sp:=fun vs H Q _=>vs.length=n/\∃ps S Q3 E3,Reps K H vs ps/\CK K H S/\sp ps S Q3 E3/\FZ K H Q3 Q
structure yG (P:Program) (w:World) (K:Vo) (mg:Vr) (base:Heap) (k:Nat) (f:Addr) (fd:FuncData) (ps:Vs) (sp:aF):Prop where
 ok:gW P w K mg base vx k f fd ps (zE K ps.length sp)
section
variable {X:Cx} {e o:Expr} {es:List Expr} {te to:aS} {ts:List aS} {x:Str} {p pos apos cpos:Pos} {k:Nat} {f:Addr} {fd:FuncData} {ps:Vs} {sp:aF}
def ac(sp:aF)(ts:List aS):aS:=fun σ S Q E=>ag ts σ S (fun ps S1=>sp ps S1 Q E) E
def xF(F:yG X.prog X.w X.K X.mg X.base k f fd ps sp)(hr:Room k X.A)(hg:Gl X x)(hm:X.mg x=some (.ref f))(hk:PySem.W.keepIn X.K (.ref f)=true)(hb:Binds X.K fd ps [])(he:starEach (e::es) X.env=(false,eval e X.env)::starEach es X.env)(ha:jc X (e::es) ts)
  (hl:ts.length=ps.length:=by rfl) (hdb:(x == ("__debug__":Str))=false:=by decide) (hpl:(backTo pos (starEach es X.env)).any (·.1)=false:=by rfl):bh X (.Call (.Name x p) (e::es) [] pos) (ac sp ts):=
 ⟨aR (t_ F.ok hr hg hm hk hb .nil oh ha.ok hdb he hpl) fun σ H Q ⟨σ3,S,Q3,E3,rσ,rS,h,xo,k⟩=>b_ rσ rS h xo fun ps' S' vs H' hl' q rv DQ g=>by
  rw[List.append_nil]
  exact⟨by rw[rv.length,hl',hl],ps',S',Q3,E3,rv,DQ,q,k.mono g⟩⟩
end
noncomputable def az(n:Nat)(args:List PV):cN:=args.map some++List.replicate (n - args.length) none
def bj(n:Nat)(t:bX):aF:=fun args S Q _=>t { nx:=fun _ S'=>Q .non S',rt:=Q,ex:=fD } (az n args) S
def pT{K:Vo}{H:Hp}{N:Vs}{vs:List V}{ps:List PV}(r:Reps K H vs ps):CQ K H (L2.eQ N vs) (az N.length ps):=by
 refine⟨by unfold L2.eQ az;simp[r.length],fun i p e=>?_⟩
 unfold az at e
 unfold L2.eQ
 by_cases hi:i < ps.length
 ·rw[List.getElem?_append_left (by simpa using hi),List.getElem?_map]at e
  cases hp:ps[i]? with
  |none=>rw[hp]at e;cases e
  |some q=>
   rw[hp]at e
   cases e
   obtain⟨v,hv,rv⟩:=r.get hp
   rw[List.getElem?_append_left (by rw[List.length_map,r.length];exact hi),List.getElem?_map,hv]
   exact⟨v,rfl,rv⟩
 ·rw[List.getElem?_append_right (by simpa using hi),List.getElem?_replicate]at e
  split at e
  ·cases e
  ·cases e
section
variable {P:Program} {w:World} {K:Vo} {mg:Vr} {base:Heap}
noncomputable abbrev AR(P:Program)(w:World)(K:Vo)(mg:Vr)(base:Heap)(N:Vs)(qual:Str)(st:Stmt)(f:Addr)(cdv:Value)(A:Around)(outer:List Env)(s:Shared)(H:Hp)(E:XK):Cx:=(mG vx P w K mg base N qual (aJ st) f cdv A outer s H E).HE
def BD{x qual:Str}{st:Stmt}{f:Addr}{fd:FuncData}{N ps:Vs}{k:Nat}{t:bX}(F:Gj K x qual st f fd)(S:dY N ps (aJ st))
  (hbody:∀(cdv:Value) (A:Around) (outer:List Env) (s:Shared) (H:Hp) (E:XK),Room k (A.deeper (PyProof.Rows.envOfC qual (aJ st) s.heap.objs.size f cdv))->iL (AR P w K mg base N qual st f cdv A outer s H E) (bG st) t) :
  yG P w K mg base (k+1) f fd ps (bj N.length t):=
 ⟨F.ok S (fun vs H Q E h=>h.1) fun cdv A outer s H vs Q E hr ⟨hl,ps',S',Q3,E3,rv,rS,q,kk⟩=>⟨_,(hbody cdv A outer s H E hr).ok,az N.length ps',S',_,pT rv,rS,q,.no,fun σ3 S2 σ2 H2 h2 _ Eb g2=>kk _ S2 _ H2 h2 .non Eb g2,kk,fun _ _ _ _ h2=>h2.elim,fun _ _ _ _ h2=>h2.elim⟩⟩
end
section
variable {X:Cx} {o e f:Expr} {to te tf:aS} {pos apos cpos:Pos}
noncomputable def hJ:List (aS×aS)->cN->ar->(List (PV×PV)->ar->Prop)->cg->Prop
 |[],_,S,Q,_=>Q [] S
 |(tk,tv)::r,σ,S,Q,E=>tk σ S (fun x S1=>tv σ S1 (fun y S2=>hJ r σ S2 (fun ps S3=>Q ((x,y)::ps) S3) E) E) E
noncomputable def lH:List (PV×PV)->Option (List (bR×PV))
 |[]=>some []
 |(x,y)::r=>match mU x,lH r with|some k,some l=>some ((k,y)::l)|_,_=>none
noncomputable def kE(kvs more:List (bR×PV)):List (bR×PV):=more.foldl (fun acc kv=>kC acc kv.1 kv.2) kvs
structure AS (X:Cx) (pos:Pos) (keys:List (Option Expr)) (values:List Expr) (ED:List (aS×aS)):Prop where
 ok:zn X pos keys values (ED.map fun t=>(LE X t.1,LE X t.2))
def xG:AS X pos [] [] []:=⟨uq⟩
def kF{k v:Expr}{ks:List (Option Expr)}{vs:List Expr}{tk tv:aS}{ED:List (aS×aS)}(hk:bh X k tk)(hv:bh X v tv)(hr:AS X pos ks vs ED):AS X pos (some k::ks) (v::vs) ((tk,tv)::ED):=⟨qT hk.ok hv.ok hr.ok⟩
inductive jW (K:Vo) (H:Hp):List (V×V)->List (PV×PV)->Prop
 |nil:jW K H [] []
 |cons {a b:V} {p q:PV} {vs:List (V×V)} {ps:List (PV×PV)}:Rep K H a p->Rep K H b q->jW K H vs ps->jW K H ((a,b)::vs) ((p,q)::ps)
theorem jj:∀{ED:List (aS×aS)} {σ:L2.St} {H:Hp} {Q:List (V×V)->Hp->Prop} {σ3:cN} {S:ar} {Q3:List (PV×PV)->ar->Prop} {E3:cg},CQ X.K H σ σ3->CK X.K H S->hJ ED σ3 S Q3 E3->FY X H E3->
  (∀ps S' vs H',ps.length=ED.length->Q3 ps S'->jW X.K H' vs ps->CK X.K H' S'->Grow X.K H H'->Q vs H')->kr (ED.map fun t=>(LE X t.1,LE X t.2)) σ H Q
 |[],σ,H,Q,σ3,S,Q3,E3,rσ,rS,h,xo,k=>k [] S [] H rfl h .nil rS .refl
 |(tk,tv)::ts,σ,H,Q,σ3,S,Q3,E3,rσ,rS,h,xo,k=>
  ⟨σ3,S,_,E3,rσ,rS,h,xo,fun p S1 v H1 h1 rv CT g1=>⟨σ3,S1,_,E3,rσ.mono g1,CT,h1,xo.mono g1,fun p2 S2 v2 H2 h2 Jm Eb g2=>jj (rσ.mono (g1.trans g2)) Eb h2 (xo.mono (g1.trans g2)) fun ps S3 vs H3 hl h3 Ji HJ g3=>
   k ((p,p2)::ps) S3 ((v,v2)::vs) H3 (by rw[List.length_cons,List.length_cons,hl]) h3 (.cons (rv.mono (g2.trans g3)) (Jm.mono g3) Ji) HJ (g1.trans (g2.trans g3))⟩⟩
theorem jX{K:Vo}{H:Hp}:∀{vs:List (V×V)} {ps:List (PV×PV)} {l:List (bR×PV)},jW K H vs ps->lH ps=some l->∃kvs:List (bR×V),vs=kvs.map (fun kv=>(kV kv.1,kv.2))/\CP K H kvs l
 |_,_,_,.nil,h=>by cases h;exact⟨[],rfl,.nil⟩
 |_,_,l,.cons a b r,h=>by
  unfold lH at h
  split at h
  ·rename_i k l' ek el
   cases h
   obtain⟨kvs,e,q⟩:=jX r el
   refine⟨(k,_)::kvs,?_,.cons b q⟩
   rw[List.map_cons,<-e,fP a ek]
  ·cases h
def CP.merge{K:Vo}{H:Hp}{more:List (bR×V)}{m3:List (bR×PV)}(r:CP K H more m3):∀{kvs:List (bR×V)} {k3:List (bR×PV)},CP K H kvs k3->CP K H (gZ kvs more) (kE k3 m3):=by
 induction r with
 |nil=>intro kvs k3 q;exact q
 |cons a r ih=>intro kvs k3 q;exact ih (q.put a)
def lI(ED:List (aS×aS)):aS:=fun σ S Q E=>∀p,S p=none->hJ ED σ (CG S p (.dct [])) (fun ps S2=>S2 p=some (.dct [])/\match lH ps with|some kvs=>Q (.ref p) (CG S2 p (.dct (kE [] kvs)))|none=>False) E
def xH{keys:List (Option Expr)}{values:List Expr}{ED:List (aS×aS)}(h:AS X pos keys values ED)(hall:keys.all (·.isSome)=true:=by rfl)(hl:keys.length=values.length:=by rfl)(h0:keys≠[]:=by exact List.cons_ne_nil _ _)(IY:keys.length<=15:=by decide)
  (ht:ED.length<=15:=by exact Nat.le_of_ble_eq_true rfl):bh X (.Dict keys values pos) (lI ED):=
 ⟨aR (ur h.ok hall hl h0 IY) fun σ H Q ⟨σ3,S,Q3,E3,rσ,rS,hq,xo,k⟩=>fun p hp=>by
  have g0:Grow X.K H (upd H p (.dK [])):=.new hp
  refine jj (rσ.mono g0) (rS.new hp (o:=.dct []) ⟨[],ax,.nil⟩) (hq p (rS.free hp)) (xo.mono g0) fun ps S' vs H' hl' q rv DQ g=>?_
  obtain⟨e,q⟩:=q
  obtain⟨kv,hv,rk⟩:=DQ _ _ e
  cases rk
  refine⟨hv,?_⟩
  split at q
  ·rename_i kvs ek
   obtain⟨l,el,rl⟩:=jX rv ek
   refine⟨l,el,?_,k _ _ _ _ q (.ref p) (DQ.put hv trivial ⟨_,ax,(CP.merge rl .nil).mono (.mut hv trivial)⟩) (g0.trans (g.trans (.mut hv trivial)))⟩
   have z1:∀{vs:List (V×V)} {ps:List (PV×PV)},jW X.K H' vs ps->vs.length=ps.length:=by
    intro vs ps r
    induction r with
    |nil=>rfl
    |cons _ _ _ ih=>rw[List.length_cons,List.length_cons,ih]
   have z2:=congrArg List.length el
   rw[List.length_map,z1 rv,hl']at z2
   omega
  ·exact q.elim⟩
def lJ(te:aS):aS:=fun σ S Q E=>te σ S (fun x S1=>match x with
 | .ref a=>(match S1 a with|some (.lst xs)=>∀p,S1 p=none->Q (.ref p) (CG S1 p (.lst xs.reverse))|_=>False)
 |_=>False) E
def xI{p1 p2 q1 q2:Pos}(hs:starEach [e] X.env=[(false,eval e X.env)])(hc:X.calm=true)(he:bh X e te)(Jf:Gl X "list")(hm1:X.mg "list" = none)(Jg:Gl X "reversed")(hm2:X.mg "reversed" = none):bh X (.Call (.Name "list" p1) [.Call (.Name "reversed" p2) [e] [] q2] [] q1) (lJ te):=
 ⟨aR (mN hc he.ok Jf hm1 Jg hm2 hs rfl) fun σ H Q ⟨σ3,S,Q3,E3,rσ,rS,h,xo,k⟩=>⟨σ3,S,_,E3,rσ,rS,h,xo,fun x S1 v H1 h1 rx CT g1=>by
  dsimp only at h1
  split at h1
  ·cases rx
   split at h1
   ·rename_i ea
    obtain⟨vs,hv,rs⟩:=CT _ _ ea
    exact⟨_,_,rfl,SqL.of hv,fun q hq=>k _ _ _ _ (h1 q (CT.free hq)) (.ref q) (CT.new hq ⟨_,ax,rs.reverse.mono (.new hq)⟩) (g1.trans (.new hq))⟩
   ·exact h1.elim
  ·exact h1.elim⟩⟩
end
def bn:R3:=cj fun i j=>.int (i - j)
def gE:R3:=eG (fun _ j=>j≠0) fun i j=>.int (i.fmod j)
def dA:R3:=eG jd fun i j=>.int (i.fdiv j)
def rO:R3:=eG wE fun i j=>.int (i ^ j.toNat)
def k6:R3:=cj fun i j=>.bl (decide (i < j))
def rP:R3:=cj fun i j=>.bl (decide (j < i))
def xJ:R3:=cj fun i j=>.bl (decide (j<=i))
section
variable {X:Cx}
def fI:gb X (binaryOp .Sub) bn:=xn
def fJ:gb X (binaryOp .Mod) gE:=xq
def e7:gb X (binaryOp .FloorDiv) dA:=uA
def zF:gb X (binaryOp .Pow) rO:=xr
def mX:gb X (compareOp .Lt) k6:=zu
def rQ:gb X (compareOp .Gt) rP:=zv
def zG:gb X (compareOp .GtE) xJ:=zw
end
def rR{A:Around}{k:Nat}(hr:Room k A):A.units+1 < cLine:=by have:=hr.un;omega
def gF{A:Around}{k:Nat}(hr:Room k A):A.units+150 < cLine:=by have:=hr.un;omega
structure AT (K:Vo) (mg:Vr) (x:Str) (st:Stmt) (ps:Vs) (f:Addr) (fd:FuncData):Prop where
 F:Gj K x x st f fd
 b:Binds K fd ps []
 k:PySem.W.keepIn K (.ref f)=true
 m:mg x=some (.ref f)
def BE{K:Vo}{H:Hp}{a:Addr}{ns:Vu}{sp:aF}(hO:ut H)(hS:SqL K H a (ns.map V.int))(h:sp [.cl (ns.map PV.int)] (fun _=>none) (fun v _=>v = .bl true) fD):zE K 1 sp [.ref a] H (fun v _=>v = .bl true) fun _ _ _=>False:=by
 have hr:∀l:List Int,Reps K H (l.map V.int) (l.map PV.int):=by
  intro l
  induction l with
  |nil=>exact .nil
  |cons x r ih=>exact .cons (.int x) ih
 refine⟨rfl,[.cl (ns.map PV.int)],fun _=>none,_,fD,.cons (.cl (vs:=ns.map V.int) ?_ (hr ns)) .nil,(fun b o e=>by simp at e),h,fun p S' v H' q rv rS g=>?_⟩
 ·rcases hS with(q|q)|q
  ·rcases hO a with z|⟨o,xs,z⟩
   ·rw[z]at q;cases q
   ·rw[z]at q;cases q
  ·exact .inl q
  ·exact .inr q
 ·subst q
  cases rv
  rfl
end L3
namespace L2
open PySem PySem.Spec PyProof.Rows
end L2
namespace HT
open PySem PySem.Spec PyProof.Rows
end HT
namespace L2
open PySem PySem.Spec PyProof.Rows
end L2
namespace L3
open PySem L2
section
variable {X:Cx} {e st:Expr} {te ts:aS} {p2 pos:Pos}
noncomputable def fS:List PV->Option (List Int)
 |[]=>some []
 | .int i::r=>(fS r).map (i::·)
 |_::_=>none
theorem lK:∀ns:List Int,fS (ns.map PV.int)=some ns
 |[]=>rfl
 |n::ns=>by rw[List.map_cons];unfold fS;rw[lK ns];rfl
theorem jY{K:Vo}{H:Hp}:∀{vs:List V} {ps:List PV} {ns:Vu},Reps K H vs ps->fS ps=some ns->vs=ns.map V.int
 |_,_,_,.nil,h=>by cases h;rfl
 |_,_,ns,.cons (p:=p) a r,h=>by
  cases p with
  |int b=>
   cases a
   unfold fS at h
   cases e:fS _ with
   |none=>rw[e]at h;cases h
   |some l=>rw[e]at h;cases h;rw[jY r e];rfl
  |_=>cases h
end
end L3
namespace L2
open PySem PySem.Spec PyProof.Rows
end L2
namespace L3
open PySem L2
end L3
namespace L2
open PySem PySem.Spec PyProof.Rows PySem.AutoSeq1
end L2
namespace L3
open PySem L2
end L3
namespace C
open PySem L2 L3
def e8:bX:=(aj (ap 3 (aw (aO (bV (v3 0) (k5 (v3 1)) (k5 (c3 (.int 63))))) (.n 0) bg (ai jf [(v3 0),(ah bn (c3 (.int 0)) (v3 0))]) 1 []))
  (aj (ap 4 (ah aP (c3 (.int 7919)) (v3 1)))
  (aj (bM (aO (v3 3)) (.n 2) (ap 4 (ah gE (ah aP (ah aL (v3 4) (c3 (.int 48271))) (ah gE (v3 2) (c3 (.int 2147483629)))) (c3 (.int 2147483647)))))
  (aE (lI [((c3 (.str "seed")),(v3 4)),((c3 (.str "number")),(c3 (.int 0))),((c3 (.str "left")),(lJ (aw (aO (v3 3)) (.n 0) (cE (ah xJ (v3 0) (ah rO (c3 (.int 10)) (c3 (.int 18))))) (v3 0) 1 [])))])))))
def e9:bX:=(aj (hG (kz (cE (ah (fQ false) (ah al (v3 0) (c3 (.str "number"))) (c3 (.int 0)))) (cE (ah rP (ai bA [(ah al (v3 0) (c3 (.str "left")))]) (c3 (.int 0))))) (d8 (jg "list" lF (ah al (v3 0) (c3 (.str "left"))) []) (v3 0) (c3 (.str "number"))))
  (aj (ap 2 (ah al (v3 0) (c3 (.str "number"))))
  (aj (gc (cE (ah rP (v3 2) (c3 (.int 0)))) (aj (d8 (ah dA (v3 2) (v3 1)) (v3 0) (c3 (.str "number")))
  (aE (ah gE (v3 2) (v3 1)))) d5)
  (aj (ap 3 (ah gE (ah aP (ah aL (ah al (v3 0) (c3 (.str "seed"))) (c3 (.int 48271))) (c3 (.int 7919))) (c3 (.int 2147483647))))
  (aj (d8 (ah gE (ah aP (ah aL (v3 3) (c3 (.int 40692))) (c3 (.int 104729))) (c3 (.int 2147483399))) (v3 0) (c3 (.str "seed")))
  (aj (ap 4 (ah gE (ah aL (ah al (v3 0) (c3 (.str "seed"))) (ah al (v3 0) (c3 (.str "seed")))) (c3 (.int 2147483563))))
  (aE (ah gE (ah aP (ah aL (ah gE (ah aL (v3 3) (v3 3)) (c3 (.int 2147483629))) (c3 (.int 2147483563))) (v3 4)) (v3 1)))))))))
def fT:bX:=(aj (iO 2 3 (ai jf [(v3 0),(ah bn (c3 (.int 0)) (v3 0))]) (v3 1))
  (aj (hG (cE (ah rP (v3 3) (c3 (.int 0)))) (iO 2 3 (v3 3) (ah gE (v3 2) (v3 3))))
  (aE (aM [(ah dA (v3 0) (v3 2)),(ah dA (v3 1) (v3 2))]))))
def jk:bX:=(aj (hG (cE (ah (fQ true) (v3 1) (c3 (.int 0)))) (aj (ap 2 (ah gE (v3 0) (v3 1)))
  (aj (ap 0 (v3 1))
  (ap 1 (v3 2)))))
  (aE (ai lC [(v3 0)])))
def fU(EF:aF):bX:=(aj (ap 2 (ac EF [(v3 0),(v3 1)]))
  (aj (gc (cE (ah k6 (v3 1) (c3 (.int 0)))) (ap 2 (iC cP (v3 2))) d5)
  (aE (aM [(ah dA (v3 0) (v3 2)),(ah dA (v3 1) (v3 2))]))))
def e_(CV:aF):bX:=(aE (ac CV [(ah aP (ah aL (ah al (v3 0) (c3 (.int 0))) (ah al (v3 1) (c3 (.int 1)))) (ah aL (ah al (v3 1) (c3 (.int 0))) (ah al (v3 0) (c3 (.int 1))))),(ah aL (ah al (v3 0) (c3 (.int 1))) (ah al (v3 1) (c3 (.int 1))))]))
def kG(CV:aF):bX:=(aE (ac CV [(ah aL (ah al (v3 0) (c3 (.int 0))) (ah al (v3 1) (c3 (.int 0)))),(ah aL (ah al (v3 0) (c3 (.int 1))) (ah al (v3 1) (c3 (.int 1))))]))
def fc(DD:aF):bX:=(aE (ac DD [(ah aP (ah aL (ah al (v3 0) (c3 (.int 0))) (ah al (v3 1) (c3 (.int 1)))) (ah aL (ah al (v3 1) (c3 (.int 0))) (ah al (v3 0) (c3 (.int 1))))),(ah aL (ah al (v3 0) (c3 (.int 1))) (ah al (v3 1) (c3 (.int 1))))]))
end C
namespace L3
open PySem L2
theorem lL:∀{a b:List Char},a.map Char.toNat=b.map Char.toNat->a=b
 |[],[],_=>rfl
 |[],_::_,h=>by simp at h
 |_::_,[],h=>by simp at h
 |x::a,y::b,h=>by
  simp only[List.map_cons,List.cons.injEq]at h
  rw[lL h.2,Char.toNat_inj.mp h.1]
def cM{a b:String}:(Str.ofString a=Str.ofString b)↔a=b:=by
 refine⟨fun h=>?_,fun h=>by rw[h]⟩
 rw[Str.ofString_eq_toList,Str.ofString_eq_toList]at h
 have h':a.toList.map Char.toNat=b.toList.map Char.toNat:=by
  have:=congrArg (fun s:Str=>s.cps.toList) h
  simpa using this
 exact String.toList_inj.mp (lL h')
def mY{i j:Int}(h1:-(2 ^ 64) < i)(h2:i < 2 ^ 64):IntMulOk i j:=(show Gh i j from .inl ⟨h1,h2⟩).ok
def mZ{i j:Int}(h1:-(2 ^ 64) < j)(h2:j < 2 ^ 64):IntMulOk i j:=(show Gh i j from .inr ⟨h1,h2⟩).ok
def iE{i j:Int}(h:0<=j):i.fmod j=i % j:=Int.fmod_eq_emod_of_nonneg i h
def zH{i j:Int}(h:0<=j):i.fdiv j=i / j:=Int.fdiv_eq_ediv_of_nonneg i h
def xK{i j:Int}(h:0 < j)(h2:j < 2 ^ 64):jd i j:=⟨by omega,Nat.lt_trans (show j.natAbs < 2 ^ 64 by omega) (Nat.pow_lt_pow_right (by decide) (by decide))⟩
def D0(d l:Addr)(S S':ar):Prop:=∀a o,S a=some o->a≠d->a≠l->S' a=some o
def D0.refl{d l:Addr}{S:ar}:D0 d l S S:=fun _ _ h _ _=>h
def D0.trans{d l:Addr}{S S1 S2:ar}(a:D0 d l S S1)(b:D0 d l S1 S2):D0 d l S S2:=fun x o h h1 h2=>b x o (a x o h h1 h2) h1 h2
def D0.upd{d l:Addr}{S:ar}{o:SO}:D0 d l S (CG S d o):=fun x u h h1 h2=>by rw[ak h1];exact h
def D0.KO{d l:Addr}{S:ar}{o:SO}:D0 d l S (CG S l o):=fun x u h h1 h2=>by rw[ak h2];exact h
def D0.new{d l p:Addr}{S:ar}{o:SO}(h:S p=none):D0 d l S (CG S p o):=fun x u hx h1 h2=>by rw[ak (fun e=>by rw[e,h]at hx;cases hx)];exact hx
end L3
local macro_rules | `(tactic| walk_at "x")=>`(tactic| ((try dsimp only [L3.aj,L3.ap,L3.aE,L3.bS,L3.gc,L3.d5,L3.ah,L3.v3,L3.c3,L3.lk,L3.ag,L3.ai,L3.ac,L3.jg,L3.cE,L3.kz,L3.vC,L3.lB,L3.d8,L3.iO,L3.aM,L3.cC,L3.iC,L3.cP,L3.al,L3.mU,L3.bV,L3.pM,L3.k5,L3.iN,L3.cj,L3.eG,L3.bn,L3.gE,L3.dA,L3.rO,L3.k6,L3.rP,L3.xJ,L3.fQ,L3.mj,L3.aP,L3.aL,L3.bA,L3.lC,L3.jf,L3.eX,L3.aD,L3.eV,List.set_cons_zero,List.set_cons_succ,List.set_nil,L3.pN,L3.cW,L3.lF,L3.aw,L3.aO,L3.bY,L3.bM,L3.bN,L3.Tg.put,L3.Tg.Dr,L3.lI,L3.hJ,L3.lJ,L3.bm,L3.iD,L3.pS,L3.bv,L3.da,List.reduceReplicate,List.map_cons,List.map_nil,List.cons_append,List.nil_append]); (try simp only [L3.aj,L3.ap,L3.aE,L3.bS,L3.gc,L3.d5,L3.ah,L3.v3,L3.c3,L3.lk,L3.ag,L3.ai,L3.ac,L3.jg,L3.cE,L3.kz,L3.vC,L3.lB,L3.d8,L3.iO,L3.aM,L3.cC,L3.iC,L3.cP,L3.al,L3.mU,L3.bV,L3.pM,L3.k5,L3.iN,L3.cj,L3.eG,L3.bn,L3.gE,L3.dA,L3.rO,L3.k6,L3.rP,L3.xJ,L3.fQ,L3.mj,L3.aP,L3.aL,L3.bA,L3.lC,L3.jf,L3.eX,L3.aD,L3.eV,List.set_cons_zero,List.set_cons_succ,List.set_nil,L3.pN,L3.cW,L3.lF,L3.aw,L3.aO,L3.bY,L3.bM,L3.bN,L3.Tg.put,L3.Tg.Dr,L3.lI,L3.hJ,L3.lJ,L3.bm,L3.iD,L3.pS,L3.bv,L3.da,List.reduceReplicate,List.map_cons,List.map_nil,List.cons_append,List.nil_append])))
namespace C
open PySem L2 L3
noncomputable def bU(seed number:Int)(l:Addr):List (bR×PV):=[(Sum.inr "seed",.int seed),(Sum.inr "number",.int number),(Sum.inr "left",.ref l)]
structure Eu (S:ar) (d l:Addr) (seed number:Int) (left:Vu):Prop where
 d:S d=some (.dct (bU seed number l))
 l:S l=some (.lst (left.map PV.int))
 s0:0<=seed
 s1:seed < 2147483647
 nm:0<=number
 lf:∀x∈left,0<=x
 ln:left.length<=100
def CU(S:ar)(d l:Addr):Prop:=∃seed number left,Eu S d l seed number left
def Eu.ne{S:ar}{d l:Addr}{seed number:Int}{left:Vu}(D:Eu S d l seed number left):d≠l:=fun e=>by
 have h:=D.d
 rw[e,D.l]at h
 cases h
def CU.new{S:ar}{d l p:Addr}{o:SO}(D:CU S d l)(h:S p=none):CU (CG S p o) d l:=by
 obtain⟨s,n,f,D⟩:=D
 refine⟨s,n,f,?_,?_,D.s0,D.s1,D.nm,D.lf,D.ln⟩
 ·rw[ak (fun e=>by have:=D.d;rw[e,h]at this;cases this)];exact D.d
 ·rw[ak (fun e=>by have:=D.l;rw[e,h]at this;cases this)];exact D.l
def CU.upd{S:ar}{d l p:Addr}{o:SO}(D:CU S d l)(h1:p≠d)(h2:p≠l):CU (CG S p o) d l:=by
 obtain⟨s,n,f,D⟩:=D
 exact⟨s,n,f,by rw[ak h1.symm];exact D.d,by rw[ak h2.symm];exact D.l,D.s0,D.s1,D.nm,D.lf,D.ln⟩
def CU.free{S:ar}{d l p:Addr}(D:CU S d l)(h:S p=none):p≠d/\p≠l:=by
 obtain⟨s,n,f,D⟩:=D
 exact⟨(fun e=>by have:=D.d;rw[<-e,h]at this;cases this),(fun e=>by have:=D.l;rw[<-e,h]at this;cases this)⟩
def jl(s n m:Int)(l:Addr):kC (bU s n l) (Sum.inr "number") (.int m)=bU s m l:=by
 simp[kC,bU,cM]
def rT(s n m:Int)(l:Addr):kC (bU s n l) (Sum.inr "seed") (.int m)=bU m n l:=by
 simp[kC,bU,cM]
def xL(s n:Int)(l:Addr):jF (bU s n l) (Sum.inr "seed")=some (.int s):=by simp[jF,bU,cM]
def rV(s n:Int)(l:Addr):jF (bU s n l) (Sum.inr "number")=some (.int n):=by simp[jF,bU,cM]
def xM(s n:Int)(l:Addr):jF (bU s n l) (Sum.inr "left")=some (.ref l):=by simp[jF,bU,cM]
abbrev cp(w:aF):Prop:=∀{S:ar} {d l:Addr} {m:Int} {Q:bH} {E:cg},CU S d l->0 < m->m < 2 ^ 62->(∀r S',0<=r->r < m->CU S' d l->D0 d l S S'->Q (.int r) S')->w [.ref d,.int m] S Q E
def CI:cp (bj 5 e9):=by
  intro S d l m Q E D h0 h1 k
  obtain⟨seed,number,left,D⟩:=D
  have hne:=D.ne
  have hsz:∀a b,(bU a b l).length < sizeLine:=fun _ _=>fv (by show 3<=1000;decide)
  have fin:∀num FI S1,Eu S1 d l seed num FI->D0 d l S S1->¬(num=0/\0 < FI.length)->
      (if 0 < num then jd num m/\(bU seed num l).length < sizeLine/\m≠0/\Q (PV.int (num.fmod m)) (CG S1 d (SO.dct (bU seed (num.fdiv m) l)))
       else IntMulOk seed 48271/\(2147483647:Int)≠0/\IntMulOk ((seed * 48271+7919).fmod 2147483647) 40692/\(2147483399:Int)≠0/\(bU seed num l).length < sizeLine/\
        IntMulOk (((seed * 48271+7919).fmod 2147483647 * 40692+104729).fmod 2147483399) (((seed * 48271+7919).fmod 2147483647 * 40692+104729).fmod 2147483399)/\(2147483563:Int)≠0/\
        IntMulOk ((seed * 48271+7919).fmod 2147483647) ((seed * 48271+7919).fmod 2147483647)/\(2147483629:Int)≠0/\
        IntMulOk (((seed * 48271+7919).fmod 2147483647 * (seed * 48271+7919).fmod 2147483647).fmod 2147483629) 2147483563/\m≠0/\
        Q (PV.int ((((seed * 48271+7919).fmod 2147483647 * (seed * 48271+7919).fmod 2147483647).fmod 2147483629 * 2147483563+((((seed * 48271+7919).fmod 2147483647 * 40692+104729).fmod 2147483399) * (((seed * 48271+7919).fmod 2147483647 * 40692+104729).fmod 2147483399)).fmod 2147483563).fmod m))
          (CG S1 d (SO.dct (bU (((seed * 48271+7919).fmod 2147483647 * 40692+104729).fmod 2147483399) num l)))):=by
    intro num FI S1 D1 O1 hz
    split
    . rename_i hp
      rw[iE (Int.le_of_lt h0),zH (Int.le_of_lt h0)]
      refine⟨xK h0 (by omega),hsz _ _,by omega,k _ _ (Int.emod_nonneg _ (by omega)) (Int.emod_lt_of_pos _ h0) ⟨seed,num / m,FI,aa,by rw[ak hne.symm];exact D1.l,D1.s0,D1.s1,Int.ediv_nonneg D1.nm (Int.le_of_lt h0),D1.lf,D1.ln⟩ (O1.trans .upd)⟩
    . have e1:∀x:Int,x.fmod 2147483647=x % 2147483647:=fun x=>iE (by decide)
      have e2:∀x:Int,x.fmod 2147483399=x % 2147483399:=fun x=>iE (by decide)
      simp only[e1,e2,iE (Int.le_of_lt h0)]
      have p1:=D1.s0
      have p2:=D1.s1
      refine⟨mZ (by decide) (by decide),by decide,mZ (by decide) (by decide),by decide,hsz _ _,mY (by omega) (by omega),by decide,mY (by omega) (by omega),by decide,mZ (by decide) (by decide),by omega,
        k _ _ (Int.emod_nonneg _ (by omega)) (Int.emod_lt_of_pos _ h0) ⟨_,num,FI,aa,by rw[ak hne.symm];exact D1.l,by omega,by omega,D1.nm,D1.lf,D1.ln⟩ (O1.trans .upd)⟩
  unfold bj e9
  rw[show az 5 [PV.ref d,PV.int m]=[some (.ref d),some (.int m),none,none,none] from rfl]
  simp only[aj]
  refine⟨fun n σ S'=>σ=[some (.ref d),some (.int m),none,none,none]/\∃number left,Eu S' d l seed number left/\left.length=n/\D0 d l S S',⟨_,rfl,number,left,D,rfl,.refl⟩,?_⟩
  rintro n σ S1 ⟨rfl,num,FI,D1,hn,O1⟩
  walk_at "x"
  simp only[D1.d,D1.l,rV,xM,xL,rT,jl,aa,Bool.false_bne,decide_eq_true_eq]
  have hlen:(List.map PV.int FI).length=FI.length:=List.length_map ..
  rw[hlen]
  split
  . rename_i hz
    subst hz
    split
    . rename_i hl
      refine⟨fun σ S'=>σ=[some (.ref d),some (.int m),none,none,none]/\∃number left,Eu S' d l seed number left/\left.length < n/\D0 d l S S',?_,?_⟩
      . rintro σ' S' ⟨rfl,a,b,h2,h3,h4⟩
        exact⟨_,h3,rfl,a,b,h2,rfl,h4⟩
      . have hl':0 < FI.length:=by omega
        obtain⟨pre,x,rfl⟩:∃pre x,FI=pre++[x]:=by
          refine⟨FI.dropLast,FI.getLast (by intro e;rw[e]at hl';simp at hl'),(List.dropLast_concat_getLast _).symm⟩
        refine⟨trivial,?_⟩
        rw[show(List.map PV.int (pre++[x]))[(pre++[x]).length - 1]?=some (.int x) by simp,show(List.map PV.int (pre++[x])).dropLast=pre.map PV.int by simp]
        simp only[ak hne,D1.d,jl]
        refine⟨hsz _ _,trivial,x,pre,⟨aa,by rw[ak hne.symm,aa],D1.s0,D1.s1,D1.lf x (by simp),fun y hy=>D1.lf y (by simp[hy]),by have:=D1.ln;simp at this;omega⟩,?_,O1.trans (D0.KO.trans .upd)⟩
        rw[<-hn];simp
    . rename_i hl
      exact fin 0 FI S1 D1 O1 (fun z=>hl (by omega))
  . rename_i hz
    rw[if_neg (by decide)]
    exact fin num FI S1 D1 O1 (fun z=>hz z.1)
end C
namespace L3
open PySem L2
def Ext(S S':ar):Prop:=∀a o,S a=some o->S' a=some o
def Ext.refl{S:ar}:Ext S S:=fun _ _ h=>h
def Ext.trans{S S1 S2:ar}(a:Ext S S1)(b:Ext S1 S2):Ext S S2:=fun x o h=>b x o (a x o h)
def Ext.new{S:ar}{p:Addr}{o:SO}(h:S p=none):Ext S (CG S p o):=fun x u hx=>by rw[ak (fun e=>by rw[e,h]at hx;cases hx)];exact hx
def Ext.free{S S':ar}(e:Ext S S'){p:Addr}(h:S' p=none):S p=none:=by
 cases q:S p with
 |none=>rfl
 |some o=>rw[e p o q]at h;cases h
def Ext.EY{d l:Addr}{S S':ar}(e:Ext S S'):D0 d l S S':=fun a o h _ _=>e a o h
theorem d9{g:Tg}{tc:iK}{te:aS}{σ':cN}{keep:ar->Prop}{fin:List PV->ar->Prop}{S:ar}(f:PV->PV)(c:PV->Bool)(hk:keep S):∀(items ys:List PV),
  (∀x∈items,∃σ2,g.put x σ'=some σ2/\(∀Q:Bool->ar->Prop,Q (c x) S->tc σ2 S Q fD)/\(c x=true->∀Q:bH,Q (f x) S->te σ2 S Q fD))->ys.length+items.length<=sizeLine->fin (ys++(items.filter c).map f) S->dz g tc te σ' keep fin items ys S
 |[],ys,_,hl,hf=>⟨hk,by simpa using hl,by simpa using hf⟩
 |x::r,ys,h,hl,hf=>by
  obtain⟨σ2,e,h1,h2⟩:=h x (by simp)
  refine⟨hk,by simp at hl;omega,?_⟩
  rw[e]
  refine h1 _ ?_
  cases hc:c x with
  |true=>
   rw[if_pos rfl]
   refine h2 hc _ (d9 f c hk r (ys++[f x]) (fun y hy=>h y (by simp[hy])) (by simp at hl ⊢;omega) ?_)
   rw[List.filter_cons,hc,if_pos rfl]at hf
   simpa using hf
  |false=>
   rw[if_neg (by decide)]
   refine d9 f c hk r ys (fun y hy=>h y (by simp[hy])) (by simp at hl ⊢;omega) ?_
   rw[List.filter_cons,hc,if_neg (by decide)]at hf
   exact hf
def pU{g:Tg}{te:aS}{σ':cN}{keep:ar->Prop}{fin:List PV->ar->Prop}{S:ar}(f:PV->PV){items:List PV}(hk:keep S)
  (h:∀x∈items,∃σ2,g.put x σ'=some σ2/\∀Q:bH,Q (f x) S->te σ2 S Q fD) (hl:items.length<=sizeLine) (hf:fin (items.map f) S):dz g bg te σ' keep fin items [] S:=by
 refine d9 f (fun _=>true) hk items [] (fun x hx=>?_) (by simpa using hl) (by rw[List.filter_eq_self.mpr (fun _ _=>rfl)];exact hf)
 obtain⟨σ2,e,k⟩:=h x hx
 exact⟨σ2,e,fun Q q=>q,fun _=>k⟩
theorem jZ{g:Tg}{tc:iK}{te:aS}{σ':cN}{keep:ar->Prop}{fin:List PV->ar->Prop}{items:List PV}(Iv:List PV->List PV->ar->Prop)(hk:∀done ys S,Iv done ys S->keep S/\ys.length<=sizeLine)
  (step:∀done x rest ys S (K:List PV->ar->Prop),items=done++x::rest->Iv done ys S->(∀ys' S',Iv (done++[x]) ys' S'->K ys' S')->match g.put x σ' with
   |some σ2=>tc σ2 S (fun b S3=>if b=true then te σ2 S3 (fun y S4=>K (ys++[y]) S4) fD else K ys S3) fD
   |none=>False)
  (hf:∀ys S,Iv items ys S->fin ys S):∀(rest done ys:List PV) (S:ar),items=done++rest->Iv done ys S->dz g tc te σ' keep fin rest ys S
 |[],done,ys,S,e,h=>by
  rw[List.append_nil]at e
  exact⟨(hk _ _ _ h).1,(hk _ _ _ h).2,hf ys S (e▸h)⟩
 |x::rest,done,ys,S,e,h=>by
  refine⟨(hk _ _ _ h).1,(hk _ _ _ h).2,?_⟩
  exact step done x rest ys S (fun ys' S'=>dz g tc te σ' keep fin rest ys' S') e h fun ys' S' h'=>jZ Iv hk step hf rest (done++[x]) ys' S' (by rw[e];simp) h'
theorem lM{g:Tg}{tb:bX}{D:jU}{keep:ar->Prop}{items:List PV}(Iv:List PV->cN->ar->Prop)(hk:∀done σ S,Iv done σ S->keep S)
  (step:∀done x rest σ S (K:cN->ar->Prop),items=done++x::rest->Iv done σ S->(∀σ' S',Iv (done++[x]) σ' S'->K σ' S')->match g.put x σ with
   |some σ'=>tb { D with nx:=K,ct:=K,bk:=D.nx } σ' S
   |none=>False)
  (hd:∀σ S,Iv items σ S->D.nx σ S):∀(rest done:List PV) (σ:cN) (S:ar),items=done++rest->Iv done σ S->kD g tb D keep rest σ S
 |[],done,σ,S,e,h=>by
  rw[List.append_nil]at e
  exact⟨hk _ _ _ h,hd σ S (e▸h)⟩
 |x::rest,done,σ,S,e,h=>
  ⟨hk _ _ _ h,step done x rest σ S (kD g tb D keep rest) e h fun σ' S' h'=>lM Iv hk step hd rest (done++[x]) σ' S' (by rw[e];simp) h'⟩
def bJ{g:Tg}{tb:bX}{D:jU}{keep:ar->Prop}{items:List PV}{σ:cN}{S:ar}(Iv:List PV->cN->ar->Prop)(h0:Iv [] σ S)(hk:∀done σ S,Iv done σ S->keep S)
  (step:∀done x rest σ S (K:cN->ar->Prop),items=done++x::rest->Iv done σ S->(∀σ' S',Iv (done++[x]) σ' S'->K σ' S')->match g.put x σ with
   |some σ'=>tb { D with nx:=K,ct:=K,bk:=D.nx } σ' S
   |none=>False)
  (hd:∀σ S,Iv items σ S->D.nx σ S):kD g tb D keep items σ S:=lM Iv hk step hd items [] σ S rfl h0
def bC{g:Tg}{tc:iK}{te:aS}{σ':cN}{keep:ar->Prop}{fin:List PV->ar->Prop}{items:List PV}{S:ar}(Iv:List PV->List PV->ar->Prop)(h0:Iv [] [] S)(hk:∀done ys S,Iv done ys S->keep S/\ys.length<=sizeLine)
  (step:∀done x rest ys S (K:List PV->ar->Prop),items=done++x::rest->Iv done ys S->(∀ys' S',Iv (done++[x]) ys' S'->K ys' S')->match g.put x σ' with
   |some σ2=>tc σ2 S (fun b S3=>if b=true then te σ2 S3 (fun y S4=>K (ys++[y]) S4) fD else K ys S3) fD
   |none=>False)
  (hf:∀ys S,Iv items ys S->fin ys S):dz g tc te σ' keep fin items [] S:=jZ Iv hk step hf items [] [] S rfl h0
def aB{t u:bX}{D:jU}{σ:cN}{S:ar}(h:∀N:cN->ar->Prop,(∀σ S,u D σ S->N σ S)->t { D with nx:=N } σ S):aj t u D σ S:=h (u D) fun _ _ q=>q
def fK{n:Nat}{b:bX}{args:List PV}{S:ar}{Q:bH}{E:cg}(h:b { nx:=fun _ S'=>Q .non S',rt:=Q,ex:=fD } (az n args) S):bj n b args S Q E:=h
def rW{α β:Type}(f:α->β)(xs:List α)(lo hi:Option Int):cV (xs.map f) lo hi=(cV xs lo hi).map f:=by
 unfold cV
 rw[List.length_map,List.map_take,List.map_drop]
def rX{α:Type}(xs:List α)(lo hi:Option Int):(cV xs lo hi).length<=xs.length:=by
 unfold cV
 rw[List.length_take,List.length_drop]
 omega
def on{n:Nat}(h:n<=1000):n<=sizeLine:=Nat.le_of_lt (fv h)
section
variable {α:Type} {a b c d e:α} {l:List α}
def lN:atI (a::l) 0=some a:=by simp[atI,lp]
def pV:atI (a::b::l) 1=some b:=bE (j:=1) rfl
def zI:atI (a::b::c::l) 2=some c:=bE (j:=2) rfl
def xN:atI [a] (-1)=some a:=rfl
def xO:atI [a,b] (-1)=some b:=rfl
def xP:atI [a,b,c] (-1)=some c:=rfl
def xQ:atI [a,b,c,d] (-1)=some d:=rfl
def xR:atI [a,b,c,d,e] (-1)=some e:=rfl
def xS:atI [a,b] (-2)=some a:=rfl
def xT:atI [a,b,c] (-2)=some b:=rfl
def xU:atI [a,b,c,d] (-2)=some c:=rfl
def xV:atI [a,b,c,d,e] (-2)=some d:=rfl
end
def bf(lo:Int)(n:Nat):(bB lo n).length=n:=by simp[bB]
end L3
namespace C
open PySem L2 L3
abbrev lO(w:aF):Prop:=∀{S:ar} {ns:Vu} {b:Int} {Q:bH} {E:cg},ns.length<=63->0<=b->b < 1000->(∀d l S',S d=none->S l=none->CU S' d l->Ext S S'->Q (.ref d) S')->w [.cl (ns.map PV.int),.int b] S Q E
def E4:lO (bj 5 e8):=by
 intro S ns b Q E hn h0 h1 k
 unfold bj e8
 rw[show az 5 [PV.cl (ns.map PV.int),PV.int b]=[some (.cl (ns.map PV.int)),some (.int b),none,none,none] from rfl]
 walk_at "x"
 intro p hp
 rw[aa]
 dsimp only
 rw[rW]
 have hx:(cV ns (some b) (some 63)).length<=63:=Nat.le_trans (rX _ _ _) hn
 generalize cV ns (some b) (some 63)=xs at hx
 refine pU (fun v=>match v with | .int i=>.int (if 0 - i > i then 0 - i else i)|v=>v) aa (fun x hx=>?_) (on (by rw[List.length_map];omega)) ?_
 ·obtain⟨i,hi,rfl⟩:=List.mem_map.mp hx
  refine⟨[some (.int i)],rfl,fun Q q=>?_⟩
  walk_at "x"
  exact q
 intro p2 hp2
 rw[aa]
 dsimp only
 rw[List.map_map]
 have e0:(xs.map ((fun v=>match v with | .int i=>.int (if 0 - i > i then 0 - i else i)|v=>v) ∘ PV.int))=(xs.map fun i=>if 0 - i > i then 0 - i else i).map PV.int:=by
  rw[List.map_map];rfl
 rw[e0]
 have hy:((xs.map fun i=>if 0 - i > i then 0 - i else i)).length<=63:=by rw[List.length_map];exact hx
 have Hl:∀y∈xs.map (fun i:Int=>if 0 - i > i then 0 - i else i),0<=y:=by
  intro y hy
  obtain⟨i,_,rfl⟩:=List.mem_map.mp hy
  split<;>omega
 generalize (xs.map fun i=>if 0 - i > i then 0 - i else i)=ys at hy Hl
 have h2:p2≠p:=fun e=>by rw[e,aa]at hp2;cases hp2
 have hp2':S p2=none:=by rw[<-hp2,ak h2]
 refine bJ (fun done σ S'=>S'=CG (CG S p (.lst (xs.map PV.int))) p2 (.lst (ys.map PV.int))/\∃v2 n,0<=n/\n < 2147483647/\σ=[some (.cl (ns.map PV.int)),some (.int b),v2,some (.ref p2),some (.int n)]) ⟨rfl,none,7919+b,by omega,by omega,rfl⟩ (fun done σ S' h=>by rw[h.1];exact aa) ?_ ?_
 ·rintro done x rest σ S' K e ⟨rfl,v2,n,n0,n1,rfl⟩ hK
  obtain⟨i,hi,rfl⟩:∃i,i∈ys/\x = .int i:=by
   have:x∈ys.map PV.int:=by rw[e];simp
   obtain⟨i,hi,rfl⟩:=List.mem_map.mp this
   exact⟨i,hi,rfl⟩
  walk_at "x"
  refine⟨mZ (by decide) (by decide),by decide,by decide,hK _ _ ⟨rfl,_,_,?_,?_,rfl⟩⟩
  ·rw[iE (by decide)];omega
  ·rw[iE (i:=(n * 48271+_)) (by decide)];omega
 ·rintro σ S' ⟨rfl,v2,n,n0,n1,rfl⟩
  walk_at "x"
  intro d hd
  have hd2:d≠p2:=fun e=>by rw[e,aa]at hd;cases hd
  rw[ak hd2]at hd
  have hd1:d≠p:=fun e=>by rw[e,aa]at hd;cases hd
  rw[ak hd1]at hd
  rw[ak hd2.symm,aa]
  dsimp only
  refine d9 (fun v=>v) (fun v=>match v with | .int i=>decide (10 ^ 18<=i)|_=>false) (by rw[ak hd2.symm,aa]) _ [] (fun x hx=>?_) (by rw[List.length_map];exact on (by simp;omega)) ?_
  ·obtain⟨i,hi,rfl⟩:=List.mem_map.mp hx
   refine⟨[some (.int i)],rfl,fun Q q=>?_,fun _ Q q=>?_⟩
   ·walk_at "x"
    exact⟨⟨by decide,by decide,by decide⟩,q⟩
   ·walk_at "x"
    exact q
  intro p3 hp3
  rw[aa]
  intro l hl
  have e3:([]++List.map (fun v:PV=>v) (List.filter (fun v=>match v with | .int i=>decide (10 ^ 18<=i)|_=>false) (List.map PV.int ys)))=(ys.filter fun i=>decide (10 ^ 18<=i)).map PV.int:=by
   rw[List.nil_append,List.map_id',List.filter_map]
   rfl
  rw[e3]at hl ⊢
  rw[<-List.map_reverse]
  generalize JX:CG (CG (CG (CG S p (SO.lst (List.map PV.int xs))) p2 (SO.lst (List.map PV.int ys))) d (SO.dct [])) p3 (SO.lst (List.map PV.int (List.filter (fun i=>decide (10 ^ 18<=i)) ys)))=S3 at hl ⊢
  have JY:S3 d=some (.dct []):=by rw[<-JX,ak (fun e=>by rw[<-e,aa]at hp3;cases hp3),aa]
  have JZ:l≠d:=fun e=>by rw[e,JY]at hl;cases hl
  have Jn:Ext S S3:=by
   rw[<-JX]
   refine(Ext.new hp).trans ((Ext.new hp2).trans ((Ext.new ?_).trans (.new hp3)))
   rw[ak hd2,ak hd1];exact hd
  refine⟨by rw[ak JZ.symm];exact JY,?_⟩
  have e4:lH [(PV.str "seed",PV.int n),(PV.str "number",PV.int 0),(PV.str "left",PV.ref l)]=some (bU n 0 l):=rfl
  rw[e4]
  have e5:kE [] (bU n 0 l)=bU n 0 l:=by simp[kE,bU,kC,cM]
  dsimp only
  rw[e5]
  refine k d l _ hd (Jn.free hl) ⟨n,0,_,aa,by rw[ak JZ,aa],n0,n1,Int.le_refl _,fun y hy=>?_,?_⟩ ?_
  ·exact Hl y (List.mem_filter.mp (List.mem_reverse.mp hy)).1
  ·rw[List.length_reverse]
   exact Nat.le_trans (List.length_filter_le _ _) (by omega)
  ·intro a o ha
   have had:a≠d:=fun e=>by rw[e,hd]at ha;cases ha
   rw[ak had,ak (fun e=>by rw[e,Jn.free hl]at ha;cases ha)]
   exact Jn a o ha
end C
namespace L3
open PySem L2
end L3
namespace C
open PySem L2 L3 Wd
abbrev fy(w:aF):Prop:=∀{S:ar} {t b:Int} {Q:bH} {E:cg},0 < b->b.natAbs < 2 ^ 8000->Q (.tup [.int (M3.aK t b),.int (M3.aC t b)]) S->w [.int t,.int b] S Q E
def DR:fy (bj 4 fT):=by
 intro S t b Q E hb hs k
 unfold bj fT
 rw[show az 4 [PV.int t,PV.int b]=[some (.int t),some (.int b),none,none] from rfl]
 simp only[aj]
 walk_at "x"
 refine⟨fun n σ S'=>S'=S/\∃x y:Int,σ=[some (.int t),some (.int b),some (.int x),some (.int y)]/\0<=x/\0<=y/\Int.gcd x y=Int.gcd t b/\y.toNat=n,⟨_,rfl,_,b,rfl,by split<;>omega,by omega,?_,rfl⟩,?_⟩
 ·split
  ·rw[show(0 - t) = -t by omega,Int.neg_gcd]
  ·rfl
 rintro n σ S' ⟨rfl,x,y,rfl,hx,hy,hg,rfl⟩
 walk_at "x"
 simp only[decide_eq_true_eq]
 split
 ·rename_i hp
  refine⟨fun σ' Gn=>Gn=S'/\∃x' y':Int,σ'=[some (.int t),some (.int b),some (.int x'),some (.int y')]/\0<=x'/\0<=y'/\Int.gcd x' y'=Int.gcd t b/\y'.toNat < y.toNat,?_,?_⟩
  ·rintro σ' Gn ⟨rfl,x',y',rfl,h1,h2,h3,h4⟩
   exact⟨_,h4,rfl,x',y',rfl,h1,h2,h3,rfl⟩
  ·walk_at "x"
   have e:x.fmod y=x % y:=iE hy
   have l1:=Int.emod_nonneg x (b:=y) (by omega)
   have l2:=Int.emod_lt_of_pos x hp
   refine⟨by omega,trivial,y,x.fmod y,rfl,hy,by omega,?_,by omega⟩
   rw[M3.lA];exact hg
 ·rename_i hp
  have Hl:y=0:=by omega
  subst Hl
  have Jo:x=(Int.gcd t b:Int):=by
   rw[<-hg]
   rw[Int.gcd_zero_right]
   omega
  subst Jo
  have gp:(0:Int) < (Int.gcd t b:Int):=Int.natCast_pos.mpr (M3.d0 (by omega))
  have gl:=M3.mP (t:=t) (b:=b) (by omega)
  have cd:∀z,jd z (Int.gcd t b:Int):=fun z=>⟨by omega,Nat.lt_of_le_of_lt (by omega) hs⟩
  refine⟨cd _,cd _,?_⟩
  have d1:=(M3.ly (t:=t) (b:=b) (by omega))
  rw[if_neg (by omega)]at d1
  rw[d1.1,d1.2]
  exact k
def j0{n:Nat}(h:n < 2 ^ 64):n < 2 ^ 8000:=Nat.lt_trans h (Nat.pow_lt_pow_right (by decide) (by decide))
end C
local macro_rules | `(tactic| walk_at "w")=>`(tactic| simp only [L3.aj,L3.ap,L3.aE,L3.bS,L3.gc,L3.d5,L3.ah,L3.v3,L3.c3,L3.lk,L3.ag,L3.ai,L3.ac,L3.jg,L3.cE,L3.kz,L3.vC,L3.lB,L3.d8,L3.iO,L3.aM,L3.cC,L3.iC,L3.cP,L3.al,L3.mU,L3.bV,L3.pM,L3.k5,L3.iN,L3.cj,L3.eG,L3.bn,L3.gE,L3.dA,L3.rO,L3.k6,L3.rP,L3.xJ,L3.fQ,L3.mj,L3.aP,L3.aL,L3.bA,L3.lC,L3.jf,L3.eX,L3.aD,L3.eV,List.set_cons_zero,List.set_cons_succ,List.set_nil,L3.pN,L3.cW,L3.lF,L3.aw,L3.aO,L3.bY,L3.bM,L3.bN,L3.Tg.put,L3.Tg.Dr,L3.lI,L3.hJ,L3.lJ,L3.bm,L3.iD,L3.pS,L3.bv,L3.da,List.reduceReplicate,List.map_cons,List.map_nil,List.cons_append,List.nil_append,L3.lN,L3.pV,L3.zI,L3.xN,L3.xO,L3.xP,L3.xQ,L3.xR,L3.xS,L3.xT,L3.xU,L3.xV,L3.cM,String.reduceEq,decide_true,decide_false,Bool.false_bne,Bool.true_bne,Bool.not_true,Bool.not_false,if_true,if_false,Bool.false_eq_true,reduceIte,ite_true,ite_false])
local macro_rules | `(tactic| walk_at "y")=>`(tactic| ((try walk_at "x"); (try walk_at "w")))
namespace C
open PySem L2 L3 Wd
structure Sh (S:ar) (v:PV) (d:PyData) (n k:Nat):Prop where
 dat:Dat S v d
 lay:d.canLay0=true
 G5:d.showable=true
 dep:d.depth<=k
 len:d.shown.length<=n
structure FR (S:ar) (vs:List PV) (ds:List PyData) (n k:Nat):Prop where
 dat:Es S vs ds
 lay:PyData.canLayAll0 ds=true
 G5:PyData.showableAll ds=true
 dep:PyData.depthAll ds<=k
 len:piled (PyData.shownAll ds)<=n
def Sh.le{S:ar}{v:PV}{d:PyData}{n k m j:Nat}(h:Sh S v d n k)(a:n<=m)(b:k<=j):Sh S v d m j:=⟨h.dat,h.lay,h.G5,Nat.le_trans h.dep b,Nat.le_trans h.len a⟩
def FR.le{S:ar}{v:List PV}{d:List PyData}{n k m j:Nat}(h:FR S v d n k)(a:n<=m)(b:k<=j):FR S v d m j:=⟨h.dat,h.lay,h.G5,Nat.le_trans h.dep b,Nat.le_trans h.len a⟩
theorem Sh.int{S:ar}{i:Int}(h:i.natAbs.log2 < 1920):Sh S (.int i) (.int i) 1921 0:=
 ⟨.int i,by simp[PyData.canLay0],by simpa [PyData.showable]using h,by simp[PyData.depth],by rw[PyData.shown_int];exact PyProof.Rows.int_text_len_1921 h⟩
theorem Sh.str{S:ar}{z:Str}(h:PyData.strOk z=true):Sh S (.str z) (.str z) (10 * z.length+2) 0:=
 ⟨.str z,by simpa [PyData.canLay0]using h,by simp[PyData.showable],by simp[PyData.depth],by
  rw[PyData.shown_str]
  refine StrLaws.reprText_len z fun c hc=>?_
  have h3:=Array.all_eq_true_iff_forall_mem.mp h c (Array.mem_toList_iff.mp hc)
  have h4:c < 0x110000:=by simpa using h3
  have e:(16:Nat) ^ 8=4294967296:=by decide
  omega⟩
theorem FR.nil{S:ar}:FR S [] [] 0 0:=⟨.nil,by simp[PyData.canLayAll0],by simp[PyData.showableAll],by simp[PyData.depthAll],by simp[PyData.shownAll,piled]⟩
theorem Sh.cons{S:ar}{v:PV}{d:PyData}{n k:Nat}{vs:List PV}{ds:List PyData}{m:Nat}(a:Sh S v d n k)(b:FR S vs ds m k):FR S (v::vs) (d::ds) (n+2+m) k:=
 ⟨.cons a.dat b.dat,by simp[PyData.canLayAll0,a.lay,b.lay],by simp[PyData.showableAll,a.G5,b.G5],by simp only[PyData.depthAll];exact Nat.max_le.mpr ⟨a.dep,b.dep⟩,by
  rw[PyData.shownAll_cons,piled_cons]
  have:=a.len
  have:=b.len
  omega⟩
theorem Sh.tup{S:ar}{n k:Nat}{vs:List PV}{ds:List PyData}(a:FR S vs ds n k):Sh S (.tup vs) (.tuple ds) (n+3) (k+1):=
 ⟨.tup a.dat,by simp[PyData.canLay0,a.lay],by simp[PyData.showable,a.G5],by simp only[PyData.depth];exact Nat.succ_le_succ a.dep,by
  rw[PyData.shown_tuple,strLen_append,strLen_append]
  have e1:((("(":String):Str)).length=1:=rfl
  have e3:(((if ds.length == 1 then ",)" else ")":String):Str)).length<=2:=by split<;>decide
  have q:=a.len
  rcases ds with _|⟨d,ds⟩
  ·have:(Str.join ", " (PyData.shownAll [])).length=0:=by simp[PyData.shownAll];rfl
   omega
  ·have:=join_length_add (PyData.shownAll (d::ds)) (by simp[PyData.shownAll])
   omega⟩
def Sh.dict{S:ar}{v:PV}{d:PyData}{n k:Nat}(h:Sh S v d n k):d.hasDict=false:=PyData.hasDict_of_canLay d h.lay
def xW:(2:Nat) ^ 24<=sizeLine:=by decide
def lP{S:ar}{vs:List PV}{d:PyData}{n k:Nat}{Q:bH}(h:Sh S (.tup vs) d n k)(hn:n<=2 ^ 24)(hk:k<=100)(q:Q (.str d.shown) S):lD [.tup vs] S Q:=by
 unfold lD
 exact⟨d,h.dat,h.G5,h.dict,Nat.le_trans h.dep hk,Nat.le_trans h.len (Nat.le_trans hn xW),q⟩
def pW{i:Int}(h:i.natAbs < 2 ^ 64):i.natAbs.log2 < 1920:=by
 by_cases h0:i.natAbs=0
 ·rw[h0];decide
 ·exact(Nat.log2_lt h0).mpr (Nat.lt_trans h (Nat.pow_lt_pow_right (by decide) (by decide)))
def Sh.s{S:ar}(z:String)(k:Nat)(h:PyData.strOk (z:Str)=true)(hl:(z:Str).length<=6):Sh S (.str z) (.str z) 62 k:=(Sh.str h).le (by omega) (Nat.zero_le _)
def FR.G6{S:ar}(k:Nat):FR S [] [] 0 k:=.le .nil (Nat.le_refl _) (Nat.zero_le _)
theorem Sh.i{S:ar}{i:Int}(h:i.natAbs < 2 ^ 64):Sh S (.int i) (.int i) 1921 0:=Sh.int (pW h)
end C
namespace C
open PySem L2 L3
end C
namespace C
open PySem L2 L3 Wd
def CU.ext{S S':ar}{d l:Addr}(D:CU S d l)(e:Ext S S'):CU S' d l:=by
 obtain⟨s,n,f,D⟩:=D
 exact⟨s,n,f,e _ _ D.d,e _ _ D.l,D.s0,D.s1,D.nm,D.lf,D.ln⟩
def _root_.L3.Ext.put{p:Addr}{S S':ar}{o:SO}(O:Ext S S')(h:S p=none):Ext S (CG S' p o):=fun x u hx=>by rw[ak (fun e=>by rw[e,h]at hx;cases hx)];exact O x u hx
def m4{α:Type}{xs:List α}{n:Nat}(h:n<=xs.length):cV xs none (some (n:Int))=xs.take n:=by
 unfold cV
 rw[HT.i3,HT.kl,List.drop_zero,Nat.min_eq_left h]
 rfl
def xX{α:Type}{xs:List α}{n:Nat}(h:n<=xs.length):cV xs (some (n:Int)) none=xs.drop n:=by
 unfold cV
 rw[HT.i3,HT.kl,Nat.min_eq_left h,List.take_of_length_le]
 rw[List.length_drop]
 exact Nat.le_refl _
def bK{x:PV}{n:Nat}{a b:List PV}(e:bB 0 n=a++x::b):x = .int a.length/\a.length < n:=by
 have h1:(bB 0 n)[a.length]?=some x:=by rw[e];simp
 unfold bB at h1
 rw[List.getElem?_map]at h1
 have hl:a.length < n:=by
  have:=congrArg List.length e
  rw[bf,List.length_append,List.length_cons]at this
  omega
 rw[List.getElem?_range hl]at h1
 simp at h1
 exact⟨h1.symm,hl⟩
def rY{xs:List PV}{x:PV}{a b:List PV}(e:L3.a8 xs=a++x::b):∃y,x = .tup [.int a.length,y]/\xs[a.length]?=some y:=by
 have h1:(L3.a8 xs)[a.length]?=some x:=by rw[e];simp
 unfold L3.a8 at h1
 rw[List.getElem?_mapIdx]at h1
 cases h:xs[a.length]? with
 |none=>rw[h]at h1;cases h1
 |some y=>
  rw[h]at h1
  simp only[Option.map_some,Option.some.injEq]at h1
  exact⟨y,h1.symm,rfl⟩
end C
namespace C
open PySem L2 L3
end C
namespace C
open PySem L2 L3 Wd
end C
namespace C
open PySem L2 L3
end C
namespace C
open PySem L2 L3 Wd
end C
namespace Zu
open PySem Zt
open Sem (wp)
end Zu
namespace L2
open PySem PySem.Spec PyProof.Rows
end L2
namespace L3
open PySem L2
end L3
namespace L2
open PySem PySem.Spec PyProof.Rows
def hU:fillsNumberSlot (.type "tuple") "mul" = pure false:=
 PySem.fillsNumberSlot_seq (id:="tuple.__mul__") (r:=some (.builtin "tuple.__rmul__")) F.slot_tuple_mul.lookup (by decide +kernel) F.slot_tuple_rmul.lookup (by decide +kernel)
def kH:seqRepeat? (.type "tuple")=pure (some (.builtin "tuple.__mul__")):=by
 unfold seqRepeat?
 rw[PySem.seqSlot_of (T:="tuple") (name:="__mul__") (id:="tuple.__mul__") F.slot_tuple_mul.lookup (by decide +kernel),PySem.seqSlot_of (T:="tuple") (name:="__rmul__") (id:="tuple.__rmul__") F.slot_tuple_rmul.lookup (by decide +kernel)]
 rfl
def jm(a:Int)(t:Tok)(l:Addr)(its:Vw)(n:Nat)(dd:Option Addr)(sl:Array (Option Value)) :
  Meets (Builtin.«int.__rmul__» ⟨[.int a t,.ref l],[]⟩) (fun _ R s=>s.heap.get? l=some { cls:=.type "tuple",dict:=dd,data:=.seq its n,slots:=sl }/\R (.ok (.ret Value.notImplemented)) s):=
 .of_wp fun prog w A R s h=>by obtain⟨hp,g,d,tk,os⟩:=s;obtain⟨hl,h⟩:=h;wp_walk;exact⟨_,rfl,h⟩
def zJ(l:Addr)(x:Value)(n:Nat)(dd:Option Addr)(sl:Array (Option Value))(t:Tok) :
  Meets (Builtin.«tuple.__mul__» ⟨[.ref l,.int 1 t],[]⟩) (fun _ R s=>s.heap.get? l=some { cls:=.type "tuple",dict:=dd,data:=.seq #[x] n,slots:=sl }/\R (.ok (.ret (.ref l))) s):=
 .of_wp fun prog w A R s h=>by
  obtain⟨hp,g,d,tk,os⟩:=s;obtain⟨hl,h⟩:=h
  have t1:=AutoSeq1.idx_int
  wp_walk using wpAny_loadPart' hl
  exact⟨_,rfl,h⟩
def zK(l:Addr)(x:Value)(n:Nat)(dd:Option Addr)(sl:Array (Option Value))(t:Tok) :
  Meets (Builtin.«tuple.__mul__» ⟨[.ref l,.int 0 t],[]⟩) (fun _ R s=>s.heap.get? l=some { cls:=.type "tuple",dict:=dd,data:=.seq #[x] n,slots:=sl }/\R (.ok (.ret (.ref s.heap.objs.size))) { s with heap:=s.heap.push { cls:=.type "tuple",data:=.seq #[] } }):=
 .of_wp fun prog w A R s h=>by
  obtain⟨hp,g,d,tk,os⟩:=s;obtain⟨hl,h⟩:=h
  have t1:=AutoSeq1.idx_int
  wp_walk using wpAny_loadPart' hl
  exact⟨_,rfl,h⟩
def iT(x:Value)(m:Nat):(List.replicate m (#[x]:Vw)).foldl (·++·) #[]=(List.replicate m x).toArray:=by
 have:=gX [x] m []
 rw[List.nil_append]at this
 refine this.trans ?_
 rw[List.flatten_replicate_singleton]
def zL(l:Addr)(x:Value)(n:Nat)(dd:Option Addr)(sl:Array (Option Value))(k:Int)(t:Tok)(h2:2<=k)(hk:k<=2 ^ 20) :
  Meets (Builtin.«tuple.__mul__» ⟨[.ref l,.int k t],[]⟩) (fun _ R s=>s.heap.get? l=some { cls:=.type "tuple",dict:=dd,data:=.seq #[x] n,slots:=sl }/\R (.ok (.ret (.ref s.heap.objs.size))) { s with heap:=s.heap.push { cls:=.type "tuple",data:=.seq ((List.replicate k.toNat #[x]).foldl (·++·) #[]) } }):=
 .of_wp fun prog w A R s h=>by
  obtain⟨hp,g,d,tk,os⟩:=s;obtain⟨hl,h⟩:=h
  have t1:=AutoSeq1.idx_int
  have c1:¬((decide (k < -(2 ^ 63)) || decide (k>=2 ^ 63))=true):=by rw[Bool.or_eq_true,decide_eq_true_eq,decide_eq_true_eq];omega
  have c2:¬(((#[x]:Vw).isEmpty || k == 1)=true):=by
   have:(k == 1)=false:=by rw[beq_eq_false_iff_ne];omega
   rw[this];simp
  have c3:¬((decide (k<=0) || (#[x]:Vw).isEmpty)=true):=by
   have:decide (k<=0)=false:=decide_eq_false (by omega)
   rw[this];simp
  have c4:¬(((#[x]:Vw).size:Int) * k > (2 ^ 63 - 1) / 8):=by show ¬((1:Int) * k > _);omega
  have sl:(2:Int) ^ 20<=(sizeLine:Int):=by decide
  have c5:¬(Builtin.Tuple.tupleTooMany (((#[x]:Vw).size:Int) * k)=true):=by show ¬(decide ((1:Int) * k > (sizeLine:Int))=true);rw[decide_eq_true_eq];omega
  wp_walk using wpAny_loadPart' hl
  rw[if_neg c1]
  wp_walk using wpAny_loadPart' hl
  rw[if_neg c2]
  wp_walk using wpAny_loadPart' hl
  rw[if_neg c3]
  wp_walk using wpAny_loadPart' hl
  rw[if_neg c4]
  wp_walk using wpAny_loadPart' hl
  rw[if_neg c5]
  wp_walk using wpAny_loadPart' hl
  have c6:¬((List.replicate k.toNat (#[x]:Vw)).foldl (·++·) #[]).size > sizeLine:=by
   rw[iT,List.size_toArray,List.length_replicate];have:=Int.toNat_of_nonneg (show 0<=k by omega);omega
  rw[if_neg c6]
  wp_walk using wpAny_loadPart' hl
  exact⟨_,rfl,h⟩
section
variable {X:Cx}
def zM(H H':Hp):Prop:=∀c o,H c=some o->H' c=some o
def zN(K:Vo):R2:=fun x y H Q=>∃l k x0,x = .ref l/\y = .int k/\SqT K H l [x0]/\0<=k/\k<=2 ^ 20/\∀r H',zM H H'->SqT K H' r (List.replicate k.toNat x0)->Q (.ref r) H'
def uN:fz X (binaryOp .Mult) (zN X.K):=by
 intro pins s σ H x y v u Q I rx ry h
 obtain⟨l,k,x0,rfl,rfl,hH,h1,h2,q⟩:=h
 cases rx
 obtain⟨t,rfl⟩:=ry
 obtain⟨its,r1,p1,_⟩:=I.tuple hH
 obtain⟨w,rfl,KP⟩:=r1.one
 obtain⟨⟨cls,dd,data,sl⟩,ho,hc,n,hd⟩:=id p1
 simp only at hc hd
 subst hc hd
 have new:∀(ys:List V) (us:Vv),Vals ys us->ys.length<=sizeLine->ys=List.replicate k.toNat x0->∃v H1,Inv X pins σ H1 { s with heap:=s.heap.push { cls:=.type "tuple",data:=.seq us.toArray } }/\RelV v (.ref s.heap.objs.size)/\Q v H1:=fun ys us r hz e=>
  ⟨.ref s.heap.objs.size,_,I.laid (t':=s.toks) (o:=.tup ys) (fun b ob q=>Heap.get?_push_of_some _ q) (Nat.le_refl _) ⟨hz,_,r,Dh.new _ _⟩,rfl,
   q _ _ (fun c o z=>by rw[ay (aV z (I.hok.fresh (Nat.le_refl _)))];exact z) (by rw[<-e];exact SqT.of ax)⟩
 refine wpAny_binaryOp_repeat_ref (T:="tuple") (U:="int") (by decide) ⟨_,ho,rfl⟩ (fun s'=>typeIs_int s' k t) hU F.fills_int_mul F.slot_int_rmul kH F.slot_int_index.lookup
  (call_meets F.slot_int_rmul (typeIs_int s k t) F.entry_int_rmul (F.args_int_rmul_2 _ _) (jm k t l _ n dd sl) ⟨ho,rfl,⟨_,ho,rfl⟩,?_⟩)
 by_cases k0:k=0
 ·subst k0
  exact call_meets F.slot_tuple_mul ⟨_,ho,rfl⟩ F.entry_tuple_mul (F.args_tuple_mul_2 _ _) (zK l w n dd sl t) ⟨ho,new [] [] .nil (Nat.zero_le _) rfl⟩
 by_cases k1:k=1
 ·subst k1
  exact call_meets F.slot_tuple_mul ⟨_,ho,rfl⟩ F.entry_tuple_mul (F.args_tuple_mul_2 _ _) (zJ l w n dd sl t) ⟨ho,⟨.ref l,H,I,rfl,q l H (fun _ _ e=>e) hH⟩⟩
 ·refine call_meets F.slot_tuple_mul ⟨_,ho,rfl⟩ F.entry_tuple_mul (F.args_tuple_mul_2 _ _) (zL l w n dd sl k t (by omega) h2) ⟨ho,?_⟩
  rw[iT]
  have hz:(2:Nat) ^ 20<=sizeLine:=by decide
  have e:∀m:Nat,Vals (List.replicate m x0) (List.replicate m w):=fun m=>by
   induction m with
   |zero=>exact .nil
   |succ m ih=>rw[List.replicate_succ,List.replicate_succ];exact .cons KP ih
  exact new _ _ (e k.toNat) (by rw[List.length_replicate];omega) rfl
end
end L2
namespace L3
open PySem L2
section
variable {X:Cx}
def j1:R3:=fun x y S Q=>match x,y with
 | .tup [v],.int k=>0<=k/\k<=2 ^ 20/\Q (.tup (List.replicate k.toNat v)) S
 |_,_=>False
def oo:gb X (binaryOp .Mult) j1:=⟨fun pins s σ H x y v u Q I rx ry ⟨px,py,S,Q3,r1,r2,rS,q,k⟩=>by
 unfold j1 at q
 split at q
 ·cases r2
  cases r1 with
  |tup hq rs=>
   cases rs with
   |cons r0 rn=>
    cases rn
    refine uN pins s σ H _ _ v u Q I rx ry ⟨_,_,_,rfl,rfl,hq,q.1,q.2.1,fun r H' hh hr=>k _ S _ H' q.2.2 (.tup hr ?_) (rS.grow hh) (.same hh)⟩
    have e:∀m:Nat,Reps X.K H (List.replicate m _) (List.replicate m _):=fun m=>by
     induction m with
     |zero=>exact .nil
     |succ m ih=>rw[List.replicate_succ,List.replicate_succ];exact .cons r0 ih
    exact(e _).mono (.same hh)
 ·exact q.elim⟩
end
end L3
namespace C
open PySem L2 L3
end C
namespace C
open PySem L2 L3 Wd
theorem a7{α:Type}{g:Tg}{te:aS}{σ':cN}{keep:ar->Prop}{fin:List PV->ar->Prop}{S:ar}(enc f:α->PV)(hk:keep S):∀(xs:List α) (ys:List PV),
  (∀x∈xs,∃σ2,g.put (enc x) σ'=some σ2/\∀Q:bH,Q (f x) S->te σ2 S Q fD)->ys.length+xs.length<=sizeLine->fin (ys++xs.map f) S->dz g bg te σ' keep fin (xs.map enc) ys S
 |[],ys,_,hl,hf=>⟨hk,by simpa using hl,by simpa using hf⟩
 |x::r,ys,h,hl,hf=>by
  obtain⟨σ2,e,h1⟩:=h x (by simp)
  refine⟨hk,by simp at hl;omega,?_⟩
  rw[e]
  show te σ2 S (fun y S4=>dz g bg te σ' keep fin (r.map enc) (ys++[y]) S4) fD
  exact h1 _ (a7 enc f hk r (ys++[f x]) (fun y hy=>h y (by simp[hy])) (by simp at hl ⊢;omega) (by simpa using hf))
def aQ{n:Nat}(h:n<=1000):n<=sizeLine:=Nat.le_trans h (by decide)
end C
namespace C
open PySem L2 L3
end C
namespace Zv
open PySem
open Sem (wp)
end Zv
namespace L2
open PySem PySem.Spec PyProof.Rows
end L2
namespace L3
open PySem L2
end L3
namespace L2
open PySem PySem.Spec PyProof.Rows
end L2
namespace L3
open PySem L2
section
variable {X:Cx} {a b:Expr} {ta tb:aS} {p pos:Pos}
def fe(ta tb:aS):qp:=fun σ S R E=>ta σ S (fun v S1=>tb σ S1 (fun w S2=>match v,w with
 | .tup xs,.tup ys=>R ⟨aX xs ys,fun _=>True⟩ S2
 | .ref a,.ref b=>(match S2 a,S2 b with|some (.lst xs),some (.lst ys)=>R ⟨aX xs ys,fun S'=>S' a=some (.lst xs)/\S' b=some (.lst ys)⟩ S2|_,_=>False)
 | .ref a,.tup ys=>(match S2 a with|some (.lst xs)=>R ⟨aX xs ys,fun S'=>S' a=some (.lst xs)⟩ S2|_=>False)
 | .tup xs,.ref b=>(match S2 b with|some (.lst ys)=>R ⟨aX xs ys,fun S'=>S' b=some (.lst ys)⟩ S2|_=>False)
 |_,_=>False) E) E
def m5{elts:List Expr}{k0:Nat}{Ee:Pos}(hs:starEach [a,b] X.env=[(false,eval a X.env),(false,eval b X.env)])(hs2:starEach [b] X.env=[(false,eval b X.env)])(hg:Gl X "zip")(hm:X.mg "zip" = none)(hv:bootBuiltins "zip" = some (.type "zip"))(ha:jc X [a,b] [ta,tb]) :
  tI X (.Tuple elts k0 Ee) (.Call (.Name "zip" p) [a,b] [] pos) (fe ta tb):=
 ⟨ji (rc hg hm hv ha.ok hs hs2) fun σ H R ⟨σ3,S,R3,E3,rσ,rS,h,xo,k⟩=>⟨σ3,S,_,E3,rσ,rS,h,xo,fun v S1 v' H1 h1 rv CT g1=>⟨σ3,S1,_,E3,rσ.mono g1,CT,h1,xo.mono g1,fun w S2 w' H2 h2 rw' Eb g2=>by
  have L:∀{a:Addr} {xs:List PV},S2 a=some (.lst xs)->∃vs,pG true X.K H2 a vs:=fun e=>let ⟨_,h,_⟩:=Eb _ _ e;⟨_,SqL.of h⟩
  dsimp only at h2
  split at h2
  ·cases rv with
   |tup hq rs=>
    cases rw' with
    |tup hq2 G4=>exact⟨false,false,_,_,rfl,⟨_,g2.t _ _ hq⟩,⟨_,hq2⟩,k _ S2 _ H2 h2 (gC (.tup (g2.t _ _ hq) (rs.mono g2)) (.tup hq2 G4)) Eb (g1.trans g2)⟩
  ·cases rv
   cases rw'
   split at h2
   ·rename_i ea eb
    exact⟨true,true,_,_,rfl,L ea,L eb,k _ S2 _ H2 h2 (gC (.lst fun _ q=>q.1) (.lst fun _ q=>q.2)) Eb (g1.trans g2)⟩
   ·exact h2.elim
  ·cases rv
   cases rw' with
   |tup hq2 G4=>
    split at h2
    ·rename_i ea
     exact⟨true,false,_,_,rfl,L ea,⟨_,hq2⟩,k _ S2 _ H2 h2 (gC (.lst fun _ q=>q) (.tup hq2 G4)) Eb (g1.trans g2)⟩
    ·exact h2.elim
  ·cases rv with
   |tup hq rs=>
    cases rw'
    split at h2
    ·rename_i eb
     exact⟨false,true,_,_,rfl,⟨_,g2.t _ _ hq⟩,L eb,k _ S2 _ H2 h2 (gC (.tup (g2.t _ _ hq) (rs.mono g2)) (.lst fun _ q=>q)) Eb (g1.trans g2)⟩
    ·exact h2.elim
  ·exact h2.elim⟩⟩⟩
end
end L3
namespace C
open PySem L2 L3
end C
namespace L3
open PySem L2 Xc
def EB.inj{K:Vo}{c:Str}{C D:Addr}(h1:EB K c C)(h2:EB K c D):C=D:=by
 have e:=(show PySem.W.nsIn K mainGlobals c=some (some (.ref C))from h1).symm.trans h2
 injection e with e;injection e with e;injection e
noncomputable def uO(s:Stmt):List Stmt:=match s with
 | .ClassDef _ _ _ body _ _ _ _ _ _ _=>body
 |_=>[]
end L3
namespace L3
open PySem L2
end L3
namespace L2
open PySem PySem.Spec PyProof.Rows Xc
end L2
namespace L3
open PySem L2 Xc
section
variable {P:Program} {w:World} {K:Vo} {mg:Vr} {base:Heap}
structure cf (K:Vo) (mg:Vr) (x:Str) (st:Stmt) (ps:Vs):Prop where
 ex:∃f fd,AT K mg x st ps f fd
structure lQ (K:Vo) (c m q:Str) (st:Stmt) (ps:Vs):Prop where
 ex:∃C f fd,EB K c C/\Cls K C/\qF K C m f/\Gj K m q st f fd/\Binds K fd ps []
structure yH (K:Vo) (mg:Vr) (c:Str) (fl:Vs):Prop where
 ex:∃C,EB K c C/\mg c=some (.ref C)/\Cls K C/\PySem.W.makesIn K C=true/\PySem.W.keepIn K (.ref C)=true/\∀f∈fl,NoAttr K C f
structure gf (P:Program) (w:World) (K:Vo) (mg:Vr) (base:Heap) (k:Nat) (x:Str) (n:Nat) (sp:aF):Prop where
 ex:∃f fd ps,ps.length=n/\yG P w K mg base k f fd ps sp/\mg x=some (.ref f)/\PySem.W.keepIn K (.ref f)=true/\Binds K fd ps []
structure tJ (P:Program) (w:World) (K:Vo) (mg:Vr) (base:Heap) (k:Nat) (c m:Str) (n:Nat) (sp:aF):Prop where
 ex:∃C f fd ps,ps.length=n/\yG P w K mg base k f fd ps sp/\EB K c C/\Cls K C/\qF K C m f/\Binds K fd ps []
def gS{x:Str}{st:Stmt}{ps:Vs}{k n:Nat}{t:bX}{sp:aF}(N:Vs)(O:cf K mg x st ps)
  (hbody:∀(f:Addr) (cdv:Value) (A:Around) (outer:List Env) (s:Shared) (H:Hp) (E:XK),Room k (A.deeper (PyProof.Rows.envOfC x (aJ st) s.heap.objs.size f cdv))->N.Nodup->iL (AR P w K mg base N x st f cdv A outer s H E) (bG st) t) (e:sp=bj N.length t)
  (hn:ps.length=n:=by rfl) (S:dY N ps (aJ st):=by exact⟨rfl,rfl,rfl,by decide +kernel,rfl,by decide +kernel,by decide +kernel⟩):gf P w K mg base (k+1) x n sp:=by
 subst e
 obtain⟨f,fd,o⟩:=O.ex
 exact⟨f,fd,ps,hn,BD o.F S fun cdv A outer s H E hr=>hbody f cdv A outer s H E hr S.nd,o.m,o.k,o.b⟩
def yI{c m q:Str}{st:Stmt}{ps:Vs}{k n:Nat}{t:bX}{sp:aF}(N:Vs)(O:lQ K c m q st ps)
  (hbody:∀(f:Addr) (cdv:Value) (A:Around) (outer:List Env) (s:Shared) (H:Hp) (E:XK),Room k (A.deeper (PyProof.Rows.envOfC q (aJ st) s.heap.objs.size f cdv))->N.Nodup->iL (AR P w K mg base N q st f cdv A outer s H E) (bG st) t) (e:sp=bj N.length t)
  (hn:ps.length=n:=by rfl) (S:dY N ps (aJ st):=by exact⟨rfl,rfl,rfl,by decide +kernel,rfl,by decide +kernel,by decide +kernel⟩):tJ P w K mg base (k+1) c m n sp:=by
 subst e
 obtain⟨C,f,fd,o1,o2,o3,o4,o5⟩:=O.ex
 exact⟨C,f,fd,ps,hn,BD o4 S fun cdv A outer s H E hr=>hbody f cdv A outer s H E hr S.nd,o1,o2,o3,o5⟩
def Ct{x:Str}{st:Stmt}{ps:Vs}{k:Nat}{t:bX}{sp:aF}{f:Addr}{fd:FuncData}(N:Vs)(o:AT K mg x st ps f fd)
  (hbody:∀(f:Addr) (cdv:Value) (A:Around) (outer:List Env) (s:Shared) (H:Hp) (E:XK),Room k (A.deeper (PyProof.Rows.envOfC x (aJ st) s.heap.objs.size f cdv))->N.Nodup->iL (AR P w K mg base N x st f cdv A outer s H E) (bG st) t) (e:sp=bj N.length t)
  (S:dY N ps (aJ st):=by exact⟨rfl,rfl,rfl,by decide +kernel,rfl,by decide +kernel,by decide +kernel⟩):yG P w K mg base (k+1) f fd ps sp:=by
 subst e
 exact BD o.F S fun cdv A outer s H E hr=>hbody f cdv A outer s H E hr S.nd
end
section
variable {X:Cx} {a b e o:Expr} {es:List Expr} {ta tb te to:aS} {ts:List aS} {x c m f:Str} {p pos apos cpos:Pos} {j k n:Nat} {sp:aF}
def c4(O:gf X.prog X.w X.K X.mg X.base k x n sp)(hr:Room j X.A)(ha:jc X (e::es) ts)(hj:k<=j:=by omega)(hl:ts.length=n:=by rfl)(hg:Gl X x:=by rfl)(he:starEach (e::es) X.env=(false,eval e X.env)::starEach es X.env:=by rfl)(hdb:(x == ("__debug__":Str))=false:=by decide)(hpl:(backTo pos (starEach es X.env)).any (·.1)=false:=by rfl) :
  bh X (.Call (.Name x p) (e::es) [] pos) (ac sp ts):=by
 obtain⟨f,fd,ps,hn,F,h1,h2,h3⟩:=O.ex
 exact xF F (hr.mono hj) hg h1 h2 h3 he ha (hl.trans hn.symm) hdb hpl
def cB{id:String}{r:mV}(hc:eW X (.builtin id) r)(hm:X.mg x=none)(ha:jc X (e::es) ts)(hg:Gl X x:=by rfl)(hv:bootBuiltins x=some (.builtin id):=by decide +kernel)(he:starEach (e::es) X.env=(false,eval e X.env)::starEach es X.env:=by rfl)
  (hnn:x ≠ "__name__":=by decide) (hdb:(x == ("__debug__":Str))=false:=by decide) (hpl:(backTo pos (starEach es X.env)).any (·.1)=false:=by rfl):bh X (.Call (.Name x p) (e::es) [] pos) (ai r ts):=uF hc hg hm hv he ha hnn hdb hpl
def cT{id:String}{r:mV}(hc:eW X (.type id) r)(hm:X.mg x=none)(ha:jc X (e::es) ts)(hg:Gl X x:=by rfl)(hv:bootBuiltins x=some (.type id):=by decide +kernel)(he:starEach (e::es) X.env=(false,eval e X.env)::starEach es X.env:=by rfl)
  (hnn:x ≠ "__name__":=by decide) (hdb:(x == ("__debug__":Str))=false:=by decide) (hpl:(backTo pos (starEach es X.env)).any (·.1)=false:=by rfl):bh X (.Call (.Name x p) (e::es) [] pos) (ai r ts):=uG hc hg hm hv he ha hnn hdb hpl
def lc{r:List Expr}(ha:bh X a ta)(hr:jc X r ts)(hs:starEach (a::r) X.env=(false,eval a X.env)::starEach r X.env:=by rfl):jc X (a::r) (ta::ts):=rq hs ha hr
def l1(ha:bh X a ta)(hs:starEach [a] X.env=(false,eval a X.env)::starEach [] X.env:=by rfl):jc X [a] [ta]:=rq hs ha rm
def dw{i:Int}{q:Nat}{p2:Pos}(hr:Room j X.A)(ha:bh X a ta)(hs:iS (.Constant (.int i) q p2):=by exact fun _ _=>rfl):bh X (.Subscript a (.Constant (.int i) q p2) pos) (ah al ta (c3 (.int i))):=zA (B8 (rR hr)) ha af hs
def eO(hr:Room j X.A)(ha:bh X a ta)(hb:bh X b tb)(hs:iS b:=by exact fun _ _=>rfl):bh X (.Subscript a b pos) (ah al ta tb):=zA (B8 (rR hr)) ha hb hs
def yJ(hr:Room j X.A)(ha:bh X a ta)(hb:bh X b tb):pL X (.Compare a [.Eq] [b] pos) (cE (ah (fQ false) ta tb)):=cF (rC (gF hr)) ha hb (ba _)
def AU(hr:Room j X.A)(ha:bh X a ta)(hb:bh X b tb):pL X (.Compare a [.NotEq] [b] pos) (cE (ah (fQ true) ta tb)):=cF (zy (gF hr)) ha hb (ba _)
def s4(i:Nat){pos':Pos}(nd:X.N.Nodup)(he:bh X e te)(hi:X.N[i]?=some x:=by rfl)(hx:vm X.env.scope x:=by first|exact Or.inl rfl|exact Or.inr rfl)(hs:swapsWith e (some (.Name x pos')) pos.line X.env=pure false:=by rfl)
  (hf:X.fn x=true\/X.env.scope.names.lookup x=some .local:=by first|exact .inl rfl|exact .inr rfl|assumption):oi X (.Assign [.Name x pos'] e pos) (ap i te):=zC nd hi hx he hs hf
def gn(i:Nat)(nd:X.N.Nodup)(hi:X.N[i]?=some x:=by rfl)(hx:vm X.env.scope x:=by first|exact Or.inl rfl|exact Or.inr rfl)(hf:X.fn x=true\/X.env.scope.names.lookup x=some .local:=by first|exact .inl rfl|exact .inr rfl|assumption):uI X (.Name x pos) (.n i):=Cs i nd hi hx hf
end
structure zO (T:String) (name:Str) (id:String):Prop where
 pa:PlainAttrs T
 slot:Slot T name id
 ty:typeOf (.builtin id)=pure (.type "method_descriptor")
section
variable {X:Cx} {e o:Expr} {es:List Expr} {to:aS} {ts:List aS} {name:Str} {T id:String} {p pos apos cpos:Pos} {r:uH}
def dO:zO "list" "append" "list.append":=⟨PySem.F.plainAttrs_list,PySem.F.slot_list_append,PySem.F.type_list_append⟩
def j2:zO "list" "extend" "list.extend":=⟨PySem.F.plainAttrs_list,PySem.F.slot_list_extend,PySem.F.type_list_extend⟩
def rZ:zO "list" "pop" "list.pop":=⟨PySem.F.plainAttrs_list,PySem.F.slot_list_pop,PySem.F.type_list_pop⟩
def vJ(k:zO T name id)(hm:xx X id r)(ho:bh X o to)(ha:jc X (e::es) ts)(hs:starEach (e::es) X.env=(false,eval e X.env)::starEach es X.env:=by rfl)
  (hbase:attributeBase o name X.env (eval o X.env)=eval o X.env:=by rfl)
  (hfew:((backTo cpos (starEach (e::es) X.env)).all (fun x=>!x.1)&&(backToKw cpos (keywordEach [] X.env)).all (fun x=>x.1.isSome)
   && decide ((e::es).length+([]:List Keyword).length+(if ([]:List Keyword).isEmpty then 0 else 1) < 30))=true:=by rfl)
  (hline:(apos.endLine == cpos.line)=true:=by rfl) (hplain:(backTo cpos (starEach es X.env)).any (·.1)=false:=by rfl):bh X (.Call (.Attribute o name apos) (e::es) [] cpos) (jg T r to ts):=Bz k.pa k.slot k.ty hm hs ho ha hbase hfew hline hplain
def BF(k:zO T name id)(hm:xx X id r)(ho:bh X o to)
  (hbase:attributeBase o name X.env (eval o X.env)=eval o X.env:=by rfl) (hline:(apos.endLine == cpos.line)=true:=by rfl):bh X (.Call (.Attribute o name apos) [] [] cpos) (jg T r to []):=zB k.pa k.slot k.ty hm ho hbase hline
end
section
variable {X:Cx} {tg iter elt:Expr} {ifs:List Expr} {scope:Scope} {pos:Pos} {ti:qp} {g:Tg} {tc:iK} {te:aS}
def k7(fs:Vs)(own:Nat)(fr:List Nat)(N:Vs)(hi:tI X tg iter ti)(hg:∀B,uI (X.DW N scope fs B) tg g)(hf:∀B,yF (X.DW N scope fs B) ifs tc)(he:∀B,bh (X.DW N scope fs B) elt te)
  (Gm:g.under own=true:=by rfl) (hc:X.calm=true:=by rfl) (hclos:closureFor scope X.env=pure (cI X.env fs):=by rfl) (hcell:∀y∈scope.names,y.2 ≠ .cell:=by decide +kernel) (hkind:scope.kind = .function:=by rfl)
  (hnames:∀x∈scope.names,x.2 = .local->scope.names.lookup x.1=some .local:=by decide +kernel) (hcl:ci X.env fs:=by repeat' first|exact trivial|exact⟨_,rfl⟩|constructor) (hhas:ky (relabel scope X.env).names (cI X.env fs)=true:=by rfl)
  (hlen:N.length=own+fr.length:=by rfl) (hN:(N.drop own).map some=fr.map (fun j=>X.N[j]?):=by rfl) (hF:Dl X.env scope (cI X.env fs) (N.drop own):=by repeat' first|exact trivial|exact .inl rfl|exact .inr rfl|exact rfl|apply And.intro)
  (hs:∀x,foldedSetIterable iter X.env x=pure x:=by intro _;rfl):bh X (.ListComp elt [⟨tg,iter,ifs,0⟩] scope pos) (aw ti g tc te own fr):=xD fs own fr N Gm hc hclos hcell hkind hnames hcl hhas hlen hN hF hi hg hf he hs
def uP(fs:Vs)(own:Nat)(fr:List Nat)(N:Vs)(i:Nat){y:Str}{py spos:Pos}(hX:X.N.Nodup)(hi:tI X tg iter ti)(hg:∀B,uI (X.DW N scope fs B) tg g)(hf:∀B,yF (X.DW N scope fs B) ifs tc)(he:∀B,bh (X.DW N scope fs B) elt te)
  (hix:X.N[i]?=some y:=by rfl) (hy:X.env.scope.names.lookup y=some .local:=by rfl) (hsw:swapsWith (.ListComp elt [⟨tg,iter,ifs,0⟩] scope pos) (some (.Name y py)) spos.line X.env=pure true:=by rfl)
  (Gm:g.under own=true:=by rfl) (hc:X.calm=true:=by rfl) (hclos:closureFor scope X.env=pure (cI X.env fs):=by rfl) (hcell:∀y∈scope.names,y.2 ≠ .cell:=by decide +kernel) (hkind:scope.kind = .function:=by rfl)
  (hnames:∀x∈scope.names,x.2 = .local->scope.names.lookup x.1=some .local:=by decide +kernel) (hcl:ci X.env fs:=by repeat' first|exact trivial|exact⟨_,rfl⟩|constructor) (hhas:ky (relabel scope X.env).names (cI X.env fs)=true:=by rfl)
  (hlen:N.length=own+fr.length:=by rfl) (hN:(N.drop own).map some=fr.map (fun j=>X.N[j]?):=by rfl) (hF:Dl X.env scope (cI X.env fs) (N.drop own):=by repeat' first|exact trivial|exact .inl rfl|exact .inr rfl|exact rfl|apply And.intro)
  (hs:∀x,foldedSetIterable iter X.env x=pure x:=by intro _;rfl):oi X (.Assign [.Name y py] (.ListComp elt [⟨tg,iter,ifs,0⟩] scope pos) spos) (ap i (aw ti g tc te own fr)):=xE fs own fr N hX hix hy hsw Gm hc hclos hcell hkind hnames hcl hhas hlen hN hF hi hg hf he hs
end
noncomputable def putF3(f:Str)(v:PV):List (Str×PV)->List (Str×PV)
 |[]=>[(f,v)]
 |(g,x)::r=>if g=f then (g,v)::r else (g,x)::putF3 f v r
theorem CP.look{K:Vo}{H:Hp}{f:Str}{p:PV}:∀{vs:List (Str×V)} {ps:List (Str×PV)},CP K H vs ps->ps.lookup f=some p->∃v,vs.lookup f=some v/\Rep K H v p
 |_,_,.nil,e=>by simp at e
 |_,_,.cons a r,e=>by
  rw[List.lookup_cons]at e ⊢
  split at e
  ·cases e;exact⟨_,rfl,a⟩
  ·exact CP.look r e
theorem CP.F3{K:Vo}{H:Hp}{f:Str}:∀{vs:List (Str×V)} {ps:List (Str×PV)},CP K H vs ps->ps.lookup f=none->vs.lookup f=none
 |_,_,.nil,_=>rfl
 |_,_,.cons a r,e=>by
  rw[List.lookup_cons]at e ⊢
  split at e
  ·cases e
  ·exact CP.F3 r e
theorem CP.putF{K:Vo}{H:Hp}{f:Str}{v:V}{p:PV}(q:Rep K H v p):∀{vs:List (Str×V)} {ps:List (Str×PV)},CP K H vs ps->CP K H (L2.putF f v vs) (putF3 f p ps)
 |_,_,.nil=>.cons q .nil
 |_,_,.cons (k:=k) a r=>by
  unfold L2.putF putF3
  split
  ·exact .cons q r
  ·exact .cons a (CP.putF q r)
def bZ(c:Str)(S:ar)(x:PV)(k:Addr->List (Str×PV)->Prop):Prop:=match x with
 | .ref a=>(match S a with|some (.ins c' fs)=>c'=c/\k a fs|_=>False)
 |_=>False
def iU{K:Vo}{H:Hp}{S:ar}{c:Str}{C:Addr}{x:PV}{v:V}{k:Addr->List (Str×PV)->Prop}(hC:EB K c C)(rS:CK K H S)(r:Rep K H v x)(h:bZ c S x k):∃a dx fs f',x = .ref a/\v = .ref a/\S a=some (.ins c fs)/\H a=some (.ins C dx f')/\CP K H f' fs/\k a fs:=by
 unfold bZ at h
 split at h
 ·rename_i a
  split at h
  ·rename_i c' fs e
   obtain⟨rfl,h⟩:=h
   obtain⟨C',dx,f',n,q,rf⟩:=(show EZ K H a (.ins c' fs)from rS a _ e)
   cases hC.inj n
   cases r
   exact⟨a,dx,fs,f',rfl,rfl,e,q,rf,h⟩
  ·exact h.elim
 ·exact h.elim
def bW(c f:Str)(te:aS):aS:=fun σ S Q E=>te σ S (fun x S1=>bZ c S1 x fun _ fs=>match fs.lookup f with|some v=>Q v S1|none=>False) E
def fh(c f:Str)(te to:aS):bX:=fun D σ S=>te σ S (fun v S1=>to σ S1 (fun x S2=>bZ c S2 x fun a fs=>fs.length < 1000/\D.nx σ (CG S2 a (.ins c (putF3 f v fs)))) D.ex) D.ex
def cH(c m:Str)(sp:aF)(to:aS)(ts:List aS):aS:=fun σ S Q E=>to σ S (fun x S1=>bZ c S1 x fun _ fs=>fs.lookup m=none/\ag ts σ S1 (fun ps S2=>sp (x::ps) S2 Q E) E) E
def r6(c:Str)(sp:aF)(ts:List aS):aS:=fun σ S Q E=>ag ts σ S (fun ps S1=>∀x,S1 x=none->sp (.ref x::ps) (CG S1 x (.ins c [])) (fun v S2=>v = .non/\Q (.ref x) S2) fD) E
section
variable {X:Cx} {e o value:Expr} {es:List Expr} {te to:aS} {ts:List aS} {x c m f:Str} {fl:Vs} {p pos pos' apos:Pos} {j k n:Nat} {sp:aF}
def k_(hC:yH X.K X.mg c fl)(he:bh X e te)(hf:f∈fl:=by decide)(hb:attributeBase e f X.env (eval e X.env)=eval e X.env:=by rfl):bh X (.Attribute e f pos) (bW c f te):=by
 obtain⟨C,hn,hm,hc,Jp,hkp,na⟩:=hC.ex
 refine⟨aR (wK he.ok hb) fun σ H Q ⟨σ3,S,Q3,E3,rσ,rS,h,xo,k⟩=>⟨σ3,S,_,E3,rσ,rS,h,xo,fun p S1 v H1 h1 rv CT g1=>?_⟩⟩
 obtain⟨a,dx,fs,f',rfl,rfl,e1,e2,rf,h2⟩:=iU hn CT rv h1
 split at h2
 ·rename_i p' hp'
  obtain⟨v',hv',Ir⟩:=rf.look hp'
  exact⟨a,C,dx,f',v',rfl,e2,hc,na _ hf,hv',k _ S1 _ H1 h2 Ir CT g1⟩
 ·exact h2.elim
def zP(hC:yH X.K X.mg c fl)(he:bh X value te)(ho:bh X o to)(hf:f∈fl:=by decide)(hs:swapsWith value (some (.Attribute o f pos')) pos.line X.env=pure false:=by rfl):oi X (.Assign [.Attribute o f pos'] value pos) (fh c f te to):=by
 obtain⟨C,hn,hm,hc,Jp,hkp,na⟩:=hC.ex
 refine⟨dE (wL ho.ok he.ok hs) fun D σ H ⟨σ3,S,D3,rσ,rS,h,xo,nx,r,bk,ct⟩=>⟨σ3,S,_,D3.ex,rσ,rS,h,xo,fun v S1 v' H1 h1 rv CT g1=>⟨σ3,S1,_,D3.ex,rσ.mono g1,CT,h1,xo.mono g1,fun x S2 x' H2 h2 rx Eb g2=>?_⟩⟩⟩
 obtain⟨a,dx,fs,f',rfl,rfl,e1,e2,rf,h3,h4⟩:=iU hn Eb rx h2
 have gm:Grow X.K H2 (upd H2 a (.ins C dx (putF f v' f'))):=.mut e2 trivial
 refine⟨a,C,dx,f',rfl,e2,hc,na _ hf,by rw[rf.length];exact h3,nx _ _ _ _ h4 (rσ.mono (g1.trans (g2.trans gm))) (Eb.put e2 trivial ⟨C,dx,_,hn,ax,((rf.mono gm).putF ((rv.mono g2).mono gm))⟩) (g1.trans (g2.trans gm))⟩
def yK{pl:Sem Bool}(O:tJ X.prog X.w X.K X.mg X.base k c m n sp)(hr:Room j X.A)(ho:bh X o to)(ha:jc X (e::es) ts)(hj:k<=j:=by omega)(hl:ts.length+1=n:=by rfl)
  (hst:starEach (e::es) X.env=(false,eval e X.env)::starEach es X.env:=by rfl) (hpl:(backTo pos (starEach es X.env)).any (·.1)=false:=by rfl)
  (ht:eval (.Call (.Attribute o m apos) (e::es) [] pos) X.env=(do
   let ov <-eval o X.env
   standAt apos.atName
   let (f,first) <-holding [ov] (getMethod ov m pl)
   callWith pos f first (backTo pos (starEach (e::es) X.env)) (backToKw pos (keywordEach [] X.env))):=by rfl):bh X (.Call (.Attribute o m apos) (e::es) [] pos) (cH c m sp to ts):=by
 obtain⟨C,f,fd,ps,hn,F,h1,h2,h3,h4⟩:=O.ex
 refine⟨aR (ua ho.ok h2 h3 F.ok (hr.mono hj) h4 .nil oh ha.ok hst hpl ht) fun σ H Q ⟨σ3,S,Q3,E3,rσ,rS,h,xo,k⟩=>⟨σ3,S,_,E3,rσ,rS,h,xo,fun p S1 v H1 q1 rv CT g1=>?_⟩⟩
 obtain⟨a,dx,fs,f',rfl,rfl,e1,e2,rf,q2,q3⟩:=iU h1 CT rv q1
 refine⟨a,dx,f',rfl,e2,rf.F3 q2,b_ (rσ.mono g1) CT q3 (xo.mono g1) fun ps' S' vs H' hl' q Ir DQ g=>?_⟩
 rw[List.append_nil]
 exact⟨by rw[List.length_cons,Ir.length,hl',hl,hn],.ref a::ps',S',Q3,E3,.cons (.ref a) Ir,DQ,q,k.mono (g1.trans g)⟩
def Cu(hC:yH X.K X.mg c fl)(O:tJ X.prog X.w X.K X.mg X.base k c "__init__" n sp)(hr:Room j X.A)(ha:jc X (e::es) ts)(hj:k+1<=j:=by omega)(hl:ts.length+1=n:=by rfl)(hg:Gl X c:=by rfl)(he:starEach (e::es) X.env=(false,eval e X.env)::starEach es X.env:=by rfl)(hdb:(c == ("__debug__":Str))=false:=by decide)(hpl:(backTo pos (starEach es X.env)).any (·.1)=false:=by rfl) :
  bh X (.Call (.Name c p) (e::es) [] pos) (r6 c sp ts):=by
 obtain⟨C,hn,hm,hc,Jp,hkp,na⟩:=hC.ex
 obtain⟨C',f,fd,ps,hps,F,h1,h2,h3,h4⟩:=O.ex
 cases hn.inj h1
 refine⟨aR (ub ⟨Jp,h3.at_,h3.fn,hkp⟩ F.ok (hr.mono hj) hg hm h4 .nil oh ha.ok hdb he hpl) fun σ H Q ⟨σ3,S,Q3,E3,rσ,rS,h,xo,k⟩=>b_ rσ rS h xo fun ps' S' vs H' hl' q rv DQ g x dx hx hdx hne=>?_⟩
 rw[List.append_nil]
 have g1:Grow X.K H' (upd H' dx (.own x)):=.new hdx
 have J3:upd H' dx (.own x) x=none:=by rw[ay (Ne.symm hne)];exact hx
 have g2:Grow X.K (upd H' dx (.own x)) (upd (upd H' dx (.own x)) x (.ins C dx [])):=.new J3
 refine⟨by rw[List.length_cons,rv.length,hl',hl,hps],.ref x::ps',CG S' x (.ins c []),_,_,.cons (.ref x) (rv.mono (g1.trans g2)),(DQ.other hdx).new J3 ⟨C,dx,[],hn,ax,.nil⟩,q x (DQ.free hx),fun p S2 v H2 hq Jm Eb gg=>?_⟩
 obtain⟨rfl,q2⟩:=hq
 cases Jm
 exact⟨rfl,k _ S2 _ H2 q2 (.ref x) Eb (g.trans ((g1.trans g2).trans gg))⟩
end
end L3
namespace L2
open PySem PySem.Spec PyProof.Rows
end L2
namespace L3
open PySem L2
end L3
namespace CY
open PySem L2 L3
end CY
namespace L3
open PySem L2
section
variable {X:Cx} {o:Expr} {to:aS} {c m:Str} {pos apos:Pos} {j k n:Nat} {sp:aF}
def zQ{pl:Sem Bool}(O:tJ X.prog X.w X.K X.mg X.base k c m n sp)(hr:Room j X.A)(ho:bh X o to)(hj:k<=j:=by omega)(hl:1=n:=by rfl)
  (ht:eval (.Call (.Attribute o m apos) [] [] pos) X.env=(do
   let ov <-eval o X.env
   standAt apos.atName
   let (f,first) <-holding [ov] (getMethod ov m pl)
   callWith pos f first (backTo pos (starEach [] X.env)) (backToKw pos (keywordEach [] X.env))):=by rfl):bh X (.Call (.Attribute o m apos) [] [] pos) (cH c m sp to []):=by
 obtain⟨C,f,fd,ps,hn,F,h1,h2,h3,h4⟩:=O.ex
 refine⟨aR (qI ho.ok h2 h3 F.ok (hr.mono hj) h4 .nil oh ht) fun σ H Q ⟨σ3,S,Q3,E3,rσ,rS,h,xo,k⟩=>⟨σ3,S,_,E3,rσ,rS,h,xo,fun p S1 v H1 q1 rv CT g1=>?_⟩⟩
 obtain⟨a,dx,fs,f',rfl,rfl,e1,e2,rf,q2,q3⟩:=iU h1 CT rv q1
 refine⟨a,dx,f',rfl,e2,rf.F3 q2,?_⟩
 have q3:sp [.ref a] S1 Q3 E3:=q3
 exact⟨by rw[<-hl]at hn;rw[hn];rfl,[.ref a],S1,Q3,E3,.cons (.ref a) .nil,CT,q3,k.mono g1⟩
end
end L3
namespace L2
open PySem PySem.Spec PyProof.Rows
end L2
namespace L3
open PySem L2
end L3
namespace L2
open PySem PySem.Spec PyProof.Rows
section
variable {prog:Program} {w:World} {A:Around} {E:Vq} {s:Shared}
def r9{a b:Addr}{i j k l:Int}{t1 t2 t3 t4:Tok}{P:Fin->Shared->Prop}(hx:s.heap.IsTuple a #[.int i t1,.int j t2])(hy:s.heap.IsTuple b #[.int k t3,.int l t4])(h:P (.done (.ret (.bool (decide (i < k\/(i=k/\j < l)))))) s) :
  wpAny (model prog w) A (Builtin.«tuple.__lt__» ⟨[.ref a,.ref b],[]⟩) P E s:=by
 obtain⟨oa,hoa,hca,na,hda⟩:=hx
 obtain⟨ob,hob,hcb,nb,hdb⟩:=hy
 have hTb:s.TypeIs (.ref b) "tuple":=⟨_,hob,hcb⟩
 show wpAny _ _ (isInstance (.ref b) (.type "tuple") >>= _) _ _ s
 refine wpAny_bind (wpAny_isInstance hTb isSubtype_tuple_tuple ?_)
 simp only[Bool.not_true,Bool.false_eq_true,if_false]
 refine wpAny_bind (wpAny_tupleItemsOf hoa hda (wpAny_bind (wpAny_tupleItemsOf hob hdb (wpAny_bind ?_))))
 refine wpAny_forIn_list _
  (fun rest r s'=>r.1=none/\s'=s/\(rest=[(.int i t1,.int k t3),(.int j t2,.int l t4)]\/(rest=[(.int j t2,.int l t4)]/\i=k)\/(rest=[]/\i=k/\j=l)))
  _ ?_ ?_ _ _ ⟨rfl,rfl,.inl rfl⟩
 ·rintro⟨u,v⟩ rest r s' ⟨hr,rfl,hz⟩
  rcases hz with hz|⟨hz,rfl⟩|⟨hz,_⟩
  ·cases hz
   refine wpAny_bind (wpAny_eqBool_int ?_)
   by_cases e:i=k
   ·subst e
    simp only[beq_self_eq_true,Bool.not_true,Bool.false_eq_true,if_false]
    exact wpAny_pure ⟨rfl,rfl,by simp⟩
   ·rw[show(i == k)=false by simpa using e]
    simp only[Bool.not_false,if_true]
    have e2:decide (i < k\/(i=k/\j < l))=decide (i < k):=by simp[e]
    rw[e2]at h
    refine wpAny_bind (wpAny_rule (wpAny_bind (wpAny_lt_int (show _ from ?_))))
    exact wpAny_bind (wpAny_pure (wpAny_pure (wpAny_pure h)))
  ·cases hz
   refine wpAny_bind (wpAny_eqBool_int ?_)
   by_cases e:j=l
   ·subst e
    simp only[beq_self_eq_true,Bool.not_true,Bool.false_eq_true,if_false]
    exact wpAny_pure ⟨rfl,rfl,by simp⟩
   ·rw[show(j == l)=false by simpa using e]
    simp only[Bool.not_false,if_true]
    have e2:decide (i < i\/(i=i/\j < l))=decide (j < l):=by simp
    rw[e2]at h
    refine wpAny_bind (wpAny_rule (wpAny_bind (wpAny_lt_int (show _ from ?_))))
    exact wpAny_bind (wpAny_pure (wpAny_pure (wpAny_pure h)))
  ·cases hz
 ·rintro⟨r1,r2⟩ s' ⟨hr,rfl,hz⟩
  simp only at hr
  subst hr
  rcases hz with hz|⟨hz,_⟩|⟨_,rfl,rfl⟩
  ·cases hz
  ·cases hz
  refine wpAny_pure ?_
  have e2:decide (i < i\/(i=i/\j < j))=false:=by simp
  rw[e2]at h
  exact h
def uQ{a b:Addr}{i j k l:Int}{t1 t2 t3 t4:Tok}{Q:Vq}(hu:A.units < cLine)(hx:s.heap.IsTuple a #[.int i t1,.int j t2])(hy:s.heap.IsTuple b #[.int k t3,.int l t4])(h:Q (.bool (decide (i < k\/(i=k/\j < l)))) s) :
  wpAny (model prog w) A (compareOp .Lt (.ref a) (.ref b)) Q E s:=by
 have hTa:s.TypeIs (.ref a) "tuple":=by obtain⟨o,ho,hc,_⟩:=id hx;exact⟨_,ho,hc⟩
 have hTb:s.TypeIs (.ref b) "tuple":=by obtain⟨o,ho,hc,_⟩:=id hy;exact⟨_,ho,hc⟩
 show wpAny _ _ (richCompare .Lt (.ref a) (.ref b)) Q E s
 exact wpAny_richCompare_same_room (op:=.Lt) hTa hTb F.slot_tuple_lt (wpAny_call_entry F.slot_tuple_lt hTa F.entry_tuple_lt (r9 hx hy ⟨_,rfl,(fun e=>nomatch e),h⟩) (F.args_tuple_lt_2 _ _)) hu
end
section
variable {X:Cx}
def xY(hu:X.A.units < cLine):fz X (compareOp .Lt) (fun x y H Q=>∃(p r:Addr) (i j k l:Int),x = .ref p/\y = .ref r/\SqT X.K H p [.int i,.int j]/\SqT X.K H r [.int k,.int l]/\Q (.bl (decide (i < k\/(i=k/\j < l)))) H):=by
 intro pins s σ H x y v u Q I r1 r2 h
 obtain⟨p,r,i,j,k,l,rfl,rfl,h1,h2,q⟩:=h
 cases r1;cases r2
 have pair:∀{p:Addr} {i j:Int},SqT X.K H p [.int i,.int j]->∃t1 t2,s.heap.IsTuple p #[.int i t1,.int j t2]:=fun{p i j} hp=>by
  obtain⟨its,rv,pl,hz⟩:=I.tuple hp
  cases rv with
  |cons a1 r1=>
   cases r1 with
   |cons a2 r2=>
    cases r2
    obtain⟨t1,rfl⟩:=a1
    obtain⟨t2,rfl⟩:=a2
    obtain⟨o,ho,hc,n,hd⟩:=id pl
    exact⟨t1,t2,o,ho,hc,n,hd⟩
 obtain⟨_,_,e1⟩:=pair h1
 obtain⟨_,_,e2⟩:=pair h2
 exact uQ hu e1 e2 ⟨.bl _,H,I,rfl,q⟩
end
end L2
namespace L3
open PySem L2
section
variable {X:Cx}
def uR:R3:=fun x y S Q=>match x,y with
 | .tup [.int i,.int j],.tup [.int k,.int l]=>Q (.bl (decide (i < k\/(i=k/\j < l)))) S
 |_,_=>False
def zR(hu:X.A.units+150 < cLine):gb X (compareOp .Lt) uR:=⟨fun pins s σ H x y v u Q I rx ry ⟨px,py,S,Q3,r1,r2,rS,q,k⟩=>by
 unfold uR at q
 split at q
 ·cases r1 with
  |tup h1 KQ=>
   cases r2 with
   |tup h2 G4=>
    have two:∀{vs:List V} {i j:Int},Reps X.K H vs [.int i,.int j]->vs=[.int i,.int j]:=fun r=>by
     cases r with
     |cons a b=>cases a;cases b with|cons c d=>cases c;cases d;rfl
    rw[two KQ]at h1
    rw[two G4]at h2
    exact xY (by omega) pins s σ H _ _ v u Q I rx ry ⟨_,_,_,_,_,_,rfl,rfl,h1,h2,k _ S _ H q (.bl _) rS .refl⟩
 ·exact q.elim⟩
end
end L3
namespace L2
open PySem PySem.Spec PyProof.Rows
end L2
namespace L3
open PySem L2
end L3
namespace Md
open PySem PySem.Spec PyProof.Rows
noncomputable def zS(P:Nat->Value->Prop)(bt:Nat->Nat->Bool):Nat->Array Value->Prop
 |0,l=>l=#[]
 |j+1,l=>∃v,l=#[v,v]/\P (argBest bt j) v
def m6{prog:Program}{w:World}{A:Around}{E:Vq}{s:Shared}{id:String}{b:Builtin}{us:Vv}{kw:List (Str×Value)}{Q:Vq}(hk:builtinKind id=none)(hp:plainId id=true)(hb:entryFor table id=some b)(ha:argsOk id ⟨us,kw⟩)
  (hc:wpAny (model prog w) A.in1 (b ⟨us,kw⟩) (fun fin s'=>match fin with
   | .done f=>(match (Except.ok f:Result)with | .ok (.ret v)=>Q v s' | .ok _=>False | .error e=>E e s')
   | .again c'=>c'.quiet=true/\codeAny (model prog w) A c' (fun r s'=>match r with | .ok (.ret v)=>Q v s' | .ok _=>False | .error e=>E e s') s') E s):wpAny (model prog w) A (call (.builtin id) us kw) Q E s:=by
 refine wpAny_call (codeAny_call_builtin hp hb ?_)
 simp only[checkBuiltinCall,hk]
 cases hs:Manifest.signature? id with
 |none=>exact wpAny_pure hc
 |some sig=>
  have h2:Bind.checkArgs id sig ⟨us,kw⟩=pure ():=by simpa only [argsOk,hs]using ha
  simp only[h2]
  exact wpAny_pure hc
def kh(P:Nat->Value->Prop)(bt:Nat->Nat->Bool)(n:Nat)(d v:Value):Prop:=(n=0/\v=d)\/(0 < n/\P (argBest bt (n - 1)) v)
section
variable {prog:Program} {w:World} {A:Around} {R:Result->Shared->Prop} {I:Addr} {fp wr:List Addr} {n:Nat} {P:Nat->Value->Prop} {St:Nat->Heap->Prop}
def pX(a d:Value):argsOk "min" ⟨[a],[("default",d)]⟩:=by unfold argsOk;kernel_rfl
def r_(W:Walks prog w A.in1 I fp wr n P St)(bt:Nat->Nat->Bool)(hcmp:CmpOf prog w A.in1 .Lt P bt)(S:Addr)(hSf:S ∉ fp)(d:Value):∀(k j:Nat) (s:Shared) (its:Vw) (c:Nat),
  n - j=k->j<=n->St j s.heap->zS P bt j its->s.heap.get? S=some { cls:=.type "list",dict:=none,data:=.seq its c,slots:=#[] }->
  (∀v h' tk,kh P bt n d v->(∀b o,b ∉ wr->b≠S->s.heap.get? b=some o->h'.get? b=some o)->R (.ok (.ret v)) { s with heap:=h',toks:=tk })->
  codeAny (model prog w) A (.builtin "min.loop" ⟨[.ref I,.none,.ref S],[("default",d)]⟩) R s:=by
 have nw:S ∉ wr:=fun h=>hSf (W.sub _ h)
 have nm:(toString "min" ++ toString ".loop":String) = "min.loop":=by decide
 intro k
 induction k with
 |zero=>
  intro j s its c hk hj hst hb hS hR
  obtain rfl:j=n:=by omega
  refine codeAny_builtin F.entry_min_loop ?_
  rw[Around.under_plainId F.plain_min_loop _]
  show wpAny _ A.in1 (seqItems? (.ref S) >>= _) _ _ s
  refine wpAny_bind (wpAny_seqItems hS rfl (show wpAny _ A.in1 (tryCatch (pyNext (.ref I)) _ >>= _) _ _ s from ?_))
  refine wpAny_bind (wpAny_tryCatch (W.done s _ _ hst fun h1 tk kk=>?_))
  cases j with
  |zero=>
   have e:its=#[]:=hb
   subst e
   show wpAny _ A.in1 (rule _ >>= _) _ _ _
   refine wpAny_bind (wpAny_rule (wpAny_pure (hR d h1 tk (.inl ⟨rfl,rfl⟩) fun b o hw _ e=>kk b o hw e)))
  |succ i=>
   obtain⟨v,rfl,hv⟩:=hb
   show wpAny _ A.in1 (updateSeq S (fun _=>#[]) >>= _) _ _ _
   refine wpAny_bind (wpAny_updateSeq (kk S _ nw hS) rfl (wpAny_bind (wpAny_letGo (wpAny_pure ?_))))
   exact hR v _ tk (.inr ⟨Nat.succ_pos _,hv⟩) fun b o hw EQ e=>(Heap.get?_update_other _ _ (Ne.symm EQ)).trans (kk b o hw e)
 |succ k ih=>
  intro j s its c hk hj hst hb hS hR
  have hlt:j < n:=by omega
  refine codeAny_builtin F.entry_min_loop ?_
  rw[Around.under_plainId F.plain_min_loop _]
  show wpAny _ A.in1 (seqItems? (.ref S) >>= _) _ _ s
  refine wpAny_bind (wpAny_seqItems hS rfl (show wpAny _ A.in1 (tryCatch (pyNext (.ref I)) _ >>= _) _ _ s from ?_))
  refine wpAny_bind (wpAny_tryCatch (W.item j s _ _ hlt hst fun v h1 tk hP HK kk=>?_))
  have hS1:=kk S _ nw hS
  -- the new one is kept
  have new:∀h2:Heap,h2=h1.update S (Obj.mapSeq fun _=>#[v,v])->zS P bt (j+1) #[v,v]->codeAny (model prog w) A (.builtin "min.loop" ⟨[.ref I,.none,.ref S],[("default",d)]⟩) R { s with heap:=h2,toks:=tk }:=fun h2 e2 hb2=>by
   refine ih (j+1) _ #[v,v] _ (by omega) hlt (W.frame _ h1 _ HK fun b KR o e=>?_) hb2 (by rw[e2];exact Heap.get?_update_self (Obj.mapSeq fun _=>#[v,v]) hS1 rfl) fun v' h3 Jq hE k3=>?_
   ·rw[e2];exact(Heap.get?_update_other _ _ (fun h:S=b=>hSf (by rw[h];exact KR))).trans e
   ·exact hR v' h3 Jq hE fun b o hw EQ e=>k3 b o hw EQ (by rw[e2];exact(Heap.get?_update_other _ _ (Ne.symm EQ)).trans (kk b o hw e))
  cases j with
  |zero=>
   have e:its=#[]:=hb
   subst e
   show wpAny _ A.in1 (updateSeq S (fun _=>#[v,v]) >>= _) _ _ _
   refine wpAny_bind (wpAny_updateSeq hS1 rfl ?_)
   rw[nm]
   exact wpAny_pure ⟨plainId_quiet F.plain_min_loop _,new _ rfl ⟨v,rfl,hP⟩⟩
  |succ i=>
   obtain⟨u,rfl,hu⟩:=hb
   show wpAny _ A.in1 (tryCatch (holding [v,v] (richCompare .Lt v u >>= _)) _ >>= _) _ _ _
   refine wpAny_bind (wpAny_tryCatch (wpAny_holding (wpAny_bind (hcmp (i+1) (argBest bt i) v u _ _ _ hP hu ?_))))
   refine wpAny_bind (wpAny_holding (wpAny_truthy_bool (wpAny_bind (wpAny_letGo (wpAny_pure ?_)))))
   cases hy:bt (i+1) (argBest bt i)with
   |true=>
    simp only[if_true]
    refine wpAny_bind (wpAny_updateSeq hS1 rfl (wpAny_bind (wpAny_letGo ?_)))
    rw[nm]
    exact wpAny_pure ⟨plainId_quiet F.plain_min_loop _,new _ rfl ⟨v,rfl,by simp only[argBest,hy,if_true];exact hP⟩⟩
   |false=>
    simp only[Bool.false_eq_true,if_false]
    refine wpAny_bind (wpAny_letGo ?_)
    rw[nm]
    refine wpAny_pure ⟨plainId_quiet F.plain_min_loop _,ih (i+2) _ _ c (by omega) hlt HK ⟨u,rfl,by simp only[argBest,hy,Bool.false_eq_true,if_false];exact hu⟩ hS1 fun v' h3 Jq hE k3=>?_⟩
    exact hR v' h3 Jq hE fun b o hw EQ e=>k3 b o hw EQ (kk b o hw e)
end
section
variable {prog:Program} {w:World} {A:Around} {E:Vq} {s:Shared}
def pY{x d:Value}{Q:Vq}
  (h:wpAny (model prog w) A.in1 (pyIter x) (fun it s1=>∃I fp wr n P St bt,it = .ref I/\Walks prog w A.in1 I fp wr n P St/\St 0 s1.heap/\(∀b∈fp,b < s1.heap.objs.size)/\CmpOf prog w A.in1 .Lt P bt/\
   ∀v h' tk,kh P bt n d v->(∀b o,b ∉ wr->s1.heap.get? b=some o->h'.get? b=some o)->Q v { s1 with heap:=h',toks:=tk }) E s) :
  wpAny (model prog w) A (call (.builtin "min") [x] [("default",d)]) Q E s:=by
 have nm:(toString "min" ++ toString ".loop":String) = "min.loop":=by decide
 refine m6 F.kind_min F.plain_min F.entry_min (pX _ _) ?_
 show wpAny _ A.in1 (Builtin.Builtins.bindParams "min" ["key","default"] 0 ⟨[],[("default",d)]⟩ >>= _) _ _ s
 refine wpAny_bind (wpAny_of_eq (show Builtin.Builtins.bindParams "min" ["key","default"] 0 ⟨[],[("default",d)]⟩=pure [none,some d] from rfl) (wpAny_bind (wpAny_pure ?_)))
 refine wpAny_bind (wpAny_mono h (fun it s1 h1=>?_) fun _ _ e=>e)
 obtain⟨I,fp,wr,n,P,St,bt,rfl,W,hst,hfp,hcmp,hQ⟩:=h1
 refine wpAny_bind (wpAny_newObj_type ?_)
 have nf:s1.heap.objs.size ∉ fp:=fun hm=>Nat.lt_irrefl _ (hfp _ hm)
 rw[nm]
 refine wpAny_pure ⟨plainId_quiet F.plain_min_loop _,r_ W bt hcmp s1.heap.objs.size nf d _ 0 _ #[] 0 rfl (Nat.zero_le _) (W.frame _ _ _ hst fun b _ o e=>Heap.get?_push_of_some _ e) rfl (Heap.get?_push_size _ rfl) fun v h' tk hE kk=>?_⟩
 exact hQ v h' tk hE fun b o hw e=>kk b o hw (Nat.ne_of_lt (Heap.lt_size e)) (Heap.get?_push_of_some _ e)
end
end Md
namespace L2
open PySem PySem.Spec PyProof.Rows
def xZ(ns:Vu)(d M:Int):Prop:=(ns=[]/\M=d)\/(M∈ns/\∀a∈ns,M<=a)
section
variable {X:Cx}
def pZ{id:String}{x:Str}{r:R2}{e ed:Expr}{ta td:TE}{p pos kp:Pos}(hc:fz X (fun v u=>call (.builtin id) [v] [("default",u)]) r)(hg:Gl X x)(hm:X.mg x=none)(hv:bootBuiltins x=some (.builtin id))(ha:PE X e ta)(hd:PE X ed td)
  (hs:starEach [e] X.env=[(false,eval e X.env)]) (hn:x ≠ "__name__":=by decide) (hdb:(x == ("__debug__":Str))=false:=by decide):PE X (.Call (.Name x p) [e] [⟨some "default",ed,kp⟩] pos) (yA r ta td):=by
 intro pins s σ H Q I h
 refine wpAny_Call_Name_kw (eP I hg hm hv ?_ hn hdb)
 refine PyProof.Rows.callWith_kw ?_ (by rw[hs];rfl) (by rw[hs];rfl) rfl rfl
 rw[hs]
 refine Calls.spliced_cons (bz (ha pins s σ H _ I h) fun v s1 ⟨x1,H1,I1,r1,q1⟩=>Calls.spliced_nil ?_)
 refine bz ((uc (nm:=some "default") (kpos:=kp) hd wP) pos pins s1 σ H1 (fun zs H2=>match zs with|[y]=>r x1 y H2 Q|_=>False) I1 q1) fun ws s2 ⟨zs,H2,I2,rz,q2⟩=>?_
 cases rz with
 |nil=>exact q2.elim
 |cons a b=>
  cases b with
  |cons _ _=>exact q2.elim
  |nil=>exact hc pins s2 σ H2 _ _ _ _ Q I2 r1 a q2
def uS(hc:X.calm=true):fz X (fun v u=>call (.builtin "min") [v] [("default",u)]) (fun x y H Q=>∃(p:Addr) (ns:Vu) (d:Int),x = .ref p/\y = .int d/\SqT X.K H p (ns.map V.int)/\∀M,xZ ns d M->Q (.int M) H):=by
 intro pins s σ H x y v u Q I r1 r2 h
 obtain⟨p,ns,d,rfl,rfl,hp,q⟩:=h
 cases r1
 obtain⟨t,rfl⟩:=r2
 obtain⟨its,rv,pl,hz⟩:=I.tuple hp
 have hi:IntsAre its ns:=mJ rv
 obtain⟨xs,e⟩:=hi.allInts.items
 have hns:ns=xs.toList.map (·.1):=by rw[<-hi.numsOf,<-nums_intItems,<-e]
 have hl:s.heap.IsTuple p its.toArray:=by
  obtain⟨o,ho,hc,n,hd⟩:=id pl
  exact⟨o,ho,hc,n,hd⟩
 rw[e]at hl
 have hlt:p < s.heap.objs.size:=by obtain⟨_,e,_⟩:=hl;exact Heap.lt_size e
 refine Md.pY (wpAny_pyIter_tuple hl ?_)
 refine⟨_,_,_,_,_,_,_,rfl,Walks.tuple (A:=X.A.in1) (I.ok.hd hc) _ p (Nat.ne_of_lt hlt) (intItems xs),⟨⟨_,Heap.get?_push_size _ rfl,rfl,rfl⟩,hl.push _⟩,(fun b hb=>?_),CmpOf.ints_lt (numAt xs) (fun _ _=>intItems_at),fun v h' tk hE hk=>?_⟩
 ·show b < (s.heap.push _).objs.size
  rw[Heap.size_push]
  simp only[List.mem_cons,List.not_mem_nil,or_false]at hb
  rcases hb with rfl|rfl
  ·exact Nat.lt_succ_self _
  ·exact Nat.lt_succ_of_lt hlt
 have hsz:(intItems xs).size=xs.size:=by simp[intItems]
 rw[hsz]at hE
 have hlen:ns.length=xs.size:=by rw[hns,List.length_map,Array.length_toList]
 have hk':∀b o,s.heap.get? b=some o->h'.get? b=some o:=fun b o e=>hk b o (fun hm=>by
  rcases List.mem_cons.mp hm with e1|hm
  ·exact absurd (e1▸Heap.lt_size e) (Nat.lt_irrefl _)
  ·cases hm) (Heap.get?_push_of_some _ e)
 rcases hE with⟨h0,rfl⟩|⟨h0,hv⟩
 ·exact⟨.int d,H,(I.kept (t':=tk) (h':=h') hk'),⟨_,rfl⟩,q _ (.inl ⟨List.eq_nil_of_length_eq_zero (by omega),rfl⟩)⟩
 ·obtain⟨t,rfl⟩:=intItems_at hv
  obtain⟨h1,h2⟩:=argBest_lt (numAt xs) (xs.size - 1)
  refine⟨.int _,H,(I.kept (t':=tk) (h':=h') hk'),⟨_,rfl⟩,q _ (.inr ⟨?_,fun a ha=>?_⟩)⟩
  ·rw[hns,numAt_eq];exact getD_mem (by rw[List.length_map,Array.length_toList];omega)
  ·rw[hns]at ha
   obtain⟨j,hj,rfl⟩:=mem_getD ha
   rw[List.length_map,Array.length_toList]at hj
   rw[<-numAt_eq];exact h2 j (by omega)
end
end L2
namespace L3
open PySem L2
section
variable {X:Cx} {e ed:Expr} {te td:aS} {x:Str} {p pos kp:Pos}
def oq:R3:=fun x y S Q=>match x,y with
 | .tup xs,.int d=>(match fS xs with|some ns=>∀M,xZ ns d M->Q (.int M) S|none=>False)
 |_,_=>False
def x_(hc:X.calm=true):gb X (fun v u=>call (.builtin "min") [v] [("default",u)]) oq:=⟨fun pins s σ H x y v u Q I rx ry ⟨px,py,S,Q3,r1,r2,rS,q,k⟩=>by
 unfold oq at q
 split at q
 ·split at q
  ·rename_i eb
   cases r1 with
   |tup h rs=>
    cases r2
    have e2:=jY rs eb
    subst e2
    exact uS hc pins s σ H _ _ v u Q I rx ry ⟨_,_,_,rfl,rfl,h,fun M hM=>k _ S _ H (q M hM) (.int _) rS .refl⟩
  ·exact q.elim
 ·exact q.elim⟩
def Cv{id:String}{r:R3}(hc:gb X (fun v u=>call (.builtin id) [v] [("default",u)]) r)(hm:X.mg x=none)(ha:bh X e te)(hd:bh X ed td)(hg:Gl X x:=by rfl)(hv:bootBuiltins x=some (.builtin id):=by decide +kernel)(hs:starEach [e] X.env=[(false,eval e X.env)]:=by rfl)
  (hnn:x ≠ "__name__":=by decide) (hdb:(x == ("__debug__":Str))=false:=by decide):bh X (.Call (.Name x p) [e] [⟨some "default",ed,kp⟩] pos) (ah r te td):=
 ⟨aR (pZ hc.ok hg hm hv ha.ok hd.ok hs hnn hdb) fun _ _ _=>gr⟩
end
end L3
namespace CW
open PySem L2 L3
def m7:bX:=(aE (ah k6 (ah aL (ah al (v3 0) (c3 (.int 0))) (ah al (v3 1) (c3 (.int 1)))) (ah aL (ah al (v3 1) (c3 (.int 0))) (ah al (v3 0) (c3 (.int 1))))))
def hW(G7:aF):bX:=(aj (ap 1 (ah al (v3 0) (c3 (.int 0))))
  (aj (bM (aO (v3 0)) (.n 2) (gc (cE (ac G7 [(v3 1),(v3 2)])) (ap 1 (v3 2)) d5))
  (aE (v3 1))))
def fW(Fw:aF):bX:=(aj (ap 1 (aM [(c3 (.int 0)),(c3 (.int 1))]))
  (aj (bM (aO (v3 0)) (.n 2) (ap 1 (ac Fw [(v3 1),(v3 2)])))
  (aE (v3 1))))
def fX(Fx Go:aF):bX:=(aE (ac Fx [(aw (pS (v3 0) (v3 1)) (.tp (.cons (.n 0) (.cons (.n 1) .nil))) bg (ac Go [(aM [(v3 0),(c3 (.int 1))]),(v3 1)]) 2 [])]))
def cX(EF:aF):bX:=(aj (ap 1 (c3 (.int 1)))
  (aj (bM (aO (v3 0)) (.n 2) (ap 1 (ah dA (ah aL (v3 1) (ah al (v3 2) (c3 (.int 1)))) (ac EF [(v3 1),(ah al (v3 2) (c3 (.int 1)))]))))
  (aE (v3 1))))
def dF:bX:=(aE (ah aP (ah aP (aw (aO (v3 0)) (.n 0) bg (lB (cE (ah (fQ false) (ah al (v3 0) (c3 (.int 0))) (v3 1))) (c3 (.int 1)) (c3 (.int 0))) 1 [3]) (ah aL (cC [(c3 (.int 0))]) (v3 1))) (cC [(ah al (v3 2) (v3 3))])))
def d_:bX:=(aj (ap 3 (aw (bm (v3 1)) (.n 0) bg (lB (cE (ah (fQ false) (v3 0) (v3 1))) (c3 (.int 1)) (c3 (.int 0))) 1 [2]))
  (aE (ah aP (ah aP (aw (aO (v3 0)) (.n 0) bg (iC cP (ah al (ah al (v3 0) (c3 (.int 2))) (v3 1))) 1 [2]) (v3 3)) (cC [(c3 (.int 0))]))))
def h_:bX:=(aE (aw (fe (v3 0) (v3 1)) (.tp (.cons (.n 0) (.cons (.n 1) .nil))) bg (ah dA (ah bn (ah aL (v3 0) (ah al (v3 3) (v3 4))) (ah aL (ah al (v3 5) (v3 4)) (v3 1))) (v3 2)) 2 [3,1,2,0]))
def b9:bX:=(aj (fh "Balance" "rows" (v3 1) (v3 0))
  (aj (fh "Balance" "held" (v3 2) (v3 0))
  (fh "Balance" "bottom" (c3 (.int 1)) (v3 0))))
def dg(FS:aF):bX:=(aj (ap 3 (ah al (bW "Balance" "rows" (v3 0)) (v3 1)))
  (aj (ap 4 (aw (aO (bW "Balance" "rows" (v3 0))) (.n 0) bg (ac FS [(v3 0),(v3 1),(v3 2),(bW "Balance" "bottom" (v3 3))]) 1 [3,2,0]))
  (aj (fh "Balance" "rows" (ah aP (ah aP (bV (v3 4) pM (k5 (v3 1))) (cC [(v3 3)])) (bV (v3 4) (k5 (ah aP (v3 1) (c3 (.int 1)))) pM)) (v3 0))
  (aj (fh "Balance" "bottom" (ah al (v3 3) (v3 2)) (v3 0))
  (d8 (v3 2) (bW "Balance" "held" (v3 0)) (v3 1))))))
def cr:bX:=(aj (bM (iD (bV (ah al (bW "Balance" "rows" (v3 0)) (iC cP (c3 (.int 1)))) pM (k5 (iC cP (c3 (.int 1)))))) (.tp (.cons (.n 1) (.cons (.n 2) .nil))) (gc (cE (ah k6 (v3 2) (c3 (.int 0)))) (aE (v3 1)) d5))
  (aE (c3 .non)))
def cJ:bX:=(aj (ap 4 (ah aL (ah al (ah al (bW "Balance" "rows" (v3 0)) (v3 1)) (iC cP (c3 (.int 1)))) (ah al (ah al (bW "Balance" "rows" (v3 0)) (v3 2)) (v3 3))))
  (aj (ap 5 (ah aL (ah al (ah al (bW "Balance" "rows" (v3 0)) (v3 2)) (iC cP (c3 (.int 1)))) (ah al (ah al (bW "Balance" "rows" (v3 0)) (v3 1)) (v3 3))))
  (aE (ah uR (aM [(v3 4),(ah al (bW "Balance" "held" (v3 0)) (v3 1))]) (aM [(v3 5),(ah al (bW "Balance" "held" (v3 0)) (v3 2))])))))
def cu(Ev:aF):bX:=(aj (ap 2 (c3 .non))
  (aj (bM (bm (ai bA [(bW "Balance" "held" (v3 0))])) (.n 3) (gc (kz (cE (ah rP (ah al (ah al (bW "Balance" "rows" (v3 0)) (v3 3)) (v3 1)) (c3 (.int 0)))) (vC (cE (ah (mj false) (v3 2) (c3 .non))) (cE (cH "Balance" "sooner" Ev (v3 0) [(v3 3),(v3 2),(v3 1)])))) (ap 2 (v3 3)) d5))
  (aE (v3 2))))
def cv(CV:aF):bX:=(aj (ap 4 (ah aL (cC [(aM [(c3 (.int 0)),(c3 (.int 1))])]) (v3 1)))
  (aj (bM (fe (bW "Balance" "rows" (v3 0)) (bW "Balance" "held" (v3 0))) (.tp (.cons (.n 5) (.cons (.n 6) .nil))) (gc (cE (ah k6 (v3 6) (v3 1))) (d8 (ac CV [(ah aL (v3 3) (ah al (v3 5) (v3 2))),(bW "Balance" "bottom" (v3 0))]) (v3 4) (v3 6)) d5))
  (aE (v3 4))))
def a9:bX:=(aj (ap 2 (aw (iD (v3 0)) (.tp (.cons (.n 0) (.cons (.n 1) .nil))) (kz (cE (ah (fQ false) (ah al (v3 1) (c3 (.int 0))) (v3 2))) (cE (ah xJ (ah oq (ah al (v3 1) (c3 (.int 2))) (c3 (.int 0))) (c3 (.int 0))))) (v3 0) 2 [1]))
  (aE (ah al (v3 2) (c3 (.int 0)))))
def ee(Dn ER E5 Ef Ds Dt:aF):bX:=(aj (ap 3 (ac Dn [(aw (aO (v3 0)) (.n 0) bg (ah al (v3 0) (c3 (.int 1))) 1 [])]))
  (aj (ap 4 (ah aP (aw (aO (v3 0)) (.n 0) bg (ah aL (iC cP (ah al (ah al (v3 0) (c3 (.int 1))) (c3 (.int 0)))) (ah dA (v3 1) (ah al (ah al (v3 0) (c3 (.int 1))) (c3 (.int 1))))) 1 [3]) (ah aL (cC [(c3 (.int 0))]) (ah aP (v3 1) (c3 (.int 1))))))
  (aj (ap 6 (aw (bm (ai bA [(v3 2)])) (.n 0) bg (ac ER [(v3 1),(v3 2),(v3 3),(v3 0)]) 1 [0,1,2]))
  (aj (bS (jg "list" da (v3 6) [(aw (bm (v3 1)) (.n 0) bg (ac E5 [(v3 1),(v3 2),(v3 0)]) 1 [0,1])]))
  (aj (ap 7 (r6 "Balance" Ef [(ah aP (v3 6) (cC [(v3 4)])),(aw (bm (ai bA [(v3 6)])) (.n 0) bg (ah bn (ah aP (ai bA [(v3 1)]) (v3 0)) (ai bA [(v3 2)])) 1 [0,2])]))
  (aj (bM (bm (ai bA [(v3 2)])) (.n 5) (bS (cH "Balance" "hold" Ds (v3 7) [(v3 5),(ac Dt [(v3 0),(v3 5)])])))
  (aE (v3 7))))))))
def fY(FT Fw Fy:aF):bX:=(aE (ac FT [(aw (aO (v3 0)) (.n 0) (cE (ah (fQ false) (ah al (v3 0) (c3 (.int 0))) (v3 1))) (ac Fw [(ah al (v3 0) (c3 (.int 1))),(ac Fy [(ah al (v3 0) (c3 (.int 2))),(v3 2)])]) 1 [2,1])]))
def ic(Db:aF):bX:=(aj (ap 3 (cH "Balance" "held_by" Db (v3 0) [(ai bA [(v3 1)]),(v3 2),(iC cP (c3 (.int 1)))]))
  (aj (gc (cE (ah k6 (v3 2) (ai bA [(v3 1)]))) (d8 (aM [(c3 (.int 1)),(c3 (.int 1))]) (v3 3) (v3 2)) d5)
  (aE (aM [(c3 (.str "endless")),(ai aD [(v3 3)])]))))
def m8(Dn CV Fz Db:aF):bX:=(aj (ap 3 (ah aL (bW "Balance" "bottom" (v3 0)) (ac Dn [(aw (aO (v3 1)) (.n 0) bg (ah al (v3 0) (c3 (.int 1))) 1 [])])))
  (aj (ap 4 (ah al (bW "Balance" "rows" (v3 0)) (iC cP (c3 (.int 1)))))
  (aj (ap 5 (ai aD [(aw (aO (bV (v3 4) (k5 (ai bA [(v3 1)])) (k5 (iC cP (c3 (.int 1)))))) (.n 0) bg (ac CV [(v3 0),(v3 1)]) 1 [3])]))
  (aj (ap 6 (ai aD [(aw (bm (ai bA [(v3 2)])) (.n 0) bg (ac Fz [(v3 1),(v3 2),(v3 0)]) 1 [1,5])]))
  (aj (ap 7 (ai aD [(cH "Balance" "held_by" Db (v3 0) [(ai bA [(v3 1)]),(iC cP (c3 (.int 1))),(c3 (.int 1))])]))
  (aE (aM [(c3 (.str "most")),(ac CV [(ah al (v3 4) (iC cP (c3 (.int 1)))),(v3 3)]),(v3 7),(v3 6),(v3 5)])))))))
def ie(E6 Dx Ej FU Ds G_:aF):bX:=(aj (ap 2 (ai bA [(ah al (ah al (v3 0) (c3 (.int 0))) (c3 (.int 2)))]))
  (aj (ap 3 (ac E6 [(v3 0),(v3 2),(v3 1)]))
  (aj (ap 4 (cH "Balance" "gaining" Dx (v3 3) []))
  (aj (hG (cE (ah (mj true) (v3 4) (c3 .non))) (aj (ap 5 (cH "Balance" "used_up" Ej (v3 3) [(v3 4)]))
  (aj (gc (cE (ah (mj false) (v3 5) (c3 .non))) (aE (ac FU [(v3 3),(v3 0),(v3 4)])) d5)
  (aj (bS (cH "Balance" "hold" Ds (v3 3) [(v3 5),(v3 4)]))
  (ap 4 (cH "Balance" "gaining" Dx (v3 3) []))))))
  (aE (ac G_ [(v3 3),(v3 0),(v3 1)]))))))
def jn(CL:aF):bX:=(aj (ap 2 (aM [(c3 (.int 0)),(c3 (.int 1))]))
  (aj (bM (fe (v3 0) (v3 1)) (.tp (.cons (.n 3) (.cons (.n 4) .nil))) (ap 2 (ac CL [(v3 2),(aM [(ah aL (v3 3) (ah al (v3 4) (c3 (.int 0)))),(ah al (v3 4) (c3 (.int 1)))])])))
  (aE (v3 2))))
end CW
namespace CW
open PySem L2 L3 Wd
open C
structure Sz (i:Int):Prop where
 lt:i.natAbs < 2 ^ 4000
def ot{k:Int}{n:Nat}(h:k.natAbs < 2 ^ n):Builtin.Int.intBits k<=n:=by
 unfold Builtin.Int.intBits
 split
 ·exact Nat.zero_le _
 ·rename_i hz
  have h0:k.natAbs≠0:=by intro e;apply hz;simp;omega
  have:k.natAbs.log2 < n:=(Nat.log2_lt h0).mpr h
  omega
def Sz.mul{a b:Int}(h:Sz a)(g:Sz b):IntMulOk a b:=by
 have h1:=ot h.lt
 have h2:=ot g.lt
 unfold IntMulOk
 have e:Builtin.Int.intTooBig ((Builtin.Int.intBits a:Int)+(Builtin.Int.intBits b:Int))=false:=by
  unfold Builtin.Int.intTooBig
  have:(bitsLine:Int)=2 ^ 27:=rfl
  simp only[gt_iff_lt,decide_eq_false_iff_not,Int.not_lt]
  omega
 rw[e];simp
def Sz.div{a b:Int}(h:b≠0)(g:Sz b):jd a b:=⟨h,Nat.lt_trans g.lt (Nat.pow_lt_pow_right (by decide) (by decide))⟩
def Sz.le{a b:Int}(h:Sz b)(g:a.natAbs<=b.natAbs):Sz a:=⟨Nat.lt_of_le_of_lt g h.lt⟩
noncomputable def dG:Nat:=2 ^ 2000
def iV:0 < dG:=Nat.pow_pos (by decide)
def ya:dG < 2 ^ 4000:=Nat.pow_lt_pow_right (by decide) (by decide)
def bo{a:Int}(h:a.natAbs<=dG):Sz a:=⟨Nat.lt_of_le_of_lt h ya⟩
def sd{a b:Int}(h:a.natAbs<=dG)(g:b.natAbs < dG):Sz (a * b):=by
 refine⟨?_⟩
 rw[Int.natAbs_mul]
 have h1:=Nat.mul_lt_mul_of_le_of_lt h g iV
 have e:dG * dG=2 ^ 4000:=by unfold dG;rw[<-Nat.pow_add]
 rw[e]at h1
 exact h1
noncomputable def cq(Q n:Int):PV:=.tup [.int (M3.aK n Q),.int (M3.aC n Q)]
def eJ{Q R n m:Int}(hQ:0 < Q)(hR:0 < R)(e:n * R=m * Q):cq Q n=cq R m:=by
 have L:=M3.c_ (t:=n) (b:=Q) (by omega)
 have w:=M3.aZ (t:=n) (b:=Q) (by omega)
 obtain⟨e1,e2⟩:=M3.i_ (x:=m) (y:=R) L hR (by
  refine M3.xb (g:=Q) (by omega) ?_
  rw[Int.mul_right_comm,<-e,Int.mul_right_comm n,<-w]
  grind)
 unfold cq
 rw[e1,e2]
def se{x y:Int}(L:M3.yD x y):PV.tup [.int x,.int y]=cq y x:=by
 obtain⟨e1,e2⟩:=M3.re L
 unfold cq;rw[e1,e2]
def ig(n:Int):PV.tup [.int n,.int 1]=cq 1 n:=se ⟨by decide,Int.gcd_one_right _⟩
def sf{Q n:Int}(hQ:0 < Q):(M3.aK n Q < 0↔n < 0)/\(0 < M3.aK n Q↔0 < n)/\(M3.aK n Q=0↔n=0):=by
 have w:=M3.aZ (t:=n) (b:=Q) (by omega)
 have L:=(M3.c_ (t:=n) (b:=Q) (by omega)).pos
 have a1:M3.aK n Q < 0->n < 0:=fun h=>by
  have:=Int.mul_neg_of_neg_of_pos h hQ
  rw[w]at this
  exact Int.not_le.mp fun hn=>by have:=Int.mul_nonneg hn (show 0<=M3.aC n Q by omega);omega
 have a2:0 < M3.aK n Q->0 < n:=fun h=>by
  have:=Int.mul_pos h hQ
  rw[w]at this
  exact Int.not_le.mp fun hn=>by have:=Int.mul_nonneg (show 0 <= -n by omega) (show 0<=M3.aC n Q by omega);rw[Int.neg_mul]at this;omega
 have a3:M3.aK n Q=0->n=0:=fun h=>by
  rw[h,Int.zero_mul]at w
  rcases Int.mul_eq_zero.mp w.symm with h|h
  ·exact h
  ·omega
 refine⟨⟨a1,fun h=>?_⟩,⟨a2,fun h=>?_⟩,⟨a3,fun h=>?_⟩⟩<;>omega
structure Fq (Q n:Int):Prop where
 q0:0 < Q
 q1:Q.natAbs < dG
 n1:n.natAbs < dG
def Fq.sz{Q n:Int}(h:Fq Q n):(M3.aK n Q).natAbs<=n.natAbs/\(M3.aC n Q).natAbs<=Q.natAbs/\0 < M3.aC n Q:=by
 have q0:=h.q0
 have:=M3.ja (t:=n) (b:=Q) (T:=n.natAbs) (B:=Q.natAbs) (by omega) (by omega) (by omega) (by omega) (by omega) (by omega) (by omega)
 omega
abbrev iW(w:aF):Prop:=∀{S:ar} {a b:Int} {Q:bH} {E:cg},0<=b->Q (.int (Int.gcd a b)) S->w [.int a,.int b] S Q E
def m9:iW (bj 3 jk):=by
 intro S a b Q E hb k
 unfold jk
 refine fK ?_
 rw[show az 3 [PV.int a,PV.int b]=[some (.int a),some (.int b),none] from rfl]
 refine aB fun N hN=>?_
 refine⟨fun n σ S'=>S'=S/\∃(x y:Int) (z:Option PV),σ=[some (.int x),some (.int y),z]/\0<=y/\Int.gcd x y=Int.gcd a b/\y.toNat=n,⟨_,rfl,a,b,none,rfl,hb,rfl,rfl⟩,?_⟩
 rintro n σ S' ⟨rfl,x,y,z,rfl,hy,hg,rfl⟩
 walk_at "x"
 simp only[Bool.true_bne,Bool.not_eq_true',decide_eq_false_iff_not]
 split
 ·rename_i hp
  refine⟨fun σ' Gn=>Gn=S'/\∃(x' y':Int) (z':Option PV),σ'=[some (.int x'),some (.int y'),z']/\0<=y'/\Int.gcd x' y'=Int.gcd a b/\y'.toNat < y.toNat,?_,?_⟩
  ·rintro σ' Gn ⟨rfl,x',y',z',rfl,h2,h3,h4⟩
   exact⟨_,h4,rfl,x',y',z',rfl,h2,h3,rfl⟩
  ·have e:x.fmod y=x % y:=iE hy
   have l1:=Int.emod_nonneg x (b:=y) hp
   have l2:=Int.emod_lt_of_pos x (show 0 < y by omega)
   refine⟨hp,rfl,y,x.fmod y,_,rfl,by omega,?_,by omega⟩
   rw[M3.lA];exact hg
 ·rename_i hp
  have Hl:y=0:=by omega
  subst Hl
  refine hN _ _ ?_
  walk_at "x"
  have Jo:(if x < 0 then -x else x)=(Int.gcd a b:Int):=by
   rw[<-hg,Int.gcd_zero_right]
   split<;>omega
  rw[Jo]
  exact k
abbrev iF(w:aF):Prop:=∀{S:ar} {t b:Int} {Q:bH} {E:cg},0 < b->Sz b->Q (cq b t) S->w [.int t,.int b] S Q E
def si{xc:aF}(Ew:iW xc):iF (bj 3 (fU xc)):=by
 intro S t b Q E hb hs k
 unfold fU
 refine fK ?_
 rw[show az 3 [PV.int t,PV.int b]=[some (.int t),some (.int b),none] from rfl]
 refine aB fun N hN=>?_
 walk_at "x"
 refine Ew (by omega) (hN _ _ (aB fun N hN=>?_))
 walk_at "x"
 rw[if_neg (by rw[decide_eq_true_eq];omega)]
 refine hN _ _ ?_
 walk_at "x"
 have gp:(0:Int) < (Int.gcd t b:Int):=Int.natCast_pos.mpr (M3.d0 (by omega))
 have gl:=M3.mP (t:=t) (b:=b) (by omega)
 have cd:∀z,jd z (Int.gcd t b:Int):=fun z=>Sz.div (by omega) (hs.le (by omega))
 refine⟨cd _,cd _,?_⟩
 have d1:=(M3.ly (t:=t) (b:=b) (by omega))
 rw[if_neg (by omega)]at d1
 rw[d1.1,d1.2]
 exact k
abbrev yb(w:aF):Prop:=iF w
def uT{xl:aF}(h:fy xl):yb xl:=fun hb hs k=>h hb (Nat.lt_trans hs.lt (Nat.pow_lt_pow_right (by decide) (by decide))) k
def sj{Q n m:Int}(h:Fq Q n)(g:Fq Q m):0 < M3.aC n Q * M3.aC m Q/\Sz (M3.aC n Q * M3.aC m Q)/\cq (M3.aC n Q * M3.aC m Q) (M3.aK n Q * M3.aC m Q+M3.aK m Q * M3.aC n Q)=cq Q (n+m):=by
 have a:=h.sz
 have c:=g.sz
 have q0:=h.q0
 have p:=Int.mul_pos a.2.2 c.2.2
 refine⟨p,sd (by have:=h.q1;omega) (by have:=h.q1;omega),eJ p q0 ?_⟩
 have w1:=M3.aZ (t:=n) (b:=Q) (by omega)
 have w2:=M3.aZ (t:=m) (b:=Q) (by omega)
 calc (M3.aK n Q * M3.aC m Q+M3.aK m Q * M3.aC n Q) * Q=(M3.aK n Q * Q) * M3.aC m Q+(M3.aK m Q * Q) * M3.aC n Q:=by grind
  _=_:=by rw[w1,w2];grind
def Fq.ok{Q n R m:Int}(h:Fq Q n)(g:Fq R m):IntMulOk (M3.aK n Q) (M3.aC m R)/\IntMulOk (M3.aC n Q) (M3.aC m R)/\IntMulOk (M3.aK n Q) (M3.aK m R):=by
 have a:=h.sz
 have c:=g.sz
 have:=h.q1;have:=g.q1;have:=h.n1;have:=g.n1
 exact⟨(bo (by omega)).mul (bo (by omega)),(bo (by omega)).mul (bo (by omega)),(bo (by omega)).mul (bo (by omega))⟩
abbrev ou(w:aF):Prop:=∀{S:ar} {B n m:Int} {Q:bH} {E:cg},Fq B n->Fq B m->Q (cq B (n+m)) S->w [cq B n,cq B m] S Q E
def zT{xf:aF}{S:ar}{B n m:Int}{Q:bH}{E:cg}(h:IntMulOk (M3.aK n B) (M3.aC m B)/\IntMulOk (M3.aK m B) (M3.aC n B)/\IntMulOk (M3.aC n B) (M3.aC m B))(k:xf [.int (M3.aK n B * M3.aC m B+M3.aK m B * M3.aC n B),.int (M3.aC n B * M3.aC m B)] S Q fD):bj 2 (e_ xf) [cq B n,cq B m] S Q E:=by
 unfold e_
 refine fK ?_
 rw[show az 2 [cq B n,cq B m]=[some (.tup [.int (M3.aK n B),.int (M3.aC n B)]),some (.tup [.int (M3.aK m B),.int (M3.aC m B)])] from rfl]
 walk_at "x"
 simp only[lN,pV]
 exact⟨h.1,h.2.1,h.2.2,k⟩
def sr{xf:aF}(C8:iF xf):ou (bj 2 (e_ xf)):=by
 intro S B n m Q E h g k
 obtain⟨p1,p2,p3⟩:=sj h g
 exact zT ⟨(h.ok g).1,(g.ok h).1,(h.ok g).2.1⟩ (C8 p1 p2 (by rw[p3];exact k))
abbrev ss(w:aF):Prop:=∀{S:ar} {i B n:Int} {Q:bH} {E:cg},i.natAbs < dG->Fq B n->Q (cq B (i * n)) S->w [.tup [.int i,.int 1],cq B n] S Q E
def p8{xf:aF}(C8:iF xf):ss (bj 2 (kG xf)):=by
 intro S i B n Q E hi h k
 unfold kG
 refine fK ?_
 rw[show az 2 [.tup [.int i,.int 1],cq B n]=[some (.tup [.int i,.int 1]),some (.tup [.int (M3.aK n B),.int (M3.aC n B)])] from rfl]
 have a:=h.sz
 have:=h.q1;have:=h.n1;have q0:=h.q0
 simp only[aE,ac,ag,ah,v3,lk,c3,al,lN,pV,aL]
 have one:(1:Int).natAbs<=dG:=iV
 refine⟨(bo (by omega)).mul (bo (by omega)),(bo one).mul (bo (by omega)),?_⟩
 rw[Int.one_mul]
 refine C8 a.2.2 (bo (by omega)) ?_
 rw[eJ (m:=i * n) a.2.2 q0 (by have w:=M3.aZ (t:=n) (b:=B) (by omega);rw[Int.mul_assoc,w];grind)]
 exact k
abbrev vK(w:aF):Prop:=∀{S:ar} {B n m:Int} {Q:bH} {E:cg},Fq B n->Fq B m->Q (.bl (decide (n < m))) S->w [cq B n,cq B m] S Q E
def su:vK (bj 2 m7):=by
 intro S B n m Q E h g k
 unfold m7
 refine fK ?_
 rw[show az 2 [cq B n,cq B m]=[some (.tup [.int (M3.aK n B),.int (M3.aC n B)]),some (.tup [.int (M3.aK m B),.int (M3.aC m B)])] from rfl]
 simp only[aE,ah,v3,lk,c3,al,lN,pV,aL,k6,cj]
 refine⟨(h.ok g).1,(g.ok h).1,?_⟩
 have q0:=h.q0
 have w1:=M3.aZ (t:=n) (b:=B) (by omega)
 have w2:=M3.aZ (t:=m) (b:=B) (by omega)
 have b1:=h.sz.2.2
 have b2:=g.sz.2.2
 have e:(M3.aK n B * M3.aC m B < M3.aK m B * M3.aC n B)↔n < m:=by
  have pp:=Int.mul_pos b1 b2
  have e1:(M3.aK n B * M3.aC m B) * B=n * (M3.aC n B * M3.aC m B):=by rw[Int.mul_right_comm,w1];grind
  have e2:(M3.aK m B * M3.aC n B) * B=m * (M3.aC n B * M3.aC m B):=by rw[Int.mul_right_comm,w2];grind
  constructor
  ·intro hlt
   have:=Int.mul_lt_mul_of_pos_right hlt q0
   rw[e1,e2]at this
   exact Int.lt_of_mul_lt_mul_right this (by omega)
  ·intro hlt
   have:=Int.mul_lt_mul_of_pos_right hlt pp
   rw[<-e1,<-e2]at this
   exact Int.lt_of_mul_lt_mul_right this (by omega)
 rw[show decide (M3.aK n B * M3.aC m B < M3.aK m B * M3.aC n B)=decide (n < m)from decide_eq_decide.mpr e]
 exact k
abbrev eK(w:aF):Prop:=∀{S:ar} {a b c d:Int} {Q:bH} {E:cg},0 < b->0 < d->a.natAbs<=dG->b.natAbs < dG->c.natAbs<=dG->d.natAbs < dG->Q (cq (b * d) (a * d+c * b)) S->w [.tup [.int a,.int b],.tup [.int c,.int d]] S Q E
def yc{xf:aF}{S:ar}{a b c d:Int}{Q:bH}{E:cg}(h:IntMulOk a d/\IntMulOk c b/\IntMulOk b d)(k:xf [.int (a * d+c * b),.int (b * d)] S Q fD):bj 2 (e_ xf) [.tup [.int a,.int b],.tup [.int c,.int d]] S Q E:=by
 unfold e_
 refine fK ?_
 rw[show az 2 [PV.tup [.int a,.int b],.tup [.int c,.int d]]=[some (.tup [.int a,.int b]),some (.tup [.int c,.int d])] from rfl]
 walk_at "x"
 simp only[lN,pV]
 exact⟨h.1,h.2.1,h.2.2,k⟩
def sv{xf:aF}(C8:iF xf):eK (bj 2 (e_ xf)):=by
 intro S a b c d Q E hb hd h1 h2 h3 h4 k
 exact yc ⟨(bo h1).mul (bo (by omega)),(bo h3).mul (bo (by omega)),(bo (by omega)).mul (bo (by omega))⟩ (C8 (Int.mul_pos hb hd) (sd (by omega) h4) k)
def p_{xf:aF}(C8:yb xf):eK (bj 2 (fc xf)):=by
 have e:fc xf=e_ xf:=rfl
 rw[e]
 intro S a b c d Q E hb hd h1 h2 h3 h4 k
 exact sv (fun hb hs k=>C8 hb hs k) hb hd h1 h2 h3 h4 k
noncomputable def eo(ns:Vu):Nat:=(ns.map Int.natAbs).sum
def gG(ns:Vu):ns.sum.natAbs<=eo ns:=by
 induction ns with
 |nil=>simp[eo]
 |cons a r ih=>simp only[eo,List.map_cons,List.sum_cons]at *;have:=Int.natAbs_add_le a r.sum;omega
def j3(ns:Vu)(k:Nat):eo (ns.take k)<=eo ns:=by
 rw[<-List.take_append_drop k ns]
 simp only[eo,List.map_append,List.sum_append]
 rw[List.take_append_drop]
 simp only[List.map_take,List.map_drop]
 have:=List.take_append_drop k (ns.map Int.natAbs)
 have h2:=congrArg List.sum this
 rw[List.sum_append]at h2
 omega
def lR{ns:Vu}{a:Int}(h:a∈ns):a.natAbs<=eo ns:=by
 induction ns with
 |nil=>cases h
 |cons x r ih=>
  simp only[eo,List.map_cons,List.sum_cons]at *
  rcases List.mem_cons.mp h with rfl|h
  ·omega
  ·have:=ih h;omega
abbrev zU(w:aF):Prop:=∀{S:ar} {p:Addr} {B:Int} {ns:Vu} {Q:bH} {E:cg},0 < B->B.natAbs < dG->eo ns < dG->S p=some (.lst (ns.map (cq B)))->Q (cq B ns.sum) S->w [.ref p] S Q E
def uU{xp:aF}(sp_plus:ou xp):zU (bj 3 (fW xp)):=by
 intro S p B ns Q E hB Gc ha hp k
 unfold fW
 refine fK ?_
 rw[show az 3 [PV.ref p]=[some (.ref p),none,none] from rfl]
 refine aB fun N hN=>?_
 walk_at "x"
 refine hN _ _ (aB fun N hN=>?_)
 simp only[bM,aO,v3,lk,bY,hp]
 refine bJ (fun done σ S'=>S'=S/\done.length<=ns.length/\∃x2:Option PV,σ=[some (.ref p),some (cq B (ns.take done.length).sum),x2]) ⟨rfl,Nat.zero_le _,_,by rw[ig,eJ (Q:=1) (R:=B) (n:=0) (m:=0) (by decide) hB (by simp)];rfl⟩ (fun _ _ _ ⟨e,_⟩=>by rw[e];exact hp) ?_ ?_
 ·rintro done x rest σ S' K e ⟨rfl,hl,x2,rfl⟩ hK
  have hget:(ns.map (cq B))[done.length]?=some x:=by rw[e];simp
  obtain⟨n,hn,rfl⟩:∃n,ns[done.length]?=some n/\cq B n=x:=by rw[List.getElem?_map]at hget;exact Option.map_eq_some_iff.mp hget
  have hlt:done.length < ns.length:=(List.getElem?_eq_some_iff.mp hn).1
  simp only[Tg.put,List.set_cons_succ,List.set_cons_zero,ap,ac,ag,v3,lk]
  have t1:=gG (ns.take done.length)
  have t2:=j3 ns done.length
  have t3:=lR (List.mem_of_getElem? hn)
  refine sp_plus ⟨hB,Gc,by omega⟩ ⟨hB,Gc,by omega⟩ (hK _ _ ⟨rfl,by rw[List.length_append];exact hlt,some (cq B n),?_⟩)
  rw[List.length_append,List.length_singleton,List.take_succ,hn]
  simp
 ·rintro σ S' ⟨rfl,hl,x2,rfl⟩
  refine hN _ _ ?_
  rw[List.length_map,List.take_length]
  walk_at "x"
  exact k
noncomputable def dot:List Int->List Int->Int
 |a::r,b::s=>a * b+dot r s
 |_,_=>0
noncomputable def bp(is ns:Vu):List Int:=List.zipWith (· * ·) is ns
theorem df:∀(is ns:Vu),(bp is ns).sum=dot is ns
 |[],_=>by simp[bp,dot]
 |_::_,[]=>by simp[bp,dot]
 |a::r,b::s=>by
  have:=df r s
  simp only[bp,List.zipWith_cons_cons,List.sum_cons,dot]at *
  omega
abbrev sx(w:aF):Prop:=∀{S:ar} {B:Int} {is ns:Vu} {Q:bH} {E:cg},0 < B->B.natAbs < dG->eo (bp is ns) < dG->is.length<=1000->is.length=ns.length->(∀i∈is,i.natAbs < dG)->(∀n∈ns,n.natAbs < dG)->(∀S',Ext S S'->Q (cq B (dot is ns)) S')->w [.tup (is.map PV.int),.tup (ns.map (cq B))] S Q E
def qc{xt xm:aF}(Ha:zU xt)(F4:ss xm):sx (bj 2 (fX xt xm)):=by
 intro S B is ns Q E hB Gc ha hl he hi hn k
 unfold fX
 refine fK ?_
 rw[show az 2 [.tup (is.map PV.int),.tup (ns.map (cq B))]=[some (.tup (is.map PV.int)),some (.tup (ns.map (cq B)))] from rfl]
 simp only[aE,ac,ag,aw,pS,v3,lk]
 refine bC (fun done ys S'=>S'=S/\done.length<=is.length/\ys=((bp is ns).take done.length).map (cq B)) ⟨rfl,Nat.zero_le _,rfl⟩ ?_ ?_ ?_
 ·rintro done ys S' ⟨rfl,h,rfl⟩
  exact⟨trivial,aQ (by rw[List.length_map,List.length_take];omega)⟩
 ·rintro done x rest ys S' K e ⟨rfl,h,rfl⟩ hK
  have hget:(aX (is.map PV.int) (ns.map (cq B)))[done.length]?=some x:=by rw[e];simp
  unfold aX at hget
  rw[List.getElem?_map]at hget
  obtain⟨⟨u,v⟩,hz,rfl⟩:=Option.map_eq_some_iff.mp hget
  obtain⟨h1,h2⟩:=List.getElem?_zip_eq_some.mp hz
  rw[List.getElem?_map]at h1 h2
  obtain⟨i,hi1,rfl⟩:=Option.map_eq_some_iff.mp h1
  obtain⟨n,hn1,rfl⟩:=Option.map_eq_some_iff.mp h2
  have hlt:done.length < is.length:=(List.getElem?_eq_some_iff.mp hi1).1
  simp only[Tg.put,Tg.Dr,bN,List.reduceReplicate,List.map_nil,List.append_nil,List.set_cons_zero,List.set_cons_succ,bg,if_true,ac,ag,aM,v3,lk,c3]
  refine F4 (hi i (List.mem_of_getElem? hi1)) ⟨hB,Gc,hn n (List.mem_of_getElem? hn1)⟩ (hK _ _ ⟨rfl,by rw[List.length_append];exact hlt,?_⟩)
  have hp:(bp is ns)[done.length]?=some (i * n):=by
   unfold bp
   rw[List.getElem?_zipWith,hi1,hn1]
  rw[List.length_append,List.length_singleton,List.take_succ,hp]
  simp
 ·rintro ys S' ⟨rfl,h,rfl⟩ p hp
  have lz:(aX (is.map PV.int) (ns.map (cq B))).length=(bp is ns).length:=by
   unfold aX bp
   simp
  rw[lz,List.take_length]
  refine Ha hB Gc ha aa ?_
  rw[df]
  exact k _ (.new hp)
structure Cl where
 who:Option Nat
 x:Int
 y:Nat
 eff:List Int
noncomputable def qd:Option Nat->PV
 |none=>.non
 |some d=>.int (d:Int)
noncomputable def Cl.pv(c:Cl):PV:=.tup [qd c.who,.tup [.int c.x,.int (c.y:Int)],.tup (c.eff.map PV.int)]
def m_{o:Option Nat}{d:Nat}{S:ar}{Q:bH}(q:Q (.bl (decide (o=some d))) S):fQ false (qd o) (.int (d:Int)) S Q:=by
 cases o with
 |none=>
  unfold fQ
  exact⟨.none,.int d,.non,.int _,by simp[PyData.canLay0],by simp[PyData.canLay0],by simp[PyData.depth],by simpa [PyData.eqv]using q⟩
 |some e=>
  show Q (.bl (false != decide ((e:Int)=(d:Int)))) S
  rw[Bool.false_bne,show decide ((e:Int)=(d:Int))=decide (some e=some d)from decide_eq_decide.mpr ⟨fun h=>by rw[Int.ofNat.inj h],fun h=>by cases h;rfl⟩]
  exact q
abbrev vL(w:aF):Prop:=∀{S:ar} {p:Addr} {B:Int} {ns:Vu} {Q:bH} {E:cg},0 < B->B.natAbs < dG->(∀n∈ns,n.natAbs < dG)->ns≠[]->S p=some (.lst (ns.map (cq B)))->(∀M,M∈ns->(∀a∈ns,a<=M)->Q (cq B M) S)->w [.ref p] S Q E
def sy{xl:aF}(Dc:vK xl):vL (bj 3 (hW xl)):=by
 intro S p B ns Q E hB Gc hn hne hp k
 unfold hW
 refine fK ?_
 rw[show az 3 [PV.ref p]=[some (.ref p),none,none] from rfl]
 obtain⟨n0,r0,rfl⟩:=List.exists_cons_of_ne_nil hne
 refine aB fun N hN=>?_
 have e0:atI ((n0::r0).map (cq B)) 0=some (cq B n0):=by simp only[List.map_cons,lN]
 simp only[ap,ah,v3,lk,c3,al,hp,e0,List.set_cons_succ,List.set_cons_zero]
 refine hN _ _ (aB fun N hN=>?_)
 simp only[bM,aO,v3,lk,bY,hp]
 refine bJ (fun done σ S'=>S'=S/\∃M x2,M∈n0::r0/\σ=[some (.ref p),some (cq B M),x2]/\∀a∈(n0::r0).take done.length,a<=M) ⟨rfl,n0,_,by simp,rfl,by simp⟩ (fun _ _ _ ⟨e,_⟩=>by rw[e];exact hp) ?_ ?_
 ·rintro done x rest σ S' K e ⟨rfl,M,x2,hM,rfl,hd⟩ hK
  have hget:((n0::r0).map (cq B))[done.length]?=some x:=by rw[e];simp
  obtain⟨n,hn1,rfl⟩:∃n,(n0::r0)[done.length]?=some n/\cq B n=x:=by rw[List.getElem?_map]at hget;exact Option.map_eq_some_iff.mp hget
  have hm:=List.mem_of_getElem? hn1
  have tk:∀a∈(n0::r0).take (done++[cq B n]).length,a∈(n0::r0).take done.length\/a=n:=fun a ha=>by
   rw[List.length_append,List.length_singleton,List.take_succ,hn1,List.mem_append]at ha
   rcases ha with ha|ha
   ·exact .inl ha
   ·exact .inr (by simpa using ha)
  simp only[Tg.put,List.set_cons_succ,List.set_cons_zero,gc,cE,ac,ag,v3,lk]
  refine Dc ⟨hB,Gc,hn M hM⟩ ⟨hB,Gc,hn n hm⟩ ?_
  by_cases hlt:M < n
  ·rw[decide_eq_true hlt]
   simp only[if_true,ap,v3,lk,List.set_cons_succ,List.set_cons_zero]
   exact hK _ _ ⟨rfl,n,_,hm,rfl,fun a ha=>(tk a ha).elim (fun h=>by have:=hd a h;omega) (fun h=>by omega)⟩
  ·rw[decide_eq_false hlt]
   simp only[Bool.false_eq_true,if_false]
   exact hK _ _ ⟨rfl,M,_,hM,rfl,fun a ha=>(tk a ha).elim (fun h=>hd a h) (fun h=>by omega)⟩
 ·rintro σ S' ⟨rfl,M,x2,hM,rfl,hd⟩
  rw[List.length_map,List.take_length]at hd
  refine hN _ _ ?_
  walk_at "x"
  exact k M hM hd
noncomputable def qe(f:Nat)(ys:List Nat):Nat:=ys.foldl Nat.lcm f
theorem jo(L:Nat)(hL:0 < L):∀(ys:List Nat) (f:Nat),0 < f->f ∣ L->(∀y∈ys,0 < y/\y ∣ L)->0 < qe f ys/\qe f ys ∣ L/\f ∣ qe f ys/\∀y∈ys,y ∣ qe f ys
 |[],f,h0,h1,_=>⟨h0,h1,Nat.dvd_refl _,fun y h=>by cases h⟩
 |y::r,f,h0,h1,h=>by
  have hy:=h y (by simp)
  have ih:=jo L hL r (Nat.lcm f y) (Nat.lcm_pos h0 hy.1) (Nat.lcm_dvd h1 hy.2) fun z hz=>h z (by simp[hz])
  refine⟨ih.1,ih.2.1,Nat.dvd_trans (Nat.dvd_lcm_left f y) ih.2.2.1,fun z hz=>?_⟩
  rcases List.mem_cons.mp hz with rfl|hz
  ·exact Nat.dvd_trans (Nat.dvd_lcm_right f z) ih.2.2.1
  ·exact ih.2.2.2 z hz
noncomputable def dB(c:Cl):PV:=.tup [.int c.x,.int (c.y:Int)]
def sA(f y:Nat):((f:Int) * (y:Int)).fdiv (Int.gcd (f:Int) (y:Int):Int)=(Nat.lcm f y:Int):=by
 rw[Int.gcd_natCast_natCast,Int.fdiv_eq_ediv_of_nonneg _ (by omega)]
 show _=((f * y / Nat.gcd f y:Nat):Int)
 rw[Int.natCast_ediv,Int.natCast_mul]
abbrev kI(w:aF):Prop:=∀{S:ar} {p:Addr} {cs:List Cl} {Q:bH} {E:cg},(∀c∈cs,0 < c.y/\c.y ∣ 2520)->S p=some (.lst (cs.map dB))->Q (.int (qe 1 (cs.map (·.y)):Int)) S->w [.ref p] S Q E
def ii{a:Nat}(h:a ∣ 2520):a<=2520:=Nat.le_of_dvd (by decide) h
def Fl{xc:aF}(Ew:iW xc):kI (bj 3 (cX xc)):=by
 intro S p cs Q E hc hp k
 unfold cX
 refine fK ?_
 rw[show az 3 [PV.ref p]=[some (.ref p),none,none] from rfl]
 refine aB fun N hN=>?_
 walk_at "x"
 refine hN _ _ (aB fun N hN=>?_)
 simp only[bM,aO,v3,lk,bY,hp]
 refine bJ (fun done σ S'=>S'=S/\∃x2,σ=[some (.ref p),some (.int (qe 1 ((cs.take done.length).map (·.y)):Int)),x2]) ⟨rfl,_,rfl⟩ (fun _ _ _ ⟨e,_⟩=>by rw[e];exact hp) ?_ ?_
 ·rintro done x rest σ S' K e ⟨rfl,x2,rfl⟩ hK
  have hget:(cs.map dB)[done.length]?=some x:=by rw[e];simp
  obtain⟨c,hc1,rfl⟩:∃c,cs[done.length]?=some c/\dB c=x:=by rw[List.getElem?_map]at hget;exact Option.map_eq_some_iff.mp hget
  have hy:=hc c (List.mem_of_getElem? hc1)
  have ok:=jo 2520 (by decide) ((cs.take done.length).map (·.y)) 1 (by decide) (Nat.one_dvd _) fun y hy=>by
   obtain⟨c,h,rfl⟩:=List.mem_map.mp hy
   exact hc c (List.mem_of_mem_take h)
  have l1:=ii ok.2.1
  have l2:=ii hy.2
  have en:qe 1 ((cs.take (done++[dB c]).length).map (·.y))=Nat.lcm (qe 1 ((cs.take done.length).map (·.y))) c.y:=by
   rw[List.length_append,List.length_singleton,List.take_succ,hc1,List.map_append]
   unfold qe
   rw[List.foldl_append]
   rfl
  generalize qe 1 ((cs.take done.length).map (·.y))=f at ok l1 en
  simp only[Tg.put,List.set_cons_succ,List.set_cons_zero,ap,dB]
  walk_at "x"
  simp only[pV]
  refine⟨mZ (by omega) (by omega),?_⟩
  refine Ew (by omega) ?_
  have gp:0 < Int.gcd (f:Int) (c.y:Int):=M3.d0 (by omega)
  have gl:=M3.mP (t:=(f:Int)) (b:=(c.y:Int)) (by omega)
  refine⟨xK (by omega) (by omega),?_⟩
  rw[sA,<-en]
  exact hK _ _ ⟨rfl,_,rfl⟩
 ·rintro σ S' ⟨rfl,x2,rfl⟩
  rw[List.length_map,List.take_length]
  refine hN _ _ ?_
  walk_at "x"
  exact k
noncomputable def w1(d:Nat)(c:Cl):Int:=if c.who=some d then 1 else 0
noncomputable def ij(cs:List Cl)(k:Nat)(mix:Vu)(d:Nat):List Int:=cs.map (w1 d)++List.replicate k 0++[mix.getD d 0]
noncomputable def ik(cs:List Cl)(k:Nat)(t:Nat):List Int:=cs.map (fun c=>- c.eff.getD t 0)++(List.range k).map (fun o=>if o=t then 1 else 0)++[0]
noncomputable def ni(cs:List Cl)(k cb:Nat):List Int:=cs.map (fun c=>- c.x * ((cb / c.y:Nat):Int))++List.replicate (k+1) 0
def sB(k:Nat):(List.replicate k [PV.int 0]).flatten=(List.replicate k (0:Int)).map PV.int:=by
 induction k with
 |zero=>rfl
 |succ k ih=>rw[List.replicate_succ,List.flatten_cons,ih,List.replicate_succ,List.map_cons];rfl
def FN{S:ar}{vs:List PV}{Q:bH}(k:∀p S',S p=none->Ext S S'->S' p=some (.lst vs)->Q (.ref p) S'):∀p,S p=none->Q (.ref p) (CG S p (.lst vs)):=fun p hp=>k p _ hp (.new hp) aa
def lS{S:ar}{a b:Addr}{xs ys:List PV}{Q:bH}(ha:S a=some (.lst xs))(hb:S b=some (.lst ys))(hl:xs.length+ys.length<=1000)(k:∀p S',S p=none->Ext S S'->S' p=some (.lst (xs++ys))->Q (.ref p) S'):aP (.ref a) (.ref b) S Q:=by
 simp only[aP,ha,hb]
 exact⟨aQ hl,FN k⟩
def zV{S:ar}{a:Addr}{k:Nat}{Q:bH}(ha:S a=some (.lst [.int 0]))(hk:k<=1000)(kk:∀p S',S p=none->Ext S S'->S' p=some (.lst ((List.replicate k (0:Int)).map PV.int))->Q (.ref p) S'):aL (.ref a) (.int (k:Int)) S Q:=by
 simp only[aL,ha]
 refine⟨by omega,by omega,aQ (by simp;omega),?_⟩
 rw[Int.toNat_natCast,sB]
 exact FN kk
def sC{α:Type}(f:α->Int)(xs:List α):(xs.map fun c=>PV.int (f c))=(xs.map f).map PV.int:=by rw[List.map_map];rfl
abbrev lT(w:aF):Prop:=∀{S:ar} {cs:List Cl} {k:Nat} {mix:Vu} {d:Nat} {Q:bH} {E:cg},cs.length<=500->k<=100->d < mix.length->(∀p S',S p=none->Ext S S'->S' p=some (.lst ((ij cs k mix d).map PV.int))->Q (.ref p) S')->w [.tup (cs.map Cl.pv),.int (k:Int),.tup (mix.map PV.int),.int (d:Int)] S Q E
def E7:lT (bj 4 dF):=by
 intro S cs k mix d Q E hc hk hd kk
 unfold dF
 refine fK ?_
 rw[show az 4 [.tup (cs.map Cl.pv),.int (k:Int),.tup (mix.map PV.int),.int (d:Int)]=[some (.tup (cs.map Cl.pv)),some (.int (k:Int)),some (.tup (mix.map PV.int)),some (.int (d:Int))] from rfl]
 simp only[aE,ah,aw,aO,v3,lk,bY]
 refine a7 Cl.pv (fun c=>.int (w1 d c)) trivial cs [] (fun c hc=>⟨_,rfl,fun Q' q=>?_⟩) (aQ (by simp;omega)) ?_
 ·simp only[bN,List.reduceReplicate,List.map_cons,List.map_nil,List.cons_append,List.nil_append,List.set_cons_zero,lB,cE,ah,v3,lk,c3,al,Cl.pv,lN]
  refine m_ ?_
  by_cases h:c.who=some d
  ·simp only[w1,h,decide_true,if_true]at q ⊢;exact q
  ·simp only[w1,h,decide_false,Bool.false_eq_true,if_false]at q ⊢;exact q
 rw[List.nil_append,sC (w1 d)]
 intro p1 hp1
 have X1:Ext S (CG S p1 (.lst ((cs.map (w1 d)).map PV.int))):=.new hp1
 have f1:(CG S p1 (.lst ((cs.map (w1 d)).map PV.int))) p1=some (.lst ((cs.map (w1 d)).map PV.int)):=aa
 generalize CG S p1 (.lst ((cs.map (w1 d)).map PV.int))=S1 at X1 f1
 simp only[cC,ag,c3]
 intro p2 hp2
 have X2:Ext S1 (CG S1 p2 (.lst [.int 0])):=.new hp2
 have f2:(CG S1 p2 (.lst [.int 0])) p2=some (.lst [.int 0]):=aa
 generalize CG S1 p2 (.lst [.int 0])=S2 at X2 f2
 refine zV f2 (by omega) fun p3 S3 hp3 X3 f3=>?_
 refine lS (X3 _ _ (X2 _ _ f1)) f3 (by simp;omega) fun p4 S4 HL X4 f4=>?_
 simp only[cC,ag,ah,v3,lk,al]
 rw[bE (v:=PV.int (mix.getD d 0)) (by rw[List.getElem?_map,List.getD_eq_getElem?_getD,List.getElem?_eq_getElem hd];rfl)]
 intro p5 HM
 have X5:Ext S4 (CG S4 p5 (.lst [.int (mix.getD d 0)])):=.new HM
 have f5:(CG S4 p5 (.lst [.int (mix.getD d 0)])) p5=some (.lst [.int (mix.getD d 0)]):=aa
 generalize CG S4 p5 (.lst [.int (mix.getD d 0)])=S5 at X5 f5
 refine lS (X5 _ _ f4) f5 (by simp;omega) fun p6 S6 Iu X6 f6=>?_
 have XA:=X1.trans (X2.trans (X3.trans (X4.trans X5)))
 refine kk p6 _ (XA.free Iu) (XA.trans X6) ?_
 rw[f6]
 unfold ij
 rw[List.map_append,List.map_append]
 rfl
abbrev lU(w:aF):Prop:=∀{S:ar} {cs:List Cl} {k t:Nat} {Q:bH} {E:cg},cs.length<=500->k<=100->t < k->(∀c∈cs,c.eff.length=k)->(∀p S',S p=none->Ext S S'->S' p=some (.lst ((ik cs k t).map PV.int))->Q (.ref p) S')->w [.tup (cs.map Cl.pv),.int (k:Int),.int (t:Int)] S Q E
def vM(k:Nat):bB 0 k=(List.range k).map fun o:Nat=>PV.int (o:Int):=by unfold bB;exact List.map_congr_left fun o _=>by simp
def E8:lU (bj 4 d_):=by
 intro S cs k t Q E hc hk ht he kk
 unfold d_
 refine fK ?_
 rw[show az 4 [.tup (cs.map Cl.pv),.int (k:Int),.int (t:Int)]=[some (.tup (cs.map Cl.pv)),some (.int (k:Int)),some (.int (t:Int)),none] from rfl]
 refine aB fun N hN=>?_
 simp only[ap,aw,bm,v3,lk]
 refine⟨by omega,by omega,?_⟩
 rw[Int.toNat_natCast,vM]
 refine a7 (fun o:Nat=>PV.int (o:Int)) (fun o:Nat=>.int (if o=t then 1 else 0)) trivial (List.range k) [] (fun o ho=>⟨_,rfl,fun Q' q=>?_⟩) (aQ (by simp;omega)) ?_
 ·simp only[bN,List.reduceReplicate,List.map_cons,List.map_nil,List.cons_append,List.nil_append,List.set_cons_zero,lB,cE,ah,v3,lk,c3,fQ,Bool.false_bne]
  by_cases h:o=t
  ·simp only[h,decide_true,if_true]at q ⊢;exact q
  ·have h2:¬((o:Int)=(t:Int)):=fun e=>h (Int.ofNat.inj e)
   simp only[h,h2,decide_false,Bool.false_eq_true,if_false]at q ⊢;exact q
 rw[List.nil_append,sC (fun o:Nat=>if o=t then (1:Int) else 0)]
 intro p1 hp1
 have X1:Ext S (CG S p1 (.lst (((List.range k).map fun o:Nat=>if o=t then (1:Int) else 0).map PV.int))):=.new hp1
 have f1:(CG S p1 (.lst (((List.range k).map fun o:Nat=>if o=t then (1:Int) else 0).map PV.int))) p1=some (.lst (((List.range k).map fun o:Nat=>if o=t then (1:Int) else 0).map PV.int)):=aa
 generalize CG S p1 (.lst (((List.range k).map fun o:Nat=>if o=t then (1:Int) else 0).map PV.int))=S1 at X1 f1
 simp only[List.set_cons_succ,List.set_cons_zero]
 refine hN _ _ ?_
 simp only[aE,ah,aw,aO,v3,lk,bY]
 refine a7 Cl.pv (fun c=>.int (- c.eff.getD t 0)) trivial cs [] (fun c hc=>⟨_,rfl,fun Q' q=>?_⟩) (aQ (by simp;omega)) ?_
 ·simp only[bN,List.reduceReplicate,List.map_cons,List.map_nil,List.cons_append,List.nil_append,List.set_cons_zero,iC,cP,ah,v3,lk,c3,al,Cl.pv,zI]
  rw[bE (v:=PV.int (c.eff.getD t 0)) (by rw[List.getElem?_map,List.getD_eq_getElem?_getD,List.getElem?_eq_getElem (by rw[he c hc];exact ht)];rfl)]
  exact q
 rw[List.nil_append,sC (fun c:Cl=>- c.eff.getD t 0)]
 intro p2 hp2
 have X2:Ext S1 (CG S1 p2 (.lst ((cs.map fun c:Cl=>- c.eff.getD t 0).map PV.int))):=.new hp2
 have f2:(CG S1 p2 (.lst ((cs.map fun c:Cl=>- c.eff.getD t 0).map PV.int))) p2=some (.lst ((cs.map fun c:Cl=>- c.eff.getD t 0).map PV.int)):=aa
 generalize CG S1 p2 (.lst ((cs.map fun c:Cl=>- c.eff.getD t 0).map PV.int))=S2 at X2 f2
 refine lS f2 (X2 _ _ f1) (by simp;omega) fun p3 S3 hp3 X3 f3=>?_
 simp only[cC,ag,c3]
 intro p4 HL
 have X4:Ext S3 (CG S3 p4 (.lst [.int 0])):=.new HL
 have f4:(CG S3 p4 (.lst [.int 0])) p4=some (.lst [.int 0]):=aa
 generalize CG S3 p4 (.lst [.int 0])=S4 at X4 f4
 refine lS (X4 _ _ f3) f4 (by simp;omega) fun p5 S5 HM X5 f5=>?_
 have XA:=X1.trans (X2.trans (X3.trans X4))
 refine kk p5 _ (XA.free HM) (XA.trans X5) ?_
 rw[f5]
 unfold ik
 rw[List.map_append,List.map_append]
 rfl
noncomputable def kJ(row ch:Vu)(c:Nat)(q:Int):List Int:=List.zipWith (fun one other=>(one * ch.getD c 0 - row.getD c 0 * other).fdiv q) row ch
abbrev lV(w:aF):Prop:=∀{S:ar} {a b:Addr} {row ch:Vu} {c:Nat} {q:Int} {Q:bH} {E:cg},S a=some (.lst (row.map PV.int))->S b=some (.lst (ch.map PV.int))->row.length=ch.length->row.length<=1000->c < row.length->q≠0->Sz q->(∀x∈row,Sz x)->(∀x∈ch,Sz x)->(∀p S',S p=none->Ext S S'->S' p=some (.lst ((kJ row ch c q).map PV.int))->Q (.ref p) S')->w [.ref a,.ref b,.int (c:Int),.int q] S Q E
def E9:lV (bj 4 h_):=by
 intro S a b row ch c q Q E ha hb hl hn hc hq Gd hr hch kk
 unfold h_
 refine fK ?_
 rw[show az 4 [.ref a,.ref b,.int (c:Int),.int q]=[some (.ref a),some (.ref b),some (.int (c:Int)),some (.int q)] from rfl]
 simp only[aE,aw,fe,v3,lk,ha,hb]
 have er:atI (row.map PV.int) (c:Int)=some (.int (row.getD c 0)):=bE (by rw[List.getElem?_map,List.getD_eq_getElem?_getD,List.getElem?_eq_getElem hc];rfl)
 have ec:atI (ch.map PV.int) (c:Int)=some (.int (ch.getD c 0)):=bE (by rw[List.getElem?_map,List.getD_eq_getElem?_getD,List.getElem?_eq_getElem (by omega)];rfl)
 have mr:row.getD c 0∈row:=by rw[List.getD_eq_getElem?_getD,List.getElem?_eq_getElem hc];exact List.getElem_mem hc
 have mc:ch.getD c 0∈ch:=by rw[List.getD_eq_getElem?_getD,List.getElem?_eq_getElem (show c < ch.length by omega)];exact List.getElem_mem _
 have ez:aX (row.map PV.int) (ch.map PV.int)=(row.zip ch).map fun z=>PV.tup [.int z.1,.int z.2]:=by unfold aX;rw[List.zip_map,List.map_map];rfl
 rw[ez]
 refine a7 (fun z:Int×Int=>PV.tup [.int z.1,.int z.2]) (fun z=>.int ((z.1 * ch.getD c 0 - row.getD c 0 * z.2).fdiv q)) ⟨ha,hb⟩ (row.zip ch) [] (fun z hz=>⟨_,rfl,fun Q' q'=>?_⟩) (aQ (by simp;omega)) ?_
 ·obtain⟨z1,z2⟩:=z
  have hz':=List.of_mem_zip hz
  simp only[bN,List.reduceReplicate,List.map_cons,List.map_nil,List.cons_append,List.nil_append,List.set_cons_zero,List.set_cons_succ,ah,v3,lk,al,ha,hb,er,ec,aL,bn,cj,dA,eG]
  exact⟨(hr z1 hz'.1).mul (hch _ mc),(hr _ mr).mul (hch z2 hz'.2),Sz.div hq Gd,q'⟩
 rw[List.nil_append,sC (fun z:Int×Int=>(z.1 * ch.getD c 0 - row.getD c 0 * z.2).fdiv q)]
 refine FN fun p S' hp X f=>kk p S' hp X ?_
 rw[f]
 unfold kJ
 rw[List.zip,List.map_zipWith]
end CW
namespace Wg
noncomputable def sm:Nat->(Nat->Int)->Int
 |0,_=>0
 |n+1,f=>sm n f+f n
def am{n:Nat}{f g:Nat->Int}(h:∀i,i < n->f i=g i):sm n f=sm n g:=by
 induction n with
 |zero=>rfl
 |succ n ih=>simp only[sm];rw[ih fun i hi=>h i (by omega),h n (by omega)]
def aU{n:Nat}{f:Nat->Int}(h:∀i,i < n->f i=0):sm n f=0:=by
 induction n with
 |zero=>rfl
 |succ n ih=>simp only[sm];rw[ih fun i hi=>h i (by omega),h n (by omega)];rfl
def fi(n:Nat)(f g:Nat->Int):sm n (fun i=>f i+g i)=sm n f+sm n g:=by
 induction n with
 |zero=>rfl
 |succ n ih=>simp only[sm,ih];omega
def a_(n:Nat)(c:Int)(f:Nat->Int):sm n (fun i=>c * f i)=c * sm n f:=by
 induction n with
 |zero=>simp[sm]
 |succ n ih=>simp only[sm,ih,Int.mul_add]
def sD(n:Nat)(a b:Int)(f g:Nat->Int):sm n (fun i=>a * f i+b * g i)=a * sm n f+b * sm n g:=by rw[fi,a_,a_]
def fj(n:Nat)(f:Nat->Int):sm n (fun i=>- f i) = - sm n f:=by
 have:=a_ n (-1) f
 simpa using this
def bc{n i:Nat}{f:Nat->Int}(hi:i < n)(h:∀j,j < n->j≠i->f j=0):sm n f=f i:=by
 induction n with
 |zero=>omega
 |succ n ih=>
  simp only[sm]
  by_cases e:i=n
  ·subst e;rw[aU fun j hj=>h j (by omega) (by omega)];omega
  ·rw[ih (by omega) fun j hj hne=>h j (by omega) hne,h n (by omega) (fun e'=>e e'.symm)];omega
def sE{n i j:Nat}{f:Nat->Int}(hi:i < n)(hj:j < n)(hne:i≠j)(h:∀l,l < n->l≠i->l≠j->f l=0):sm n f=f i+f j:=by
 have e:∀l,l < n->f l=(if l=i then f l else 0)+(if l=i then 0 else f l):=fun l _=>by split<;>omega
 rw[am e,fi,bc hi (fun l _ hl=>if_neg hl),bc hj (fun l hl KS=>by by_cases e:l=i;rw[if_pos e];rw[if_neg e];exact h l hl e KS),if_pos rfl,if_neg (Ne.symm hne)]
def gH(n m:Nat)(f:Nat->Nat->Int):sm n (fun i=>sm m fun j=>f i j)=sm m fun j=>sm n fun i=>f i j:=by
 induction n with
 |zero=>exact(aU fun _ _=>rfl).symm
 |succ n ih=>simp only[sm];rw[ih,<-fi]
def dP{n:Nat}{f:Nat->Int}(h:∀i,i < n->0<=f i):0<=sm n f:=by
 induction n with
 |zero=>exact Int.le_refl _
 |succ n ih=>simp only[sm];have:=ih fun i hi=>h i (by omega);have:=h n (by omega);omega
def zW{n:Nat}{f g:Nat->Int}(h:∀i,i < n->f i<=g i):sm n f<=sm n g:=by
 induction n with
 |zero=>exact Int.le_refl _
 |succ n ih=>simp only[sm];have:=ih fun i hi=>h i (by omega);have:=h n (by omega);omega
def nj{n:Nat}{f:Nat->Int}(h:0 < sm n f):∃i,i < n/\0 < f i:=by
 induction n with
 |zero=>simp[sm]at h
 |succ n ih=>
  simp only[sm]at h
  by_cases e:0 < f n
  ·exact⟨n,by omega,e⟩
  ·obtain⟨i,hi,h⟩:=ih (by omega);exact⟨i,by omega,h⟩
abbrev Vc:=Nat->Int
noncomputable def ud(b:Nat->Vc)(i:Nat)(v:Vc):Nat->Vc:=fun l=>if l=i then v else b l
def aA(b:Nat->Vc)(i:Nat)(v:Vc):ud b i v i=v:=if_pos rfl
def aT{b:Nat->Vc}{i l:Nat}{v:Vc}(h:l≠i):ud b i v l=b l:=if_neg h
noncomputable def sk(i:Nat)(b:Nat->Vc):Nat->Vc:=fun l=>b (if l < i then l else l+1)
noncomputable def sg(n:Nat):Int:=if n % 2=0 then 1 else -1
def uV(n:Nat):sg (n+1) = - sg n:=by unfold sg;split<;>split<;>first|rfl|omega
def zX(n:Nat):sg (n+n)=1:=by unfold sg;rw[if_pos (by omega)]
noncomputable def dt:Nat->(Nat->Vc)->Int
 |0,_=>1
 |M+1,b=>sm (M+1) fun i=>sg (i+M) * b i M * dt M (sk i b)
theorem b6:∀{M:Nat} {b c:Nat->Vc},(∀i k,i < M->k < M->b i k=c i k)->dt M b=dt M c
 |0,_,_,_=>rfl
 |M+1,b,c,h=>by
  simp only[dt]
  refine am fun i hi=>?_
  rw[h i M hi (by omega),b6 (b:=sk i b) (c:=sk i c) fun l k hl hk=>h _ k (by split<;>omega) (by omega)]
def kK(i:Nat)(b:Nat->Vc)(v:Vc):sk i (ud b i v)=sk i b:=by
 funext l
 unfold sk ud
 rw[if_neg (by split<;>omega)]
noncomputable def pl(l i:Nat):Nat:=if i < l then i else i - 1
def sF{l i:Nat}(h:i≠l)(b:Nat->Vc)(v:Vc):sk l (ud b i v)=ud (sk l b) (pl l i) v:=by
 funext x
 show(if (if x < l then x else x+1)=i then v else b (if x < l then x else x+1))=if x=pl l i then v else b (if x < l then x else x+1)
 have:((if x < l then x else x+1)=i)↔(x=pl l i):=by unfold pl;split<;>split<;>omega
 simp only[this]
theorem il:∀(M:Nat) (b:Nat->Vc) (i:Nat) (u v:Vc) (x y:Int),i < M->dt M (ud b i fun k=>x * u k+y * v k)=x * dt M (ud b i u)+y * dt M (ud b i v)
 |0,_,_,_,_,_,_,h=>by omega
 |M+1,b,i,u,v,x,y,h=>by
  simp only[dt]
  rw[<-sD]
  refine am fun l hl=>?_
  by_cases e:l=i
  ·subst e
   rw[kK,kK,kK,aA,aA,aA]
   simp only[Int.mul_add,Int.add_mul]
   rw[show sg (l+M) * (x * u M)=x * (sg (l+M) * u M) by rw[<-Int.mul_assoc,Int.mul_comm _ x,Int.mul_assoc],show sg (l+M) * (y * v M)=y * (sg (l+M) * v M) by rw[<-Int.mul_assoc,Int.mul_comm _ y,Int.mul_assoc],Int.mul_assoc x,Int.mul_assoc y]
  ·rw[aT e,aT e,aT e,sF (Ne.symm e),sF (Ne.symm e),sF (Ne.symm e),il M (sk l b) (pl l i) u v x y (by unfold pl;split<;>omega)]
   grind
def gJ{M:Nat}{b:Nat->Vc}{i:Nat}{u:Vc}{x:Int}(h:i < M):dt M (ud b i fun k=>x * u k)=x * dt M (ud b i u):=by
 have:=il M b i u u x 0 h
 rw[Int.zero_mul,Int.add_zero]at this
 rw[<-this]
 exact b6 fun l k _ _=>by unfold ud;split<;>simp
theorem jp{M:Nat}(b:Nat->Vc){i:Nat}(h:i < M)(c:Nat->Int)(v:Nat->Vc):∀n,dt M (ud b i fun k=>sm n fun l=>c l * v l k)=sm n fun l=>c l * dt M (ud b i (v l))
 |0=>by
  have:=gJ (M:=M) (b:=b) (i:=i) (u:=fun _=>0) (x:=0) h
  simpa [sm]using this
 |n+1=>by
  have:=il M b i (fun k=>sm n fun l=>c l * v l k) (v n) 1 (c n) h
  simp only[sm]
  rw[<-jp b h c v n,<-Int.one_mul (dt M (ud b i fun k=>sm n fun l=>c l * v l k)),<-this]
  exact b6 fun l k _ _=>by unfold ud;split<;>simp
theorem kL:∀(M:Nat) (b:Nat->Vc) (i:Nat),i+1 < M->(∀k,b i k=b (i+1) k)->dt M b=0
 |0,_,_,h,_=>by omega
 |M+1,b,i,h,e=>by
  simp only[dt]
  rw[sE (i:=i) (j:=i+1) (by omega) h (by omega)]
  ·have es:sk i b=sk (i+1) b:=by
    funext l
    funext k
    unfold sk
    by_cases h1:l < i
    ·rw[if_pos h1,if_pos (by omega)]
    ·by_cases h2:l=i
     ·subst h2;rw[if_neg (by omega),if_pos (by omega)];exact(e k).symm
     ·rw[if_neg h1,if_neg (by omega)]
   rw[es,e M,show i+1+M=i+M+1 by omega,uV]
   rw[Int.neg_mul,Int.neg_mul]
   omega
  ·intro l hl h1 h2
   have z:dt M (sk l b)=0:=by
    by_cases hlt:l < i
    ·refine kL M (sk l b) (i - 1) (by omega) fun k=>?_
     unfold sk
     rw[if_neg (by omega),if_neg (by omega),show i - 1+1=i by omega]
     exact e k
    ·refine kL M (sk l b) i (by omega) fun k=>?_
     unfold sk
     rw[if_pos (by omega),if_pos (by omega)]
     exact e k
   rw[z,Int.mul_zero]
noncomputable def sw(b:Nat->Vc)(i j:Nat):Nat->Vc:=ud (ud b i (b j)) j (b i)
def ow{b:Nat->Vc}{i j:Nat}{u v:Vc}(h:i≠j):ud (ud b i u) j v=ud (ud b j v) i u:=by
 funext l;unfold ud
 by_cases e1:l=i
 ·subst e1;rw[if_neg h,if_pos rfl,if_pos rfl]
 ·by_cases e2:l=j
  ·rw[if_pos e2,if_neg e1,if_pos e2]
  ·rw[if_neg e2,if_neg e1,if_neg e1,if_neg e2]
def ox(b:Nat->Vc)(i:Nat):ud b i (b i)=b:=by funext l;unfold ud;split<;>simp_all
def lW{M i j:Nat}(hi:i < M)(hj:j < M)(hne:i≠j)(alt:∀b:Nat->Vc,(∀k,b i k=b j k)->dt M b=0)(b:Nat->Vc):dt M (sw b i j) = - dt M b:=by
 have s1:=il M (ud b j fun k=>b i k+b j k) i (b i) (b j) 1 1 hi
 have z:dt M (ud (ud b j fun k=>b i k+b j k) i fun k=>1 * b i k+1 * b j k)=0:=alt _ fun k=>by
  rw[aA,aT (Ne.symm hne),aA];omega
 rw[z]at s1
 have s2:=il M (ud b i (b i)) j (b i) (b j) 1 1 hj
 have s3:=il M (ud b i (b j)) j (b i) (b j) 1 1 hj
 have e1:∀u:Vc,ud (ud b j fun k=>b i k+b j k) i u=ud (ud b i u) j fun k=>1 * b i k+1 * b j k:=fun u=>by
  rw[ow (Ne.symm hne)]
  have:(fun k=>b i k+b j k)=fun k=>1 * b i k+1 * b j k:=by funext k;omega
  rw[this]
 rw[e1,e1,s2,s3]at s1
 have z1:dt M (ud (ud b i (b i)) j (b i))=0:=alt _ fun k=>by rw[aT hne,aA,aA]
 have z2:dt M (ud (ud b i (b j)) j (b j))=0:=alt _ fun k=>by rw[aT hne,aA,aA]
 rw[z1,z2,ox,ox]at s1
 unfold sw
 omega
theorem nk:∀(d:Nat) (M:Nat) (b:Nat->Vc) (i:Nat),i+1+d < M->(∀k,b i k=b (i+1+d) k)->dt M b=0
 |0,M,b,i,h,e=>kL M b i h e
 |d+1,M,b,i,h,e=>by
  have s:=lW (M:=M) (i:=i+1+d) (j:=i+1+d+1) (by omega) (by omega) (by omega) (fun b e=>kL M b (i+1+d) (by omega) e) b
  have z:=nk d M (sw b (i+1+d) (i+1+d+1)) i (by omega) fun k=>by
   unfold sw
   rw[aT (by omega),aT (by omega),aT (by omega),aA]
   exact e k
  rw[z]at s
  omega
def sG{M i j:Nat}(hi:i < M)(hj:j < M)(hne:i≠j)(b:Nat->Vc)(e:∀k,b i k=b j k):dt M b=0:=by
 by_cases h:i < j
 ·obtain⟨d,rfl⟩:∃d,j=i+1+d:=⟨j - i - 1,by omega⟩
  exact nk d M b i hj e
 ·obtain⟨d,rfl⟩:∃d,i=j+1+d:=⟨i - j - 1,by omega⟩
  exact nk d M b j hi fun k=>(e k).symm
def zY{M i j:Nat}(hi:i < M)(hj:j < M)(hne:i≠j)(b:Nat->Vc):dt M (sw b i j) = - dt M b:=lW hi hj hne (fun b e=>sG hi hj hne b e) b
noncomputable def eu(i:Nat):Vc:=fun k=>if k=i then 1 else 0
theorem vN:∀(M:Nat) (b:Nat->Vc),(∀i k,i < M->k < M->b i k=eu i k)->dt M b=1
 |0,_,_=>rfl
 |M+1,b,h=>by
  simp only[dt]
  rw[bc (i:=M) (by omega),zX,h M M (by omega) (by omega)]
  ·rw[vN M (sk M b) fun i k hi hk=>by unfold sk;rw[if_pos hi];exact h i k (by omega) (by omega)]
   simp[eu]
  ·intro j hj hne
   rw[h j M hj (by omega)]
   unfold eu
   rw[if_neg (fun e=>hne e.symm),Int.mul_zero,Int.zero_mul]
noncomputable def cl(A:Nat->Nat->Int)(j:Nat):Vc:=fun k=>A k j
structure Tab (m N:Nat) (A T:Nat->Nat->Int) (b:Nat->Vc) (q:Int):Prop where
 HN:∀j k,j < N->k<=m->q * A k j=sm (m+1) fun i=>T i j * b i k
 det:dt (m+1) b=q
 pos:0 < q
 gl:∀k,b m k=eu m k
def vO{q x y:Int}(h:0 < q)(e:q * x=q * y):x=y:=Int.eq_of_mul_eq_mul_left (by omega) e
section
variable {m N:Nat} {A T:Nat->Nat->Int} {b:Nat->Vc} {q:Int}
def Tab.Iw(h:Tab m N A T b q){i l:Nat}(hi:i<=m)(hl:l<=m):dt (m+1) (ud b i (b l))=if l=i then q else 0:=by
 by_cases e:l=i
 ·subst e;rw[if_pos rfl,ox,h.det]
 ·rw[if_neg e]
  exact sG (i:=i) (j:=l) (by omega) (by omega) (Ne.symm e) _ fun k=>by rw[aA,aT e]
def Tab.ent(h:Tab m N A T b q){i j:Nat}(hi:i<=m)(hj:j < N):T i j=dt (m+1) (ud b i (cl A j)):=by
 have e1:q * dt (m+1) (ud b i (cl A j))=dt (m+1) (ud b i fun k=>sm (m+1) fun l=>T l j * b l k):=by
  rw[<-gJ (by omega)]
  refine b6 fun l k hl hk=>?_
  by_cases e:l=i
  ·subst e;rw[aA,aA];exact h.HN j k hj (by omega)
  ·rw[aT e,aT e]
 rw[jp b (by omega),bc (i:=i) (by omega) (fun l hl hne=>by rw[h.Iw hi (by omega),if_neg hne,Int.mul_zero]),h.Iw hi hi,if_pos rfl]at e1
 exact(vO h.pos (by rw[e1,Int.mul_comm])).symm
def Tab.Fr(h:Tab m N A T b q){l p:Nat}(hl:l < m)(hp:p < N)(hb:∀k,k<=m->b l k=A k p){i:Nat}(hi:i<=m):T i p=if i=l then q else 0:=by
 rw[h.ent hi hp,show(if i=l then q else 0)=if l=i then q else 0 by by_cases e:i=l;rw[if_pos e,if_pos e.symm];rw[if_neg e,if_neg (Ne.symm e)],<-h.Iw hi (by omega:l<=m)]
 refine b6 fun x k hx hk=>?_
 by_cases e:x=i
 ·subst e;rw[aA,aA];exact(hb k (by omega)).symm
 ·rw[aT e,aT e]
def Tab.rows(h:Tab m N A T b q)(x:Nat->Int)(hx:∀k,k < m->sm N (fun j=>A k j * x j)=0) :
  (∀i,i < m->sm N (fun j=>T i j * x j)=0)/\sm N (fun j=>T m j * x j)=q * sm N (fun j=>A m j * x j):=by
 have key:∀i,i<=m->sm N (fun j=>T i j * x j)=sm N (fun j=>A m j * x j) * if m=i then q else 0:=fun i hi=>by
  rw[<-h.Iw hi (Nat.le_refl m),<-gJ (by omega),am (g:=fun j=>x j * dt (m+1) (ud b i (cl A j))) (fun j hj=>by rw[h.ent hi hj,Int.mul_comm]),<-jp b (by omega)]
  refine b6 fun l k hl hk=>?_
  by_cases e:l=i
  ·subst e
   rw[aA,aA,h.gl k]
   unfold eu
   by_cases ek:k=m
   ·subst ek;rw[if_pos rfl,Int.mul_one];exact am fun j _=>Int.mul_comm _ _
   ·rw[if_neg ek,Int.mul_zero,<-hx k (by omega)];exact am fun j _=>Int.mul_comm _ _
  ·rw[aT e,aT e]
 refine⟨fun i hi=>?_,?_⟩
 ·rw[key i (by omega),if_neg (by omega),Int.mul_zero]
 ·rw[key m (Nat.le_refl _),if_pos rfl,Int.mul_comm]
def Tab.back(h:Tab m N A T b q)(x:Nat->Int)(hx:∀i,i < m->sm N (fun j=>T i j * x j)=0) :
  (∀k,k < m->sm N (fun j=>A k j * x j)=0)/\q * sm N (fun j=>A m j * x j)=sm N (fun j=>T m j * x j):=by
 have key:∀k,k<=m->q * sm N (fun j=>A k j * x j)=b m k * sm N (fun j=>T m j * x j):=fun k hk=>by
  rw[<-a_,am (g:=fun j=>sm (m+1) fun i=>b i k * (T i j * x j)) (fun j hj=>by
   rw[<-Int.mul_assoc,h.HN j k hj hk,Int.mul_comm,<-a_];exact am fun i _=>by grind),gH]
  rw[am (g:=fun i=>b i k * sm N fun j=>T i j * x j) (fun i _=>a_ _ _ _),bc (i:=m) (by omega)]
  intro i hi hne
  rw[hx i (by omega),Int.mul_zero]
 refine⟨fun k hk=>?_,?_⟩
 ·have:=key k (by omega)
  rw[h.gl k]at this
  unfold eu at this
  rw[if_neg (by omega),Int.zero_mul]at this
  exact vO h.pos (by rw[this,Int.mul_zero])
 ·have:=key m (Nat.le_refl _)
  rw[h.gl m]at this
  unfold eu at this
  rw[if_pos rfl,Int.one_mul]at this
  exact this
def Tab.Ey(h:Tab m N A T b q){r c:Nat}(hr:r < m)(hc:c < N)(hp:0 < T r c){T2:Nat->Nat->Int}(h1:∀j,j < N->T2 r j=T r j)(h2:∀i j,i<=m->i≠r->j < N->T2 i j=(T i j * T r c - T i c * T r j).fdiv q) :
  (∀i j,i<=m->i≠r->j < N->q * T2 i j=T i j * T r c - T i c * T r j)/\Tab m N A T2 (ud b r (cl A c)) (T r c):=by
 have d':dt (m+1) (ud b r (cl A c))=T r c:=(h.ent (by omega) hc).symm
 have whole:∀i j,i<=m->i≠r->j < N->q * dt (m+1) (ud (ud b r (cl A c)) i (cl A j))=T i j * T r c - T i c * T r j:=fun i j hi hne hj=>by
  have e1:q * dt (m+1) (ud (ud b r (cl A c)) i (cl A j))=dt (m+1) (ud (ud b r (cl A c)) i fun k=>sm (m+1) fun l=>T l j * b l k):=by
   rw[<-gJ (by omega)]
   refine b6 fun l k hl hk=>?_
   by_cases e:l=i
   ·subst e;rw[aA,aA];exact h.HN j k hj (by omega)
   ·rw[aT e,aT e]
  rw[e1,jp _ (by omega),sE (i:=i) (j:=r) (by omega) (by omega) hne]
  ·have ei:dt (m+1) (ud (ud b r (cl A c)) i (b i))=T r c:=by
    rw[ow (Ne.symm hne),ox];exact d'
   have er:dt (m+1) (ud (ud b r (cl A c)) i (b r)) = - T i c:=by
    rw[h.ent hi hc,<-zY (i:=i) (j:=r) (by omega) (by omega) hne]
    refine b6 fun l k hl hk=>?_
    unfold sw
    by_cases e:l=r
    ·subst e;rw[aA,aA,aT (Ne.symm hne),aA]
    ·rw[aT (i:=r) e]
     by_cases e2:l=i
     ·subst e2;rw[aA,aA,aT (Ne.symm hne)]
     ·rw[aT e2,aT e2,aT e,aT e2]
   rw[ei,er]
   grind
  ·intro l hl h3 h4
   rw[sG (i:=i) (j:=l) (by omega) (by omega) (Ne.symm h3) _ fun k=>by rw[aA,aT h3,aT h4],Int.mul_zero]
 have w2:∀i j,i<=m->i≠r->j < N->T2 i j=dt (m+1) (ud (ud b r (cl A c)) i (cl A j)):=fun i j hi hne hj=>by
  rw[h2 i j hi hne hj,<-whole i j hi hne hj,Int.mul_fdiv_cancel_left _ (by have:=h.pos;omega)]
 have w3:∀i j,i<=m->i≠r->j < N->q * T2 i j=T i j * T r c - T i c * T r j:=fun i j hi hne hj=>by rw[w2 i j hi hne hj];exact whole i j hi hne hj
 refine⟨w3,⟨fun j k hj hk=>?_,d',hp,fun k=>by rw[aT (by omega)];exact h.gl k⟩⟩
 refine vO h.pos ?_
 have s1:q * sm (m+1) (fun i=>T2 i j * ud b r (cl A c) i k)=sm (m+1) fun i=>(T r c * (T i j * b i k)+(- T r j) * (T i c * b i k))+if i=r then q * T r j * A k c else 0:=by
  rw[<-a_]
  refine am fun i hi=>?_
  by_cases e:i=r
  ·subst e
   rw[h1 j hj,aA,if_pos rfl]
   unfold cl
   grind
  ·rw[aT e,if_neg e,<-Int.mul_assoc,w3 i j (by omega) e hj]
   grind
 rw[s1,fi,sD,bc (i:=r) (by omega) (fun l _ hl=>if_neg hl),if_pos rfl,<-h.HN j k hj hk,<-h.HN c k hc hk]
 grind
end
structure Sx where
 T:Nat->Nat->Int
 held:Nat->Nat
 q:Int
noncomputable def Ey(s:Sx)(r c:Nat):Sx:=⟨fun i j=>if i=r then s.T r j else (s.T i j * s.T r c - s.T i c * s.T r j).fdiv s.q,fun i=>if i=r then c else s.held i,s.T r c⟩
structure Val (m V:Nat) (A:Nat->Nat->Int) (s:Sx) (b:Nat->Vc):Prop where
 tab:Tab m (V+1) A s.T b s.q
 hv:∀i,i < m->s.held i < V
 hb:∀i k,i < m->k<=m->b i k=A k (s.held i)
 fs:∀i,i < m->0<=s.T i V
section
variable {m V:Nat} {A:Nat->Nat->Int} {s:Sx} {b:Nat->Vc}
theorem Val.Fr(h:Val m V A s b){i l:Nat}(hi:i<=m)(hl:l < m):s.T i (s.held l)=if i=l then s.q else 0:=h.tab.Fr hl (by have:=h.hv l hl;omega) (fun k hk=>h.hb l k hl hk) hi
def Val.inj(h:Val m V A s b){i l:Nat}(hi:i < m)(hl:l < m)(e:s.held i=s.held l):i=l:=by
 have h1:=h.Fr (i:=i) (by omega) hi
 rw[e,h.Fr (by omega) hl,if_pos rfl]at h1
 by_cases e:i=l
 ·exact e
 ·rw[if_neg e]at h1;have:=h.tab.pos;omega
def iP(V:Nat)(s:Sx)(c i r:Nat):Prop:=s.T i V * s.T r c < s.T r V * s.T i c\/(s.T i V * s.T r c=s.T r V * s.T i c/\s.held i < s.held r)
structure Lv (m V:Nat) (s:Sx) (c r:Nat):Prop where
 lt:r < m
 ps:0 < s.T r c
 fst:∀i,i < m->0 < s.T i c->¬iP V s c i r
structure En (m V:Nat) (s:Sx) (c:Nat):Prop where
 lt:c < V
 ng:s.T m c < 0
 fst:∀j,j < c->0<=s.T m j
theorem Val.Ey(h:Val m V A s b){r c:Nat}(e:c < V)(l:Lv m V s c r):Val m V A (Ey s r c) (ud b r (cl A c))/\∀i j,i<=m->i≠r->j<=V->s.q * (Wg.Ey s r c).T i j=s.T i j * s.T r c - s.T i c * s.T r j:=by
 have hq:=h.tab.pos
 obtain⟨w,t⟩:=h.tab.Ey (T2:=(Wg.Ey s r c).T) l.lt (by omega:c < V+1) l.ps (fun j _=>if_pos rfl) (fun i j _ hne _=>if_neg hne)
 refine⟨⟨t,fun i hi=>?_,fun i k hi hk=>?_,fun i hi=>?_⟩,fun i j hi hne hj=>w i j hi hne (by omega)⟩
 ·show(if i=r then c else s.held i) < V
  split
  ·exact e
  ·exact h.hv i hi
 ·show _=A k (if i=r then c else s.held i)
  by_cases e:i=r
  ·subst e;rw[aA,if_pos rfl];rfl
  ·rw[aT e,if_neg e];exact h.hb i k hi hk
 ·by_cases e:i=r
  ·subst e;show 0<=(if i=i then s.T i V else _);rw[if_pos rfl];exact h.fs i hi
  ·have hw:=w i V (by omega) e (by omega)
   have nn:0<=s.T i V * s.T r c - s.T i c * s.T r V:=by
    have f1:=h.fs i hi
    have f2:=h.fs r l.lt
    have f3:=l.ps
    by_cases hp:0 < s.T i c
    ·have:=l.fst i hi hp
     unfold iP at this
     have:¬s.T i V * s.T r c < s.T r V * s.T i c:=fun h=>this (.inl h)
     rw[Int.mul_comm (s.T i c)]
     omega
    ·have a1:0<=s.T i V * s.T r c:=Int.mul_nonneg f1 (by omega)
     have a2:0<=(- s.T i c) * s.T r V:=Int.mul_nonneg (by omega) f2
     rw[Int.neg_mul]at a2
     omega
   rw[<-hw]at nn
   exact Int.nonneg_of_mul_nonneg_right nn hq |> fun h=>h
def Bs(m:Nat)(s:Sx)(j:Nat):Prop:=∃i,i < m/\s.held i=j
noncomputable def X(m V:Nat)(s:Sx)(j:Nat):Int:=sm m fun i=>if s.held i=j then s.T i V else 0
def Val.x(h:Val m V A s b){i:Nat}(hi:i < m):X m V s (s.held i)=s.T i V:=by
 unfold X
 rw[bc hi (fun l hl hne=>if_neg fun e=>hne (h.inj hl hi e)),if_pos rfl]
def sH{j:Nat}(h:¬Bs m s j):X m V s j=0:=aU fun i hi=>if_neg fun e=>h ⟨i,hi,e⟩
structure Rel (m V:Nat) (A:Nat->Nat->Int) (t:Nat) (s s':Sx):Prop where
 v1:∃b,Val m V A s b
 v2:∃b,Val m V A s' b
 x:∀j,X m V s j * s'.q=X m V s' j * s.q
 bs:∀j,t < j->(Bs m s j↔Bs m s' j)
theorem Rel.symm{t:Nat}{s s':Sx}(h:Rel m V A t s s'):Rel m V A t s' s:=⟨h.v2,h.v1,fun j=>(h.x j).symm,fun j hj=>(h.bs j hj).symm⟩
theorem Rel.trans{t:Nat}{s s' s2:Sx}(h:Rel m V A t s s')(g:Rel m V A t s' s2):Rel m V A t s s2:=⟨h.v1,g.v2,fun j=>by
 obtain⟨b,hb⟩:=h.v2
 have a:=h.x j
 have c:=g.x j
 refine vO hb.tab.pos ?_
 calc s'.q * (X m V s j * s2.q)=(X m V s j * s'.q) * s2.q:=by grind
  _=(X m V s' j * s2.q) * s.q:=by rw[a];grind
  _=_:=by rw[c];grind,fun j hj=>(h.bs j hj).trans (g.bs j hj)⟩
def Val.fresh(h:Val m V A s b){c:Nat}(hn:s.T m c < 0):¬Bs m s c:=fun⟨i,hi,e⟩=>by
 have:=h.Fr (Nat.le_refl m) hi
 rw[e,if_neg (by omega)]at this
 omega
def Rel.step(h:Val m V A s b){t r c:Nat}(e:En m V s c)(l:Lv m V s c r)(d:s.T r V=0)(hc:c<=t)(hr:s.held r<=t):Rel m V A t s (Wg.Ey s r c):=by
 obtain⟨v,w⟩:=h.Ey e.lt l
 refine⟨⟨b,h⟩,⟨_,v⟩,fun j=>?_,fun j hj=>⟨fun⟨i,hi,ei⟩=>⟨i,hi,?_⟩,fun⟨i,hi,ei⟩=>⟨i,hi,?_⟩⟩⟩
 ·unfold X
  rw[Int.mul_comm _ (Wg.Ey s r c).q,Int.mul_comm _ s.q,<-a_,<-a_]
  refine am fun i hi=>?_
  by_cases er:i=r
  ·subst er
   have z:(Wg.Ey s i c).T i V=0:=by show(if i=i then s.T i V else _)=0;rw[if_pos rfl];exact d
   rw[z,d]
   split<;>split<;>simp
  ·have eh:(Wg.Ey s r c).held i=s.held i:=if_neg er
   have ew:=w i V (by omega) er (Nat.le_refl _)
   rw[d,Int.mul_zero,Int.sub_zero]at ew
   rw[eh]
   split
   ·rw[ew,Int.mul_comm];rfl
   ·simp
 ·show(if i=r then c else s.held i)=j
  rw[if_neg fun er=>by subst er;omega];exact ei
 ·have ei:(if i=r then c else s.held i)=j:=ei
  by_cases er:i=r
  ·rw[if_pos er]at ei;omega
  ·rw[if_neg er]at ei;exact ei
def vP{s u:Sx}{t r c:Nat}(R:Rel m V A t s u)(e:En m V s c)(l:Lv m V s c r)(ht:s.held r=t)(hc:c<=t)(e2:En m V u t):False:=by
 obtain⟨b,h⟩:=R.v1
 obtain⟨b2,h2⟩:=R.v2
 have hne:c≠t:=fun ec=>h.fresh (by rw[<-ec];exact e.ng) ⟨r,l.lt,ht⟩
 have q1:=h.tab.pos
 have q2:=h2.tab.pos
 -- more of the place that comes in
 let y:Nat->Int:=fun j=>(if j=c then s.q else 0) - sm m fun i=>if s.held i=j then s.T i c else 0
 have along:∀F:Nat->Int,sm (V+1) (fun j=>F j * y j)=F c * s.q - sm m fun i=>F (s.held i) * s.T i c:=fun F=>by
  have e1:∀j,F j * y j=(if j=c then F j * s.q else 0)+sm m fun i=>-(if s.held i=j then F (s.held i) * s.T i c else 0):=fun j=>by
   show F j * ((if j=c then s.q else 0) - sm m fun i=>if s.held i=j then s.T i c else 0)=_
   rw[Int.mul_sub,<-a_,fj,Int.sub_eq_add_neg]
   congr 1
   ·split<;>simp
   ·congr 1
    refine am fun i _=>?_
    split
    ·rename_i e;rw[e]
    ·simp
  rw[am fun j _=>e1 j,fi,gH,bc (i:=c) (by have:=e.lt;omega) (fun j _ hj=>if_neg hj),if_pos rfl]
  rw[am (g:=fun i=>-(F (s.held i) * s.T i c)) (fun i hi=>by rw[fj,bc (i:=s.held i) (by have:=h.hv i hi;omega) (fun j _ hj=>if_neg fun e=>hj e.symm),if_pos rfl]),fj,Int.sub_eq_add_neg]
 have z1:∀i,i < m->sm (V+1) (fun j=>s.T i j * y j)=0:=fun i hi=>by
  rw[along (s.T i),bc hi (fun l hl hne=>by rw[h.Fr (by omega) hl,if_neg (Ne.symm hne),Int.zero_mul]),h.Fr (by omega) hi,if_pos rfl]
  rw[Int.mul_comm];omega
 have z2:sm (V+1) (fun j=>s.T m j * y j)=s.T m c * s.q:=by
  rw[along (s.T m),aU (fun l hl=>by rw[h.Fr (Nat.le_refl m) hl,if_neg (by omega),Int.zero_mul])];omega
 obtain⟨b1,b3⟩:=h.tab.back y z1
 obtain⟨_,b4⟩:=h2.tab.rows y b1
 rw[z2,Int.mul_comm _ s.q]at b3
 have b5:sm (V+1) (fun j=>A m j * y j)=s.T m c:=vO q1 b3
 rw[b5,along (u.T m)]at b4
 have f1:0<=u.T m c:=e2.fst c (by omega)
 have f2:u.q * s.T m c < 0:=by have:=Int.mul_pos q2 (show 0 < - s.T m c by have:=e.ng;omega);rw[Int.mul_neg]at this;omega
 have f3:0<=u.T m c * s.q:=Int.mul_nonneg f1 (by omega)
 obtain⟨i,hi,hp⟩:=nj (n:=m) (f:=fun i=>u.T m (s.held i) * s.T i c) (by omega)
 have Hm:u.T m (s.held i)≠0:=fun e0=>by rw[e0,Int.zero_mul]at hp;omega
 have nb:¬Bs m u (s.held i):=fun⟨l,hl,el⟩=>Hm (by rw[<-el,h2.Fr (Nat.le_refl m) hl,if_neg (by omega)])
 have hle:s.held i<=t:=Nat.not_lt.mp fun hlt=>nb ((R.bs _ hlt).mp ⟨i,hi,rfl⟩)
 have KU:i≠r:=fun er=>by
  subst er
  rw[ht]at hp
  have:=Int.mul_pos (show 0 < - u.T m t by have:=e2.ng;omega) l.ps
  rw[Int.neg_mul]at this
  omega
 have hlt:s.held i < t:=by
  have:s.held i≠t:=fun e0=>KU (h.inj hi l.lt (by rw[e0,ht]))
  omega
 have g1:0<=u.T m (s.held i):=e2.fst _ hlt
 have g2:0 < s.T i c:=by
  refine Int.not_le.mp fun hn=>?_
  have:=Int.mul_nonneg g1 (show 0 <= - s.T i c by omega)
  rw[Int.mul_neg]at this
  omega
 have x1:s.T i V=0:=by
  have:=R.x (s.held i)
  rw[h.x hi,sH nb,Int.zero_mul]at this
  rcases Int.mul_eq_zero.mp this with h|h
  ·exact h
  ·omega
 have x2:s.T r V=0:=by
  have:=R.x t
  rw[sH (h2.fresh e2.ng),<-ht,h.x l.lt,Int.zero_mul]at this
  rcases Int.mul_eq_zero.mp this with h|h
  ·exact h
  ·omega
 refine l.fst i hi g2 (.inr ⟨by rw[x1,x2,Int.zero_mul,Int.zero_mul],by rw[ht];exact hlt⟩)
end
section
variable (m V:Nat) (A:Nat->Nat->Int)
structure ye (s s':Sx) (c r:Nat):Prop where
 en:En m V s c
 lv:Lv m V s c r
 eq:s'=Ey s r c
noncomputable def Hn:Nat->Sx->Prop
 |0,s=>∀s' c r,¬ye m V s s' c r
 |n+1,s=>∀s' c r,ye m V s s' c r->Hn n s'
def Ed(s:Sx):Prop:=∃n,Hn m V n s
end
section
variable {m V:Nat} {A:Nat->Nat->Int}
def nq{s:Sx}{c d:Nat}(h:En m V s c)(g:En m V s d):c=d:=by
 have h1:=h.fst d
 have g1:=g.fst c
 have:=h.ng
 have:=g.ng
 by_cases h2:c < d
 ·have:=g1 h2;omega
 ·by_cases h3:d < c
  ·have:=h1 h3;omega
  ·omega
def nu{s:Sx}{b:Nat->Vc}(v:Val m V A s b){c r l:Nat}(h:Lv m V s c r)(g:Lv m V s c l):r=l:=by
 have h1:=h.fst l g.lt g.ps
 have g1:=g.fst r h.lt h.ps
 unfold iP at h1 g1
 rw[not_or,not_and]at h1 g1
 have e:s.T l V * s.T r c=s.T r V * s.T l c:=by omega
 have a:=h1.2 e
 have c:=g1.2 e.symm
 exact v.inj h.lt g.lt (by omega)
def Ed.of{s:Sx}{b:Nat->Vc}(v:Val m V A s b)(h:∀s' c r,ye m V s s' c r->Ed m V s'):Ed m V s:=by
 by_cases e:∃s' c r,ye m V s s' c r
 ·obtain⟨s',c,r,st⟩:=e
  obtain⟨n,hn⟩:=h s' c r st
  refine⟨n+1,fun s2 c2 r2 st2=>?_⟩
  have ec:=nq st.en st2.en
  subst ec
  have er:=nu v st.lv st2.lv
  subst er
  rw[st2.eq,<-st.eq]
  exact hn
 ·exact⟨0,fun s' c r st=>e ⟨s',c,r,st⟩⟩
inductive Rc (m V:Nat) (t:Nat):Sx->Sx->Prop
 |nil {s:Sx}:Rc m V t s s
 |snoc {s u u':Sx} {c r:Nat}:Rc m V t s u->ye m V u u' c r->u.T r V=0->c < t->u.held r < t->Rc m V t s u'
def Rc.mono{t t':Nat}(ht:t<=t'){s u:Sx}(h:Rc m V t s u):Rc m V t' s u:=by
 induction h with
 |nil=>exact .nil
 |snoc _ st d a c ih=>exact .snoc ih st d (by omega) (by omega)
def Rc.trans{t:Nat}{s u w:Sx}(h:Rc m V t s u)(g:Rc m V t u w):Rc m V t s w:=by
 induction g with
 |nil=>exact h
 |snoc _ st d a c ih=>exact .snoc ih st d a c
def Rc.rel{t:Nat}{s u:Sx}(v:∃b,Val m V A s b)(h:Rc m V (t+1) s u):Rel m V A t s u:=by
 induction h with
 |nil=>exact⟨v,v,fun _=>rfl,fun _ _=>Iff.rfl⟩
 |snoc _ st d a c ih=>
  obtain⟨b,hb⟩:=ih.v2
  have:=Rel.step (t:=t) hb st.en st.lv d (by omega) (by omega)
  rw[st.eq]
  exact ih.trans this
def Rc.keep{t:Nat}{s u:Sx}(h:Rc m V t s u){j:Nat}(hj:t<=j):Bs m s j↔Bs m u j:=by
 induction h with
 |nil=>exact Iff.rfl
 |@snoc u u' c r _ st d a cc ih=>
  refine ih.trans ?_
  rw[st.eq]
  constructor
  ·rintro⟨i,hi,ei⟩
   refine⟨i,hi,?_⟩
   show(if i=r then c else u.held i)=j
   rw[if_neg fun er=>by subst er;omega];exact ei
  ·rintro⟨i,hi,ei⟩
   have ei:(if i=r then c else u.held i)=j:=ei
   refine⟨i,hi,?_⟩
   by_cases er:i=r
   ·rw[if_pos er]at ei;omega
   ·rw[if_neg er]at ei;exact ei
def Rc.val{t:Nat}{s u:Sx}(v:∃b,Val m V A s b)(h:Rc m V t s u):∃b,Val m V A u b:=by
 induction h with
 |nil=>exact v
 |snoc _ st d a c ih=>obtain⟨b,hb⟩:=ih;rw[st.eq];exact⟨_,(hb.Ey st.en.lt st.lv).1⟩
def Rc.back{t:Nat}{s u:Sx}(v:∃b,Val m V A s b)(h:Rc m V t s u)(e:Ed m V u):Ed m V s:=by
 induction h with
 |nil=>exact e
 |@snoc u u' c r g st d a cc ih=>
  obtain⟨b,hb⟩:=g.val v
  refine ih (Ed.of hb fun s2 c2 r2 st2=>?_)
  have ec:=nq st.en st2.en
  subst ec
  have er:=nu hb st.lv st2.lv
  subst er
  rw[st2.eq,<-st.eq]
  exact e
def oy{s:Sx}{b:Nat->Vc}(v:Val m V A s b){c r:Nat}(e:En m V s c)(l:Lv m V s c r):s.q * (Ey s r c).T m V=s.T m V * s.T r c - s.T m c * s.T r V:=(v.Ey e.lt l).2 m V (Nat.le_refl _) (by have:=l.lt;omega) (Nat.le_refl _)
def uW{g0 q0:Int}(KW:0 < q0)(H:∀s b,Val m V A s b->g0 * s.q < s.T m V * q0->Ed m V s):∀(t:Nat) (s:Sx),(∃b,Val m V A s b)->s.T m V * q0=g0 * s.q->
  Ed m V s\/∃u u' c r,Rc m V t s u/\u.T m V * q0=g0 * u.q/\ye m V u u' c r/\u.T r V=0/\(t<=c\/t<=u.held r):=by
 intro t
 induction t with
 |zero=>
  intro s ⟨b,v⟩ hg
  by_cases e:∃s' c r,ye m V s s' c r
  ·obtain⟨s',c,r,st⟩:=e
   by_cases d:s.T r V=0
   ·exact .inr ⟨s,s',c,r,.nil,hg,st,d,.inl (Nat.zero_le _)⟩
   ·refine .inl (Ed.of v fun s2 c2 r2 st2=>?_)
    have ec:=nq st.en st2.en
    subst ec
    have er:=nu v st.lv st2.lv
    subst er
    obtain⟨v2,_⟩:=v.Ey st2.en.lt st2.lv
    rw[st2.eq]
    refine H _ _ v2 ?_
    have gw:=oy v st2.en st2.lv
    have q1:=v.tab.pos
    have f1:0 < s.T r V:=by have:=v.fs r st.lv.lt;omega
    have f2:0 < (- s.T m c) * s.T r V:=Int.mul_pos (by have:=st.en.ng;omega) f1
    rw[Int.neg_mul]at f2
    show g0 * s.T r c < (Ey s r c).T m V * q0
    refine Int.lt_of_mul_lt_mul_left (a:=s.q) ?_ (by omega)
    rw[<-Int.mul_assoc,<-Int.mul_assoc s.q ((Ey s r c).T m V),gw,Int.sub_mul]
    have e1:s.q * g0 * s.T r c=s.T m V * s.T r c * q0:=by
     rw[Int.mul_comm s.q,<-hg];grind
    have f3:0 < (- (s.T m c * s.T r V)) * q0:=Int.mul_pos (by omega) KW
    rw[Int.neg_mul]at f3
    omega
  ·exact .inl ⟨0,fun s' c r st=>e ⟨s',c,r,st⟩⟩
 |succ t ih=>
  intro s vs hg
  rcases ih s vs hg with h|⟨u,u',c,r,R,gu,st,d,ht⟩
  ·exact .inl h
  by_cases big:t+1<=c\/t+1<=u.held r
  ·exact .inr ⟨u,u',c,r,R.mono (by omega),gu,st,d,big⟩
  rw[not_or]at big
  obtain⟨b,vu⟩:=R.val vs
  have R1:Rc m V (t+1) s u':=(R.mono (by omega)).snoc st d (by omega) (by omega)
  obtain⟨b',Jr⟩:=R1.val vs
  have KY:u'.T m V * q0=g0 * u'.q:=by
   have gw:=oy vu st.en st.lv
   rw[d,Int.mul_zero,Int.sub_zero]at gw
   refine vO vu.tab.pos ?_
   rw[st.eq,<-Int.mul_assoc,gw]
   show u.T m V * u.T r c * q0=u.q * (g0 * u.T r c)
   have:u.T m V * u.T r c * q0=(u.T m V * q0) * u.T r c:=by grind
   rw[this,gu];grind
  rcases ih u' ⟨b',Jr⟩ KY with h|⟨w,w',c2,r2,R2,gw,st2,d2,ht2⟩
  ·exact .inl (R1.back vs h)
  by_cases HP:t+1<=c2\/t+1<=w.held r2
  ·exact .inr ⟨w,w',c2,r2,R1.trans (R2.mono (by omega)),gw,st2,d2,HP⟩
  rw[not_or]at HP
  exfalso
  obtain⟨bw,vw⟩:=R2.val ⟨b',Jr⟩
  have rel:Rel m V A t u w:=by
   have r1:=Rel.step (t:=t) vu st.en st.lv d (by omega) (by omega)
   rw[<-st.eq]at r1
   exact r1.trans ((R2.mono (Nat.le_succ t)).rel ⟨b',Jr⟩)
  have k1:=R2.keep (Nat.le_refl t)
  by_cases hc:c=t
  ·-- t comes in at u
   have b1:Bs m u' t:=by rw[st.eq];exact⟨r,st.lv.lt,by show(if r=r then c else _)=t;rw[if_pos rfl];exact hc⟩
   have b2:=k1.mp b1
   by_cases hc2:c2=t
   ·exact vw.fresh (by rw[<-hc2];exact st2.en.ng) b2
   ·have hr2:w.held r2=t:=by omega
    exact vP rel.symm st2.en st2.lv hr2 (by omega) (by rw[<-hc];exact st.en)
  ·-- t goes out at u
   have hr:u.held r=t:=by omega
   have b1:¬Bs m u' t:=by
    rw[st.eq]
    rintro⟨i,hi,ei⟩
    have ei:(if i=r then c else u.held i)=t:=ei
    by_cases er:i=r
    ·rw[if_pos er]at ei;exact hc ei
    ·rw[if_neg er]at ei;exact er (vu.inj hi st.lv.lt (by rw[ei,hr]))
   by_cases hc2:c2=t
   ·exact vP rel st.en st.lv hr (by omega) (by rw[<-hc2];exact st2.en)
   ·have hr2:w.held r2=t:=by omega
    exact b1 (k1.mpr ⟨r2,st2.lv.lt,hr2⟩)
end
end Wg
namespace CW
open PySem L2 L3 Wd
open C
noncomputable def bF(R H:Addr)(q:Int):List (Str×PV):=[("rows",.ref R),("held",.ref H),("bottom",.int q)]
def fk(R H:Addr)(q:Int):(bF R H q).lookup ("rows":Str)=some (.ref R):=rfl
def kM(R H:Addr)(q:Int):(bF R H q).lookup ("held":Str)=some (.ref H):=rfl
def sI(R H:Addr)(q:Int):(bF R H q).lookup ("bottom":Str)=some (.int q):=rfl
def yf(R H R':Addr)(q:Int):putF3 ("rows":Str) (.ref R') (bF R H q)=bF R' H q:=by simp[putF3,bF]
def zZ(R H:Addr)(q q':Int):putF3 ("bottom":Str) (.int q') (bF R H q)=bF R H q':=by simp[putF3,bF,cM]
noncomputable def hV(held:List Nat):List PV:=held.map fun n:Nat=>PV.int (n:Int)
structure BalAt (S:ar) (a R H:Addr) (rs:List Addr) (rows:List (List Int)) (held:List Nat) (q:Int):Prop where
 o:S a=some (.ins "Balance" (bF R H q))
 r:S R=some (.lst (rs.map PV.ref))
 rl:rs.length=rows.length
 rr:∀(i:Nat) r row,rs[i]?=some r->rows[i]?=some row->S r=some (.lst (row.map PV.int))
 h:S H=some (.lst (hV held))
 nR:R≠H
 nr:∀r∈rs,r≠H
def dQ{n i:Nat}(h:i < n):lp n (i:Int)=some i:=by unfold lp;rw[if_pos (by omega),if_pos (by omega)];simp
noncomputable def im(rows:List (List Int))(r c:Nat)(q:Int):List (List Int):=(rows.map fun row=>kJ row (rows.getD r []) c q).set r (rows.getD r [])
def Cw(a H:Addr)(S S':ar):Prop:=∀b o,S b=some o->b≠a->b≠H->S' b=some o
structure vQ (rows:List (List Int)) (N:Nat):Prop where
 w:∀row∈rows,row.length=N
 n:N<=500
 l:rows.length<=500
 s:∀row∈rows,∀x∈row,Sz x
abbrev gK(w:aF):Prop:=∀{S:ar} {a R H:Addr} {rs:List Addr} {rows:List (List Int)} {held:List Nat} {q:Int} {N r c:Nat} {Q:bH} {E:cg},BalAt S a R H rs rows held q->vQ rows N->r < rows.length->r < held.length->c < N->q≠0->Sz q->
 (∀S' R' rs',BalAt S' a R' H rs' (im rows r c q) (held.set r c) ((rows.getD r []).getD c 0)->Cw a H S S'->Q .non S')->w [.ref a,.int (r:Int),.int (c:Int)] S Q E
def Ek{xw:aF}(E9:lV xw):gK (bj 5 (dg xw)):=by
 intro S a R H rs rows held q N r c Q E B sh hr hh hc hq Gd k
 unfold dg
 refine fK ?_
 rw[show az 5 [.ref a,.int (r:Int),.int (c:Int)]=[some (.ref a),some (.int (r:Int)),some (.int (c:Int)),none,none] from rfl]
 have hrl:=B.rl
 obtain⟨ch,hch⟩:∃ch,rows[r]?=some ch:=⟨_,List.getElem?_eq_getElem hr⟩
 obtain⟨pc,Ix⟩:∃pc,rs[r]?=some pc:=⟨_,List.getElem?_eq_getElem (by omega)⟩
 have Ho:rows.getD r []=ch:=by rw[List.getD_eq_getElem?_getD,hch];rfl
 have J4:=List.mem_of_getElem? hch
 have HQ:=sh.w ch J4
 have HR:=B.rr r pc ch Ix hch
 rw[Ho]at k
 have hNn:=sh.n
 have hLl:=sh.l
 refine aB fun N1 hN=>?_
 simp only[ap,ah,bW,v3,lk,bZ,B.o,fk,true_and,al,B.r]
 rw[bE (v:=PV.ref pc) (by rw[List.getElem?_map,Ix];rfl)]
 simp only[List.set_cons_succ,List.set_cons_zero]
 refine hN _ _ (aB fun N1 hN=>?_)
 simp only[ap,aw,aO,bW,v3,lk,bZ,B.o,fk,true_and,bY,B.r]
 refine bC (fun done ys S'=>∃ns:List Addr,ys=ns.map PV.ref/\done.length<=rs.length/\ns.length=done.length/\Ext S S'/\(∀n∈ns,S n=none)/\(∀(i:Nat) n row,ns[i]?=some n->rows[i]?=some row->S' n=some (.lst ((kJ row ch c q).map PV.int)))) ⟨[],rfl,Nat.zero_le _,rfl,.refl,(fun n h=>by cases h),(fun i n row h=>by cases h)⟩ ?_ ?_ ?_
 ·rintro done ys S' ⟨ns,rfl,h1,h2,X,h3,h4⟩
  exact⟨X _ _ B.r,aQ (by rw[List.length_map];omega)⟩
 ·rintro done x rest ys S' K e ⟨ns,rfl,h1,h2,X,h3,h4⟩ hK
  have hget:(rs.map PV.ref)[done.length]?=some x:=by rw[e];simp
  obtain⟨pr,J5,rfl⟩:∃p,rs[done.length]?=some p/\PV.ref p=x:=by rw[List.getElem?_map]at hget;exact Option.map_eq_some_iff.mp hget
  have hlt:done.length < rs.length:=(List.getElem?_eq_some_iff.mp J5).1
  obtain⟨row,D_⟩:∃row,rows[done.length]?=some row:=⟨_,List.getElem?_eq_getElem (by omega)⟩
  have F5:=List.mem_of_getElem? D_
  have KZ:=sh.w row F5
  have Hb:=X _ _ (B.rr _ pr row J5 D_)
  simp only[Tg.put,bN,List.reduceReplicate,List.map_cons,List.map_nil,List.cons_append,List.nil_append,List.set_cons_zero,bg,if_true,ac,ag,bW,v3,lk,bZ,X _ _ B.o,sI,true_and]
  refine E9 Hb (X _ _ HR) (by omega) (by omega) (by omega) hq Gd (sh.s row F5) (sh.s ch J4) fun p S2 hp X2 f2=>?_
  refine hK _ _ ⟨ns++[p],by simp,by rw[List.length_append];exact hlt,by simp[h2],X.trans X2,fun n hn=>?_,fun i n rw' hn hrw=>?_⟩
  ·rcases List.mem_append.mp hn with h|h
   ·exact h3 n h
   ·rw[List.mem_singleton.mp h];exact X.free hp
  ·by_cases hi:i < ns.length
   ·rw[List.getElem?_append_left hi]at hn
    exact X2 _ _ (h4 i n rw' hn hrw)
   ·rw[List.getElem?_append_right (by omega)]at hn
    have e0:i - ns.length=0:=by
     have:=(List.getElem?_eq_some_iff.mp hn).1
     rw[List.length_singleton]at this
     omega
    rw[e0]at hn
    cases hn
    have ei:i=done.length:=by omega
    rw[ei,D_]at hrw
    cases hrw
    exact f2
 rintro ys S1 ⟨ns,rfl,_,h2,X1,h3,h4⟩
 rw[List.length_map]at h2
 intro po J6
 have Xo:Ext S1 (CG S1 po (.lst (ns.map PV.ref))):=.new J6
 have fo:(CG S1 po (.lst (ns.map PV.ref))) po=some (.lst (ns.map PV.ref)):=aa
 have K0:S po=none:=X1.free J6
 generalize CG S1 po (.lst (ns.map PV.ref))=S2 at Xo fo
 have X2:=X1.trans Xo
 simp only[List.set_cons_succ,List.set_cons_zero]
 refine hN _ _ (aB fun N1 hN=>?_)
 simp only[fh,ah,bV,v3,lk,pM,k5,iN,fo]
 rw[m4 (by rw[List.length_map];omega)]
 intro p1 hp1
 have X3:Ext S2 (CG S2 p1 (.lst ((ns.map PV.ref).take r))):=.new hp1
 have f1:(CG S2 p1 (.lst ((ns.map PV.ref).take r))) p1=some (.lst ((ns.map PV.ref).take r)):=aa
 generalize CG S2 p1 (.lst ((ns.map PV.ref).take r))=S3 at X3 f1
 simp only[cC,ag,v3,lk]
 intro p2 hp2
 have X4:Ext S3 (CG S3 p2 (.lst [.ref pc])):=.new hp2
 have f2:(CG S3 p2 (.lst [.ref pc])) p2=some (.lst [.ref pc]):=aa
 generalize CG S3 p2 (.lst [.ref pc])=S4 at X4 f2
 refine lS (X4 _ _ f1) f2 (by simp;omega) fun p3 S5 hp3 X5 f3=>?_
 have K1:=X5 _ _ (X4 _ _ (X3 _ _ fo))
 have e1:∀Q:bH,aP (.int (r:Int)) (.int 1) S5 Q=Q (.int ((r:Int)+1)) S5:=fun _=>rfl
 simp only[c3,e1,iN,K1]
 rw[show((r:Int)+1)=((r+1:Nat):Int) by omega,xX (by rw[List.length_map];omega)]
 intro p4 HL
 have X6:Ext S5 (CG S5 p4 (.lst ((ns.map PV.ref).drop (r+1)))):=.new HL
 have f4:(CG S5 p4 (.lst ((ns.map PV.ref).drop (r+1)))) p4=some (.lst ((ns.map PV.ref).drop (r+1))):=aa
 generalize CG S5 p4 (.lst ((ns.map PV.ref).drop (r+1)))=S6 at X6 f4
 refine lS (X6 _ _ f3) f4 (by simp;omega) fun p5 S7 HM X7 f5=>?_
 have J7:Ext S2 S7:=X3.trans (X4.trans (X5.trans (X6.trans X7)))
 have XS:Ext S S7:=X2.trans J7
 have Gp:S p5=none:=(X2.trans (X3.trans (X4.trans (X5.trans X6)))).free HM
 have Js:(ns.map PV.ref).take r++[PV.ref pc]++(ns.map PV.ref).drop (r+1)=(ns.set r pc).map PV.ref:=by
  rw[List.map_set,List.set_eq_take_append_cons_drop,if_pos (by rw[List.length_map];omega),List.append_assoc];rfl
 rw[Js]at f5
 have o7:=XS _ _ B.o
 simp only[bZ,o7,true_and]
 refine⟨by simp[bF],?_⟩
 rw[yf]
 have K3:p5≠a:=fun h=>by rw[h,B.o]at Gp;cases Gp
 have J8:p5≠H:=fun h=>by rw[h,B.h]at Gp;cases Gp
 have Jt:a≠H:=fun h=>by have:=B.o;rw[h,B.h]at this;cases this
 have o8:(CG S7 a (.ins "Balance" (bF p5 H q))) a=some (.ins "Balance" (bF p5 H q)):=aa
 have k8:∀b o,S7 b=some o->b≠a->(CG S7 a (.ins "Balance" (bF p5 H q))) b=some o:=fun b o h hb=>by rw[ak hb];exact h
 generalize CG S7 a (.ins "Balance" (bF p5 H q))=S8 at o8 k8
 have J9:pc≠a:=fun h=>by rw[h,B.o]at HR;cases HR
 have K4:=k8 _ _ (XS _ _ HR) J9
 have ec:atI (ch.map PV.int) (c:Int)=some (.int (ch.getD c 0)):=bE (by rw[List.getElem?_map,List.getD_eq_getElem?_getD,List.getElem?_eq_getElem (by omega)];rfl)
 refine hN _ _ (aB fun N1 hN=>?_)
 simp only[fh,ah,v3,lk,al,K4,ec,bZ,o8,true_and]
 refine⟨by simp[bF],?_⟩
 rw[zZ]
 have o9:(CG S8 a (.ins "Balance" (bF p5 H (ch.getD c 0)))) a=some (.ins "Balance" (bF p5 H (ch.getD c 0))):=aa
 have k9:∀b o,S8 b=some o->b≠a->(CG S8 a (.ins "Balance" (bF p5 H (ch.getD c 0)))) b=some o:=fun b o h hb=>by rw[ak hb];exact h
 generalize CG S8 a (.ins "Balance" (bF p5 H (ch.getD c 0)))=S9 at o9 k9
 have K5:=k9 _ _ (k8 _ _ (XS _ _ B.h) (Ne.symm Jt)) (Ne.symm Jt)
 refine hN _ _ ?_
 simp only[d8,bW,v3,lk,bZ,o9,kM,true_and,cW,K5]
 rw[show lp (hV held).length (r:Int)=some r from dQ (by unfold hV;rw[List.length_map];exact hh)]
 have K6:(hV held).set r (.int (c:Int))=hV (held.set r c):=by unfold hV;rw[List.map_set]
 simp only[K6]
 have kk:∀b o,S7 b=some o->b≠a->b≠H->(CG S9 H (.lst (hV (held.set r c)))) b=some o:=fun b o h h1 h2=>by rw[ak h2];exact k9 _ _ (k8 _ _ h h1) h1
 refine k _ p5 (ns.set r pc) ⟨?_,kk _ _ f5 K3 J8,?_,fun i n row hn hrw=>?_,aa,J8,fun n hn=>?_⟩ fun b o h h1 h2=>kk b o (XS _ _ h) h1 h2
 ·rw[ak Jt];exact o9
 ·unfold im;rw[List.length_set,List.length_set,List.length_map];omega
 ·unfold im at hrw
  rw[Ho]at hrw
  rw[List.getElem?_set]at hn hrw
  by_cases e:r=i
  ·rw[if_pos e,if_pos (by omega)]at hn
   rw[if_pos e,if_pos (by rw[List.length_map];omega)]at hrw
   cases hn;cases hrw
   exact kk _ _ (XS _ _ HR) J9 (B.nr _ (List.mem_of_getElem? Ix))
  ·rw[if_neg e]at hn hrw
   rw[List.getElem?_map]at hrw
   obtain⟨Gq,hr0,rfl⟩:=Option.map_eq_some_iff.mp hrw
   have fn:=h4 i n Gq hn hr0
   have nS:=h3 n (List.mem_of_getElem? hn)
   exact kk _ _ (J7 _ _ (Xo _ _ fn)) (fun h=>by rw[h,B.o]at nS;cases nS) (fun h=>by rw[h,B.h]at nS;cases nS)
 ·rcases List.mem_or_eq_of_mem_set hn with h|h
  ·have nS:=h3 n h
   exact fun h'=>by rw[h',B.h]at nS;cases nS
  ·rw[h];exact B.nr _ (List.mem_of_getElem? Ix)
end CW
namespace Wg
noncomputable def Kb(C:Nat):Nat->Nat
 |0=>1
 |M+1=>(M+1) * (C * Kb C M)
def nv{n B:Nat}{f:Nat->Int}(h:∀i,i < n->(f i).natAbs<=B):(sm n f).natAbs<=n * B:=by
 induction n with
 |zero=>simp[sm]
 |succ n ih=>
  simp only[sm]
  have:=ih fun i hi=>h i (by omega)
  have:=h n (by omega)
  have:=Int.natAbs_add_le (sm n f) (f n)
  rw[Nat.succ_mul]
  omega
theorem kN(C:Nat):∀(M:Nat) (b:Nat->Vc),(∀i k,i < M->k < M->(b i k).natAbs<=C)->(dt M b).natAbs<=Kb C M
 |0,_,_=>by simp[dt,Kb]
 |M+1,b,h=>by
  simp only[dt,Kb]
  refine nv fun i hi=>?_
  have sgn:(sg (i+M)).natAbs=1:=by unfold sg;split<;>rfl
  rw[Int.natAbs_mul,Int.natAbs_mul,sgn,Nat.one_mul]
  exact Nat.mul_le_mul (h i M hi (by omega)) (kN C M (sk i b) fun l k hl hk=>h _ k (by split<;>omega) (by omega))
section
variable {m V:Nat} {A:Nat->Nat->Int} {s:Sx} {b:Nat->Vc}
def Val.bnd(h:Val m V A s b){C:Nat}(h1:1<=C)(hA:∀k j,k<=m->j<=V->(A k j).natAbs<=C):(∀i j,i<=m->j<=V->(s.T i j).natAbs<=Kb C (m+1))/\s.q.natAbs<=Kb C (m+1):=by
 have hb:∀i k,i<=m->k<=m->(b i k).natAbs<=C:=fun i k hi hk=>by
  by_cases e:i=m
  ·subst e;rw[h.tab.gl k];unfold eu;split<;>simp<;>omega
  ·rw[h.hb i k (by omega) hk];exact hA k _ hk (by have:=h.hv i (by omega);omega)
 refine⟨fun i j hi hj=>?_,?_⟩
 ·rw[h.tab.ent hi (by omega)]
  refine kN C _ _ fun l k hl hk=>?_
  by_cases e:l=i
  ·subst e;rw[aA];exact hA k j (by omega) hj
  ·rw[aT e];exact hb l k (by omega) (by omega)
 ·rw[<-h.tab.det]
  exact kN C _ _ fun l k hl hk=>hb l k (by omega) (by omega)
noncomputable def mu(m V:Nat)(K:Int)(s:Sx):Int:=((K * s.q - s.T m V) * (K * K)) / s.q
def uX{K g q g' q':Int}(hq:0 < q)(hq':0 < q')(k1:q<=K)(k2:q'<=K)(h:g * q' < g' * q):((K * q' - g') * (K * K)) / q'+1<=((K * q - g) * (K * K)) / q:=by
 rw[Int.le_ediv_iff_mul_le hq]
 refine Int.le_of_mul_le_mul_right (a:=q') ?_ hq'
 have e1:((K * q' - g') * (K * K)) / q' * q'<=(K * q' - g') * (K * K):=Int.ediv_mul_le _ (by omega)
 have e2:q * q'<=K * K:=Int.mul_le_mul k1 k2 (by omega) (by omega)
 have e3:K * K<=(g' * q - g * q') * (K * K):=by
  have:0<=K * K:=Int.mul_nonneg (by omega) (by omega)
  have:=Int.mul_le_mul_of_nonneg_right (show 1<=g' * q - g * q' by omega) this
  omega
 have e4:(((K * q' - g') * (K * K)) / q'+1) * q * q'=(((K * q' - g') * (K * K)) / q' * q') * q+q * q':=by grind
 have e5:=Int.mul_le_mul_of_nonneg_right e1 (show 0<=q by omega)
 have e6:(K * q - g) * (K * K) * q'=(K * q' - g') * (K * K) * q+(g' * q - g * q') * (K * K):=by grind
 rw[e4,e6]
 omega
def ends{C:Nat}(h1:1<=C)(hA:∀k j,k<=m->j<=V->(A k j).natAbs<=C):∀(n:Nat) (s:Sx) (b:Nat->Vc),Val m V A s b->mu m V (Kb C (m+1)) s < n->Ed m V s:=by
 intro n
 induction n with
 |zero=>
  intro s b v J_
  exfalso
  obtain⟨b1,b2⟩:=v.bnd h1 hA
  have q1:=v.tab.pos
  have:=b1 m V (Nat.le_refl _) (Nat.le_refl _)
  have k0:(s.T m V)<=(Kb C (m+1):Int) * s.q:=by
   have a1:s.T m V<=(Kb C (m+1):Int):=by omega
   have:=Int.mul_le_mul_of_nonneg_left (show 1<=s.q by omega) (show 0<=(Kb C (m+1):Int) by omega)
   omega
  have:0<=mu m V (Kb C (m+1)) s:=Int.ediv_nonneg (Int.mul_nonneg (by omega) (Int.mul_nonneg (by omega) (by omega))) (by omega)
  omega
 |succ n ih=>
  intro s b v J_
  obtain⟨b1,b2⟩:=v.bnd h1 hA
  have q1:=v.tab.pos
  have H:∀s' b',Val m V A s' b'->s.T m V * s'.q < s'.T m V * s.q->Ed m V s':=fun s' b' v' hg=>by
   refine ih s' b' v' ?_
   have q2:=v'.tab.pos
   have:=(v'.bnd h1 hA).2
   have:=uX (K:=Kb C (m+1)) q1 q2 (by omega) (by omega) hg
   unfold mu at J_ ⊢
   omega
  rcases uW (A:=A) (g0:=s.T m V) (q0:=s.q) q1 H V s ⟨b,v⟩ rfl with h|⟨u,u',c,r,R,gu,st,d,ht⟩
  ·exact h
  ·exfalso
   obtain⟨bu,vu⟩:=R.val ⟨b,v⟩
   have:=st.en.lt
   have:=vu.hv r st.lv.lt
   omega
theorem Val.ends(v:Val m V A s b){C:Nat}(h1:1<=C)(hA:∀k j,k<=m->j<=V->(A k j).natAbs<=C):Ed m V s:=Wg.ends h1 hA ((mu m V (Kb C (m+1)) s).toNat+1) s b v (by omega)
end
end Wg
namespace CW
open PySem L2 L3 Wd
open C
noncomputable def toS(rows:List (List Int))(held:List Nat)(q:Int):Wg.Sx:=⟨fun i j=>(rows.getD i []).getD j 0,fun i=>held.getD i 0,q⟩
structure Dim (rows:List (List Int)) (held:List Nat) (m V:Nat):Prop where
 rl:rows.length=m+1
 hl:held.length=m
 w:∀row∈rows,row.length=V+1
 m1:m<=400
 v1:V<=400
 s:∀row∈rows,∀x∈row,Sz x
def Dim.sh{rows:List (List Int)}{held:List Nat}{m V:Nat}(h:Dim rows held m V):vQ rows (V+1):=⟨h.w,by have:=h.v1;omega,by have:=h.rl;have:=h.m1;omega,h.s⟩
def j4{α:Type}{xs:List α}{n:Nat}{y:α}(hl:xs.length=n+1)(h:xs[n]?=some y):atI xs (-1)=some y:=by
 unfold atI lp
 rw[if_neg (by omega),if_pos (by omega)]
 have:(-1+(xs.length:Int)).toNat=n:=by omega
 rw[this]
 exact h
def uY{α:Type}{xs:List α}:cV xs none (some (-1))=xs.take (xs.length - 1):=by
 unfold cV
 rw[HT.i3,List.drop_zero,Nat.sub_zero]
 have:HT.C3 xs.length xs.length (some (-1))=if (-1:Int) < 0 then (-1+((xs.length:Nat):Int)).toNat else min (-1:Int).toNat xs.length:=rfl
 rw[this,if_pos (by decide)]
 congr 1
 omega
def aq{α:Type}{xs:List α}{i:Nat}{y d:α}(h:xs[i]?=some y):xs.getD i d=y:=by rw[List.getD_eq_getElem?_getD,h];rfl
section
variable {S:ar} {a R H:Addr} {rs:List Addr} {rows:List (List Int)} {held:List Nat} {q:Int} {m V:Nat}
def jq(B:BalAt S a R H rs rows held q)(D:Dim rows held m V){i:Nat}(hi:i<=m):∃p row,rs[i]?=some p/\rows[i]?=some row/\S p=some (.lst (row.map PV.int))/\row.length=V+1/\(∀x∈row,Sz x)/\(∀j,(toS rows held q).T i j=row.getD j 0):=by
 have h1:=B.rl
 have h2:=D.rl
 obtain⟨row,D_⟩:∃row,rows[i]?=some row:=⟨_,List.getElem?_eq_getElem (by omega)⟩
 obtain⟨p,hp⟩:∃p,rs[i]?=some p:=⟨_,List.getElem?_eq_getElem (by omega)⟩
 have mr:=List.mem_of_getElem? D_
 exact⟨p,row,hp,D_,B.rr i p row hp D_,D.w row mr,D.s row mr,fun j=>by show(rows.getD i []).getD j 0=_;rw[aq D_]⟩
def dH{row:Vu}{j:Nat}(h:j < row.length):atI (row.map PV.int) (j:Int)=some (.int (row.getD j 0))/\row.getD j 0∈row:=by
 have e:=List.getElem?_eq_getElem h
 refine⟨bE (by rw[List.getElem?_map,e,aq e];rfl),?_⟩
 rw[aq e]
 exact List.getElem_mem h
end
abbrev lX(w:aF):Prop:=∀{S:ar} {a R H:Addr} {rs:List Addr} {rows:List (List Int)} {held:List Nat} {q:Int} {m V:Nat} {Q:bH} {E:cg},BalAt S a R H rs rows held q->Dim rows held m V->
 (∀S',Ext S S'->(∀j,j < V->0<=(toS rows held q).T m j)->Q .non S')->(∀(c:Nat) S',Ext S S'->Wg.En m V (toS rows held q) c->Q (.int (c:Int)) S')->w [.ref a] S Q E
def E_:lX (bj 3 cr):=by
 intro S a R H rs rows held q m V Q E B D k0 k1
 unfold cr
 refine fK ?_
 rw[show az 3 [PV.ref a]=[some (.ref a),none,none] from rfl]
 obtain⟨p,row,hp,D_,fp,hl,_,hT⟩:=jq B D (Nat.le_refl m)
 have hv:=D.v1
 refine aB fun N hN=>?_
 simp only[bM,iD,bV,ah,bW,v3,lk,c3,iC,cP,pM,k5,bZ,B.o,fk,true_and,al,B.r]
 rw[j4 (n:=m) (by rw[List.length_map,B.rl,D.rl]) (show(rs.map PV.ref)[m]?=some (.ref p) by rw[List.getElem?_map,hp];rfl)]
 simp only[iN,fp]
 rw[uY,List.length_map,hl,Nat.add_sub_cancel,<-List.map_take]
 intro p2 hp2
 have X2:Ext S (CG S p2 (.lst ((row.take V).map PV.int))):=.new hp2
 have f2:(CG S p2 (.lst ((row.take V).map PV.int))) p2=some (.lst ((row.take V).map PV.int)):=aa
 generalize CG S p2 (.lst ((row.take V).map PV.int))=S2 at X2 f2
 simp only[f2]
 refine bJ (fun done σ S'=>S'=S2/\done.length<=V/\(∃x1 x2,σ=[some (.ref a),x1,x2])/\∀j,j < done.length->0<=row.getD j 0) ⟨rfl,Nat.zero_le _,⟨_,_,rfl⟩,fun j hj=>absurd hj (Nat.not_lt_zero _)⟩ (fun _ _ _ ⟨e,_⟩=>by rw[e];exact f2) ?_ ?_
 ·rintro done x rest σ S' K e ⟨rfl,hd,⟨x1,x2,rfl⟩,hn⟩ hK
  obtain⟨y,rfl,hy⟩:=rY e
  rw[List.getElem?_map]at hy
  obtain⟨n,hn1,rfl⟩:=Option.map_eq_some_iff.mp hy
  have hlt:done.length < V:=by have:=(List.getElem?_eq_some_iff.mp hn1).1;rw[List.length_take]at this;omega
  rw[List.getElem?_take_of_lt hlt]at hn1
  have en:=aq (d:=0) hn1
  simp only[Tg.put,Tg.Dr,List.set_cons_succ,List.set_cons_zero,gc,cE,ah,v3,lk,c3,k6,cj,decide_eq_true_eq]
  split
  ·rename_i hneg
   simp only[aE,v3,lk]
   exact k1 done.length S' X2 ⟨hlt,by rw[hT,en];exact hneg,fun j hj=>by rw[hT];exact hn j hj⟩
  ·rename_i hneg
   refine hK _ _ ⟨rfl,by rw[List.length_append];exact hlt,⟨_,_,rfl⟩,fun j hj=>?_⟩
   rw[List.length_append,List.length_singleton]at hj
   by_cases ej:j=done.length
   ·subst ej;rw[en];omega
   ·exact hn j (by omega)
 ·rintro σ S' ⟨rfl,hd,⟨x1,x2,rfl⟩,hn⟩
  refine hN _ _ ?_
  walk_at "x"
  have ln:(L3.a8 ((row.take V).map PV.int)).length=V:=by unfold L3.a8;rw[List.length_mapIdx,List.length_map,List.length_take];omega
  rw[ln]at hn
  exact k0 S' X2 fun j hj=>by rw[hT];exact hn j hj
abbrev lZ(w:aF):Prop:=∀{S:ar} {a R H:Addr} {rs:List Addr} {rows:List (List Int)} {held:List Nat} {q:Int} {m V i r c:Nat} {Q:bH} {E:cg},BalAt S a R H rs rows held q->Dim rows held m V->i < m->r < m->c<=V->
 (∀b:Bool,(b=true↔Wg.iP V (toS rows held q) c i r)->Q (.bl b) S)->w [.ref a,.int (i:Int),.int (r:Int),.int (c:Int)] S Q E
def Fa:lZ (bj 6 cJ):=by
 intro S a R H rs rows held q m V i r c Q E B D hi hr hc k
 unfold cJ
 refine fK ?_
 rw[show az 6 [PV.ref a,.int (i:Int),.int (r:Int),.int (c:Int)]=[some (.ref a),some (.int (i:Int)),some (.int (r:Int)),some (.int (c:Int)),none,none] from rfl]
 obtain⟨p1,Fm,hp1,hr1,f1,l1,s1,T1⟩:=jq B D (show i<=m by omega)
 obtain⟨p2,row2,hp2,hr2,f2,l2,s2,T2⟩:=jq B D (show r<=m by omega)
 have e1:atI (rs.map PV.ref) (i:Int)=some (.ref p1):=bE (by rw[List.getElem?_map,hp1];rfl)
 have e2:atI (rs.map PV.ref) (r:Int)=some (.ref p2):=bE (by rw[List.getElem?_map,hp2];rfl)
 have v1:=dH (row:=Fm) (j:=V) (by omega)
 have v2:=dH (row:=row2) (j:=V) (by omega)
 have c1:=dH (row:=Fm) (j:=c) (by omega)
 have c2:=dH (row:=row2) (j:=c) (by omega)
 have m1:atI (Fm.map PV.int) (-1)=some (.int (Fm.getD V 0)):=j4 (n:=V) (by rw[List.length_map,l1]) (by rw[List.getElem?_map,List.getElem?_eq_getElem (by omega),List.getD_eq_getElem?_getD,List.getElem?_eq_getElem (by omega)];rfl)
 have m2:atI (row2.map PV.int) (-1)=some (.int (row2.getD V 0)):=j4 (n:=V) (by rw[List.length_map,l2]) (by rw[List.getElem?_map,List.getElem?_eq_getElem (by omega),List.getD_eq_getElem?_getD,List.getElem?_eq_getElem (by omega)];rfl)
 have hel:∀j,j < m->atI (hV held) (j:Int)=some (.int ((held.getD j 0:Nat):Int)):=fun j hj=>bE (by
  unfold hV
  have:j < held.length:=by rw[D.hl];exact hj
  rw[List.getElem?_map,List.getElem?_eq_getElem this,List.getD_eq_getElem?_getD,List.getElem?_eq_getElem this];rfl)
 refine aB fun N hN=>?_
 simp only[ap,ah,bW,v3,lk,c3,iC,cP,bZ,B.o,fk,true_and,al,B.r,e1,e2,f1,f2,m1,c2.1,aL]
 refine⟨(s1 _ v1.2).mul (s2 _ c2.2),?_⟩
 simp only[List.set_cons_succ,List.set_cons_zero]
 refine hN _ _ (aB fun N hN=>?_)
 simp only[ap,ah,bW,v3,lk,c3,iC,cP,bZ,B.o,fk,true_and,al,B.r,e1,e2,f1,f2,m2,c1.1,aL]
 refine⟨(s2 _ v2.2).mul (s1 _ c1.2),?_⟩
 simp only[List.set_cons_succ,List.set_cons_zero]
 refine hN _ _ ?_
 simp only[aE,ah,aM,ag,bW,v3,lk,bZ,B.o,kM,true_and,al,B.h,hel i hi,hel r hr,uR]
 refine k _ ?_
 rw[decide_eq_true_eq]
 unfold Wg.iP
 rw[T1,T1,T2,T2]
 show _↔Fm.getD V 0 * row2.getD c 0 < row2.getD V 0 * Fm.getD c 0\/(Fm.getD V 0 * row2.getD c 0=row2.getD V 0 * Fm.getD c 0/\held.getD i 0 < held.getD r 0)
 constructor
 ·rintro(h|⟨h,h2⟩)
  ·exact .inl h
  ·exact .inr ⟨h,by omega⟩
 ·rintro(h|⟨h,h2⟩)
  ·exact .inl h
  ·exact .inr ⟨h,by omega⟩
def ny{s:Wg.Sx}{V c i r l:Nat}(hi:0 < s.T i c)(hr:0 < s.T r c)(hl:0 < s.T l c)(h:Wg.iP V s c i r)(g:Wg.iP V s c r l):Wg.iP V s c i l:=by
 unfold Wg.iP at *
 have cmp:∀{x y:Int},s.T r c * x<=s.T r c * y->x<=y:=fun h=>Int.le_of_mul_le_mul_left h hr
 have A:s.T r c * (s.T i V * s.T l c)=(s.T i V * s.T r c) * s.T l c:=by grind
 have C:s.T r c * (s.T l V * s.T i c)=(s.T l V * s.T r c) * s.T i c:=by grind
 have M:(s.T r V * s.T i c) * s.T l c=(s.T r V * s.T l c) * s.T i c:=by grind
 rcases h with h|⟨h,h2⟩
 ·have h3:=Int.mul_lt_mul_of_pos_right h hl
  rcases g with g|⟨g,g2⟩
  ·have g3:=Int.mul_lt_mul_of_pos_right g hi
   exact .inl (Int.lt_of_mul_lt_mul_left (a:=s.T r c) (by rw[A,C];omega) (by omega))
  ·refine .inl (Int.lt_of_mul_lt_mul_left (a:=s.T r c) (by rw[A,C,<-g];omega) (by omega))
 ·rcases g with g|⟨g,g2⟩
  ·have g3:=Int.mul_lt_mul_of_pos_right g hi
   exact .inl (Int.lt_of_mul_lt_mul_left (a:=s.T r c) (by rw[A,C,h];omega) (by omega))
  ·exact .inr ⟨Int.eq_of_mul_eq_mul_left (a:=s.T r c) (by omega) (by rw[A,C,h,<-g];exact M),by omega⟩
noncomputable def fV:Option Nat->PV
 |none=>.non
 |some r=>.int (r:Int)
abbrev l3(w:aF):Prop:=∀{S:ar} {a R H:Addr} {rs:List Addr} {rows:List (List Int)} {held:List Nat} {q:Int} {m V c:Nat} {Q:bH} {E:cg},BalAt S a R H rs rows held q->Dim rows held m V->c<=V->
 ((∀i,i < m->(toS rows held q).T i c<=0)->Q .non S)->(∀r:Nat,Wg.Lv m V (toS rows held q) c r->Q (.int (r:Int)) S)->w [.ref a,.int (c:Int)] S Q E
def Fb{xs:aF}(Fa:lZ xs):l3 (bj 4 (cu xs)):=by
 intro S a R H rs rows held q m V c Q E B D hc k0 k1
 unfold cu
 refine fK ?_
 rw[show az 4 [PV.ref a,.int (c:Int)]=[some (.ref a),some (.int (c:Int)),none,none] from rfl]
 have hm:=D.m1
 refine aB fun N hN=>?_
 walk_at "x"
 refine hN _ _ (aB fun N hN=>?_)
 simp only[bM,bm,ai,ag,bW,v3,lk,bZ,B.o,kM,true_and,bA,B.h]
 rw[show(hV held).length=m by unfold hV;rw[List.length_map,D.hl]]
 refine⟨by omega,by omega,?_⟩
 rw[Int.toNat_natCast]
 let T:=(toS rows held q).T
 refine bJ (fun done σ S'=>S'=S/\done.length<=m/\∃(f:Option Nat) (x3:Option PV),σ=[some (.ref a),some (.int (c:Int)),some (fV f),x3]/\
   (match f with|none=>∀i,i < done.length->(toS rows held q).T i c<=0|some r=>r < done.length/\0 < (toS rows held q).T r c/\∀i,i < done.length->0 < (toS rows held q).T i c->¬Wg.iP V (toS rows held q) c i r)) ⟨rfl,Nat.zero_le _,none,_,rfl,fun i hi=>absurd hi (Nat.not_lt_zero _)⟩ (fun _ _ _ _=>trivial) ?_ ?_
 ·rintro done x rest σ S' K e ⟨rfl,hd,f,x3,rfl,hf⟩ hK
  obtain⟨rfl,hi⟩:=bK e
  obtain⟨p,row,hp,D_,fp,hl,_,hT⟩:=jq B D (show done.length<=m by omega)
  have e1:atI (rs.map PV.ref) (done.length:Int)=some (.ref p):=bE (by rw[List.getElem?_map,hp];rfl)
  have c1:=dH (row:=row) (j:=c) (by omega)
  have tl:∀i,i < (done++[PV.int (done.length:Int)]).length->i < done.length\/i=done.length:=fun i hi=>by rw[List.length_append,List.length_singleton]at hi;omega
  have dl:(done++[PV.int (done.length:Int)]).length=done.length+1:=by simp
  have keep:¬0 < (toS rows held q).T done.length c->K [some (.ref a),some (.int (c:Int)),some (fV f),some (.int (done.length:Int))] S':=fun hn=>by
   refine hK _ _ ⟨rfl,by rw[dl];omega,f,_,rfl,?_⟩
   cases f with
   |none=>exact fun i hi'=>(tl i hi').elim (fun h=>hf i h) (fun h=>by rw[h];omega)
   |some r=>exact⟨by have:=hf.1;rw[dl];omega,hf.2.1,fun i hi' hp'=>(tl i hi').elim (fun h=>hf.2.2 i h hp') (fun h=>by rw[h]at hp';exact absurd hp' hn)⟩
  have take:0 < (toS rows held q).T done.length c->(∀i,i < done.length->0 < (toS rows held q).T i c->¬Wg.iP V (toS rows held q) c i done.length)->K [some (.ref a),some (.int (c:Int)),some (.int (done.length:Int)),some (.int (done.length:Int))] S':=fun hp' hs=>by
   refine hK _ _ ⟨rfl,by rw[dl];omega,some done.length,_,rfl,⟨by rw[dl];omega,hp',fun i hi' Ju=>(tl i hi').elim (fun h=>hs i h Ju) (fun h=>?_)⟩⟩
   subst h
   unfold Wg.iP
   omega
  simp only[Tg.put,List.set_cons_succ,List.set_cons_zero,gc,kz,vC,cE,ah,bW,v3,lk,c3,bZ,B.o,fk,true_and,al,B.r,e1,fp,c1.1,rP,cj,decide_eq_true_eq]
  rw[<-hT c]
  by_cases hpos:0 < (toS rows held q).T done.length c
  ·simp only[hpos,if_true]
   cases f with
   |none=>
    simp only[fV,mj,bne_self_eq_false,Bool.not_false,if_true,Bool.false_bne,ap,v3,lk,List.set_cons_succ,List.set_cons_zero]
    exact take hpos fun i hi' hp'=>by have:=hf i hi';omega
   |some r=>
    simp only[fV,mj,cH,ag,v3,lk,bZ,B.o,true_and]
    have hm':(bF R H q).lookup ("sooner":Str)=none:=rfl
    simp only[hm',true_and,Bool.false_bne,Bool.false_eq_true,if_false]
    refine Fa B D hi (by have:=hf.1;omega) hc fun b hb=>?_
    cases b with
    |true=>
     simp only[if_true,ap,v3,lk,List.set_cons_succ,List.set_cons_zero]
     have sn:=hb.mp rfl
     exact take hpos fun i hi' hp' hs=>hf.2.2 i hi' hp' (ny hp' hpos hf.2.1 hs sn)
    |false=>
     simp only[Bool.false_eq_true,if_false]
     refine hK _ _ ⟨rfl,by rw[dl];omega,some r,_,rfl,⟨by have:=hf.1;rw[dl];omega,hf.2.1,fun i hi' hp'=>(tl i hi').elim (fun h=>hf.2.2 i h hp') (fun h=>?_)⟩⟩
     subst h
     exact fun hs=>by have:=hb.mpr hs;cases this
  ·simp only[hpos,if_false,Bool.false_eq_true]
   exact keep hpos
 ·rintro σ S' ⟨rfl,hd,f,x3,rfl,hf⟩
  rw[bf]at hf
  refine hN _ _ ?_
  cases f with
  |none=>simp only[fV,aE,v3,lk];exact k0 hf
  |some r=>simp only[fV,aE,v3,lk];exact k1 r ⟨hf.1,hf.2.1,hf.2.2⟩
end CW
namespace C
open PySem L2 L3 Wd
theorem fZ{α:Type}{g:Tg}{tc:iK}{te:aS}{σ':cN}{keep:ar->Prop}{fin:List PV->ar->Prop}{S:ar}(enc f:α->PV)(c:α->Bool)(hk:keep S):∀(xs:List α) (ys:List PV),
  (∀x∈xs,∃σ2,g.put (enc x) σ'=some σ2/\(∀K:Bool->ar->Prop,K (c x) S->tc σ2 S K fD)/\(c x=true->∀Q:bH,Q (f x) S->te σ2 S Q fD))->ys.length+xs.length<=sizeLine->fin (ys++(xs.filter c).map f) S->dz g tc te σ' keep fin (xs.map enc) ys S
 |[],ys,_,hl,hf=>⟨hk,by simpa using hl,by simpa using hf⟩
 |x::r,ys,h,hl,hf=>by
  obtain⟨σ2,e,h1,h2⟩:=h x (by simp)
  refine⟨hk,by simp at hl;omega,?_⟩
  rw[e]
  refine h1 _ ?_
  by_cases hc:c x=true
  ·rw[if_pos hc]
   refine h2 hc _ (fZ enc f c hk r (ys++[f x]) (fun y hy=>h y (by simp[hy])) (by simp at hl ⊢;omega) ?_)
   rw[List.filter_cons_of_pos hc]at hf
   simpa using hf
  ·rw[if_neg hc]
   refine fZ enc f c hk r ys (fun y hy=>h y (by simp[hy])) (by simp at hl;omega) ?_
   rw[List.filter_cons_of_neg hc]at hf
   exact hf
end C
namespace CW
open PySem L2 L3 Wd
open C
noncomputable def EQ(n:Nat)(j:Nat)(q sg:Int)(acc:List PV)(z:List Int×Nat):List PV:=if z.2 < n then acc.set z.2 (cq q (sg * z.1.getD j 0)) else acc
noncomputable def uZ(n:Nat)(rows:List (List Int))(held:List Nat)(q sg:Int)(j:Nat):List PV:=(rows.zip held).foldl (EQ n j q sg) (List.replicate n (cq q 0))
theorem kO(n j:Nat)(q sg:Int):∀(zs:List (List Int×Nat)) (acc:List PV),(zs.foldl (EQ n j q sg) acc).length=acc.length
 |[],acc=>rfl
 |z::r,acc=>by rw[List.foldl_cons,kO n j q sg r];unfold EQ;split<;>simp
def z9(V:Nat)(pz:Int)(j:Nat):Prop:=(pz=(j:Int)/\j<=V)\/(pz = -1/\j=V)
def z_{V:Nat}{pz:Int}{j:Nat}(h:z9 V pz j){row:Vu}(hl:row.length=V+1):atI (row.map PV.int) pz=some (.int (row.getD j 0))/\row.getD j 0∈row:=by
 rcases h with⟨rfl,hj⟩|⟨rfl,rfl⟩
 ·exact dH (by omega)
 ·refine⟨j4 (n:=j) (by rw[List.length_map,hl]) (by rw[List.getElem?_map,List.getElem?_eq_getElem (by omega),List.getD_eq_getElem?_getD,List.getElem?_eq_getElem (by omega)];rfl),(dH (by omega)).2⟩
def iT(v:PV)(k:Nat):(List.replicate k [v]).flatten=List.replicate k v:=by
 induction k with
 |zero=>rfl
 |succ k ih=>rw[List.replicate_succ,List.flatten_cons,ih,List.replicate_succ];rfl
abbrev gL(w:aF):Prop:=∀{S:ar} {a R H:Addr} {rs:List Addr} {rows:List (List Int)} {held:List Nat} {q:Int} {m V n j:Nat} {pz sg:Int} {Q:bH} {E:cg},BalAt S a R H rs rows held q->Dim rows held m V->0 < q->Sz q->n<=500->z9 V pz j->(sg=1\/sg = -1)->
 (∀p S',S p=none->Ext S S'->S' p=some (.lst (uZ n rows held q sg j))->Q (.ref p) S')->w [.ref a,.int (n:Int),.int pz,.int sg] S Q E
def El{xf:aF}(C8:iF xf):gL (bj 7 (cv xf)):=by
 intro S a R H rs rows held q m V n j pz sg Q E B D hq Gd hn hp hs k
 unfold cv
 refine fK ?_
 rw[show az 7 [PV.ref a,.int (n:Int),.int pz,.int sg]=[some (.ref a),some (.int (n:Int)),some (.int pz),some (.int sg),none,none,none] from rfl]
 have z0:PV.tup [.int 0,.int 1]=cq q 0:=by rw[ig,eJ (Q:=1) (R:=q) (n:=0) (m:=0) (by decide) hq (by simp)]
 refine aB fun N hN=>?_
 simp only[ap,ah,cC,ag,aM,c3,v3,lk]
 intro p0 hp0
 simp only[aL,aa]
 refine⟨by omega,by omega,aQ (by simp;omega),fun p1 hp1=>?_⟩
 rw[Int.toNat_natCast,iT]
 rw[z0]at hp1 ⊢
 have X1:Ext S (CG (CG S p0 (.lst [cq q 0])) p1 (.lst (List.replicate n (cq q 0)))):=(Ext.new hp0).trans (.new hp1)
 have f1:(CG (CG S p0 (.lst [cq q 0])) p1 (.lst (List.replicate n (cq q 0)))) p1=some (.lst (List.replicate n (cq q 0))):=aa
 have Fn:S p1=none:=(Ext.new hp0).free hp1
 generalize CG (CG S p0 (.lst [cq q 0])) p1 (.lst (List.replicate n (cq q 0)))=S1 at X1 f1
 simp only[List.set_cons_succ,List.set_cons_zero]
 refine hN _ _ (aB fun N hN=>?_)
 have o1:=X1 _ _ B.o
 have r1:=X1 _ _ B.r
 have h1:=X1 _ _ B.h
 simp only[bM,fe,bW,v3,lk,bZ,o1,fk,kM,true_and,r1,h1]
 have nr:p1≠R:=fun h=>by rw[h,B.r]at Fn;cases Fn
 have nh:p1≠H:=fun h=>by rw[h,B.h]at Fn;cases Fn
 have no:p1≠a:=fun h=>by rw[h,B.o]at Fn;cases Fn
 refine bJ (fun done σ S'=>Ext S S'/\S' p1=some (.lst (((rows.zip held).take done.length).foldl (EQ n j q sg) (List.replicate n (cq q 0))))/\∃x5 x6,σ=[some (.ref a),some (.int (n:Int)),some (.int pz),some (.int sg),some (.ref p1),x5,x6]) ⟨X1,f1,_,_,rfl⟩ (fun _ _ _ ⟨X,_⟩=>⟨X _ _ B.r,X _ _ B.h⟩) ?_ ?_
 ·rintro done x rest σ S' K e ⟨X,f,x5,x6,rfl⟩ hK
  have hget:(aX (rs.map PV.ref) (hV held))[done.length]?=some x:=by rw[e];simp
  unfold aX at hget
  rw[List.getElem?_map]at hget
  obtain⟨⟨u,v⟩,hz,rfl⟩:=Option.map_eq_some_iff.mp hget
  obtain⟨g1,g2⟩:=List.getElem?_zip_eq_some.mp hz
  unfold hV at g2
  rw[List.getElem?_map]at g1 g2
  obtain⟨p,hp',rfl⟩:=Option.map_eq_some_iff.mp g1
  obtain⟨hd,hd',rfl⟩:=Option.map_eq_some_iff.mp g2
  have hlt:done.length < rs.length:=(List.getElem?_eq_some_iff.mp hp').1
  obtain⟨row,D_⟩:∃row,rows[done.length]?=some row:=⟨_,List.getElem?_eq_getElem (by rw[<-B.rl];exact hlt)⟩
  have F5:=List.mem_of_getElem? D_
  have Hb:=X _ _ (B.rr _ p row hp' D_)
  have pa:=z_ hp (D.w row F5)
  have Jv:(rows.zip held)[done.length]?=some (row,hd):=List.getElem?_zip_eq_some.mpr ⟨D_,hd'⟩
  have ef:((rows.zip held).take (done++[PV.tup [.ref p,.int (hd:Int)]]).length).foldl (EQ n j q sg) (List.replicate n (cq q 0))=EQ n j q sg (((rows.zip held).take done.length).foldl (EQ n j q sg) (List.replicate n (cq q 0))) (row,hd):=by
   rw[List.length_append,List.length_singleton,List.take_succ,Jv,List.foldl_append];rfl
  have hlen:(((rows.zip held).take done.length).foldl (EQ n j q sg) (List.replicate n (cq q 0))).length=n:=by rw[kO,List.length_replicate]
  generalize ((rows.zip held).take done.length).foldl (EQ n j q sg) (List.replicate n (cq q 0))=acc at f ef hlen
  simp only[Tg.put,Tg.Dr,List.set_cons_succ,List.set_cons_zero,gc,cE,ah,v3,lk,k6,cj,decide_eq_true_eq]
  by_cases HS:(hd:Int) < (n:Int)
  ·rw[if_pos HS]
   simp only[d8,ac,ag,ah,bW,v3,lk,bZ,X _ _ B.o,sI,true_and,al,Hb,pa.1,aL]
   have K7:Sz sg:=by rcases hs with rfl|rfl<;>exact bo iV
   refine⟨K7.mul (D.s row F5 _ pa.2),C8 hq Gd ?_⟩
   simp only[cW,f]
   rw[hlen,dQ (by omega)]
   refine hK _ _ ⟨X.put Fn,?_,_,_,rfl⟩
   rw[aa,ef]
   unfold EQ
   rw[if_pos (by show hd < n;omega)]
  ·rw[if_neg HS]
   refine hK _ _ ⟨X,?_,_,_,rfl⟩
   rw[f,ef]
   unfold EQ
   rw[if_neg (by show ¬hd < n;omega)]
 ·rintro σ S' ⟨X,f,x5,x6,rfl⟩
  refine hN _ _ ?_
  have ll:(aX (rs.map PV.ref) (hV held)).length=(rows.zip held).length:=by unfold aX hV;simp[B.rl]
  rw[ll,List.take_length]at f
  simp only[aE,v3,lk]
  exact k p1 S' Fn X f
noncomputable def io(d:Nat)(c:Cl):Bool:=decide (c.who=some d)&&c.eff.all fun e=>decide (0<=e)
noncomputable def nz(cs:List Cl)(d:Nat):List Nat:=(cs.zipIdx.filter fun p=>io d p.1).map (·.2)
noncomputable def C_(cs:List Cl)(d:Nat):Nat:=(nz cs d).getD 0 0
def oz{cs:List Cl}{d:Nat}(h:∃c∈cs,io d c=true):∃c,cs[C_ cs d]?=some c/\io d c=true/\nz cs d≠[]:=by
 obtain⟨c,hc,hf⟩:=h
 obtain⟨i,hi⟩:=List.getElem?_of_mem hc
 have hm:(c,i)∈cs.zipIdx:=by rw[List.mem_zipIdx_iff_getElem?];exact hi
 have hne:nz cs d≠[]:=fun e=>by
  have:i∈nz cs d:=List.mem_map.mpr ⟨(c,i),List.mem_filter.mpr ⟨hm,hf⟩,rfl⟩
  rw[e]at this;cases this
 obtain⟨x,r,e⟩:=List.exists_cons_of_ne_nil hne
 have hx:x∈nz cs d:=by rw[e];simp
 obtain⟨⟨c',i'⟩,hp,rfl⟩:=List.mem_map.mp hx
 obtain⟨h1,h2⟩:=List.mem_filter.mp hp
 rw[List.mem_zipIdx_iff_getElem?]at h1
 refine⟨c',?_,h2,hne⟩
 unfold C_
 rw[e]
 exact h1
def BG(cs:List Cl):L3.a8 (cs.map Cl.pv)=cs.zipIdx.map fun p=>PV.tup [.int (p.2:Int),p.1.pv]:=by
 unfold L3.a8
 refine List.ext_getElem? fun i=>?_
 rw[List.getElem?_mapIdx,List.getElem?_map,List.getElem?_map,List.getElem?_zipIdx]
 cases cs[i]?<;>simp
def u3{ns:Vu}{M:Int}(h:L2.xZ ns 0 M):decide (0<=M)=ns.all fun e=>decide (0<=e):=by
 rw[Bool.eq_iff_iff,decide_eq_true_eq,List.all_eq_true]
 rcases h with⟨rfl,rfl⟩|⟨h1,h2⟩
 ·exact⟨(fun _ x hx=>by cases hx),fun _=>Int.le_refl _⟩
 ·constructor
  ·intro h x hx
   have:=h2 x hx
   exact decide_eq_true (by omega)
  ·intro h
   exact of_decide_eq_true (h M h1)
abbrev j5(w:aF):Prop:=∀{S:ar} {cs:List Cl} {d:Nat} {Q:bH} {E:cg},cs.length<=500->(∃c∈cs,io d c=true)->(∀S',Ext S S'->Q (.int (C_ cs d:Int)) S')->w [.tup (cs.map Cl.pv),.int (d:Int)] S Q E
def EG:j5 (bj 3 a9):=by
 intro S cs d Q E hl hex k
 unfold a9
 refine fK ?_
 rw[show az 3 [.tup (cs.map Cl.pv),.int (d:Int)]=[some (.tup (cs.map Cl.pv)),some (.int (d:Int)),none] from rfl]
 refine aB fun N hN=>?_
 simp only[ap,aw,iD,v3,lk]
 rw[BG]
 refine fZ (fun p:Cl×Nat=>PV.tup [.int (p.2:Int),p.1.pv]) (fun p=>.int (p.2:Int)) (fun p=>io d p.1) trivial cs.zipIdx [] (fun p hp=>⟨_,rfl,fun K hK=>?_,fun _ Q' q=>?_⟩) (aQ (by simp;omega)) ?_
 ·simp only[bN,List.reduceReplicate,List.map_cons,List.map_nil,List.cons_append,List.nil_append,List.set_cons_zero,List.set_cons_succ,kz,cE,ah,v3,lk,c3,al,Cl.pv,lN,zI]
  refine m_ ?_
  unfold io at hK
  by_cases hw:p.1.who=some d
  ·simp only[hw,decide_true,if_true,Bool.true_and]at hK ⊢
   simp only[oq,lK,xJ,cj]
   intro M hM
   rw[u3 hM]
   exact hK
  ·simp only[hw,decide_false,Bool.false_eq_true,if_false,Bool.false_and]at hK ⊢
   exact hK
 ·simp only[v3,lk,bN,List.reduceReplicate,List.map_cons,List.map_nil,List.cons_append,List.nil_append,List.set_cons_zero,List.set_cons_succ]
  exact q
 intro p1 hp1
 have X1:Ext S (CG S p1 (.lst ([]++(cs.zipIdx.filter fun p=>io d p.1).map fun p=>PV.int (p.2:Int)))):=.new hp1
 have f1:(CG S p1 (.lst ([]++(cs.zipIdx.filter fun p=>io d p.1).map fun p=>PV.int (p.2:Int)))) p1=some (.lst ((nz cs d).map fun i:Nat=>PV.int (i:Int))):=by rw[aa,List.nil_append];unfold nz;rw[List.map_map];rfl
 generalize CG S p1 (.lst ([]++(cs.zipIdx.filter fun p=>io d p.1).map fun p=>PV.int (p.2:Int)))=S1 at X1 f1
 obtain⟨c,_,_,hne⟩:=oz hex
 obtain⟨x,r,e⟩:=List.exists_cons_of_ne_nil hne
 have ex:C_ cs d=x:=by unfold C_;rw[e];rfl
 rw[e]at f1
 simp only[List.set_cons_succ,List.set_cons_zero]
 refine hN _ _ ?_
 simp only[aE,ah,v3,lk,c3,al,f1,List.map_cons,lN]
 rw[ex]at k
 exact k S1 X1
structure Dm (rows:List (List Int)) (held:List Nat) (m V:Nat):Prop where
 rl:rows.length=m+1
 hl:held.length=m
 w:∀row∈rows,row.length=V+1
def sJ{row ch:Vu}{c:Nat}{q:Int}(h:row.length=ch.length):(kJ row ch c q).length=row.length:=by unfold kJ;rw[List.length_zipWith];omega
def Dm.Ey{rows:List (List Int)}{held:List Nat}{m V r c:Nat}{q:Int}(h:Dm rows held m V)(hr:r<=m):Dm (im rows r c q) (held.set r c) m V:=by
 have h1:=h.rl
 obtain⟨ch,hch⟩:∃ch,rows[r]?=some ch:=⟨_,List.getElem?_eq_getElem (by omega)⟩
 have Ho:=aq (d:=[]) hch
 have HQ:=h.w ch (List.mem_of_getElem? hch)
 refine⟨by unfold im;rw[List.length_set,List.length_map,h1],by rw[List.length_set,h.hl],fun row hm=>?_⟩
 unfold im at hm
 rw[Ho]at hm
 rcases List.mem_or_eq_of_mem_set hm with hm|rfl
 ·obtain⟨Gq,h0,rfl⟩:=List.mem_map.mp hm
  rw[sJ (by rw[h.w Gq h0,HQ]),h.w Gq h0]
 ·exact HQ
def qf(row ch:Vu)(c:Nat)(q:Int)(h:row.length=ch.length)(j:Nat):(kJ row ch c q).getD j 0=(row.getD j 0 * ch.getD c 0 - row.getD c 0 * ch.getD j 0).fdiv q:=by
 unfold kJ
 rw[List.getD_eq_getElem?_getD (l:=List.zipWith _ _ _),List.getElem?_zipWith]
 by_cases hj:j < row.length
 ·have e1:=List.getElem?_eq_getElem hj
  have e2:=List.getElem?_eq_getElem (show j < ch.length by omega)
  rw[e1,e2,aq e1,aq e2]
  rfl
 ·have e1:row[j]?=none:=List.getElem?_eq_none (by omega)
  have e2:ch[j]?=none:=List.getElem?_eq_none (by omega)
  rw[e1,List.getD_eq_getElem?_getD (i:=j),e1,List.getD_eq_getElem?_getD (i:=j),e2]
  simp
def kP{rows:List (List Int)}{held:List Nat}{m V r c:Nat}{q:Int}(h:Dm rows held m V)(hr:r < m):toS (im rows r c q) (held.set r c) ((rows.getD r []).getD c 0)=Wg.Ey (toS rows held q) r c:=by
 have h1:=h.rl
 have h2:=h.hl
 obtain⟨ch,hch⟩:∃ch,rows[r]?=some ch:=⟨_,List.getElem?_eq_getElem (by omega)⟩
 have Ho:=aq (d:=[]) hch
 have HQ:=h.w ch (List.mem_of_getElem? hch)
 have eT:(toS (im rows r c q) (held.set r c) ((rows.getD r []).getD c 0)).T=(Wg.Ey (toS rows held q) r c).T:=by
  funext i j
  show((im rows r c q).getD i []).getD j 0=if i=r then (rows.getD r []).getD j 0 else ((rows.getD i []).getD j 0 * (rows.getD r []).getD c 0 - (rows.getD i []).getD c 0 * (rows.getD r []).getD j 0).fdiv q
  unfold im
  rw[Ho,List.getD_eq_getElem?_getD (l:=List.set _ _ _),List.getElem?_set]
  by_cases e:i=r
  ·subst e
   rw[if_pos rfl,if_pos rfl,if_pos (by rw[List.length_map];omega)];rfl
  ·rw[if_neg (Ne.symm e),if_neg e,List.getElem?_map]
   by_cases hi:i < rows.length
   ·have ei:=List.getElem?_eq_getElem hi
    rw[ei,aq ei]
    show(kJ rows[i] ch c q).getD j 0=_
    rw[qf _ _ _ _ (by rw[h.w _ (List.getElem_mem hi),HQ])]
   ·have ei:rows[i]?=none:=List.getElem?_eq_none (by omega)
    rw[ei,List.getD_eq_getElem?_getD (l:=rows),ei]
    simp
 have eH:(toS (im rows r c q) (held.set r c) ((rows.getD r []).getD c 0)).held=(Wg.Ey (toS rows held q) r c).held:=by
  funext i
  show(held.set r c).getD i 0=if i=r then c else held.getD i 0
  rw[List.getD_eq_getElem?_getD,List.getElem?_set]
  by_cases e:i=r
  ·subst e;rw[if_pos rfl,if_pos rfl,if_pos (by omega)];rfl
  ·rw[if_neg (Ne.symm e),if_neg e,List.getD_eq_getElem?_getD]
 have eq:∀x y:Wg.Sx,x.T=y.T->x.held=y.held->x.q=y.q->x=y:=fun x y a b c=>by cases x;cases y;cases a;cases b;cases c;rfl
 exact eq _ _ eT eH rfl
structure bx (cs:List Cl) (mix:Vu) (k:Nat):Prop where
 n1:1<=cs.length
 n2:cs.length<=100
 k1:k<=8
 d1:mix.length<=8
 ef:∀c∈cs,c.eff.length=k
 eb:∀c∈cs,∀e∈c.eff,e.natAbs<=2 ^ 30
 lo:∀c∈cs,M3.yD c.x (c.y:Int)
 x0:∀c∈cs,0<=c.x/\c.x<=2 ^ 30
 yd:∀c∈cs,0 < c.y/\c.y ∣ 2520
 wd:∀c∈cs,∀d,c.who=some d->d < mix.length
 fx:∀d,d < mix.length->∃c∈cs,io d c=true
 m0:∀x∈mix,0<=x/\x<=2 ^ 30
noncomputable def cbO(cs:List Cl):Nat:=qe 1 (cs.map (·.y))
noncomputable def dh(cs:List Cl)(mix:Vu)(k:Nat):List (List Int):=(List.range mix.length).map (ij cs k mix)++(List.range k).map (ik cs k)++[ni cs k (cbO cs)]
noncomputable def dR(cs:List Cl)(mix:Vu)(k:Nat):List Nat:=(List.range (mix.length+k)).map fun i=>cs.length+i - mix.length
noncomputable def qg(cs:List Cl)(mix:Vu)(k:Nat):Nat->List (List Int)
 |0=>dh cs mix k
 |d+1=>im (qg cs mix k d) d (C_ cs d) 1
noncomputable def qq(cs:List Cl)(mix:Vu)(k:Nat):Nat->List Nat
 |0=>dR cs mix k
 |d+1=>(qq cs mix k d).set d (C_ cs d)
noncomputable def Ao(cs:List Cl)(mix:Vu)(k:Nat)(i j:Nat):Int:=((dh cs mix k).getD i []).getD j 0
section
variable {cs:List Cl} {mix:Vu} {k:Nat}
def BH{d:Nat}(h:d < mix.length):(dh cs mix k)[d]?=some (ij cs k mix d):=by
 unfold dh
 rw[List.getElem?_append_left (by simp;omega),List.getElem?_append_left (by simp;omega),List.getElem?_map,List.getElem?_range h];rfl
def BI{t:Nat}(h:t < k):(dh cs mix k)[mix.length+t]?=some (ik cs k t):=by
 unfold dh
 rw[List.getElem?_append_left (by simp;omega),List.getElem?_append_right (by simp),List.length_map,List.length_range,Nat.add_sub_cancel_left,List.getElem?_map,List.getElem?_range h];rfl
def BJ:(dh cs mix k)[mix.length+k]?=some (ni cs k (cbO cs)):=by
 unfold dh
 rw[List.getElem?_append_right (by simp)]
 simp
def BK{d j:Nat}(h:d < mix.length):Ao cs mix k d j=(ij cs k mix d).getD j 0:=by unfold Ao;rw[aq (BH h)]
def BL{t j:Nat}(h:t < k):Ao cs mix k (mix.length+t) j=(ik cs k t).getD j 0:=by unfold Ao;rw[aq (BI h)]
def B9{j:Nat}:Ao cs mix k (mix.length+k) j=(ni cs k (cbO cs)).getD j 0:=by unfold Ao;rw[aq BJ]
def nA{xs ys:Vu}{j:Nat}(h:j < xs.length):(xs++ys).getD j 0=xs.getD j 0:=by rw[List.getD_eq_getElem?_getD,List.getElem?_append_left h,List.getD_eq_getElem?_getD]
def sK{xs ys:Vu}{j n:Nat}(h:xs.length=n):(xs++ys).getD (n+j) 0=ys.getD j 0:=by rw[List.getD_eq_getElem?_getD,List.getElem?_append_right (by omega),List.getD_eq_getElem?_getD,show n+j - xs.length=j by omega]
def cK{f:Cl->Int}{j:Nat}{c:Cl}(h:cs[j]?=some c):(cs.map f).getD j 0=f c:=aq (by rw[List.getElem?_map,h];rfl)
def qh{d j:Nat}(h:d < mix.length){c:Cl}(hc:cs[j]?=some c):Ao cs mix k d j=w1 d c:=by
 have hj:=(List.getElem?_eq_some_iff.mp hc).1
 rw[BK h];unfold ij
 rw[nA (by simp;omega),nA (by simp;exact hj),cK hc]
def u4{d t:Nat}(h:d < mix.length)(ht:t < k):Ao cs mix k d (cs.length+t)=0:=by
 rw[BK h];unfold ij
 rw[nA (by simp;omega),sK (by simp)]
 rw[List.getD_eq_getElem?_getD,List.getElem?_replicate];split<;>rfl
def sM{d:Nat}(h:d < mix.length):Ao cs mix k d (cs.length+k)=mix.getD d 0:=by
 rw[BK h];unfold ij
 have:=sK (xs:=cs.map (w1 d)++List.replicate k 0) (ys:=[mix.getD d 0]) (j:=0) (n:=cs.length+k) (by simp)
 rw[Nat.add_zero]at this
 rw[this];rfl
def u5{t j:Nat}(h:t < k){c:Cl}(hc:cs[j]?=some c):Ao cs mix k (mix.length+t) j = - c.eff.getD t 0:=by
 have hj:=(List.getElem?_eq_some_iff.mp hc).1
 rw[BL h];unfold ik
 rw[nA (by simp;omega),nA (by simp;exact hj),cK hc]
def qi{t u:Nat}(h:t < k)(hu:u < k):Ao cs mix k (mix.length+t) (cs.length+u)=if u=t then 1 else 0:=by
 rw[BL h];unfold ik
 rw[nA (by simp;omega),sK (by simp)]
 exact aq (by rw[List.getElem?_map,List.getElem?_range hu];rfl)
def u6{t:Nat}(h:t < k):Ao cs mix k (mix.length+t) (cs.length+k)=0:=by
 rw[BL h];unfold ik
 have:=sK (xs:=cs.map (fun c=>- c.eff.getD t 0)++(List.range k).map (fun o=>if o=t then (1:Int) else 0)) (ys:=[0]) (j:=0) (n:=cs.length+k) (by simp)
 rw[Nat.add_zero]at this
 rw[this];rfl
def yg{j:Nat}{c:Cl}(hc:cs[j]?=some c):Ao cs mix k (mix.length+k) j = - c.x * ((cbO cs / c.y:Nat):Int):=by
 have hj:=(List.getElem?_eq_some_iff.mp hc).1
 rw[B9];unfold ni
 rw[nA (by simp;exact hj),cK hc]
def nB{t:Nat}(ht:t<=k):Ao cs mix k (mix.length+k) (cs.length+t)=0:=by
 rw[B9];unfold ni
 rw[sK (by simp),List.getD_eq_getElem?_getD,List.getElem?_replicate];split<;>rfl
end
section
variable {cs:List Cl} {mix:Vu} {k:Nat}
def yh:∀(hs:List Nat) (n:Nat),hs.Nodup->(∀z∈hs,z < n)->hs.length<=n:=by
 intro hs n hn hl
 have:∀(n:Nat) (hs:List Nat),hs.Nodup->(∀z∈hs,z < n)->hs.length<=n:=by
  intro n
  induction n with
  |zero=>intro hs _ h;cases hs with|nil=>exact Nat.le_refl _|cons a r=>exact absurd (h a (by simp)) (Nat.not_lt_zero _)
  |succ n ih=>
   intro hs hn h
   have h1:=ih (hs.erase n) (hn.erase n) fun z hz=>by
    have h2:=(List.Nodup.mem_erase_iff hn).mp hz
    have:=h z h2.2
    have:=h2.1
    omega
   have:=List.length_erase_le (a:=n) (l:=hs)
   by_cases hm:n∈hs
   ·rw[List.length_erase_of_mem hm]at h1;omega
   ·rw[List.erase_of_not_mem hm]at h1;omega
 exact this n hs hn hl
def cY(P:bx cs mix k){d:Nat}(hd:d < mix.length):∃c,cs[C_ cs d]?=some c/\c∈cs/\c.who=some d/\(∀e∈c.eff,0<=e)/\C_ cs d < cs.length:=by
 obtain⟨c,hc,hf,_⟩:=oz (P.fx d hd)
 unfold io at hf
 rw[Bool.and_eq_true,decide_eq_true_eq,List.all_eq_true]at hf
 exact⟨c,hc,List.mem_of_getElem? hc,hf.1,fun e he=>of_decide_eq_true (hf.2 e he),(List.getElem?_eq_some_iff.mp hc).1⟩
def l4(P:bx cs mix k):mix.length<=cs.length:=by
 have:=yh ((List.range mix.length).map (C_ cs)) cs.length (by
  refine List.pairwise_map.mpr (List.Pairwise.imp_of_mem (fun{a b} ha hb hne e=>hne ?_) (List.nodup_range (n:=mix.length)))
  obtain⟨c,h1,_,h2,_⟩:=cY P (List.mem_range.mp ha)
  obtain⟨c',h3,_,h4,_⟩:=cY P (List.mem_range.mp hb)
  rw[e,h3]at h1
  cases h1
  rw[h2]at h4
  exact Option.some.inj h4) (fun z hz=>by
  obtain⟨d,hd,rfl⟩:=List.mem_map.mp hz
  obtain⟨_,_,_,_,_,h⟩:=cY P (List.mem_range.mp hd)
  exact h)
 rw[List.length_map,List.length_range]at this
 exact this
def B_(P:bx cs mix k):Dm (dh cs mix k) (dR cs mix k) (mix.length+k) (cs.length+k):=by
 refine⟨by simp[dh];omega,by simp[dR],fun row hm=>?_⟩
 unfold dh at hm
 rw[List.mem_append,List.mem_append,List.mem_map,List.mem_map,List.mem_singleton]at hm
 rcases hm with(⟨d,_,rfl⟩|⟨t,_,rfl⟩)|rfl
 ·simp[ij];omega
 ·simp[ik];omega
 ·simp[ni];omega
theorem Aa(P:bx cs mix k):∀d,d<=mix.length->Dm (qg cs mix k d) (qq cs mix k d) (mix.length+k) (cs.length+k)
 |0,_=>B_ P
 |d+1,h=>(Aa P d (by omega)).Ey (by omega)
noncomputable def bb(cs:List Cl)(mix:Vu)(k d:Nat)(i:Nat):Wg.Vc:=if i < d then Wg.cl (Ao cs mix k) (C_ cs i) else Wg.eu i
noncomputable def Ts(cs:List Cl)(mix:Vu)(k d i j:Nat):Int:=((qg cs mix k d).getD i []).getD j 0
def Tab.bnd{m N:Nat}{A T:Nat->Nat->Int}{b:Nat->Wg.Vc}{q:Int}{C:Nat}(h:Wg.Tab m N A T b q)(hA:∀i j,i<=m->j < N->(A i j).natAbs<=C)(hb:∀i kk,i<=m->kk<=m->(b i kk).natAbs<=C):∀i j,i<=m->j < N->(T i j).natAbs<=Wg.Kb C (m+1):=fun i j hi hj=>by
 rw[h.ent hi hj]
 refine Wg.kN C _ _ fun l kk hl hk=>?_
 by_cases e:l=i
 ·subst e;rw[Wg.aA];exact hA kk j (by omega) hj
 ·rw[Wg.aT e];exact hb l kk (by omega) (by omega)
structure AV (cs:List Cl) (mix:Vu) (k d:Nat):Prop where
 tab:Wg.Tab (mix.length+k) (cs.length+k+1) (Ao cs mix k) (Ts cs mix k d) (bb cs mix k d) 1
 Dk:∀i j,i < mix.length->Ts cs mix k d i j=Ao cs mix k i j
 ES:∀t j,t < k->Ts cs mix k d (mix.length+t) j=Ao cs mix k (mix.length+t) j+Wg.sm d fun e=>(cs.getD (C_ cs e) ⟨none,0,1,[]⟩).eff.getD t 0 * Ao cs mix k e j
def oA(P:bx cs mix k){d e:Nat}(hd:d < mix.length)(he:e < mix.length):Ao cs mix k e (C_ cs d)=if e=d then 1 else 0:=by
 obtain⟨c,h1,_,h2,_⟩:=cY P hd
 rw[qh he h1]
 unfold w1
 rw[h2]
 by_cases h:e=d
 ·subst h;rw[if_pos rfl,if_pos rfl]
 ·rw[if_neg h,if_neg fun h'=>h (Option.some.inj h').symm]
def BM(P:bx cs mix k):AV cs mix k 0 where
 tab:=⟨fun j kk hj hk=>by
   rw[Int.one_mul,Wg.bc (i:=kk) (by omega)]
   ·show _=Ao cs mix k kk j * bb cs mix k 0 kk kk
    unfold bb Wg.eu
    simp
   ·intro l hl hne
    unfold bb Wg.eu
    simp[Ne.symm hne],Wg.vN _ _ fun i kk hi hk=>by unfold bb;rw[if_neg (Nat.not_lt_zero _)],by decide,fun kk=>by unfold bb;rw[if_neg (Nat.not_lt_zero _)]⟩
 Dk:=fun i j h=>rfl
 ES:=fun t j h=>by show Ao cs mix k (mix.length+t) j=_+0;rw[Int.add_zero]
def sN(P:bx cs mix k){d:Nat}(hd:d < mix.length)(h:AV cs mix k d):AV cs mix k (d+1):=by
 have D:=Aa P d (by omega)
 obtain⟨c,hc,hcm,hw,he,hlt⟩:=cY P hd
 have p1:Ts cs mix k d d (C_ cs d)=1:=by rw[h.Dk d _ hd,oA P hd hd,if_pos rfl]
 have q1:((qg cs mix k d).getD d []).getD (C_ cs d) 0=1:=p1
 have eS:=kP (q:=1) (c:=C_ cs d) D (show d < mix.length+k by omega)
 have eT:∀i j,Ts cs mix k (d+1) i j=if i=d then Ts cs mix k d d j else (Ts cs mix k d i j * Ts cs mix k d d (C_ cs d) - Ts cs mix k d i (C_ cs d) * Ts cs mix k d d j).fdiv 1:=fun i j=>by
  have:=congrFun (congrFun (congrArg Wg.Sx.T eS) i) j
  exact this
 have Ka:∀i j,i≠d->Ts cs mix k (d+1) i j=Ts cs mix k d i j - Ts cs mix k d i (C_ cs d) * Ao cs mix k d j:=fun i j hne=>by
  rw[eT i j,if_neg hne,p1,Int.mul_one,h.Dk d j hd,Int.fdiv_one]
 have Kc:∀j,Ts cs mix k (d+1) d j=Ts cs mix k d d j:=fun j=>by rw[eT d j,if_pos rfl]
 obtain⟨_,tb⟩:=h.tab.Ey (r:=d) (c:=C_ cs d) (T2:=Ts cs mix k (d+1)) (by omega) (by omega) (by rw[p1];decide) (fun j _=>Kc j) (fun i j _ hne _=>by rw[eT i j,if_neg hne])
 refine⟨?_,fun i j hi=>?_,fun t j ht=>?_⟩
 ·rw[p1]at tb
  have eb:Wg.ud (bb cs mix k d) d (Wg.cl (Ao cs mix k) (C_ cs d))=bb cs mix k (d+1):=by
   funext i
   unfold Wg.ud bb
   by_cases e:i=d
   ·subst e;rw[if_pos rfl,if_pos (by omega)]
   ·rw[if_neg e]
    by_cases h2:i < d
    ·rw[if_pos h2,if_pos (by omega)]
    ·rw[if_neg h2,if_neg (by omega)]
  rw[eb]at tb
  exact tb
 ·by_cases e:i=d
  ·subst e;rw[Kc];exact h.Dk i j hi
  ·rw[Ka i j e,h.Dk i j hi,h.Dk i _ hi,oA P hd hi,if_neg e,Int.zero_mul,Int.sub_zero]
 ·rw[Ka _ j (by omega),h.ES t j ht,h.ES t _ ht,u5 ht hc]
  have z:Wg.sm d (fun e=>(cs.getD (C_ cs e) ⟨none,0,1,[]⟩).eff.getD t 0 * Ao cs mix k e (C_ cs d))=0:=Wg.aU (fun e he'=>by rw[oA P hd (show e < mix.length by omega),if_neg (by omega),Int.mul_zero])
  rw[z]
  simp only[Wg.sm]
  rw[show cs.getD (C_ cs d) ⟨none,0,1,[]⟩=c from aq hc,Int.add_zero,Int.neg_mul]
  omega
theorem u7(P:bx cs mix k):∀d,d<=mix.length->AV cs mix k d
 |0,_=>BM P
 |d+1,h=>sN P (by omega) (u7 P d (by omega))
noncomputable def Cb:Nat:=2 ^ 42
def oB(P:bx cs mix k):∀i j,i<=mix.length+k->j<=cs.length+k->(Ao cs mix k i j).natAbs<=Cb:=by
 intro i j hi hj
 have col:j < cs.length->∃c,cs[j]?=some c/\c∈cs:=fun h=>⟨_,List.getElem?_eq_getElem h,List.getElem_mem h⟩
 have one:(1:Int).natAbs<=Cb:=by decide
 have nought:(0:Int).natAbs<=Cb:=by decide
 have big:(2:Nat) ^ 30<=Cb:=by decide
 have sp:j < cs.length\/(∃t,t < k/\j=cs.length+t)\/j=cs.length+k:=by
  by_cases h1:j < cs.length
  ·exact .inl h1
  ·by_cases h2:j=cs.length+k
   ·exact .inr (.inr h2)
   ·exact .inr (.inl ⟨j - cs.length,by omega,by omega⟩)
 by_cases h1:i < mix.length
 ·rcases sp with h|⟨t,ht,rfl⟩|rfl
  ·obtain⟨c,hc,_⟩:=col h
   rw[qh h1 hc];unfold w1;split
   ·exact one
   ·exact nought
  ·rw[u4 h1 ht];exact nought
  ·rw[sM h1]
   have e:=List.getElem?_eq_getElem h1
   rw[aq e]
   have:=P.m0 _ (List.getElem_mem h1)
   omega
 ·by_cases h2:i=mix.length+k
  ·subst h2
   rcases sp with h|⟨t,ht,rfl⟩|rfl
   ·obtain⟨c,hc,hm⟩:=col h
    rw[yg hc]
    have x0:=P.x0 c hm
    have ok:=jo 2520 (by decide) (cs.map (·.y)) 1 (by decide) (Nat.one_dvd _) fun y hy=>by obtain⟨c,h,rfl⟩:=List.mem_map.mp hy;exact P.yd c h
    have l1:cbO cs<=2520:=ii ok.2.1
    have l2:cbO cs / c.y<=2520:=Nat.le_trans (Nat.div_le_self _ _) l1
    rw[Int.natAbs_mul]
    have a1:(-c.x).natAbs<=2 ^ 30:=by omega
    have a2:(((cbO cs / c.y:Nat):Int)).natAbs<=2 ^ 12:=by rw[Int.natAbs_natCast];exact Nat.le_trans l2 (by decide)
    exact Nat.le_trans (Nat.mul_le_mul a1 a2) (by decide)
   ·rw[nB (by omega)];exact nought
   ·rw[nB (Nat.le_refl _)];exact nought
  ·obtain⟨u,hu,rfl⟩:∃u,u < k/\i=mix.length+u:=⟨i - mix.length,by omega,by omega⟩
   rcases sp with h|⟨t,ht,rfl⟩|rfl
   ·obtain⟨c,hc,hm⟩:=col h
    rw[u5 hu hc,Int.natAbs_neg]
    have hl:u < c.eff.length:=by rw[P.ef c hm];exact hu
    rw[aq (List.getElem?_eq_getElem hl)]
    exact Nat.le_trans (P.eb c hm _ (List.getElem_mem hl)) big
   ·rw[qi hu ht];split
    ·exact one
    ·exact nought
   ·rw[u6 hu];exact nought
def sO:∀m,m<=16->Wg.Kb Cb (m+1) < dG:=by
 have:∀m,m<=17->Wg.Kb Cb m<=2 ^ (50 * m):=by
  intro m
  induction m with
  |zero=>intro _;exact Nat.le_refl _
  |succ m ih=>
   intro h
   show(m+1) * (Cb * Wg.Kb Cb m)<=2 ^ (50 * (m+1))
   have h1:=ih (by omega)
   have e:(2:Nat) ^ (50 * (m+1))=2 ^ 8 * (2 ^ 42 * 2 ^ (50 * m)):=by rw[<-Nat.pow_add,<-Nat.pow_add];congr 1;omega
   rw[e]
   exact Nat.mul_le_mul (by omega) (Nat.mul_le_mul (Nat.le_refl _) h1)
 intro m hm
 refine Nat.lt_of_le_of_lt (this (m+1) (by omega)) ?_
 unfold dG
 exact Nat.pow_lt_pow_right (by decide) (by omega)
def yi(P:bx cs mix k){d:Nat}(hd:d<=mix.length):∀i kk,i<=mix.length+k->kk<=mix.length+k->(bb cs mix k d i kk).natAbs<=Cb:=fun i kk hi hk=>by
 unfold bb
 split
 ·rename_i h
  obtain⟨_,_,_,_,_,hlt⟩:=cY P (show i < mix.length by omega)
  exact oB P kk _ hk (by omega)
 ·unfold Wg.eu;split<;>decide
def sP{rows:List (List Int)}{held:List Nat}{m V:Nat}(D:Dm rows held m V)(hm:m<=16)(hv:V<=400)(hb:∀i j,i<=m->j<=V->((rows.getD i []).getD j 0).natAbs < dG):Dim rows held m V:=by
 refine⟨D.rl,D.hl,D.w,by omega,hv,fun row hr x hx=>?_⟩
 obtain⟨i,hi⟩:=List.getElem?_of_mem hr
 obtain⟨j,hj⟩:=List.getElem?_of_mem hx
 have h1:=(List.getElem?_eq_some_iff.mp hi).1
 have h2:=(List.getElem?_eq_some_iff.mp hj).1
 have:=hb i j (by rw[D.rl]at h1;omega) (by rw[D.w row hr]at h2;omega)
 rw[aq hi,aq hj]at this
 exact bo (by omega)
def BN(P:bx cs mix k){d:Nat}(hd:d<=mix.length):Dim (qg cs mix k d) (qq cs mix k d) (mix.length+k) (cs.length+k):=by
 have a:=P.k1;have b:=P.d1;have c:=P.n2
 refine sP (Aa P d hd) (by omega) (by omega) fun i j hi hj=>?_
 refine Nat.lt_of_le_of_lt (Tab.bnd (u7 P d hd).tab (C:=Cb) (fun i j hi hj=>oB P i j hi (by omega)) (yi P hd) i j hi (by omega)) (sO _ (by omega))
theorem sQ(P:bx cs mix k):∀d,d<=mix.length->∀i,i < mix.length+k->(qq cs mix k d).getD i 0=if i < d then C_ cs i else cs.length+i - mix.length
 |0,_,i,hi=>by
  rw[if_neg (Nat.not_lt_zero _)]
  show(dR cs mix k).getD i 0=_
  unfold dR
  exact aq (by rw[List.getElem?_map,List.getElem?_range hi];rfl)
 |d+1,h,i,hi=>by
  show((qq cs mix k d).set d (C_ cs d)).getD i 0=_
  have hl:=(Aa P d (by omega)).hl
  have ih:=sQ P d (by omega) i hi
  rw[List.getD_eq_getElem?_getD,List.getElem?_set]
  by_cases e:i=d
  ·subst e;rw[if_pos rfl,if_pos (by omega),if_pos (by omega)];rfl
  ·rw[if_neg (Ne.symm e),<-List.getD_eq_getElem?_getD,ih]
   by_cases h2:i < d
   ·rw[if_pos h2,if_pos (by omega)]
   ·rw[if_neg h2,if_neg (by omega)]
def BO(P:bx cs mix k):Wg.Val (mix.length+k) (cs.length+k) (Ao cs mix k) (toS (qg cs mix k mix.length) (qq cs mix k mix.length) 1) (bb cs mix k mix.length):=by
 have I:=u7 P mix.length (Nat.le_refl _)
 have hn:=l4 P
 have hh:∀i,i < mix.length+k->(toS (qg cs mix k mix.length) (qq cs mix k mix.length) 1).held i=if i < mix.length then C_ cs i else cs.length+i - mix.length:=fun i hi=>sQ P _ (Nat.le_refl _) i hi
 refine⟨I.tab,fun i hi=>?_,fun i kk hi hk=>?_,fun i hi=>?_⟩
 ·rw[hh i hi]
  split
  ·rename_i h
   obtain⟨_,_,_,_,_,hlt⟩:=cY P h
   omega
  ·omega
 ·rw[hh i hi]
  unfold bb
  by_cases h:i < mix.length
  ·rw[if_pos h,if_pos h];rfl
  ·rw[if_neg h,if_neg h]
   obtain⟨t,ht,rfl⟩:∃t,t < k/\i=mix.length+t:=⟨i - mix.length,by omega,by omega⟩
   rw[show cs.length+(mix.length+t) - mix.length=cs.length+t by omega]
   unfold Wg.eu
   by_cases h1:kk < mix.length
   ·rw[u4 h1 ht,if_neg (by omega)]
   ·by_cases h2:kk=mix.length+k
    ·rw[h2,nB (by omega),if_neg (by omega)]
    ·obtain⟨u,hu,rfl⟩:∃u,u < k/\kk=mix.length+u:=⟨kk - mix.length,by omega,by omega⟩
     rw[qi hu ht]
     by_cases h3:t=u
     ·rw[if_pos h3,if_pos (by omega)]
     ·rw[if_neg h3,if_neg (by omega)]
 ·show 0<=Ts cs mix k mix.length i (cs.length+k)
  by_cases h:i < mix.length
  ·rw[I.Dk i _ h,sM h,aq (List.getElem?_eq_getElem h)]
   exact(P.m0 _ (List.getElem_mem h)).1
  ·obtain⟨t,ht,rfl⟩:∃t,t < k/\i=mix.length+t:=⟨i - mix.length,by omega,by omega⟩
   rw[I.ES t _ ht,u6 ht,Int.zero_add]
   refine Wg.dP fun e he=>?_
   obtain⟨c,hc,hm,_,hpos,_⟩:=cY P he
   rw[aq hc,sM he,aq (List.getElem?_eq_getElem he)]
   have hl:t < c.eff.length:=by rw[P.ef c hm];exact ht
   rw[aq (List.getElem?_eq_getElem hl)]
   exact Int.mul_nonneg (hpos _ (List.getElem_mem hl)) (P.m0 _ (List.getElem_mem he)).1
end
abbrev l5(w:aF):Prop:=∀{S:ar} {x R H:Addr} {Q:bH} {E:cg},S x=some (.ins "Balance" [])->(∀S',S' x=some (.ins "Balance" (bF R H 1))->(∀b o,S b=some o->b≠x->S' b=some o)->Q .non S')->w [.ref x,.ref R,.ref H] S Q E
def Fc:l5 (bj 3 b9):=by
 intro S x R H Q E h k
 unfold b9
 refine fK ?_
 rw[show az 3 [PV.ref x,.ref R,.ref H]=[some (.ref x),some (.ref R),some (.ref H)] from rfl]
 refine aB fun N hN=>?_
 simp only[fh,v3,lk,bZ,h,true_and]
 refine⟨by simp,hN _ _ (aB fun N hN=>?_)⟩
 have h1:(CG S x (.ins "Balance" (putF3 ("rows":Str) (.ref R) []))) x=some (.ins "Balance" [("rows",.ref R)]):=aa
 have k1:∀b o,S b=some o->b≠x->(CG S x (.ins "Balance" (putF3 ("rows":Str) (.ref R) []))) b=some o:=fun b o hb hn=>by rw[ak hn];exact hb
 generalize CG S x (.ins "Balance" (putF3 ("rows":Str) (.ref R) []))=S1 at h1 k1
 simp only[fh,v3,lk,bZ,h1,true_and]
 refine⟨by simp,hN _ _ ?_⟩
 have p2:putF3 ("held":Str) (.ref H) [(("rows":Str),PV.ref R)]=[(("rows":Str),PV.ref R),(("held":Str),PV.ref H)]:=by simp[putF3,cM]
 rw[p2]
 have h2:(CG S1 x (.ins "Balance" [("rows",.ref R),("held",.ref H)])) x=some (.ins "Balance" [("rows",.ref R),("held",.ref H)]):=aa
 have k2:∀b o,S1 b=some o->b≠x->(CG S1 x (.ins "Balance" [("rows",.ref R),("held",.ref H)])) b=some o:=fun b o hb hn=>by rw[ak hn];exact hb
 generalize CG S1 x (.ins "Balance" [("rows",.ref R),("held",.ref H)])=S2 at h2 k2
 simp only[fh,v3,lk,c3,bZ,h2,true_and]
 refine⟨by simp,?_⟩
 have p3:putF3 ("bottom":Str) (.int 1) [(("rows":Str),PV.ref R),(("held":Str),PV.ref H)]=bF R H 1:=by simp[putF3,cM,bF]
 rw[p3]
 exact k _ aa fun b o hb hn=>by rw[ak hn];exact k2 _ _ (k1 _ _ hb hn) hn
structure News (S S':ar) (ns:List Addr) (rows:List (List Int)):Prop where
 l:ns.length=rows.length
 x:Ext S S'
 f:∀n∈ns,S n=none
 r:∀(i:Nat) n row,ns[i]?=some n->rows[i]?=some row->S' n=some (.lst (row.map PV.int))
def News.snoc{S S1 S2:ar}{ns:List Addr}{rows:List (List Int)}{p:Addr}{row:Vu}(h:News S S1 ns rows)(hp:S1 p=none)(X:Ext S1 S2)(f:S2 p=some (.lst (row.map PV.int))):News S S2 (ns++[p]) (rows++[row]):=by
 refine⟨by simp[h.l],h.x.trans X,fun n hn=>?_,fun i n rw' hn hr=>?_⟩
 ·rcases List.mem_append.mp hn with h'|h'
  ·exact h.f n h'
  ·rw[List.mem_singleton.mp h'];exact h.x.free hp
 ·by_cases hi:i < ns.length
  ·rw[List.getElem?_append_left hi]at hn
   rw[List.getElem?_append_left (by rw[<-h.l];exact hi)]at hr
   exact X _ _ (h.r i n rw' hn hr)
  ·rw[List.getElem?_append_right (by omega)]at hn
   rw[List.getElem?_append_right (by rw[<-h.l];omega)]at hr
   have e0:i - ns.length=0:=by have:=(List.getElem?_eq_some_iff.mp hn).1;rw[List.length_singleton]at this;omega
   rw[e0]at hn
   rw[<-h.l,e0]at hr
   cases hn;cases hr
   exact f
def News.ext{S S1 S2:ar}{ns:List Addr}{rows:List (List Int)}(h:News S S1 ns rows)(X:Ext S1 S2):News S S2 ns rows:=⟨h.l,h.x.trans X,h.f,fun i n row a b=>X _ _ (h.r i n row a b)⟩
def News.both{S S1 S2:ar}{ns ms:List Addr}{rows HU:List (List Int)}(h:News S S1 ns rows)(g:News S1 S2 ms HU):News S S2 (ns++ms) (rows++HU):=by
 refine⟨by simp[h.l,g.l],h.x.trans g.x,fun n hn=>?_,fun i n row hn hr=>?_⟩
 ·rcases List.mem_append.mp hn with h'|h'
  ·exact h.f n h'
  ·exact h.x.free (g.f n h')
 ·by_cases hi:i < ns.length
  ·rw[List.getElem?_append_left hi]at hn
   rw[List.getElem?_append_left (by rw[<-h.l];exact hi)]at hr
   exact g.x _ _ (h.r i n row hn hr)
  ·rw[List.getElem?_append_right (by omega)]at hn
   rw[List.getElem?_append_right (by rw[<-h.l];omega)]at hr
   rw[<-h.l]at hr
   exact g.r _ n row hn hr
def jr{f:Nat->List Int}{n i:Nat}(h:i < n):((List.range n).map f).take (i+1)=((List.range n).map f).take i++[f i]:=by
 rw[List.take_succ,List.getElem?_map,List.getElem?_range h];rfl
def ip{α:Type}{f:Nat->α}{n:Nat}:((List.range n).map f).take n=(List.range n).map f:=List.take_of_length_le (by simp)
abbrev iq(w:aF):Prop:=∀{S:ar} {cs:List Cl} {mix:Vu} {k:Nat} {Q:bH} {E:cg},bx cs mix k->
 (∀S' a R H rs,S a=none->S H=none->Ext S S'->BalAt S' a R H rs (qg cs mix k mix.length) (qq cs mix k mix.length) 1->Q (.ref a) S')->w [.tup (cs.map Cl.pv),.int (k:Int),.tup (mix.map PV.int)] S Q E
def sR{x0 x1 x2 x3 x4 x5:aF}(Fl:kI x0)(E7:lT x1)(E8:lU x2)(Fc:l5 x3)(Ek:gK x4)(EG:j5 x5):iq (bj 8 (ee x0 x1 x2 x3 x4 x5)):=by
 intro S cs mix k Q E P kk
 unfold ee
 refine fK ?_
 rw[show az 8 [.tup (cs.map Cl.pv),.int (k:Int),.tup (mix.map PV.int)]=[some (.tup (cs.map Cl.pv)),some (.int (k:Int)),some (.tup (mix.map PV.int)),none,none,none,none,none] from rfl]
 have n2:=P.n2;have k1:=P.k1;have d1:=P.d1;have dn:=l4 P
 refine aB fun N hN=>?_
 simp only[ap,ac,ag,aw,aO,v3,lk,bY]
 refine a7 Cl.pv dB trivial cs [] (fun c hc=>⟨_,rfl,fun Q' q=>?_⟩) (aQ (by simp;omega)) ?_
 ·simp only[bN,List.reduceReplicate,List.map_nil,List.append_nil,List.set_cons_zero,ah,v3,lk,c3,al,Cl.pv,pV]
  exact q
 intro p0 hp0
 rw[List.nil_append]
 refine Fl (fun c hc=>P.yd c hc) aa ?_
 have X0:Ext S (CG S p0 (.lst (cs.map dB))):=.new hp0
 generalize CG S p0 (.lst (cs.map dB))=S0 at X0
 have ok:=jo 2520 (by decide) (cs.map (·.y)) 1 (by decide) (Nat.one_dvd _) fun y hy=>by obtain⟨c,h,rfl⟩:=List.mem_map.mp hy;exact P.yd c h
 have l1:cbO cs<=2520:=ii ok.2.1
 rw[show qe 1 (cs.map (·.y))=cbO cs from rfl]
 simp only[List.set_cons_succ,List.set_cons_zero]
 refine hN _ _ (aB fun N hN=>?_)
 simp only[ap,ah,aw,aO,v3,lk,bY]
 refine a7 Cl.pv (fun c=>.int (- c.x * ((cbO cs / c.y:Nat):Int))) trivial cs [] (fun c hc=>⟨_,rfl,fun Q' q=>?_⟩) (aQ (by simp;omega)) ?_
 ·simp only[bN,List.reduceReplicate,List.map_cons,List.map_nil,List.cons_append,List.nil_append,List.set_cons_zero,ah,iC,cP,v3,lk,c3,al,Cl.pv,lN,pV,dA,eG]
  have y1:=P.yd c hc
  have y2:=ii y1.2
  refine⟨xK (by omega) (by omega),?_⟩
  rw[show((cbO cs:Nat):Int).fdiv (c.y:Int)=((cbO cs / c.y:Nat):Int) by rw[Int.fdiv_eq_ediv_of_nonneg _ (by omega),Int.natCast_ediv]]
  simp only[aL]
  have l2:cbO cs / c.y<=2520:=Nat.le_trans (Nat.div_le_self _ _) l1
  generalize cbO cs / c.y=z at l2 q
  exact⟨mZ (by omega) (by omega),q⟩
 intro p1 hp1
 rw[List.nil_append,sC (fun c:Cl=>- c.x * ((cbO cs / c.y:Nat):Int))]at *
 have X1:Ext S0 (CG S0 p1 (.lst ((cs.map fun c:Cl=>- c.x * ((cbO cs / c.y:Nat):Int)).map PV.int))):=.new hp1
 have f1:(CG S0 p1 (.lst ((cs.map fun c:Cl=>- c.x * ((cbO cs / c.y:Nat):Int)).map PV.int))) p1=some (.lst ((cs.map fun c:Cl=>- c.x * ((cbO cs / c.y:Nat):Int)).map PV.int)):=aa
 generalize CG S0 p1 (.lst ((cs.map fun c:Cl=>- c.x * ((cbO cs / c.y:Nat):Int)).map PV.int))=S1 at X1 f1
 simp only[cC,ag,c3]
 intro p2 hp2
 have X2:Ext S1 (CG S1 p2 (.lst [.int 0])):=.new hp2
 have f2:(CG S1 p2 (.lst [.int 0])) p2=some (.lst [.int 0]):=aa
 generalize CG S1 p2 (.lst [.int 0])=S2 at X2 f2
 have e1:∀Q:bH,aP (.int (k:Int)) (.int 1) S2 Q=Q (.int ((k+1:Nat):Int)) S2:=fun _=>rfl
 simp only[e1]
 refine zV f2 (by omega) fun p3 S3 hp3 X3 f3=>?_
 refine lS (X3 _ _ (X2 _ _ f1)) f3 (by simp;omega) fun pg S4 Hq X4 fg=>?_
 rw[<-List.map_append,show cs.map (fun c:Cl=>- c.x * ((cbO cs / c.y:Nat):Int))++List.replicate (k+1) 0=ni cs k (cbO cs)from rfl]at fg
 have XA:Ext S S4:=X0.trans (X1.trans (X2.trans (X3.trans X4)))
 have K8:S pg=none:=(X0.trans (X1.trans (X2.trans X3))).free Hq
 simp only[List.set_cons_succ,List.set_cons_zero]
 refine hN _ _ (aB fun N hN=>?_)
 simp only[ap,aw,bm,ai,ag,v3,lk,bA,List.length_map]
 refine⟨by omega,by omega,?_⟩
 rw[Int.toNat_natCast]
 refine bC (fun done ys S'=>done.length<=mix.length/\∃ns,ys=ns.map PV.ref/\News S4 S' ns (((List.range mix.length).map (ij cs k mix)).take done.length)) ⟨Nat.zero_le _,[],rfl,⟨by simp,.refl,(fun n h=>by cases h),(fun i n row h=>by cases h)⟩⟩ ?_ ?_ ?_
 ·rintro done ys S' ⟨h,ns,rfl,nw⟩
  exact⟨trivial,aQ (by rw[List.length_map,nw.l];simp;omega)⟩
 ·rintro done x rest ys S' K e ⟨h,ns,rfl,nw⟩ hK
  obtain⟨rfl,hi⟩:=bK e
  simp only[Tg.put,bN,List.reduceReplicate,List.map_cons,List.map_nil,List.cons_append,List.nil_append,List.set_cons_zero,bg,if_true,ac,ag,v3,lk]
  refine E7 (by omega) (by omega) hi fun p S' hp X f=>hK _ _ ⟨by rw[List.length_append];exact hi,ns++[p],by simp,?_⟩
  rw[List.length_append,List.length_singleton,jr hi]
  exact nw.snoc hp X f
 rintro ys S5 ⟨_,ns,rfl,nw⟩ p6 Iu
 rw[bf,ip]at nw
 have X6:Ext S5 (CG S5 p6 (.lst (ns.map PV.ref))):=.new Iu
 have f6:(CG S5 p6 (.lst (ns.map PV.ref))) p6=some (.lst (ns.map PV.ref)):=aa
 have Kd:=nw.ext X6
 have Jw:S4 p6=none:=nw.x.free Iu
 generalize CG S5 p6 (.lst (ns.map PV.ref))=S6 at X6 f6 Kd
 simp only[List.set_cons_succ,List.set_cons_zero]
 refine hN _ _ (aB fun N hN=>?_)
 simp only[bS,jg,pN,ag,aw,bm,v3,lk,f6,true_and]
 refine⟨by omega,by omega,?_⟩
 rw[Int.toNat_natCast]
 refine bC (fun done ys S'=>done.length<=k/\∃ms,ys=ms.map PV.ref/\News S6 S' ms (((List.range k).map (ik cs k)).take done.length)) ⟨Nat.zero_le _,[],rfl,⟨by simp,.refl,(fun n h=>by cases h),(fun i n row h=>by cases h)⟩⟩ ?_ ?_ ?_
 ·rintro done ys S' ⟨h,ms,rfl,mw⟩
  exact⟨trivial,aQ (by rw[List.length_map,mw.l];simp;omega)⟩
 ·rintro done x rest ys S' K e ⟨h,ms,rfl,mw⟩ hK
  obtain⟨rfl,hi⟩:=bK e
  simp only[Tg.put,bN,List.reduceReplicate,List.map_cons,List.map_nil,List.cons_append,List.nil_append,List.set_cons_zero,bg,if_true,ac,ag,v3,lk]
  refine E8 (by omega) (by omega) hi (fun c hc=>P.ef c hc) fun p S' hp X f=>hK _ _ ⟨by rw[List.length_append];exact hi,ms++[p],by simp,?_⟩
  rw[List.length_append,List.length_singleton,jr hi]
  exact mw.snoc hp X f
 rintro ys S7 ⟨_,ms,rfl,mw⟩ p7 Ke
 rw[bf,ip]at mw
 have both:=Kd.both mw
 have Iy:=mw.x _ _ f6
 have K9:(CG S7 p7 (.lst (ms.map PV.ref))) p6=some (.lst (ns.map PV.ref)):=by rw[ak (fun h=>by rw[h,Ke]at Iy;cases Iy)];exact Iy
 simp only[da,K9,aa]
 have lb:=both.l
 simp only[List.length_append,List.length_map,List.length_range]at lb
 refine⟨aQ (by simp only[List.length_map];omega),?_⟩
 rw[<-List.map_append]
 have f8:(CG (CG S7 p7 (.lst (ms.map PV.ref))) p6 (.lst ((ns++ms).map PV.ref))) p6=some (.lst ((ns++ms).map PV.ref)):=aa
 have X8:∀b o,S7 b=some o->b≠p6->(CG (CG S7 p7 (.lst (ms.map PV.ref))) p6 (.lst ((ns++ms).map PV.ref))) b=some o:=fun b o h hb=>by rw[ak hb,ak (fun e=>by rw[e,Ke]at h;cases h)];exact h
 generalize CG (CG S7 p7 (.lst (ms.map PV.ref))) p6 (.lst ((ns++ms).map PV.ref))=S8 at f8 X8
 have HV:Ext S4 S8:=fun b o h=>X8 b o (both.x _ _ h) (fun e=>by rw[e,Jw]at h;cases h)
 have GH:∀(i:Nat) n row,(ns++ms)[i]?=some n->((List.range mix.length).map (ij cs k mix)++(List.range k).map (ik cs k))[i]?=some row->S8 n=some (.lst (row.map PV.int)):=fun i n row hn hr=>by
  have f:=both.r i n row hn hr
  refine X8 _ _ f fun e=>?_
  rw[e,Iy]at f
  injection f with f
  injection f with f
  cases ns with
  |nil=>
   cases ms with
   |nil=>simp at hn
   |cons a r=>
    -- no Dk: the Kf rows have lists of numbers
    rw[List.map_nil]at f
    have:row=[]:=by cases row with|nil=>rfl|cons _ _=>cases f
    subst this
    have hl:=(B_ P).w [] (by unfold dh;exact List.mem_append_left _ (List.mem_of_getElem? hr))
    simp at hl
  |cons a r=>
   cases row with
   |nil=>cases f
   |cons _ _=>injection f with f1 _;cases f1
 refine hN _ _ (aB fun N hN=>?_)
 simp only[ap,r6,ag,ah,cC,v3,lk]
 intro p9 hp9
 have X9:Ext S8 (CG S8 p9 (.lst [.ref pg])):=.new hp9
 have f9:(CG S8 p9 (.lst [.ref pg])) p9=some (.lst [.ref pg]):=aa
 generalize CG S8 p9 (.lst [.ref pg])=S9 at X9 f9
 refine lS (X9 _ _ f8) f9 (by simp;omega) fun pR FV hpR K_ fR=>?_
 have lnm:(ns++ms).length=mix.length+k:=by rw[List.length_append];omega
 have Iz:FV pR=some (.lst ((ns++ms++[pg]).map PV.ref)):=by rw[fR,List.map_append (l₂:=[pg])];rfl
 have Gr:Ext S8 FV:=X9.trans K_
 simp only[aw,bm,ai,ag,v3,lk,bA,Gr _ _ f8,List.length_map]
 refine⟨by omega,by omega,?_⟩
 rw[Int.toNat_natCast,vM]
 refine a7 (fun o:Nat=>PV.int (o:Int)) (fun o=>.int ((cs.length+o - mix.length:Nat):Int)) trivial (List.range (ns++ms).length) [] (fun o ho=>⟨_,rfl,fun Q' q=>?_⟩) (aQ (by simp only[List.length_nil,List.length_range,List.length_append];omega)) ?_
 ·simp only[bN,List.reduceReplicate,List.map_cons,List.map_nil,List.cons_append,List.nil_append,List.set_cons_zero,ah,ai,ag,v3,lk,bA,List.length_map,aP,bn,cj]
  rw[show((cs.length:Int)+(o:Int) - (mix.length:Int))=((cs.length+o - mix.length:Nat):Int) by omega]
  exact q
 rw[List.nil_append,show(List.range (ns++ms).length).map (fun o=>PV.int ((cs.length+o - mix.length:Nat):Int))=hV (dR cs mix k) by unfold hV dR;rw[List.map_map,List.length_append,lb];rfl]
 intro pH IA
 have GI:Ext FV (CG FV pH (.lst (hV (dR cs mix k)))):=.new IA
 have FW:(CG FV pH (.lst (hV (dR cs mix k)))) pH=some (.lst (hV (dR cs mix k))):=aa
 generalize CG FV pH (.lst (hV (dR cs mix k)))=HW at GI FW
 intro a ha
 have IB:Ext HW (CG HW a (.ins "Balance" [])):=.new ha
 refine Fc aa fun F6 Jx k12=>⟨rfl,?_⟩
 have Kg:Ext S4 F6:=fun b o h=>k12 _ _ (IB _ _ (GI _ _ (Gr _ _ (HV _ _ h)))) (fun e=>by have:=GI _ _ (Gr _ _ (HV _ _ h));rw[e,ha]at this;cases this)
 have La:∀b o,S8 b=some o->F6 b=some o:=fun b o h=>k12 _ _ (IB _ _ (GI _ _ (Gr _ _ h))) (fun e=>by have:=GI _ _ (Gr _ _ h);rw[e,ha]at this;cases this)
 have IC:S a=none:=(XA.trans (HV.trans (Gr.trans GI))).free ha
 have ID:S pH=none:=(XA.trans (HV.trans Gr)).free IA
 have XS:Ext S F6:=XA.trans Kg
 have Lb:pH≠a:=fun e=>by rw[e,ha]at FW;cases FW
 have Jy:=Kg _ _ fg
 have B0:BalAt F6 a pR pH (ns++ms++[pg]) (dh cs mix k) (dR cs mix k) 1:=by
  have Jz:F6 pR=some (.lst ((ns++ms++[pg]).map PV.ref)):=k12 _ _ (IB _ _ (GI _ _ Iz)) (fun e=>by have:=GI _ _ Iz;rw[e,ha]at this;cases this)
  have JA:F6 pH=some (.lst (hV (dR cs mix k))):=k12 _ _ (IB _ _ FW) Lb
  have old:∀r∈ns++ms++[pg],∃o,FV r=some o:=fun r hr=>by
   rcases List.mem_append.mp hr with h|h
   ·obtain⟨i,hi⟩:=List.getElem?_of_mem h
    have hlt:=(List.getElem?_eq_some_iff.mp hi).1
    have:i < ((List.range mix.length).map (ij cs k mix)++(List.range k).map (ik cs k)).length:=by simp only[List.length_append,List.length_map,List.length_range]at hlt ⊢;omega
    exact⟨_,Gr _ _ (GH i r _ hi (List.getElem?_eq_getElem this))⟩
   ·rw[List.mem_singleton.mp h];exact⟨_,Gr _ _ (HV _ _ fg)⟩
  refine⟨Jx,Jz,?_,fun i n row hn hr=>?_,JA,(fun e=>by rw[e,IA]at Iz;cases Iz),fun r hr e=>?_⟩
  ·unfold dh
   simp only[List.length_append,List.length_map,List.length_range,List.length_singleton]
   omega
  ·unfold dh at hr
   by_cases hi:i < (ns++ms).length
   ·rw[List.getElem?_append_left hi]at hn
    rw[List.getElem?_append_left (by simp only[List.length_append,List.length_map,List.length_range]at hi ⊢;omega)]at hr
    exact La _ _ (GH i n row hn hr)
   ·have e0:i=(ns++ms).length:=by have:=(List.getElem?_eq_some_iff.mp hn).1;rw[List.length_append (bs:=[pg]),List.length_singleton]at this;omega
    rw[List.getElem?_append_right (by omega),e0,Nat.sub_self]at hn
    rw[List.getElem?_append_right (by simp only[List.length_append,List.length_map,List.length_range]at e0 ⊢;omega)]at hr
    have e2:i - ((List.range mix.length).map (ij cs k mix)++(List.range k).map (ik cs k)).length=0:=by simp only[List.length_append,List.length_map,List.length_range]at e0 ⊢;omega
    rw[e2]at hr
    cases hn;cases hr
    exact Jy
  ·obtain⟨o,ho⟩:=old r hr
   rw[e,IA]at ho;cases ho
 simp only[List.set_cons_succ,List.set_cons_zero]
 refine hN _ _ (aB fun N hN=>?_)
 simp only[bM,bm,ai,ag,v3,lk,bA,List.length_map]
 refine⟨by omega,by omega,?_⟩
 rw[Int.toNat_natCast]
 refine bJ (fun done σ S'=>done.length<=mix.length/\Ext S S'/\(∃R rs,BalAt S' a R pH rs (qg cs mix k done.length) (qq cs mix k done.length) 1)/\∃x3 x4 x5 x6,σ=[some (.tup (cs.map Cl.pv)),some (.int (k:Int)),some (.tup (mix.map PV.int)),x3,x4,x5,x6,some (.ref a)]) ⟨Nat.zero_le _,XS,⟨_,_,B0⟩,_,_,_,_,rfl⟩ (fun _ _ _ _=>trivial) ?_ ?_
 ·rintro done x rest σ S' K e ⟨hd,X,⟨R,rs,B⟩,x3,x4,x5,x6,rfl⟩ hK
  obtain⟨rfl,hi⟩:=bK e
  have hm':(bF R pH 1).lookup ("hold":Str)=none:=rfl
  simp only[Tg.put,List.set_cons_succ,List.set_cons_zero,bS,cH,ag,ac,v3,lk,bZ,B.o,hm',true_and]
  refine EG (by omega) (P.fx _ hi) fun S2 X2=>?_
  have B2:BalAt S2 a R pH rs (qg cs mix k done.length) (qq cs mix k done.length) 1:=⟨X2 _ _ B.o,X2 _ _ B.r,B.rl,fun i r row a b=>X2 _ _ (B.rr i r row a b),X2 _ _ B.h,B.nR,B.nr⟩
  obtain⟨_,hc,_,_,_,hlt⟩:=cY P hi
  have D:=BN P hd
  have q1:((qg cs mix k done.length).getD done.length []).getD (C_ cs done.length) 0=1:=by
   show Ts cs mix k done.length done.length (C_ cs done.length)=1
   rw[(u7 P done.length hd).Dk _ _ hi,oA P hi hi,if_pos rfl]
  refine Ek B2 D.sh (by rw[D.rl];omega) (by rw[D.hl];omega) (show C_ cs done.length < cs.length+k+1 by omega) (by decide) (bo iV) fun S3 R3 JB B3 fr=>?_
  rw[q1]at B3
  refine hK _ _ ⟨by rw[List.length_append];exact hi,fun b o h=>fr b o (X2 _ _ (X _ _ h)) (fun e=>by rw[e,IC]at h;cases h) (fun e=>by rw[e,ID]at h;cases h),⟨R3,JB,by rw[List.length_append,List.length_singleton];exact B3⟩,_,_,_,_,rfl⟩
 ·rintro σ S' ⟨hd,X,⟨R,rs,B⟩,x3,x4,x5,x6,rfl⟩
  rw[bf]at B
  refine hN _ _ ?_
  simp only[aE,v3,lk]
  exact kk S' a R pH rs IC ID X B
noncomputable def Kq:Nat:=2 ^ 850
def Ab:∀m,m<=16->Wg.Kb Cb (m+1)<=Kq:=by
 have:∀m,m<=17->Wg.Kb Cb m<=2 ^ (50 * m):=by
  intro m
  induction m with
  |zero=>intro _;exact Nat.le_refl _
  |succ m ih=>
   intro h
   show(m+1) * (Cb * Wg.Kb Cb m)<=2 ^ (50 * (m+1))
   have h1:=ih (by omega)
   have e:(2:Nat) ^ (50 * (m+1))=2 ^ 8 * (2 ^ 42 * 2 ^ (50 * m)):=by rw[<-Nat.pow_add,<-Nat.pow_add];congr 1;omega
   rw[e]
   exact Nat.mul_le_mul (by omega) (Nat.mul_le_mul (Nat.le_refl _) h1)
 intro m hm
 refine Nat.le_trans (this (m+1) (by omega)) ?_
 unfold Kq
 exact Nat.pow_le_pow_right (by decide) (by omega)
def sS:Kq * 2 ^ 100 < dG:=by unfold Kq dG;rw[<-Nat.pow_add];exact Nat.pow_lt_pow_right (by decide) (by decide)
def di{x:Int}{c:Nat}(h:x.natAbs<=Kq * c)(hc:c<=2 ^ 100):x.natAbs < dG:=Nat.lt_of_le_of_lt (Nat.le_trans h (Nat.mul_le_mul (Nat.le_refl _) hc)) sS
noncomputable def Cn(cs:List Cl)(c:Cl):Int:=c.x * ((cbO cs / c.y:Nat):Int)
def iG{cs:List Cl}{mix:Vu}{k:Nat}(P:bx cs mix k):0 < cbO cs/\cbO cs<=2520/\∀c∈cs,c.y ∣ cbO cs:=by
 have ok:=jo 2520 (by decide) (cs.map (·.y)) 1 (by decide) (Nat.one_dvd _) fun y hy=>by obtain⟨c,h,rfl⟩:=List.mem_map.mp hy;exact P.yd c h
 exact⟨ok.1,ii ok.2.1,fun c hc=>ok.2.2.2 c.y (List.mem_map.mpr ⟨c,hc,rfl⟩)⟩
def u8{cs:List Cl}{mix:Vu}{k:Nat}(P:bx cs mix k){c:Cl}(hc:c∈cs){q:Int}(hq:0 < q):dB c=cq (q * (cbO cs:Int)) (q * Cn cs c):=by
 obtain⟨h0,_,hd⟩:=iG P
 have hy:=(P.yd c hc).1
 unfold dB
 rw[se (P.lo c hc)]
 refine eJ (by omega) (Int.mul_pos hq (by omega)) ?_
 unfold Cn
 obtain⟨z,hz⟩:=hd c hc
 rw[hz,Nat.mul_div_cancel_left _ hy,Int.natCast_mul]
 grind
noncomputable def Hc(cs:List Cl)(q:Int)(Y:Vu)(c:Cl):Int:=q * Cn cs c+dot c.eff Y
noncomputable def oC(cs:List Cl)(q:Int)(Y:Vu)(d:Nat):List Int:=(cs.filter fun c=>decide (c.who=some d)).map (Hc cs q Y)
noncomputable def oE:List Int->Int
 |[]=>0
 |a::r=>r.foldl max a
theorem j6:∀(r:Vu) (a:Int),a<=r.foldl max a/\(∀x∈r,x<=r.foldl max a)/\(r.foldl max a=a\/r.foldl max a∈r)
 |[],a=>⟨Int.le_refl _,(fun x h=>by cases h),.inl rfl⟩
 |b::r,a=>by
  have h:=j6 r (max a b)
  rw[List.foldl_cons]
  refine⟨by omega,fun x hx=>?_,?_⟩
  ·rcases List.mem_cons.mp hx with rfl|hx
   ·omega
   ·exact h.2.1 x hx
  ·rcases h.2.2 with h2|h2
   ·rw[h2]
    by_cases hab:a<=b
    ·exact .inr (by rw[Int.max_eq_right hab];simp)
    ·exact .inl (Int.max_eq_left (by omega))
   ·exact .inr (List.mem_cons_of_mem _ h2)
def kQ{ns:Vu}(h:ns≠[]):oE ns∈ns/\∀a∈ns,a<=oE ns:=by
 obtain⟨a,r,rfl⟩:=List.exists_cons_of_ne_nil h
 have:=j6 r a
 refine⟨?_,fun x hx=>?_⟩
 ·show r.foldl max a∈a::r
  rcases this.2.2 with h|h
  ·rw[h];simp
  ·exact List.mem_cons_of_mem _ h
 ·rcases List.mem_cons.mp hx with rfl|hx
  ·exact this.1
  ·exact this.2.1 x hx
def sT{ns:Vu}{M:Int}(h:M∈ns)(hm:∀a∈ns,a<=M):M=oE ns:=by
 have h1:=kQ (ns:=ns) (fun e=>by rw[e]at h;cases h)
 have:=hm _ h1.1
 have:=h1.2 _ h
 omega
def iX{is ns:Vu}{a b:Nat}(hi:∀i∈is,i.natAbs<=a)(hn:∀n∈ns,n.natAbs<=b):eo (bp is ns)<=is.length * (a * b):=by
 induction is generalizing ns with
 |nil=>simp[bp,eo]
 |cons i r ih=>
  cases ns with
  |nil=>simp[bp,eo]
  |cons n s=>
   have h1:=ih (fun x hx=>hi x (by simp[hx])) (ns:=s) (fun x hx=>hn x (by simp[hx]))
   have h2:=Nat.mul_le_mul (hi i (by simp)) (hn n (by simp))
   simp only[bp,eo,List.zipWith_cons_cons,List.map_cons,List.sum_cons,List.length_cons,Int.natAbs_mul]at *
   rw[Nat.succ_mul]
   omega
def Cy:(2:Nat) ^ 42<=2 ^ 100:=Nat.pow_le_pow_right (by decide) (by decide)
def Ca:(2:Nat) ^ 33<=2 ^ 100:=Nat.pow_le_pow_right (by decide) (by decide)
def Cz:(2:Nat) ^ 42+2 ^ 33<=2 ^ 100:=by omega
structure Qy (q:Int) (Y:Vu) (k:Nat):Prop where
 q0:0 < q
 q1:q.natAbs<=Kq
 l:Y.length=k
 y:∀n∈Y,n.natAbs<=Kq
section
variable {cs:List Cl} {mix:Vu} {k:Nat} {q:Int} {Y:Vu}
def Ac(P:bx cs mix k)(h:Qy q Y k):0 < q * (cbO cs:Int)/\(q * (cbO cs:Int)).natAbs < dG:=by
 obtain⟨h0,h1,_⟩:=iG P
 refine⟨Int.mul_pos h.q0 (by omega),di (c:=2520) ?_ (by decide)⟩
 rw[Int.natAbs_mul]
 exact Nat.mul_le_mul h.q1 (by omega)
def nC(P:bx cs mix k){c:Cl}(hc:c∈cs):(Cn cs c).natAbs<=2 ^ 42/\0<=Cn cs c:=by
 obtain⟨h0,h1,_⟩:=iG P
 have l2:cbO cs / c.y<=2520:=Nat.le_trans (Nat.div_le_self _ _) h1
 have x0:=P.x0 c hc
 unfold Cn
 refine⟨?_,Int.mul_nonneg x0.1 (Int.natCast_nonneg _)⟩
 rw[Int.natAbs_mul,Int.natAbs_natCast]
 exact Nat.le_trans (Nat.mul_le_mul (show c.x.natAbs<=2 ^ 30 by omega) l2) (by decide)
def j7(P:bx cs mix k)(h:Qy q Y k){c:Cl}(hc:c∈cs):(q * Cn cs c).natAbs < dG/\eo (bp c.eff Y) < dG/\(dot c.eff Y).natAbs < dG/\(q * Cn cs c+dot c.eff Y).natAbs < dG:=by
 have a1:(q * Cn cs c).natAbs<=Kq * 2 ^ 42:=by rw[Int.natAbs_mul];exact Nat.mul_le_mul h.q1 (nC P hc).1
 have a2:=iX (is:=c.eff) (ns:=Y) (P.eb c hc) h.y
 rw[P.ef c hc]at a2
 have k1:=P.k1
 have a3:eo (bp c.eff Y)<=Kq * 2 ^ 33:=by
  have k8:=Nat.mul_le_mul k1 (Nat.le_refl (2 ^ 30 * Kq))
  refine Nat.le_trans a2 (Nat.le_trans k8 ?_)
  generalize Kq=z
  omega
 have a4:(dot c.eff Y).natAbs<=Kq * 2 ^ 33:=by rw[<-df];exact Nat.le_trans (gG _) a3
 have a5:=Int.natAbs_add_le (q * Cn cs c) (dot c.eff Y)
 have a6:(q * Cn cs c+dot c.eff Y).natAbs<=Kq * (2 ^ 42+2 ^ 33):=Nat.le_trans a5 (Nat.le_trans (Nat.add_le_add a1 a4) (Nat.le_of_eq (Nat.mul_add _ _ _).symm))
 exact⟨di a1 Cy,Nat.lt_of_le_of_lt (Nat.le_trans a3 (Nat.mul_le_mul (Nat.le_refl _) Ca)) sS,di a4 Ca,di a6 Cz⟩
abbrev ir(w:aF):Prop:=∀{S:ar} {cs:List Cl} {mix:Vu} {k:Nat} {q:Int} {Y:Vu} {d:Nat} {Q:bH} {E:cg},bx cs mix k->Qy q Y k->d < mix.length->(∀S',Ext S S'->Q (cq (q * (cbO cs:Int)) (oE (oC cs q Y d))) S')->w [.tup (cs.map Cl.pv),.tup (Y.map (cq (q * (cbO cs:Int)))),.int (d:Int)] S Q E
def EH{x0 x1 x2:aF}(Gu:vL x0)(sp_plus:ou x1)(CZ:sx x2):ir (bj 3 (fY x0 x1 x2)):=by
 intro S cs mix k q Y d Q E P h hd kk
 unfold fY
 refine fK ?_
 rw[show az 3 [.tup (cs.map Cl.pv),.tup (Y.map (cq (q * (cbO cs:Int)))),.int (d:Int)]=[some (.tup (cs.map Cl.pv)),some (.tup (Y.map (cq (q * (cbO cs:Int))))),some (.int (d:Int))] from rfl]
 have n2:=P.n2
 obtain⟨B0,B1⟩:=Ac P h
 simp only[aE,ac,ag,aw,aO,v3,lk,bY]
 refine bC (fun done ys S'=>done.length<=cs.length/\Ext S S'/\ys=(((cs.take done.length).filter fun c=>decide (c.who=some d)).map (Hc cs q Y)).map (cq (q * (cbO cs:Int)))) ⟨Nat.zero_le _,.refl,rfl⟩ ?_ ?_ ?_
 ·rintro done ys S' ⟨hl,X,rfl⟩
  refine⟨trivial,aQ ?_⟩
  rw[List.length_map,List.length_map]
  have:=List.length_filter_le (fun c:Cl=>decide (c.who=some d)) (cs.take done.length)
  rw[List.length_take]at this
  omega
 ·rintro done x rest ys S' K e ⟨hl,X,rfl⟩ hK
  have hget:(cs.map Cl.pv)[done.length]?=some x:=by rw[e];simp
  obtain⟨c,hc1,rfl⟩:∃c,cs[done.length]?=some c/\c.pv=x:=by rw[List.getElem?_map]at hget;exact Option.map_eq_some_iff.mp hget
  have hc:=List.mem_of_getElem? hc1
  have hlt:=(List.getElem?_eq_some_iff.mp hc1).1
  have et:(cs.take (done++[c.pv]).length)=cs.take done.length++[c]:=by rw[List.length_append,List.length_singleton,List.take_succ,hc1];rfl
  simp only[Tg.put,bN,List.reduceReplicate,List.map_cons,List.map_nil,List.cons_append,List.nil_append,List.set_cons_zero,cE,ah,v3,lk,c3,al,Cl.pv,lN]
  refine m_ ?_
  by_cases hw:c.who=some d
  ·simp only[hw,decide_true,if_true,ac,ag,ah,v3,lk,c3,al,pV,zI]
   obtain⟨b1,b2,b3,b4⟩:=j7 P h hc
   refine CZ B0 B1 b2 (by rw[P.ef c hc];have:=P.k1;omega) (by rw[P.ef c hc,h.l]) (fun i hi=>Nat.lt_of_le_of_lt (P.eb c hc i hi) (Nat.lt_of_lt_of_le (show 2 ^ 30 < 2 ^ 2000 from Nat.pow_lt_pow_right (by decide) (by decide)) (Nat.le_refl _))) (fun n hn=>di (c:=1) (by rw[Nat.mul_one];exact h.y n hn) (by decide)) fun S2 X2=>?_
   rw[show PV.tup [.int c.x,.int (c.y:Int)]=dB c from rfl,u8 P hc h.q0]
   refine sp_plus ⟨B0,B1,b1⟩ ⟨B0,B1,b3⟩ (hK _ _ ⟨by rw[List.length_append];exact hlt,X.trans X2,?_⟩)
   rw[et,List.filter_append,List.map_append,List.map_append]
   simp[hw,Hc]
  ·simp only[hw,decide_false,Bool.false_eq_true,if_false]
   refine hK _ _ ⟨by rw[List.length_append];exact hlt,X,?_⟩
   rw[et,List.filter_append,List.map_append,List.map_append]
   simp[hw]
 ·rintro ys S' ⟨hl,X,rfl⟩ p hp
  rw[List.length_map,List.take_length]
  have hne:oC cs q Y d≠[]:=by
   obtain⟨c,_,hm,hw,_⟩:=cY P hd
   intro e
   have:Hc cs q Y c∈oC cs q Y d:=List.mem_map.mpr ⟨c,List.mem_filter.mpr ⟨hm,decide_eq_true hw⟩,rfl⟩
   rw[e]at this;cases this
  refine Gu B0 B1 (fun n hn=>?_) hne aa fun M hM JC=>?_
  ·obtain⟨c,hc,rfl⟩:=List.mem_map.mp hn
   exact(j7 P h (List.mem_filter.mp hc).1).2.2.2
  ·rw[sT hM JC]
   exact kk _ (X.trans (.new hp))
end
noncomputable def u9(n:Nat)(rows:List (List Int))(held:List Nat)(q:Int)(c:Nat):List PV:=if c < n then (uZ n rows held q (-1) c).set c (cq q q) else uZ n rows held q (-1) c
noncomputable def qj(n:Nat)(rows:List (List Int))(held:List Nat)(q:Int)(c:Nat):PV:=.tup [.str "endless",.tup (u9 n rows held q c)]
abbrev oF(w:aF):Prop:=∀{S:ar} {a R H:Addr} {rs:List Addr} {rows:List (List Int)} {held:List Nat} {q:Int} {m V c:Nat} {cs:List Cl} {Q:bH} {E:cg},BalAt S a R H rs rows held q->Dim rows held m V->0 < q->Sz q->cs.length<=500->c<=V->(∀S',Ext S S'->Q (qj cs.length rows held q c) S')->w [.ref a,.tup (cs.map Cl.pv),.int (c:Int)] S Q E
def FA{xh:aF}(El:gL xh):oF (bj 4 (ic xh)):=by
 intro S a R H rs rows held q m V c cs Q E B D hq Gd hn hc k
 unfold ic
 refine fK ?_
 rw[show az 4 [PV.ref a,.tup (cs.map Cl.pv),.int (c:Int)]=[some (.ref a),some (.tup (cs.map Cl.pv)),some (.int (c:Int)),none] from rfl]
 have hm':(bF R H q).lookup ("held_by":Str)=none:=rfl
 refine aB fun N hN=>?_
 simp only[ap,cH,ag,ai,iC,cP,c3,v3,lk,bZ,B.o,hm',true_and,bA,List.length_map]
 refine El (n:=cs.length) (sg:=-1) B D hq Gd hn (.inl ⟨rfl,hc⟩) (.inr rfl) fun p S1 hp X1 f1=>?_
 have hlen:(uZ cs.length rows held q (-1) c).length=cs.length:=by unfold uZ;rw[kO,List.length_replicate]
 simp only[List.set_cons_succ,List.set_cons_zero]
 refine hN _ _ (aB fun N hN=>?_)
 simp only[gc,cE,ah,ai,ag,v3,lk,bA,List.length_map,k6,cj,decide_eq_true_eq]
 have Gv:PV.tup [.int 1,.int 1]=cq q q:=by rw[ig,eJ (Q:=1) (R:=q) (n:=1) (m:=q) (by decide) hq (by omega)]
 by_cases h:c < cs.length
 ·rw[if_pos (by omega)]
  simp only[d8,aM,ag,c3,v3,lk,cW,f1]
  rw[hlen,dQ h,Gv]
  refine hN _ _ ?_
  simp only[aE,aM,ag,c3,ai,v3,lk,aD,eV,aa]
  have:=k _ (X1.put hp (o:=.lst ((uZ cs.length rows held q (-1) c).set c (cq q q))))
  unfold qj u9 at this
  rw[if_pos h]at this
  exact this
 ·rw[if_neg (by omega)]
  refine hN _ _ ?_
  simp only[aE,aM,ag,c3,ai,v3,lk,aD,eV,f1]
  have:=k _ X1
  unfold qj u9 at this
  rw[if_neg h]at this
  exact this
def u_{xs:List PV}{n k:Nat}(h:xs.length=n+k+1):cV xs (some (n:Int)) (some (-1))=(xs.drop n).take k:=by
 unfold cV
 have e1:HT.C3 xs.length 0 (some (n:Int))=n:=by rw[HT.kl];omega
 have e2:HT.C3 xs.length xs.length (some (-1))=if (-1:Int) < 0 then (-1+((xs.length:Nat):Int)).toNat else min (-1:Int).toNat xs.length:=rfl
 rw[e1,e2,if_pos (by decide)]
 congr 1
 omega
def yj{row:Vu}{n k:Nat}(h:row.length=n+k+1):(row.drop n).take k=(List.range k).map fun t=>row.getD (n+t) 0:=by
 refine List.ext_getElem? fun i=>?_
 by_cases hi:i < k
 ·rw[List.getElem?_take_of_lt hi,List.getElem?_drop,List.getElem?_map,List.getElem?_range hi,List.getElem?_eq_getElem (by omega)]
  show some _=some (row.getD (n+i) 0)
  rw[aq (List.getElem?_eq_getElem (show n+i < row.length by omega))]
 ·rw[List.getElem?_eq_none (by rw[List.length_take,List.length_drop];omega),List.getElem?_eq_none (by simp;omega)]
noncomputable def Yl(rows:List (List Int))(n m k:Nat):List Int:=(List.range k).map fun t=>(rows.getD m []).getD (n+t) 0
noncomputable def l6(cs:List Cl)(mix:Vu)(k:Nat)(rows:List (List Int))(held:List Nat)(q:Int):PV:=
 .tup [.str "most",cq (q * (cbO cs:Int)) ((rows.getD (mix.length+k) []).getD (cs.length+k) 0),.tup (uZ cs.length rows held q 1 (cs.length+k)),
  .tup ((List.range mix.length).map fun d=>cq (q * (cbO cs:Int)) (oE (oC cs q (Yl rows cs.length (mix.length+k) k) d))),.tup ((Yl rows cs.length (mix.length+k) k).map (cq (q * (cbO cs:Int))))]
abbrev l7(w:aF):Prop:=∀{S:ar} {a R H:Addr} {rs:List Addr} {rows:List (List Int)} {held:List Nat} {q:Int} {cs:List Cl} {mix:Vu} {k:Nat} {Q:bH} {E:cg},bx cs mix k->BalAt S a R H rs rows held q->Dim rows held (mix.length+k) (cs.length+k)->Qy q (Yl rows cs.length (mix.length+k) k) k->
 (∀S',Ext S S'->Q (l6 cs mix k rows held q) S')->w [.ref a,.tup (cs.map Cl.pv),.tup (mix.map PV.int)] S Q E
def BalAt.ext{S S':ar}{a R H:Addr}{rs:List Addr}{rows:List (List Int)}{held:List Nat}{q:Int}(B:BalAt S a R H rs rows held q)(X:Ext S S'):BalAt S' a R H rs rows held q:=⟨X _ _ B.o,X _ _ B.r,B.rl,fun i r row a b=>X _ _ (B.rr i r row a b),X _ _ B.h,B.nR,B.nr⟩
def Fd{x0 x1 x2 x3:aF}(Fl:kI x0)(C8:iF x1)(EH:ir x2)(El:gL x3):l7 (bj 8 (m8 x0 x1 x2 x3)):=by
 intro S a R H rs rows held q cs mix k Q E P B D Y kk
 unfold m8
 refine fK ?_
 rw[show az 8 [PV.ref a,.tup (cs.map Cl.pv),.tup (mix.map PV.int)]=[some (.ref a),some (.tup (cs.map Cl.pv)),some (.tup (mix.map PV.int)),none,none,none,none,none] from rfl]
 have n2:=P.n2;have k1:=P.k1;have d1:=P.d1
 obtain⟨B0,B1⟩:=Ac P Y
 obtain⟨cb0,cb1,_⟩:=iG P
 have qs:Sz q:=bo (by have:=di (c:=1) (x:=q) (by rw[Nat.mul_one];exact Y.q1) (by decide);omega)
 obtain⟨p,row,hp,D_,fp,hl,_,hT⟩:=jq B D (Nat.le_refl (mix.length+k))
 have HX:rows.getD (mix.length+k) []=row:=aq D_
 have eY:Yl rows cs.length (mix.length+k) k=(List.range k).map fun t=>row.getD (cs.length+t) 0:=by unfold Yl;rw[HX]
 refine aB fun N hN=>?_
 simp only[ap,ah,bW,v3,lk,bZ,B.o,sI,true_and,ac,ag,aw,aO,bY]
 refine a7 Cl.pv dB trivial cs [] (fun c hc=>⟨_,rfl,fun Q' q=>?_⟩) (aQ (by simp;omega)) ?_
 ·simp only[bN,List.reduceReplicate,List.map_nil,List.append_nil,List.set_cons_zero,ah,v3,lk,c3,al,Cl.pv,pV]
  exact q
 intro p0 hp0
 rw[List.nil_append]
 refine Fl (fun c hc=>P.yd c hc) aa ?_
 have X0:Ext S (CG S p0 (.lst (cs.map dB))):=.new hp0
 generalize CG S p0 (.lst (cs.map dB))=S0 at X0
 rw[show qe 1 (cs.map (·.y))=cbO cs from rfl]
 simp only[aL]
 refine⟨mZ (by omega) (by omega),?_⟩
 have Ba:=B.ext X0
 simp only[List.set_cons_succ,List.set_cons_zero]
 refine hN _ _ (aB fun N hN=>?_)
 simp only[ap,ah,bW,v3,lk,c3,iC,cP,bZ,Ba.o,fk,true_and,al,Ba.r]
 rw[j4 (n:=mix.length+k) (by rw[List.length_map,B.rl,D.rl]) (show(rs.map PV.ref)[mix.length+k]?=some (.ref p) by rw[List.getElem?_map,hp];rfl)]
 have Lc:=X0 _ _ fp
 simp only[List.set_cons_succ,List.set_cons_zero]
 refine hN _ _ (aB fun N hN=>?_)
 simp only[ap,ai,ag,aw,aO,bV,k5,iC,cP,c3,v3,lk,bA,List.length_map,iN,Lc]
 rw[u_ (k:=k) (by rw[List.length_map,hl]),<-List.map_drop,<-List.map_take,yj (by rw[hl]),<-eY]
 intro p1 hp1
 have X1:Ext S0 (CG S0 p1 (.lst ((Yl rows cs.length (mix.length+k) k).map PV.int))):=.new hp1
 have f1:(CG S0 p1 (.lst ((Yl rows cs.length (mix.length+k) k).map PV.int))) p1=some (.lst ((Yl rows cs.length (mix.length+k) k).map PV.int)):=aa
 generalize CG S0 p1 (.lst ((Yl rows cs.length (mix.length+k) k).map PV.int))=S1 at X1 f1
 simp only[bY,f1]
 have lY:(Yl rows cs.length (mix.length+k) k).length=k:=by unfold Yl;simp
 refine a7 PV.int (cq (q * (cbO cs:Int))) f1 (Yl rows cs.length (mix.length+k) k) [] (fun c hc=>⟨_,rfl,fun Q' q'=>?_⟩) (aQ (by rw[lY];simp;omega)) ?_
 ·simp only[bN,List.reduceReplicate,List.map_cons,List.map_nil,List.cons_append,List.nil_append,List.set_cons_zero,ac,ag,v3,lk]
  exact C8 B0 (bo (by omega)) q'
 intro p2 hp2
 simp only[List.nil_append,aD,eV,aa]
 have X2:Ext S1 (CG S1 p2 (.lst ((Yl rows cs.length (mix.length+k) k).map (cq (q * (cbO cs:Int)))))):=.new hp2
 generalize CG S1 p2 (.lst ((Yl rows cs.length (mix.length+k) k).map (cq (q * (cbO cs:Int)))))=S2 at X2
 simp only[List.set_cons_succ,List.set_cons_zero]
 refine hN _ _ (aB fun N hN=>?_)
 simp only[ap,ai,ag,aw,bm,v3,lk,bA,List.length_map]
 refine⟨by omega,by omega,?_⟩
 rw[Int.toNat_natCast]
 refine bC (fun done ys S'=>done.length<=mix.length/\Ext S2 S'/\ys=((List.range mix.length).map fun d=>cq (q * (cbO cs:Int)) (oE (oC cs q (Yl rows cs.length (mix.length+k) k) d))).take done.length) ⟨Nat.zero_le _,.refl,rfl⟩ ?_ ?_ ?_
 ·rintro done ys S' ⟨h,X,rfl⟩
  exact⟨trivial,aQ (by rw[List.length_take];simp;omega)⟩
 ·rintro done x rest ys S' K e ⟨h,X,rfl⟩ hK
  obtain⟨rfl,hi⟩:=bK e
  simp only[Tg.put,bN,List.reduceReplicate,List.map_cons,List.map_nil,List.cons_append,List.nil_append,List.set_cons_zero,bg,if_true,ac,ag,v3,lk]
  refine EH P Y hi fun S3 X3=>hK _ _ ⟨by rw[List.length_append];exact hi,X.trans X3,?_⟩
  rw[List.length_append,List.length_singleton,List.take_succ,List.getElem?_map,List.getElem?_range hi];rfl
 rintro ys S3 ⟨_,X3,rfl⟩ p3 hp3
 rw[bf,ip]
 simp only[aD,eV,aa]
 have X4:Ext S3 (CG S3 p3 (.lst ((List.range mix.length).map fun d=>cq (q * (cbO cs:Int)) (oE (oC cs q (Yl rows cs.length (mix.length+k) k) d))))):=.new hp3
 generalize CG S3 p3 (.lst ((List.range mix.length).map fun d=>cq (q * (cbO cs:Int)) (oE (oC cs q (Yl rows cs.length (mix.length+k) k) d))))=S4 at X4
 have XA:Ext S S4:=X0.trans (X1.trans (X2.trans (X3.trans X4)))
 have B4:=B.ext XA
 have hm':(bF R H q).lookup ("held_by":Str)=none:=rfl
 simp only[List.set_cons_succ,List.set_cons_zero]
 refine hN _ _ (aB fun N hN=>?_)
 simp only[ap,ai,cH,ag,iC,cP,c3,v3,lk,bZ,B4.o,hm',true_and,bA,List.length_map]
 refine El (n:=cs.length) (sg:=1) B4 D Y.q0 qs (by omega) (.inr ⟨rfl,rfl⟩) (.inl rfl) fun p4 S5 HL X5 f4=>?_
 simp only[aD,eV,f4,List.set_cons_succ,List.set_cons_zero]
 refine hN _ _ ?_
 have HY:=X5 _ _ (XA _ _ fp)
 simp only[aE,aM,ag,ac,ah,iC,cP,c3,v3,lk,al,HY]
 rw[j4 (n:=cs.length+k) (by rw[List.length_map,hl]) (show(row.map PV.int)[cs.length+k]?=some (.int (row.getD (cs.length+k) 0)) by rw[List.getElem?_map,List.getElem?_eq_getElem (by omega),List.getD_eq_getElem?_getD,List.getElem?_eq_getElem (by omega)];rfl)]
 refine C8 B0 (bo (by omega)) ?_
 have:=kk S5 (XA.trans X5)
 unfold l6 at this
 rw[HX]at this
 exact this
inductive Fs (cs:List Cl) (mix:Vu) (k:Nat):Nat->List (List Int)->List Nat->Int->Prop
 |ini:Fs cs mix k 0 (qg cs mix k mix.length) (qq cs mix k mix.length) 1
 |step {n:Nat} {rows:List (List Int)} {held:List Nat} {q:Int} {c r:Nat}:Fs cs mix k n rows held q->Wg.En (mix.length+k) (cs.length+k) (toS rows held q) c->Wg.Lv (mix.length+k) (cs.length+k) (toS rows held q) c r->Fs cs mix k (n+1) (im rows r c q) (held.set r c) ((rows.getD r []).getD c 0)
section
variable {cs:List Cl} {mix:Vu} {k:Nat}
def Fs.ok(P:bx cs mix k){n:Nat}{rows:List (List Int)}{held:List Nat}{q:Int}(h:Fs cs mix k n rows held q):Dm rows held (mix.length+k) (cs.length+k)/\∃b,Wg.Val (mix.length+k) (cs.length+k) (Ao cs mix k) (toS rows held q) b:=by
 induction h with
 |ini=>exact⟨Aa P _ (Nat.le_refl _),_,BO P⟩
 |step h e l ih=>
  obtain⟨D,b,v⟩:=ih
  have v2:=(v.Ey e.lt l).1
  rw[<-kP D l.lt]at v2
  exact⟨D.Ey (by have:=l.lt;omega),_,v2⟩
theorem Fs.bnd(P:bx cs mix k){n:Nat}{rows:List (List Int)}{held:List Nat}{q:Int}(h:Fs cs mix k n rows held q):Dim rows held (mix.length+k) (cs.length+k)/\Qy q (Yl rows cs.length (mix.length+k) k) k/\Sz q/\∀i j,i<=mix.length+k->j<=cs.length+k->((rows.getD i []).getD j 0).natAbs<=Kq:=by
 obtain⟨D,b,v⟩:=h.ok P
 have a:=P.k1;have b':=P.d1;have c:=P.n2
 obtain⟨b1,b2⟩:=v.bnd (C:=Cb) (by decide) (fun i j hi hj=>oB P i j hi hj)
 have kb:=Ab (mix.length+k) (by omega)
 have sm:∀{x:Int},x.natAbs<=Kq->x.natAbs < dG:=fun{x} h=>di (c:=1) (by rw[Nat.mul_one];exact h) (by decide)
 have bT:∀i j,i<=mix.length+k->j<=cs.length+k->((rows.getD i []).getD j 0).natAbs<=Kq:=fun i j hi hj=>Nat.le_trans (b1 i j hi hj) kb
 have bq:q.natAbs<=Kq:=Nat.le_trans b2 kb
 refine⟨sP D (by omega) (by omega) fun i j hi hj=>sm (bT i j hi hj),⟨v.tab.pos,bq,by unfold Yl;simp,fun y hy=>?_⟩,bo (by have:=sm bq;omega),bT⟩
 unfold Yl at hy
 obtain⟨t,ht,rfl⟩:=List.mem_map.mp hy
 exact bT _ _ (Nat.le_refl _) (by have:=List.mem_range.mp ht;omega)
def Out(cs:List Cl)(mix:Vu)(k:Nat)(v:PV):Prop:=∃n rows held q,Fs cs mix k n rows held q/\
  (((∀j,j < cs.length+k->0<=(toS rows held q).T (mix.length+k) j)/\v=l6 cs mix k rows held q) \/
   ∃c,Wg.En (mix.length+k) (cs.length+k) (toS rows held q) c/\(∀i,i < mix.length+k->(toS rows held q).T i c<=0)/\v=qj cs.length rows held q c)
end
abbrev iu(w:aF):Prop:=∀{S:ar} {cs:List Cl} {mix:Vu} {k:Nat} {Q:bH} {E:cg},bx cs mix k->(∀v S',Ext S S'->Out cs mix k v->Q v S')->w [.tup (cs.map Cl.pv),.tup (mix.map PV.int)] S Q E
def Em{x0 x1 x2 x3 x4 x5:aF}(Hd:iq x0)(E_:lX x1)(Fb:l3 x2)(FA:oF x3)(Ek:gK x4)(Fd:l7 x5):iu (bj 6 (ie x0 x1 x2 x3 x4 x5)):=by
 intro S cs mix k Q E P kk
 unfold ie
 refine fK ?_
 rw[show az 6 [.tup (cs.map Cl.pv),.tup (mix.map PV.int)]=[some (.tup (cs.map Cl.pv)),some (.tup (mix.map PV.int)),none,none,none,none] from rfl]
 have n1:=P.n1
 obtain⟨c0,r0,Kh⟩:=List.exists_cons_of_ne_nil (show cs≠[] from fun e=>by rw[e]at n1;simp at n1)
 have e0:atI (cs.map Cl.pv) 0=some c0.pv:=by rw[Kh,List.map_cons];exact lN
 have l0:c0.eff.length=k:=P.ef c0 (by rw[Kh];simp)
 refine aB fun N hN=>?_
 simp only[ap,ai,ag,ah,v3,lk,c3,al,e0,Cl.pv,zI,bA,List.length_map,l0,List.set_cons_succ,List.set_cons_zero]
 refine hN _ _ (aB fun N hN=>?_)
 simp only[ap,ac,ag,v3,lk]
 refine Hd P fun S1 a R H rs IC ID X1 B1=>?_
 simp only[List.set_cons_succ,List.set_cons_zero]
 refine hN _ _ (aB fun N hN=>?_)
 have p0:Fs cs mix k 0 (qg cs mix k mix.length) (qq cs mix k mix.length) 1:=.ini
 -- how it is asked what comes in
 have ask:∀{S1:ar} {R:Addr} {rs:List Addr} {rows:List (List Int)} {held:List Nat} {q:Int} {n:Nat} {Q':bH},Fs cs mix k n rows held q->BalAt S1 a R H rs rows held q->(∀(pl:Option Nat) S2,Ext S1 S2->(match pl with|none=>∀j,j < cs.length+k->0<=(toS rows held q).T (mix.length+k) j|some c=>Wg.En (mix.length+k) (cs.length+k) (toS rows held q) c)->Q' (fV pl) S2)->x1 [.ref a] S1 Q' fD:=fun{S1 R rs rows held q n Q'} pt B k'=>E_ B (pt.bnd P).1 (fun S2 X2 h=>k' none S2 X2 h) (fun c S2 X2 h=>k' (some c) S2 X2 h)
 have hm1:∀R q,(bF R H q).lookup ("gaining":Str)=none:=fun _ _=>rfl
 have hm2:∀R q,(bF R H q).lookup ("used_up":Str)=none:=fun _ _=>rfl
 have Ld:∀R q,(bF R H q).lookup ("hold":Str)=none:=fun _ _=>rfl
 simp only[ap,cH,ag,v3,lk,bZ,B1.o,hm1,true_and]
 refine ask p0 B1 fun pl S2 X2 hpl=>?_
 simp only[List.set_cons_succ,List.set_cons_zero]
 refine hN _ _ (aB fun N hN=>?_)
 have C1:1<=Cb:=by decide
 have fin:∀{rows:List (List Int)} {held:List Nat} {q:Int} {n:Nat},Fs cs mix k n rows held q->∃m,Wg.Hn (mix.length+k) (cs.length+k) m (toS rows held q):=fun pt=>by
  obtain⟨_,b,v⟩:=pt.ok P
  exact v.ends C1 (fun i j hi hj=>oB P i j hi hj)
 obtain⟨m0,hm0⟩:=fin p0
 refine⟨fun m σ S'=>∃(n:Nat) (R:Addr) (rs:List Addr) (rows:List (List Int)) (held:List Nat) (q:Int) (pl:Option Nat) (x5:Option PV),Fs cs mix k n rows held q/\Wg.Hn (mix.length+k) (cs.length+k) m (toS rows held q)/\BalAt S' a R H rs rows held q/\Ext S S'/\
  (match pl with|none=>∀j,j < cs.length+k->0<=(toS rows held q).T (mix.length+k) j|some c=>Wg.En (mix.length+k) (cs.length+k) (toS rows held q) c)/\
  σ=[some (.tup (cs.map Cl.pv)),some (.tup (mix.map PV.int)),some (.int (k:Int)),some (.ref a),some (fV pl),x5],⟨m0,0,R,rs,_,_,_,pl,_,p0,hm0,B1.ext X2,X1.trans X2,hpl,rfl⟩,?_⟩
 rintro m σ S' ⟨n,R,rs,rows,held,q,pl,x5,pt,hn,B,X,hpl,rfl⟩
 obtain⟨D,Y,qs,_⟩:=pt.bnd P
 cases pl with
 |none=>
  simp only[fV,cE,ah,v3,lk,c3,mj,bne_self_eq_false,Bool.false_eq_true,if_false]
  refine hN _ _ ?_
  simp only[aE,ac,ag,v3,lk]
  exact Fd P B D Y fun S2 X2=>kk _ S2 (X.trans X2) ⟨n,rows,held,q,pt,.inl ⟨hpl,rfl⟩⟩
 |some c=>
  have hpl:Wg.En (mix.length+k) (cs.length+k) (toS rows held q) c:=hpl
  have hcl:=hpl.lt
  simp only[fV,cE,ah,v3,lk,c3,mj,Bool.bne_false,if_true]
  refine⟨fun σ' Gn=>∃(m':Nat),m' < m/\∃(n:Nat) (R:Addr) (rs:List Addr) (rows:List (List Int)) (held:List Nat) (q:Int) (pl:Option Nat) (x5:Option PV),Fs cs mix k n rows held q/\Wg.Hn (mix.length+k) (cs.length+k) m' (toS rows held q)/\BalAt Gn a R H rs rows held q/\Ext S Gn/\
   (match pl with|none=>∀j,j < cs.length+k->0<=(toS rows held q).T (mix.length+k) j|some c=>Wg.En (mix.length+k) (cs.length+k) (toS rows held q) c)/\
   σ'=[some (.tup (cs.map Cl.pv)),some (.tup (mix.map PV.int)),some (.int (k:Int)),some (.ref a),some (fV pl),x5],fun σ' Gn h=>h,?_⟩
  refine aB fun N2 EI=>?_
  simp only[ap,cH,ag,v3,lk,bZ,B.o,hm2,true_and]
  refine Fb B D (by omega) (fun hno=>?_) (fun r lv=>?_)
  ·simp only[List.set_cons_succ,List.set_cons_zero]
   refine EI _ _ (aB fun N2 EI=>?_)
   simp only[gc,cE,ah,v3,lk,c3,mj,Bool.false_bne,if_true,aE,ac,ag]
   exact FA B D Y.q0 qs (by have:=P.n2;omega) (by omega) fun S2 X2=>kk _ S2 (X.trans X2) ⟨n,rows,held,q,pt,.inr ⟨c,hpl,hno,rfl⟩⟩
  ·simp only[List.set_cons_succ,List.set_cons_zero]
   refine EI _ _ (aB fun N2 EI=>?_)
   simp only[gc,cE,ah,v3,lk,c3,mj,Bool.false_bne,Bool.false_eq_true,if_false]
   refine EI _ _ (aB fun N2 EI=>?_)
   simp only[bS,cH,ag,v3,lk,bZ,B.o,Ld,true_and]
   have lr:=lv.lt
   refine Ek B D.sh (by rw[D.rl];omega) (by rw[D.hl];omega) (show c < cs.length+k+1 by omega) (by have:=Y.q0;omega) qs fun S3 R3 JB B3 fr=>?_
   have Ki:=Fs.step pt hpl lv
   have X3:Ext S S3:=fun b o h=>fr b o (X _ _ h) (fun e=>by rw[e,IC]at h;cases h) (fun e=>by rw[e,ID]at h;cases h)
   refine EI _ _ ?_
   simp only[ap,cH,ag,v3,lk,bZ,B3.o,hm1,true_and]
   refine ask Ki B3 fun Le S4 X4 JD=>?_
   simp only[List.set_cons_succ,List.set_cons_zero]
   cases m with
   |zero=>exact absurd ⟨hpl,lv,rfl⟩ (hn _ c r)
   |succ m=>
    have Kj:=hn _ c r ⟨hpl,lv,rfl⟩
    rw[<-kP ⟨D.rl,D.hl,D.w⟩ lr]at Kj
    exact⟨m,Nat.lt_succ_self _,n+1,R3,JB,_,_,_,Le,_,Ki,Kj,B3.ext X4,X3.trans X4,JD,rfl⟩
noncomputable def Xj(s:Wg.Sx)(m j x:Nat):Int:=Wg.sm m fun i=>if s.held i=x then s.T i j else 0
def vR{rows:List (List Int)}{held:List Nat}{m V n j:Nat}{q sg:Int}(D:Dm rows held m V)(inj:∀i l,i < m->l < m->held.getD i 0=held.getD l 0->i=l):uZ n rows held q sg j=(List.range n).map fun x=>cq q (sg * Xj (toS rows held q) m j x):=by
 have h1:=D.rl
 have h2:=D.hl
 have key:∀p,p<=m->((rows.zip held).take p).foldl (EQ n j q sg) (List.replicate n (cq q 0))=(List.range n).map fun x=>cq q (sg * Xj (toS rows held q) p j x):=by
  intro p
  induction p with
  |zero=>
   intro _
   refine List.ext_getElem? fun x=>?_
   show(List.replicate n (cq q 0))[x]?=_
   rw[List.getElem?_map,List.getElem?_replicate]
   by_cases hx:x < n
   ·rw[if_pos hx,List.getElem?_range hx]
    show some (cq q 0)=some (cq q (sg * 0))
    rw[Int.mul_zero]
   ·rw[if_neg hx,List.getElem?_eq_none (by simp;omega)];rfl
  |succ p ih=>
   intro hp
   have hz:(rows.zip held)[p]?=some (rows[p]'(by omega),held[p]'(by omega)):=List.getElem?_zip_eq_some.mpr ⟨List.getElem?_eq_getElem _,List.getElem?_eq_getElem _⟩
   rw[List.take_succ,hz,List.foldl_append,ih (by omega)]
   have eh:held.getD p 0=held[p]'(by omega):=aq (List.getElem?_eq_getElem _)
   have er:(toS rows held q).T p j=(rows[p]'(by omega)).getD j 0:=by show(rows.getD p []).getD j 0=_;rw[aq (List.getElem?_eq_getElem (show p < rows.length by omega))]
   have Kk:(toS rows held q).held p=held[p]'(by omega):=eh
   show EQ n j q sg ((List.range n).map fun x=>cq q (sg * Xj (toS rows held q) p j x)) (rows[p]'(by omega),held[p]'(by omega))=_
   refine List.ext_getElem? fun x=>?_
   unfold EQ
   have old:∀x,x≠held[p]'(by omega)->Xj (toS rows held q) (p+1) j x=Xj (toS rows held q) p j x:=fun x hx=>by
    unfold Xj
    simp only[Wg.sm]
    rw[Kk,if_neg (Ne.symm hx),Int.add_zero]
   have new:Xj (toS rows held q) (p+1) j (held[p]'(by omega))=(rows[p]'(by omega)).getD j 0:=by
    unfold Xj
    simp only[Wg.sm]
    rw[Kk,if_pos rfl,er,Wg.aU (fun i hi=>if_neg fun e=>by
     have e:held.getD i 0=held.getD p 0:=by rw[eh];exact e
     have:=inj i p (by omega) (by omega) e
     omega),Int.zero_add]
   by_cases hx:x < n
   ·rw[List.getElem?_map,List.getElem?_range hx]
    by_cases he:x=held[p]'(by omega)
    ·have hlt:held[p]'(by omega) < n:=by omega
     show(if held[p]'(by omega) < n then ((List.range n).map fun x=>cq q (sg * Xj (toS rows held q) p j x)).set (held[p]'(by omega)) (cq q (sg * (rows[p]'(by omega)).getD j 0)) else (List.range n).map fun x=>cq q (sg * Xj (toS rows held q) p j x))[x]?=some (cq q (sg * Xj (toS rows held q) (p+1) j x))
     rw[if_pos hlt,List.getElem?_set,if_pos he.symm,if_pos (by simp;exact hlt),he,new]
    ·have:(if held[p]'(by omega) < n then ((List.range n).map fun x=>cq q (sg * Xj (toS rows held q) p j x)).set (held[p]'(by omega)) (cq q (sg * (rows[p]'(by omega)).getD j 0)) else (List.range n).map fun x=>cq q (sg * Xj (toS rows held q) p j x))[x]?=((List.range n).map fun x=>cq q (sg * Xj (toS rows held q) p j x))[x]?:=by
      split
      ·rw[List.getElem?_set,if_neg (Ne.symm he)]
      ·rfl
     refine this.trans ?_
     rw[List.getElem?_map,List.getElem?_range hx]
     show some (cq q (sg * Xj (toS rows held q) p j x))=some (cq q (sg * Xj (toS rows held q) (p+1) j x))
     rw[old x he]
   ·rw[List.getElem?_eq_none (by split<;>simp<;>omega),List.getElem?_eq_none (by simp;omega)]
 have:=key m (Nat.le_refl _)
 unfold uZ
 rw[<-this,List.take_of_length_le (by rw[List.length_zip];omega)]
section
variable {cs:List Cl} {mix:Vu} {k:Nat}
noncomputable def cD(cs:List Cl)(f:Cl->Int)(X:Nat->Int):Int:=dot (cs.map f) ((List.range cs.length).map X)
def sU(n:Nat)(f:Nat->Int):Wg.sm (n+1) f=f 0+Wg.sm n fun j=>f (j+1):=by
 induction n with
 |zero=>simp[Wg.sm]
 |succ n ih=>show Wg.sm (n+1) f+f (n+1)=f 0+((Wg.sm n fun j=>f (j+1))+f (n+1));rw[ih];omega
theorem eA:∀(xs ys:Vu),xs.length=ys.length->dot xs ys=Wg.sm xs.length fun j=>xs.getD j 0 * ys.getD j 0
 |[],[],_=>rfl
 |a::r,b::s,h=>by
  rw[List.length_cons,sU]
  have:=eA r s (by simpa using h)
  show a * b+dot r s=a * b+Wg.sm r.length fun j=>r.getD j 0 * s.getD j 0
  rw[this]
def bQ(f:Cl->Int)(X:Nat->Int):cD cs f X=Wg.sm cs.length fun j=>(cs.map f).getD j 0 * X j:=by
 unfold cD
 rw[eA _ _ (by simp),List.length_map]
 refine Wg.am fun j hj=>?_
 rw[show((List.range cs.length).map X).getD j 0=X j from aq (by rw[List.getElem?_map,List.getElem?_range hj];rfl)]
def dS(n k:Nat)(f:Nat->Int):Wg.sm (n+k) f=Wg.sm n f+Wg.sm k fun t=>f (n+t):=by
 induction k with
 |zero=>simp[Wg.sm]
 |succ k ih=>show Wg.sm (n+k) f+f (n+k)=_+(_+f (n+k));rw[ih];omega
def vS{d:Nat}(hd:d < mix.length)(y:Nat->Int):Wg.sm (cs.length+k+1) (fun j=>Ao cs mix k d j * y j)=cD cs (w1 d) y+mix.getD d 0 * y (cs.length+k):=by
 simp only[Wg.sm]
 rw[dS,sM hd,Wg.aU (n:=k) (fun t ht=>by rw[u4 hd ht,Int.zero_mul]),Int.add_zero,bQ]
 congr 1
 refine Wg.am fun j hj=>?_
 have hc:=List.getElem?_eq_getElem hj
 rw[qh hd hc,cK hc]
def vT{t:Nat}(ht:t < k)(y:Nat->Int):Wg.sm (cs.length+k+1) (fun j=>Ao cs mix k (mix.length+t) j * y j) = - cD cs (fun c=>c.eff.getD t 0) y+y (cs.length+t):=by
 simp only[Wg.sm]
 rw[dS,u6 ht,Int.zero_mul,Int.add_zero,Wg.bc (n:=k) (i:=t) ht (fun u hu hne=>by rw[qi ht hu,if_neg hne,Int.zero_mul]),qi ht ht,if_pos rfl,Int.one_mul,bQ,<-Wg.fj]
 congr 1
 refine Wg.am fun j hj=>?_
 have hc:=List.getElem?_eq_getElem hj
 rw[u5 ht hc,cK hc,Int.neg_mul]
def vU(y:Nat->Int):Wg.sm (cs.length+k+1) (fun j=>Ao cs mix k (mix.length+k) j * y j) = - cD cs (Cn cs) y:=by
 simp only[Wg.sm]
 rw[dS,nB (Nat.le_refl _),Int.zero_mul,Int.add_zero,Wg.aU (n:=k) (fun t ht=>by rw[nB (by omega),Int.zero_mul]),Int.add_zero,bQ,<-Wg.fj]
 refine Wg.am fun j hj=>?_
 have hc:=List.getElem?_eq_getElem hj
 rw[yg hc,cK hc]
 unfold Cn
 grind
def along{m V:Nat}{A:Nat->Nat->Int}{s:Wg.Sx}{b:Nat->Wg.Vc}(v:Wg.Val m V A s b)(F:Nat->Int)(G:Nat->Int)(j:Nat):Wg.sm V (fun x=>F x * Xj s m j x)=Wg.sm m fun i=>F (s.held i) * s.T i j:=by
 unfold Xj
 rw[Wg.am (g:=fun x=>Wg.sm m fun i=>if s.held i=x then F (s.held i) * s.T i j else 0) (fun x _=>by
  rw[<-Wg.a_];refine Wg.am fun i _=>?_;split
  ·rename_i e;rw[e]
  ·simp),Wg.gH]
 refine Wg.am fun i hi=>?_
 rw[Wg.bc (i:=s.held i) (v.hv i hi) (fun x _ hx=>if_neg fun e=>hx e.symm),if_pos rfl]
def CA{b:Nat->Wg.Vc}{s:Wg.Sx}(v:Wg.Val (mix.length+k) (cs.length+k) (Ao cs mix k) s b) :
  (∀d,d < mix.length->cD cs (w1 d) (Xj s (mix.length+k) (cs.length+k))=mix.getD d 0 * s.q)/\
  (∀t,t < k->cD cs (fun c=>c.eff.getD t 0) (Xj s (mix.length+k) (cs.length+k))=Xj s (mix.length+k) (cs.length+k) (cs.length+t))/\
  cD cs (Cn cs) (Xj s (mix.length+k) (cs.length+k))=s.T (mix.length+k) (cs.length+k):=by
 let y:Nat->Int:=fun j=>if j=cs.length+k then - s.q else Xj s (mix.length+k) (cs.length+k) j
 have y1:∀j,j < cs.length+k->y j=Xj s (mix.length+k) (cs.length+k) j:=fun j hj=>if_neg (by omega)
 have y2:y (cs.length+k) = - s.q:=if_pos rfl
 have F7:∀i,i<=mix.length+k->Wg.sm (cs.length+k+1) (fun j=>s.T i j * y j)=(Wg.sm (mix.length+k) fun l=>s.T i (s.held l) * s.T l (cs.length+k)) - s.T i (cs.length+k) * s.q:=fun i hi=>by
  simp only[Wg.sm]
  rw[y2,Wg.am (g:=fun j=>s.T i j * Xj s (mix.length+k) (cs.length+k) j) (fun j hj=>by rw[y1 j hj]),along v (s.T i) (fun _=>0)]
  grind
 have z:∀i,i < mix.length+k->Wg.sm (cs.length+k+1) (fun j=>s.T i j * y j)=0:=fun i hi=>by
  rw[F7 i (by omega),Wg.bc hi (fun l hl hne=>by rw[v.Fr (by omega) hl,if_neg (Ne.symm hne),Int.zero_mul]),v.Fr (by omega) hi,if_pos rfl]
  grind
 obtain⟨b1,b2⟩:=v.tab.back y z
 have cy:∀f:Cl->Int,cD cs f y=cD cs f (Xj s (mix.length+k) (cs.length+k)):=fun f=>by
  rw[bQ,bQ]
  exact Wg.am fun j hj=>by rw[y1 j (by omega)]
 refine⟨fun d hd=>?_,fun t ht=>?_,?_⟩
 ·have:=b1 d (by omega)
  rw[vS hd,cy,y2]at this
  grind
 ·have:=b1 (mix.length+t) (by omega)
  rw[vT ht,cy,y1 _ (by omega)]at this
  omega
 ·rw[vU,cy,F7 _ (Nat.le_refl _),Wg.aU (fun l hl=>by rw[v.Fr (Nat.le_refl _) hl,if_neg (by omega),Int.zero_mul])]at b2
  refine Wg.vO v.tab.pos ?_
  grind
def vV{b:Nat->Wg.Vc}{s:Wg.Sx}(v:Wg.Val (mix.length+k) (cs.length+k) (Ao cs mix k) s b)(x:Nat):0<=Xj s (mix.length+k) (cs.length+k) x:=Wg.dP fun i hi=>by
 split
 ·exact v.fs i hi
 ·exact Int.le_refl _
def va{b:Nat->Wg.Vc}{s:Wg.Sx}(v:Wg.Val (mix.length+k) (cs.length+k) (Ao cs mix k) s b):∃Z:Nat->Int,(∀j,j<=cs.length+k->s.T (mix.length+k) j=s.q * Ao cs mix k (mix.length+k) j+Wg.sm (mix.length+k) fun i=>Z i * Ao cs mix k i j):=by
 refine⟨fun i=>Wg.dt (mix.length+k+1) (Wg.ud b (mix.length+k) (Wg.eu i)),fun j hj=>?_⟩
 rw[v.tab.ent (Nat.le_refl _) (by omega)]
 have e:Wg.dt (mix.length+k+1) (Wg.ud b (mix.length+k) (Wg.cl (Ao cs mix k) j))=Wg.dt (mix.length+k+1) (Wg.ud b (mix.length+k) fun kk=>Wg.sm (mix.length+k+1) fun l=>Ao cs mix k l j * Wg.eu l kk):=by
  refine Wg.b6 fun l kk hl hk=>?_
  by_cases el:l=mix.length+k
  ·subst el
   rw[Wg.aA,Wg.aA,Wg.bc (i:=kk) hk (fun u _ hu=>by unfold Wg.eu;rw[if_neg (Ne.symm hu),Int.mul_zero])]
   unfold Wg.cl Wg.eu
   rw[if_pos rfl,Int.mul_one]
  ·rw[Wg.aT el,Wg.aT el]
 rw[e,Wg.jp b (by omega)]
 simp only[Wg.sm]
 have eg:Wg.dt (mix.length+k+1) (Wg.ud b (mix.length+k) (Wg.eu (mix.length+k)))=s.q:=by
  rw[<-v.tab.det]
  refine Wg.b6 fun l kk hl hk=>?_
  by_cases el:l=mix.length+k
  ·subst el;rw[Wg.aA,v.tab.gl kk]
  ·rw[Wg.aT el]
 rw[eg,Int.mul_comm,Int.add_comm]
 congr 1
 exact Wg.am fun i _=>Int.mul_comm _ _
end
section
variable {cs:List Cl} {mix:Vu} {k:Nat}
structure oG (cs:List Cl) (mix:Vu) (k:Nat) (v:PV) (q g:Int) (X:Nat->Int) (Y:Vu) (pr:Nat->Int):Prop where
 v:v = .tup [.str "most",cq (q * (cbO cs:Int)) g,.tup ((List.range cs.length).map fun x=>cq q (X x)),.tup ((List.range mix.length).map fun d=>cq (q * (cbO cs:Int)) (pr d)),.tup (Y.map (cq (q * (cbO cs:Int))))]
 qy:Qy q Y k
 x0:∀x,0<=X x
 x1:∀x,(X x).natAbs<=Kq * 16
 Dk:∀d,d < mix.length->cD cs (w1 d) X=mix.getD d 0 * q
 ES:∀t,t < k->0<=cD cs (fun c=>c.eff.getD t 0) X
 cost:cD cs (Cn cs) X=g
 g1:g.natAbs<=Kq
 y0:∀y∈Y,0<=y
 non:∀c∈cs,c.who=none->q * Cn cs c+dot c.eff Y<=0
 Hr:∀c∈cs,∀d,c.who=some d->q * Cn cs c+dot c.eff Y<=pr d
 pr0:∀d,d < mix.length->0<=pr d
 Hc:∀d,d < mix.length->(pr d).natAbs<=Kq * 2 ^ 43
 sum:dot mix ((List.range mix.length).map pr)=g
structure yk (cs:List Cl) (k:Nat) (v:PV) (q:Int) (y:Nat->Int):Prop where
 v:v = .tup [.str "endless",.tup ((List.range cs.length).map fun x=>cq q (y x))]
 q0:0 < q
 q1:q.natAbs<=Kq
 y0:∀x,0<=y x
 y1:∀x,(y x).natAbs<=Kq * 17
 Dk:∀j c,cs[j]?=some c->c.who≠none->y j=0
 ES:∀t,t < k->0<=cD cs (fun c=>c.eff.getD t 0) y
 cost:0 < cD cs (Cn cs) y
theorem nE:∀(xs ys:Vu),(∀x∈xs,0<=x)->(∀y∈ys,0<=y)->0<=dot xs ys
 |[],_,_,_=>by simp[dot]
 |_::_,[],_,_=>by simp[dot]
 |a::r,b::s,h,g=>by
  have:=nE r s (fun x hx=>h x (by simp[hx])) (fun y hy=>g y (by simp[hy]))
  have:=Int.mul_nonneg (h a (by simp)) (g b (by simp))
  show 0<=a * b+dot r s
  omega
def ym(P:bx cs mix k){q:Int}{Y:Vu}(h:Qy q Y k){c:Cl}(hc:c∈cs):(q * Cn cs c+dot c.eff Y).natAbs<=Kq * 2 ^ 43:=by
 have a1:(q * Cn cs c).natAbs<=Kq * 2 ^ 42:=by rw[Int.natAbs_mul];exact Nat.mul_le_mul h.q1 (nC P hc).1
 have a2:=iX (is:=c.eff) (ns:=Y) (P.eb c hc) h.y
 rw[P.ef c hc]at a2
 have k8:=Nat.mul_le_mul P.k1 (Nat.le_refl (2 ^ 30 * Kq))
 have a4:(dot c.eff Y).natAbs<=eo (bp c.eff Y):=by rw[<-df];exact gG _
 have a5:=Int.natAbs_add_le (q * Cn cs c) (dot c.eff Y)
 have a6:=Nat.le_trans a5 (Nat.add_le_add a1 (Nat.le_trans a4 (Nat.le_trans a2 k8)))
 refine Nat.le_trans a6 ?_
 generalize Kq=z
 omega
def sV(P:bx cs mix k){b:Nat->Wg.Vc}{s:Wg.Sx}{Z:Nat->Int}(hZ:∀j,j<=cs.length+k->s.T (mix.length+k) j=s.q * Ao cs mix k (mix.length+k) j+Wg.sm (mix.length+k) fun i=>Z i * Ao cs mix k i j) :
  (∀t,t < k->s.T (mix.length+k) (cs.length+t)=Z (mix.length+t))/\
  (∀j c,cs[j]?=some c->s.T (mix.length+k) j=(match c.who with|some d=>Z d|none=>0) - s.q * Cn cs c - dot c.eff ((List.range k).map fun t=>Z (mix.length+t)))/\
  s.T (mix.length+k) (cs.length+k)=Wg.sm mix.length fun d=>mix.getD d 0 * Z d:=by
 refine⟨fun t ht=>?_,fun j c hc=>?_,?_⟩
 ·rw[hZ _ (by omega),nB (by omega),Int.mul_zero,Int.zero_add,dS,Wg.aU (n:=mix.length) (fun d hd=>by rw[u4 hd ht,Int.mul_zero]),Int.zero_add,Wg.bc (i:=t) ht (fun u hu hne=>by rw[qi hu ht,if_neg (Ne.symm hne),Int.mul_zero]),qi ht ht,if_pos rfl,Int.mul_one]
 ·have hj:=(List.getElem?_eq_some_iff.mp hc).1
  have hm:=List.mem_of_getElem? hc
  rw[hZ _ (by omega),yg hc,dS]
  have e1:Wg.sm mix.length (fun d=>Z d * Ao cs mix k d j)=match c.who with|some d=>Z d|none=>0:=by
   cases hw:c.who with
   |none=>exact Wg.aU fun d hd=>by rw[qh hd hc];unfold w1;rw[hw,if_neg (by simp),Int.mul_zero]
   |some d=>
    have hd:=P.wd c hm d hw
    rw[Wg.bc hd (fun e he hne=>by rw[qh he hc];unfold w1;rw[hw,if_neg (fun h=>hne (Option.some.inj h).symm),Int.mul_zero]),qh hd hc]
    unfold w1
    rw[hw,if_pos rfl,Int.mul_one]
  have e2:Wg.sm k (fun t=>Z (mix.length+t) * Ao cs mix k (mix.length+t) j) = - dot c.eff ((List.range k).map fun t=>Z (mix.length+t)):=by
   rw[eA _ _ (by rw[P.ef c hm];simp),P.ef c hm,<-Wg.fj]
   refine Wg.am fun t ht=>?_
   rw[u5 ht hc,show((List.range k).map fun t=>Z (mix.length+t)).getD t 0=Z (mix.length+t)from aq (by rw[List.getElem?_map,List.getElem?_range ht];rfl)]
   grind
  rw[e1,e2]
  unfold Cn
  grind
 ·rw[hZ _ (Nat.le_refl _),nB (Nat.le_refl _),Int.mul_zero,Int.zero_add,dS,Wg.aU (n:=k) (fun t ht=>by rw[u6 ht,Int.mul_zero]),Int.add_zero]
  exact Wg.am fun d hd=>by rw[sM hd,Int.mul_comm]
def nF(P:bx cs mix k){n:Nat}{rows:List (List Int)}{held:List Nat}{q:Int}(pt:Fs cs mix k n rows held q)(hg:∀j,j < cs.length+k->0<=(toS rows held q).T (mix.length+k) j) :
  ∃g X Y pr,oG cs mix k (l6 cs mix k rows held q) q g X Y pr:=by
 obtain⟨D,b,v⟩:=pt.ok P
 obtain⟨_,Yq,_,bT⟩:=pt.bnd P
 obtain⟨s1,s2,s3⟩:=CA v
 obtain⟨Z,hZ⟩:=va v
 obtain⟨g1,g2,g3⟩:=sV (b:=b) P hZ
 have hq:0 < q:=v.tab.pos
 have eY:Yl rows cs.length (mix.length+k) k=(List.range k).map fun t=>Z (mix.length+t):=by
  unfold Yl
  exact List.map_congr_left fun t ht=>g1 t (List.mem_range.mp ht)
 have y0:∀y∈Yl rows cs.length (mix.length+k) k,0<=y:=fun y hy=>by
  unfold Yl at hy
  obtain⟨t,ht,rfl⟩:=List.mem_map.mp hy
  exact hg _ (by have:=List.mem_range.mp ht;omega)
 have inj:∀i l,i < mix.length+k->l < mix.length+k->held.getD i 0=held.getD l 0->i=l:=fun i l hi hl e=>v.inj hi hl e
 have col:∀j c,cs[j]?=some c->q * Cn cs c+dot c.eff (Yl rows cs.length (mix.length+k) k)=(match c.who with|some d=>Z d|none=>0) - (toS rows held q).T (mix.length+k) j:=fun j c hc=>by
  rw[g2 j c hc,eY]
  show q * Cn cs c+_=_
  have:(toS rows held q).q=q:=rfl
  rw[this]
  omega
 have le:∀c∈cs,∀d,c.who=some d->q * Cn cs c+dot c.eff (Yl rows cs.length (mix.length+k) k)<=Z d:=fun c hc d hw=>by
  obtain⟨j,hj⟩:=List.getElem?_of_mem hc
  have:=col j c hj
  rw[hw]at this
  have:=hg j (by have:=(List.getElem?_eq_some_iff.mp hj).1;omega)
  simp only at *
  omega
 have ne:∀d,d < mix.length->oC cs q (Yl rows cs.length (mix.length+k) k) d≠[]:=fun d hd e=>by
  obtain⟨c,_,hm,hw,_⟩:=cY P hd
  have:Hc cs q (Yl rows cs.length (mix.length+k) k) c∈oC cs q (Yl rows cs.length (mix.length+k) k) d:=List.mem_map.mpr ⟨c,List.mem_filter.mpr ⟨hm,decide_eq_true hw⟩,rfl⟩
  rw[e]at this;cases this
 have JE:∀d,d < mix.length->mix.getD d 0 * oE (oC cs q (Yl rows cs.length (mix.length+k) k) d)=mix.getD d 0 * Z d:=fun d hd=>by
  by_cases hz:mix.getD d 0=0
  ·rw[hz,Int.zero_mul,Int.zero_mul]
  ·congr 1
   have hmp:0 < mix.getD d 0:=by
    have e:=List.getElem?_eq_getElem hd
    rw[aq e]at hz ⊢
    have:=P.m0 _ (List.getElem_mem hd)
    omega
   have hs:=s1 d hd
   rw[bQ]at hs
   obtain⟨x,hx,hp⟩:=Wg.nj (n:=cs.length) (f:=fun j=>(cs.map (w1 d)).getD j 0 * Xj (toS rows held q) (mix.length+k) (cs.length+k) j) (by rw[hs];exact Int.mul_pos hmp hq)
   have hc:=List.getElem?_eq_getElem hx
   rw[cK hc]at hp
   have hw:(cs[x]).who=some d:=by
    unfold w1 at hp
    by_cases h:(cs[x]).who=some d
    ·exact h
    ·rw[if_neg h,Int.zero_mul]at hp;omega
   have hX:0 < Xj (toS rows held q) (mix.length+k) (cs.length+k) x:=by
    unfold w1 at hp
    rw[if_pos hw,Int.one_mul]at hp
    exact hp
   obtain⟨i,hi,Ju⟩:=Wg.nj hX
   have hh:(toS rows held q).held i=x:=by
    by_cases h:(toS rows held q).held i=x
    ·exact h
    ·simp only[h,if_false]at Ju;omega
   have Lf:(toS rows held q).T (mix.length+k) x=0:=by rw[<-hh,v.Fr (Nat.le_refl _) hi,if_neg (by omega)]
   have HZ:=col x _ hc
   rw[hw,Lf,Int.sub_zero]at HZ
   refine(sT (ns:=oC cs q (Yl rows cs.length (mix.length+k) k) d) ?_ fun a ha=>?_).symm
   ·exact List.mem_map.mpr ⟨cs[x],List.mem_filter.mpr ⟨List.getElem_mem hx,decide_eq_true hw⟩,HZ⟩
   ·obtain⟨c,hc',rfl⟩:=List.mem_map.mp ha
    obtain⟨h1,h2⟩:=List.mem_filter.mp hc'
    exact le c h1 d (of_decide_eq_true h2)
 refine⟨(rows.getD (mix.length+k) []).getD (cs.length+k) 0,Xj (toS rows held q) (mix.length+k) (cs.length+k),Yl rows cs.length (mix.length+k) k,fun d=>oE (oC cs q (Yl rows cs.length (mix.length+k) k) d),⟨?_,Yq,vV v,fun x=>?_,s1,fun t ht=>by rw[s2 t ht];exact vV v _,s3,bT _ _ (Nat.le_refl _) (Nat.le_refl _),y0,fun c hc hw=>?_,fun c hc d hw=>?_,fun d hd=>?_,fun d hd=>?_,?_⟩⟩
 ·unfold l6
  rw[vR D inj]
  simp only[Int.one_mul]
 ·have:=Wg.nv (n:=mix.length+k) (B:=Kq) (f:=fun i=>if (toS rows held q).held i=x then (toS rows held q).T i (cs.length+k) else 0) (fun i hi=>by
   show(if (toS rows held q).held i=x then (toS rows held q).T i (cs.length+k) else 0).natAbs<=Kq
   split
   ·exact bT i _ (by omega) (Nat.le_refl _)
   ·exact Nat.zero_le _)
  refine Nat.le_trans this ?_
  rw[Nat.mul_comm]
  exact Nat.mul_le_mul (Nat.le_refl _) (by have:=P.k1;have:=P.d1;omega)
 ·obtain⟨j,hj⟩:=List.getElem?_of_mem hc
  have h1:=col j c hj
  rw[hw]at h1
  have h2:=hg j (by have:=(List.getElem?_eq_some_iff.mp hj).1;omega)
  simp only at h1
  omega
 ·exact(kQ (ne d (P.wd c hc d hw))).2 _ (List.mem_map.mpr ⟨c,List.mem_filter.mpr ⟨hc,decide_eq_true hw⟩,rfl⟩)
 ·obtain⟨c,_,hm,hw,hpos,_⟩:=cY P hd
  have h1:=(kQ (ne d hd)).2 _ (List.mem_map.mpr ⟨c,List.mem_filter.mpr ⟨hm,decide_eq_true hw⟩,rfl⟩)
  have h2:=nE c.eff _ hpos y0
  have h3:=Int.mul_nonneg (show 0<=q by omega) (nC P hm).2
  unfold Hc at h1
  show 0<=oE _
  omega
 ·obtain⟨c,hc,e⟩:=List.mem_map.mp (kQ (ne d hd)).1
  show(oE _).natAbs<=_
  rw[<-e]
  exact ym P Yq (List.mem_filter.mp hc).1
 ·rw[eA _ _ (by simp)]
  refine Eq.trans ?_ g3.symm
  refine Wg.am fun d hd=>?_
  rw[show((List.range mix.length).map fun d=>oE (oC cs q (Yl rows cs.length (mix.length+k) k) d)).getD d 0=oE (oC cs q (Yl rows cs.length (mix.length+k) k) d)from aq (by rw[List.getElem?_map,List.getElem?_range hd];rfl)]
  exact JE d hd
end
section
variable {cs:List Cl} {mix:Vu} {k:Nat}
def nG{n:Nat}{f:Nat->Int}(h0:∀i,i < n->0<=f i)(h:Wg.sm n f=0):∀i,i < n->f i=0:=by
 induction n with
 |zero=>intro i hi;omega
 |succ n ih=>
  have h1:=Wg.dP (n:=n) (f:=f) fun i hi=>h0 i (by omega)
  have h2:=h0 n (by omega)
  have h:Wg.sm n f+f n=0:=h
  intro i hi
  by_cases e:i=n
  ·subst e;omega
  ·exact ih (fun i hi=>h0 i (by omega)) (by omega) i (by omega)
def qk(P:bx cs mix k){n:Nat}{rows:List (List Int)}{held:List Nat}{q:Int}{c:Nat}(pt:Fs cs mix k n rows held q)(en:Wg.En (mix.length+k) (cs.length+k) (toS rows held q) c)(hno:∀i,i < mix.length+k->(toS rows held q).T i c<=0) :
  ∃y,yk cs k (qj cs.length rows held q c) q y:=by
 obtain⟨D,b,v⟩:=pt.ok P
 obtain⟨_,Yq,_,bT⟩:=pt.bnd P
 have hq:0 < q:=v.tab.pos
 have hcl:=en.lt
 have inj:∀i l,i < mix.length+k->l < mix.length+k->held.getD i 0=held.getD l 0->i=l:=fun i l hi hl e=>v.inj hi hl e
 have fr:=v.fresh en.ng
 have x0:∀x,Xj (toS rows held q) (mix.length+k) c x<=0:=fun x=>by
  have:=Wg.dP (n:=mix.length+k) (f:=fun i=>-(if (toS rows held q).held i=x then (toS rows held q).T i c else 0)) (fun i hi=>by
   split
   ·have:=hno i hi;omega
   ·simp)
  rw[Wg.fj]at this
  unfold Xj
  omega
 have xc:Xj (toS rows held q) (mix.length+k) c c=0:=Wg.aU fun i hi=>if_neg fun e=>fr ⟨i,hi,e⟩
 let y:Nat->Int:=fun x=>(if x=c then q else 0) - Xj (toS rows held q) (mix.length+k) c x
 have y0:∀x,0<=y x:=fun x=>by
  show 0<=(if x=c then q else 0) - _
  have:=x0 x
  split<;>omega
 let y':Nat->Int:=fun j=>if j=cs.length+k then 0 else y j
 have y1:∀j,j < cs.length+k->y' j=y j:=fun j hj=>if_neg (by omega)
 have y2:y' (cs.length+k)=0:=if_pos rfl
 have F7:∀i,i<=mix.length+k->Wg.sm (cs.length+k+1) (fun j=>(toS rows held q).T i j * y' j)=(toS rows held q).T i c * q - Wg.sm (mix.length+k) fun l=>(toS rows held q).T i ((toS rows held q).held l) * (toS rows held q).T l c:=fun i hi=>by
  simp only[Wg.sm]
  rw[y2,Int.mul_zero,Int.add_zero,Wg.am (g:=fun j=>(if j=c then (toS rows held q).T i j * q else 0) + -((toS rows held q).T i j * Xj (toS rows held q) (mix.length+k) c j)) (fun j hj=>by
   rw[y1 j hj]
   show(toS rows held q).T i j * ((if j=c then q else 0) - _)=_
   rw[Int.mul_sub,Int.sub_eq_add_neg]
   congr 1
   split<;>simp),Wg.fi,Wg.fj,along v ((toS rows held q).T i) (fun _=>0),Wg.bc hcl (fun j _ hj=>if_neg hj),if_pos rfl,Int.sub_eq_add_neg]
 have z:∀i,i < mix.length+k->Wg.sm (cs.length+k+1) (fun j=>(toS rows held q).T i j * y' j)=0:=fun i hi=>by
  rw[F7 i (by omega),Wg.bc hi (fun l hl hne=>by rw[v.Fr (by omega) hl,if_neg (Ne.symm hne),Int.zero_mul]),v.Fr (by omega) hi,if_pos rfl]
  show _ * q - q * _=0
  rw[Int.mul_comm];omega
 obtain⟨b1,b2⟩:=v.tab.back y' z
 have cy:∀f:Cl->Int,cD cs f y'=cD cs f y:=fun f=>by
  rw[bQ,bQ]
  exact Wg.am fun j hj=>by rw[y1 j (by omega)]
 refine⟨y,⟨?_,hq,Yq.q1,y0,fun x=>?_,fun j cl hj hw=>?_,fun t ht=>?_,?_⟩⟩
 ·unfold qj u9
  rw[vR D inj]
  congr 2
  refine congrArg (fun l=>[PV.tup l]) ?_
  have e1:∀x,x≠c->cq q (-1 * Xj (toS rows held q) (mix.length+k) c x)=cq q (y x):=fun x hx=>by
   have:y x = -1 * Xj (toS rows held q) (mix.length+k) c x:=by show(if x=c then q else 0) - _=_;rw[if_neg hx];omega
   rw[this]
  refine List.ext_getElem? fun x=>?_
  by_cases hx:x < cs.length
  ·rw[List.getElem?_map,List.getElem?_range hx]
   by_cases hc:c < cs.length
   ·rw[if_pos hc,List.getElem?_set]
    by_cases e:c=x
    ·rw[if_pos e,if_pos (by simp;exact hc)]
     have:y x=q:=by show(if x=c then q else 0) - _=_;rw[if_pos e.symm,<-e,xc];omega
     show some (cq q q)=some (cq q (y x))
     rw[this]
    ·rw[if_neg e,List.getElem?_map,List.getElem?_range hx]
     exact congrArg some (e1 x (Ne.symm e))
   ·rw[if_neg hc,List.getElem?_map,List.getElem?_range hx]
    exact congrArg some (e1 x (by omega))
  ·rw[List.getElem?_eq_none (by split<;>simp<;>omega),List.getElem?_eq_none (by simp;omega)]
 ·have a:=Wg.nv (n:=mix.length+k) (B:=Kq) (f:=fun i=>if (toS rows held q).held i=x then (toS rows held q).T i c else 0) (fun i hi=>by
   show(if (toS rows held q).held i=x then (toS rows held q).T i c else 0).natAbs<=Kq
   split
   ·exact bT i _ (by omega) (by omega)
   ·exact Nat.zero_le _)
  have a2:(Xj (toS rows held q) (mix.length+k) c x).natAbs<=16 * Kq:=Nat.le_trans a (Nat.mul_le_mul (by have:=P.k1;have:=P.d1;omega) (Nat.le_refl _))
  have a3:=Yq.q1
  show((if x=c then q else 0) - Xj (toS rows held q) (mix.length+k) c x).natAbs<=Kq * 17
  generalize Kq=z at a2 a3
  split<;>omega
 ·cases hw':cl.who with
  |none=>exact absurd hw' hw
  |some d=>
   have hd:=P.wd cl (List.mem_of_getElem? hj) d hw'
   have hlt:=(List.getElem?_eq_some_iff.mp hj).1
   have:=b1 d (by omega)
   rw[vS hd,cy,y2,Int.mul_zero,Int.add_zero,bQ]at this
   have hz:=nG (fun i hi=>Int.mul_nonneg (by
    rw[cK (List.getElem?_eq_getElem hi)];unfold w1;split<;>decide) (y0 i)) this j hlt
   rw[cK hj]at hz
   unfold w1 at hz
   rw[if_pos hw',Int.one_mul]at hz
   exact hz
 ·have:=b1 (mix.length+t) (by omega)
  rw[vT ht,cy,y1 _ (by omega)]at this
  have:=y0 (cs.length+t)
  omega
 ·rw[vU,cy,F7 _ (Nat.le_refl _),Wg.aU (fun l hl=>by rw[v.Fr (Nat.le_refl _) hl,if_neg (by omega),Int.zero_mul]),Int.sub_zero,Int.mul_comm _ q]at b2
  have:=Wg.vO hq b2
  have:=en.ng
  omega
def Out.right(P:bx cs mix k){v:PV}(h:Out cs mix k v):(∃q g X Y pr,oG cs mix k v q g X Y pr)\/∃q y,yk cs k v q y:=by
 obtain⟨n,rows,held,q,pt,⟨hg,rfl⟩|⟨c,en,hno,rfl⟩⟩:=h
 ·obtain⟨g,X,Y,pr,h⟩:=nF P pt hg
  exact .inl ⟨q,g,X,Y,pr,h⟩
 ·obtain⟨y,h⟩:=qk P pt en hno
  exact .inr ⟨q,y,h⟩
end
def oH{xp:aF}(sp_plus:eK xp){S:ar}{B f m c d:Int}{Q:bH}{E:cg}(hf:Fq B f)(hd:0 < d)(h1:c.natAbs<=dG)(h2:d.natAbs < dG)(e:c * B=m * d)(k:Q (cq B (f+m)) S):xp [cq B f,.tup [.int c,.int d]] S Q E:=by
 have sz:=hf.sz
 have:=hf.q1;have:=hf.n1;have q0:=hf.q0
 refine sp_plus sz.2.2 hd (by omega) (by omega) h1 h2 ?_
 have w:=M3.aZ (t:=f) (b:=B) (by omega)
 rw[eJ (m:=f+m) (R:=B) (Int.mul_pos sz.2.2 hd) q0 (by
  calc (M3.aK f B * d+c * M3.aC f B) * B=(M3.aK f B * B) * d+(c * B) * M3.aC f B:=by grind
   _=_:=by rw[w,e];grind)]
 exact k
inductive kR (S:ar) (is:Vu):PV->Prop
 |tup:kR S is (.tup (is.map PV.int))
 |lst {p:Addr}:S p=some (.lst (is.map PV.int))->kR S is (.ref p)
section
variable {cs:List Cl} {mix:Vu} {k:Nat}
def weak(P:bx cs mix k){X M p:Nat->Int}{b:Int}{Z:Vu}(x0:∀x,0<=X x)(hM:∀d,d < mix.length->cD cs (w1 d) X=M d)(hj:∀t,t < k->0<=cD cs (fun c=>c.eff.getD t 0) X)(zl:Z.length=k)(z0:∀z∈Z,0<=z)
  (non:∀c∈cs,c.who=none->b * Cn cs c+dot c.eff Z<=0) (Hr:∀c∈cs,∀d,c.who=some d->b * Cn cs c+dot c.eff Z<=p d):b * cD cs (Cn cs) X<=Wg.sm mix.length fun d=>M d * p d:=by
 have each:∀j,j < cs.length->b * ((cs.map (Cn cs)).getD j 0 * X j)+Wg.sm k (fun t=>Z.getD t 0 * ((cs.map fun c=>c.eff.getD t 0).getD j 0 * X j))<=Wg.sm mix.length fun d=>p d * ((cs.map (w1 d)).getD j 0 * X j):=fun j hj=>by
  have hc:=List.getElem?_eq_getElem hj
  have hm:=List.getElem_mem hj
  generalize cs[j]=c at hc hm
  have R:b * Cn cs c+dot c.eff Z<=Wg.sm mix.length fun d=>p d * w1 d c:=by
   cases hw:c.who with
   |none=>
    rw[Wg.aU fun d hd=>by unfold w1;rw[hw,if_neg (by simp),Int.mul_zero]]
    exact non c hm hw
   |some d=>
    rw[Wg.bc (P.wd c hm d hw) fun e he hne=>by unfold w1;rw[hw,if_neg (fun h=>hne (Option.some.inj h).symm),Int.mul_zero]]
    unfold w1
    rw[hw,if_pos rfl,Int.mul_one]
    exact Hr c hm d hw
  have m:=Int.mul_le_mul_of_nonneg_left R (x0 j)
  rw[eA _ _ (by rw[P.ef c hm,zl]),P.ef c hm,Int.mul_add,<-Wg.a_,<-Wg.a_]at m
  rw[cK hc]
  have e1:Wg.sm k (fun t=>Z.getD t 0 * ((cs.map fun c=>c.eff.getD t 0).getD j 0 * X j))=Wg.sm k fun t=>X j * (c.eff.getD t 0 * Z.getD t 0):=Wg.am fun t _=>by rw[cK hc];grind
  have e2:Wg.sm mix.length (fun d=>p d * ((cs.map (w1 d)).getD j 0 * X j))=Wg.sm mix.length fun d=>X j * (p d * w1 d c):=Wg.am fun t _=>by rw[cK hc];grind
  rw[e1,e2]
  have e3:b * (Cn cs c * X j)=X j * (b * Cn cs c):=by grind
  rw[e3]
  exact m
 have s:=Wg.zW each
 rw[Wg.fi,Wg.a_,Wg.gH cs.length k,Wg.gH cs.length mix.length,<-bQ]at s
 have e1:Wg.sm k (fun t=>Wg.sm cs.length fun j=>Z.getD t 0 * ((cs.map fun c=>c.eff.getD t 0).getD j 0 * X j))=Wg.sm k fun t=>Z.getD t 0 * cD cs (fun c=>c.eff.getD t 0) X:=Wg.am fun t _=>by rw[Wg.a_,<-bQ]
 have e2:Wg.sm mix.length (fun d=>Wg.sm cs.length fun j=>p d * ((cs.map (w1 d)).getD j 0 * X j))=Wg.sm mix.length fun d=>M d * p d:=Wg.am fun d hd=>by rw[Wg.a_,<-bQ,hM d hd,Int.mul_comm]
 rw[e1,e2]at s
 have nn:0<=Wg.sm k fun t=>Z.getD t 0 * cD cs (fun c=>c.eff.getD t 0) X:=Wg.dP fun t ht=>by
  refine Int.mul_nonneg ?_ (hj t ht)
  have hl:t < Z.length:=by omega
  rw[aq (List.getElem?_eq_getElem hl)]
  exact z0 _ (List.getElem_mem hl)
 omega
structure Gx (cs:List Cl) (D k:Nat) (b:Int) (Z:Vu) (p:Nat->Int):Prop where
 b0:0 < b
 zl:Z.length=k
 z0:∀z∈Z,0<=z
 non:∀c∈cs,c.who=none->b * Cn cs c+dot c.eff Z<=0
 Hr:∀c∈cs,∀d,c.who=some d->b * Cn cs c+dot c.eff Z<=p d
def Gx.F8(P:bx cs mix k){b:Int}{Z:Vu}{p:Nat->Int}(h:Gx cs mix.length k b Z p){v:PV}{q:Int}{y:Nat->Int}(e:yk cs k v q y):False:=by
 have w:=weak P (M:=fun _=>0) (p:=p) e.y0 (fun d hd=>by
  rw[bQ]
  refine Wg.aU fun j hj=>?_
  have hc:=List.getElem?_eq_getElem hj
  rw[cK hc]
  by_cases hw:cs[j].who=none
  ·unfold w1;rw[hw,if_neg (by simp),Int.zero_mul]
  ·rw[e.Dk j _ hc hw,Int.mul_zero]) e.ES h.zl h.z0 h.non h.Hr
 rw[Wg.aU fun d _=>Int.zero_mul _]at w
 have:=Int.mul_pos h.b0 e.cost
 omega
def yn{pr:Nat->Int}:dot mix ((List.range mix.length).map pr)=Wg.sm mix.length fun d=>mix.getD d 0 * pr d:=by
 rw[eA _ _ (by simp)]
 exact Wg.am fun d hd=>by rw[show((List.range mix.length).map pr).getD d 0=pr d from aq (by rw[List.getElem?_map,List.getElem?_range hd];rfl)]
def vb(P:bx cs mix k){b:Int}{Z:Vu}{p:Nat->Int}(h:Gx cs mix.length k b Z p){r:Int}{x:Nat->Int}(r0:0 < r)(x0:∀i,0<=x i)(xd:∀d,d < mix.length->cD cs (w1 d) x=mix.getD d 0 * r)(xj:∀t,t < k->0<=cD cs (fun c=>c.eff.getD t 0) x)
  (eq:b * cD cs (Cn cs) x=r * Wg.sm mix.length fun d=>mix.getD d 0 * p d) {v:PV} {q g:Int} {X:Nat->Int} {Y:Vu} {pr:Nat->Int} (m:oG cs mix k v q g X Y pr):g * b=q * Wg.sm mix.length fun d=>mix.getD d 0 * p d:=by
 have a:=weak P (M:=fun d=>mix.getD d 0 * q) m.x0 m.Dk m.ES h.zl h.z0 h.non h.Hr
 have c:=weak P (M:=fun d=>mix.getD d 0 * r) (p:=pr) x0 xd xj m.qy.l m.y0 m.non m.Hr
 have e1:Wg.sm mix.length (fun d=>mix.getD d 0 * q * p d)=q * Wg.sm mix.length fun d=>mix.getD d 0 * p d:=by
  rw[<-Wg.a_];exact Wg.am fun d _=>by grind
 have e2:Wg.sm mix.length (fun d=>mix.getD d 0 * r * pr d)=r * g:=by
  rw[<-m.sum,yn,<-Wg.a_];exact Wg.am fun d _=>by grind
 rw[e1,m.cost]at a
 rw[e2]at c
 generalize (Wg.sm mix.length fun d=>mix.getD d 0 * p d)=T at *
 generalize cD cs (Cn cs) x=U at *
 refine Int.le_antisymm (by rw[Int.mul_comm];exact a) ?_
 -- q U <= r g,b U = r T
 have c2:=Int.mul_le_mul_of_nonneg_left c (Int.le_of_lt h.b0)
 have:r * (q * T)<=r * (g * b):=by
  calc r * (q * T)=q * (r * T):=by grind
   _=b * (q * U):=by rw[<-eq];grind
   _<=b * (r * g):=c2
   _=r * (g * b):=by grind
 exact Int.le_of_mul_le_mul_left this r0
end
inductive vc (S:ar) (B:Int) (ns:Vu):PV->Prop
 |tup:vc S B ns (.tup (ns.map (cq B)))
 |lst {p:Addr}:S p=some (.lst (ns.map (cq B)))->vc S B ns (.ref p)
abbrev Ad(w:aF):Prop:=∀{S:ar} {v u:PV} {B:Int} {is ns:Vu} {Q:bH} {E:cg},kR S is v->vc S B ns u->0 < B->B.natAbs < dG->is.length=ns.length->eo (bp is ns) < dG->(∀i∈is,i.natAbs < dG)->(∀n∈ns,n.natAbs < dG)->Q (cq B (dot is ns)) S->w [v,u] S Q E
def sW{xp:aF}(sp_plus:eK xp):Ad (bj 5 (jn xp)):=by
 intro S v w B is ns Q E hv hw hB Gc hl ha his hns k
 unfold jn
 refine fK ?_
 rw[show az 5 [v,w]=[some v,some w,none,none,none] from rfl]
 have z0:PV.tup [.int 0,.int 1]=cq B 0:=by rw[ig,eJ (Q:=1) (R:=B) (n:=0) (m:=0) (by decide) hB (by simp)]
 refine aB fun N hN=>?_
 simp only[ap,aM,ag,c3,List.set_cons_succ,List.set_cons_zero]
 rw[z0]
 refine hN _ _ (aB fun N hN=>?_)
 -- the walk,by either kind
 have walk:∀keep:ar->Prop,keep S->kD (.tp (.cons (.n 3) (.cons (.n 4) .nil))) (ap 2 (ac xp [v3 2,aM [ah aL (v3 3) (ah al (v3 4) (c3 (.int 0))),ah al (v3 4) (c3 (.int 1))]])) { nx:=N,rt:=Q,ex:=fD } keep (aX (is.map PV.int) (ns.map (cq B))) [some v,some w,some (cq B 0),none,none] S:=by
  intro keep hk
  refine bJ (fun done σ S'=>S'=S/\done.length<=is.length/\∃x3 x4,σ=[some v,some w,some (cq B ((bp is ns).take done.length).sum),x3,x4]) ⟨rfl,Nat.zero_le _,_,_,rfl⟩ (fun _ _ _ ⟨e,_⟩=>by rw[e];exact hk) ?_ ?_
  ·rintro done x rest σ S' K e ⟨rfl,hd,x3,x4,rfl⟩ hK
   have hget:(aX (is.map PV.int) (ns.map (cq B)))[done.length]?=some x:=by rw[e];simp
   unfold aX at hget
   rw[List.getElem?_map]at hget
   obtain⟨⟨u,u2⟩,hz,rfl⟩:=Option.map_eq_some_iff.mp hget
   obtain⟨h1,h2⟩:=List.getElem?_zip_eq_some.mp hz
   rw[List.getElem?_map]at h1 h2
   obtain⟨i,hi1,rfl⟩:=Option.map_eq_some_iff.mp h1
   obtain⟨n,hn1,rfl⟩:=Option.map_eq_some_iff.mp h2
   have hlt:done.length < is.length:=(List.getElem?_eq_some_iff.mp hi1).1
   have hp:(bp is ns)[done.length]?=some (i * n):=by unfold bp;rw[List.getElem?_zipWith,hi1,hn1]
   have t1:=gG ((bp is ns).take done.length)
   have t2:=j3 (bp is ns) done.length
   have t3:=lR (List.mem_of_getElem? hp)
   have L:=(M3.c_ (t:=n) (b:=B) (by omega)).pos
   have ls:=M3.ja (t:=n) (b:=B) (T:=n.natAbs) (B:=B.natAbs) (by omega) (by omega) (by omega) (by omega) (by omega) (by omega) (by omega)
   have le1:(i * M3.aK n B).natAbs<=(i * n).natAbs:=by rw[Int.natAbs_mul,Int.natAbs_mul];exact Nat.mul_le_mul (Nat.le_refl _) (by omega)
   have e0:cq B n = .tup [.int (M3.aK n B),.int (M3.aC n B)]:=rfl
   simp only[Tg.put,Tg.Dr,List.set_cons_succ,List.set_cons_zero,ap,ac,ag,aM,ah,v3,lk,c3,al,e0,lN,pV]
   have mi:=his i (List.mem_of_getElem? hi1)
   have mn:=hns n (List.mem_of_getElem? hn1)
   have mo:IntMulOk i (M3.aK n B):=(bo (by omega)).mul (bo (by omega))
   simp only[aL]
   refine⟨mo,oH sp_plus (m:=i * n) ⟨hB,Gc,by omega⟩ L (by omega) (by omega) (by
    have lw:=M3.aZ (t:=n) (b:=B) (by omega)
    rw[Int.mul_assoc,lw];grind) (hK _ _ ⟨rfl,by rw[List.length_append];exact hlt,some (.int i),some (.tup [.int (M3.aK n B),.int (M3.aC n B)]),?_⟩)⟩
   rw[List.length_append,List.length_singleton,List.take_succ,hp]
   simp
  ·rintro σ S' ⟨rfl,hd,x3,x4,rfl⟩
   refine hN _ _ ?_
   have lz:(aX (is.map PV.int) (ns.map (cq B))).length=(bp is ns).length:=by unfold aX bp;simp
   rw[lz,List.take_length,df]
   simp only[aE,v3,lk]
   exact k
 cases hv with
 |tup=>
  cases hw with
  |tup=>simp only[bM,fe,v3,lk];exact walk _ trivial
  |lst hp=>simp only[bM,fe,v3,lk,hp];exact walk _ hp
 |lst hp=>
  cases hw with
  |tup=>simp only[bM,fe,v3,lk,hp];exact walk _ hp
  |lst hp2=>simp only[bM,fe,v3,lk,hp,hp2];exact walk _ ⟨hp,hp2⟩
structure Pl where
 who:Option Nat
 n:Int
 eff:List Int
 x:Int
noncomputable def Pl.cl(p:Pl):Cl:=⟨p.who,M3.aK p.n 12,(M3.aC p.n 12).natAbs,p.eff⟩
noncomputable def pw(ps:Vu):Option Nat->Int
 |none=>0
 |some d=>ps.getD d 0
structure l8 (wt ps:Vu) (p:Pl):Prop where
 el:p.eff.length=wt.length
 eb:∀e∈p.eff,e.natAbs<=2 ^ 30
 n0:0<=p.n
 n1:p.n<=2 ^ 30
 wd:∀d,p.who=some d->d < ps.length
 du:p.n+dot p.eff wt<=pw ps p.who
 x0:0<=p.x
 ti:p.x * (p.n+dot p.eff wt)=p.x * pw ps p.who
structure Plan (wt ps M:Vu) (f:Nat) (L:List Pl):Prop where
 ok:∀p∈L,l8 wt ps p
 Dk:∀d,d < ps.length->(L.map fun p=>w1 d p.cl * p.x).sum=2520 * M.getD d 0
 ES:∀t,t < wt.length->(L.map fun p=>p.eff.getD t 0 * p.x).sum=0
 fx:∀d,d < f->∃p∈L,io d p.cl=true
def l9{a b:Vu}(h:a.Perm b):a.sum=b.sum:=by
 induction h with
 |nil=>rfl
 |cons x _ ih=>simp[ih]
 |swap x y l=>simp;omega
 |trans _ _ i j=>rw[i,j]
def Plan.perm{wt ps M:Vu}{f:Nat}{L R:List Pl}(h:Plan wt ps M f L)(e:L.Perm R):Plan wt ps M f R where
 ok:=fun p hp=>h.ok p (e.mem_iff.mpr hp)
 Dk:=fun d hd=>by rw[<-l9 (e.map _)];exact h.Dk d hd
 ES:=fun t ht=>by rw[<-l9 (e.map _)];exact h.ES t ht
 fx:=fun d hd=>by obtain⟨p,hp,f⟩:=h.fx d hd;exact⟨p,e.mem_iff.mp hp,f⟩
def sX{t b:Int}(hb:0 < b):(M3.aC t b).natAbs ∣ b.natAbs:=by
 have L:=M3.c_ (t:=t) (b:=b) (by omega)
 have w:=M3.aZ (t:=t) (b:=b) (by omega)
 have c:Nat.Coprime (M3.aC t b).natAbs (M3.aK t b).natAbs:=by
  have:=L.one
  unfold Int.gcd at this
  exact Nat.Coprime.symm this
 refine c.dvd_of_dvd_mul_left ?_
 rw[<-Int.natAbs_mul,w,Int.natAbs_mul]
 exact Nat.dvd_mul_left _ _
theorem Pl.pv(p:Pl):p.cl.pv = .tup [qd p.who,cq 12 p.n,.tup (p.eff.map PV.int)]:=by
 unfold Pl.cl Cl.pv cq
 have L:=(M3.c_ (t:=p.n) (b:=12) (by decide)).pos
 rw[show((M3.aC p.n 12).natAbs:Int)=M3.aC p.n 12 by omega]
def Plan.Gy{wt ps M:Vu}{L:List Pl}{mix:Vu}(h:Plan wt ps M ps.length L)(hk:wt.length<=8)(hD:ps.length<=8)(n1:1<=L.length)(n2:L.length<=100)(hm:mix.length=ps.length)(m0:∀x∈mix,0<=x/\x<=2 ^ 30):bx (L.map Pl.cl) mix wt.length:=by
 have mem:∀c∈L.map Pl.cl,∃p∈L,l8 wt ps p/\p.cl=c:=fun c hc=>by obtain⟨p,hp,e⟩:=List.mem_map.mp hc;exact⟨p,hp,h.ok p hp,e⟩
 constructor
 ·simpa using n1
 ·simpa using n2
 ·exact hk
 ·omega
 ·intro c hc;obtain⟨p,_,o,rfl⟩:=mem c hc;exact o.el
 ·intro c hc;obtain⟨p,_,o,rfl⟩:=mem c hc;exact o.eb
 ·intro c hc
  obtain⟨p,_,o,rfl⟩:=mem c hc
  have L:=M3.c_ (t:=p.n) (b:=12) (by decide)
  have:=L.pos
  show M3.yD (M3.aK p.n 12) ((M3.aC p.n 12).natAbs:Int)
  rw[show((M3.aC p.n 12).natAbs:Int)=M3.aC p.n 12 by omega]
  exact L
 ·intro c hc
  obtain⟨p,_,o,rfl⟩:=mem c hc
  have n0:=o.n0;have n1:=o.n1
  have ct:=sf (n:=p.n) (Q:=12) (by decide)
  have z:=M3.ja (t:=p.n) (b:=12) (T:=p.n) (B:=12) (by decide) (by omega) (by omega) (by omega) (by omega) (by omega) (by omega)
  exact⟨Int.not_lt.mp fun hh=>by have:=ct.1.mp hh;omega,show M3.aK p.n 12<=_ by omega⟩
 ·intro c hc
  obtain⟨p,_,o,rfl⟩:=mem c hc
  have L:=(M3.c_ (t:=p.n) (b:=12) (by decide)).pos
  exact⟨show 0 < (M3.aC p.n 12).natAbs by omega,Nat.dvd_trans (sX (t:=p.n) (b:=12) (by decide)) (show(12:Int).natAbs ∣ 2520 by decide)⟩
 ·intro c hc d hd;obtain⟨p,_,o,rfl⟩:=mem c hc;rw[hm];exact o.wd d hd
 ·intro d hd
  obtain⟨p,hp,f⟩:=h.fx d (by omega)
  exact⟨p.cl,List.mem_map.mpr ⟨p,hp,rfl⟩,f⟩
 ·exact m0
def Pl.cn{cs:List Cl}{mix:Vu}{k:Nat}(P:bx cs mix k){p:Pl}(hp:p.cl∈cs):12 * Cn cs p.cl=p.n * (cbO cs:Int):=by
 obtain⟨z,hz⟩:=(iG P).2.2 p.cl hp
 have y0:=(P.yd p.cl hp).1
 have w:=M3.aZ (t:=p.n) (b:=12) (by decide)
 have L:=(M3.c_ (t:=p.n) (b:=12) (by decide)).pos
 have ey:(p.cl.y:Int)=M3.aC p.n 12:=by show((M3.aC p.n 12).natAbs:Int)=_;omega
 have ez:(cbO cs:Int)=M3.aC p.n 12 * (z:Int):=by rw[hz,Int.natCast_mul,ey]
 unfold Cn
 rw[hz,Nat.mul_div_cancel_left _ y0,Int.natCast_mul,ey]
 show 12 * (M3.aK p.n 12 * (z:Int))=_
 calc 12 * (M3.aK p.n 12 * (z:Int))=(M3.aK p.n 12 * 12) * z:=by grind
  _=_:=by rw[w];grind
theorem j8(a:Int):∀(xs ys:Vu),dot xs (ys.map (a * ·))=a * dot xs ys
 |[],_=>by simp[dot]
 |_::_,[]=>by simp[dot]
 |x::r,y::s=>by
  show x * (a * y)+dot r (s.map (a * ·))=a * (x * y+dot r s)
  rw[j8 a r s];grind
def Plan.He{wt ps M:Vu}{f:Nat}{L:List Pl}{mix:Vu}{k:Nat}(h:Plan wt ps M f L)(w0:∀w∈wt,0<=w)(P:bx (L.map Pl.cl) mix k)(hk:k=wt.length):Gx (L.map Pl.cl) mix.length k 12 (wt.map ((cbO (L.map Pl.cl):Int) * ·)) (fun d=>(cbO (L.map Pl.cl):Int) * ps.getD d 0):=by
 have cb:=(iG P).1
 have mem:∀c∈L.map Pl.cl,∃p∈L,l8 wt ps p/\p.cl=c:=fun c hc=>by obtain⟨p,hp,e⟩:=List.mem_map.mp hc;exact⟨p,hp,h.ok p hp,e⟩
 have key:∀p∈L,l8 wt ps p->12 * Cn (L.map Pl.cl) p.cl+dot p.cl.eff (wt.map ((cbO (L.map Pl.cl):Int) * ·))<=(cbO (L.map Pl.cl):Int) * pw ps p.who:=fun p hp o=>by
  rw[Pl.cn P (List.mem_map.mpr ⟨p,hp,rfl⟩),j8,show p.cl.eff=p.eff from rfl]
  calc p.n * (cbO (L.map Pl.cl):Int)+(cbO (L.map Pl.cl):Int) * dot p.eff wt=(cbO (L.map Pl.cl):Int) * (p.n+dot p.eff wt):=by grind
   _<=_:=Int.mul_le_mul_of_nonneg_left o.du (by omega)
 refine⟨by decide,by simp[hk],fun z hz=>?_,fun c hc hw=>?_,fun c hc d hw=>?_⟩
 ·obtain⟨w,hw,rfl⟩:=List.mem_map.mp hz
  exact Int.mul_nonneg (by omega) (w0 w hw)
 ·obtain⟨p,hp,o,rfl⟩:=mem c hc
  have:=key p hp o
  rw[show p.who=none from hw]at this
  simpa [pw]using this
 ·obtain⟨p,hp,o,rfl⟩:=mem c hc
  have:=key p hp o
  rw[show p.who=some d from hw]at this
  exact this
def kS(L:List Pl)(f:Cl->Int):cD (L.map Pl.cl) f (fun j=>(L.map (·.x)).getD j 0)=(L.map fun p=>f p.cl * p.x).sum:=by
 unfold cD
 have e:(List.range (L.map Pl.cl).length).map (fun j=>(L.map (·.x)).getD j 0)=L.map (·.x):=by
  refine List.ext_getElem? fun i=>?_
  rw[List.getElem?_map]
  by_cases hi:i < L.length
  ·rw[List.getElem?_range (by simpa using hi)]
   simp[List.getD_eq_getElem?_getD,hi]
  ·rw[List.getElem?_eq_none (by simp;omega),List.getElem?_eq_none (by simp;omega)];rfl
 rw[e,List.map_map]
 induction L with
 |nil=>rfl
 |cons p r ih=>
  have e':(List.range (r.map Pl.cl).length).map (fun j=>(r.map (·.x)).getD j 0)=r.map (·.x):=by
   refine List.ext_getElem? fun i=>?_
   rw[List.getElem?_map]
   by_cases hi:i < r.length
   ·rw[List.getElem?_range (by simpa using hi)]
    simp[List.getD_eq_getElem?_getD,hi]
   ·rw[List.getElem?_eq_none (by simp;omega),List.getElem?_eq_none (by simp;omega)];rfl
  show f p.cl * p.x+dot (r.map (f ∘ Pl.cl)) (r.map (·.x))=_
  rw[ih e']
  simp
noncomputable def sL(L:List Pl)(f:Pl->Int):Int:=(L.map f).sum
def gM{L:List Pl}{f g:Pl->Int}(h:∀p∈L,f p=g p):sL L f=sL L g:=by unfold sL;rw[List.map_congr_left h]
def yo(L:List Pl)(f g:Pl->Int):sL L (fun p=>f p+g p)=sL L f+sL L g:=by
 unfold sL
 induction L with
 |nil=>rfl
 |cons p r ih=>simp only[List.map_cons,List.sum_cons,ih];omega
def kT(L:List Pl)(a:Int)(f:Pl->Int):sL L (fun p=>a * f p)=a * sL L f:=by
 unfold sL
 induction L with
 |nil=>simp
 |cons p r ih=>simp only[List.map_cons,List.sum_cons,ih,Int.mul_add]
def vW(L:List Pl)(n:Nat)(g:Pl->Nat->Int):sL L (fun p=>Wg.sm n (g p))=Wg.sm n fun i=>sL L fun p=>g p i:=by
 unfold sL
 induction L with
 |nil=>exact(Wg.aU fun _ _=>rfl).symm
 |cons p r ih=>simp only[List.map_cons,List.sum_cons,ih,Wg.fi]
def Ae{ps:Vu}{p:Pl}(h:∀d,p.who=some d->d < ps.length):pw ps p.who=Wg.sm ps.length fun d=>ps.getD d 0 * w1 d p.cl:=by
 cases hw:p.who with
 |none=>exact(Wg.aU fun d hd=>by unfold w1;rw[show p.cl.who=none from hw,if_neg (by simp),Int.mul_zero]).symm
 |some d=>
  rw[Wg.bc (h d hw) fun e he hne=>by unfold w1;rw[show p.cl.who=some d from hw,if_neg (fun h=>hne (Option.some.inj h).symm),Int.mul_zero]]
  unfold w1
  rw[show p.cl.who=some d from hw,if_pos rfl,Int.mul_one]
  rfl
def Plan.sum{wt ps M:Vu}{f:Nat}{L:List Pl}(h:Plan wt ps M f L):sL L (fun p=>p.n * p.x)=2520 * Wg.sm ps.length fun d=>M.getD d 0 * ps.getD d 0:=by
 have e1:sL L (fun p=>p.n * p.x)+sL L (fun p=>p.x * dot p.eff wt)=sL L fun p=>p.x * pw ps p.who:=by
  rw[<-yo]
  exact gM fun p hp=>by rw[<-(h.ok p hp).ti];grind
 have e2:sL L (fun p=>p.x * dot p.eff wt)=0:=by
  rw[gM (g:=fun p=>Wg.sm wt.length fun t=>wt.getD t 0 * (p.eff.getD t 0 * p.x)) fun p hp=>by
   rw[eA _ _ (h.ok p hp).el,(h.ok p hp).el,<-Wg.a_]
   exact Wg.am fun t _=>by grind,vW]
  refine Wg.aU fun t ht=>?_
  rw[kT]
  unfold sL
  rw[h.ES t ht,Int.mul_zero]
 have e3:sL L (fun p=>p.x * pw ps p.who)=2520 * Wg.sm ps.length fun d=>M.getD d 0 * ps.getD d 0:=by
  rw[gM (g:=fun p=>Wg.sm ps.length fun d=>ps.getD d 0 * (w1 d p.cl * p.x)) fun p hp=>by
   rw[Ae (h.ok p hp).wd,<-Wg.a_]
   exact Wg.am fun t _=>by grind,vW,<-Wg.a_]
  refine Wg.am fun d hd=>?_
  rw[kT]
  unfold sL
  rw[h.Dk d hd]
  grind
 omega
def Plan.most{wt ps M:Vu}{f:Nat}{L:List Pl}(h:Plan wt ps M f L)(w0:∀w∈wt,0<=w)(hm:M.length=ps.length)(P:bx (L.map Pl.cl) M wt.length){v:PV}{q g:Int}{X:Nat->Int}{Y:Vu}{pr:Nat->Int}(m:oG (L.map Pl.cl) M wt.length v q g X Y pr):cq (q * (cbO (L.map Pl.cl):Int)) g=cq 12 (dot M ps):=by
 have D:=h.He w0 P rfl
 have e:=vb P D (r:=2520) (x:=fun j=>(L.map (·.x)).getD j 0) (by decide) (fun i=>by
  rw[List.getD_eq_getElem?_getD,List.getElem?_map]
  cases hh:L[i]? with
  |none=>exact Int.le_refl _
  |some p=>exact(h.ok p (List.mem_of_getElem? hh)).x0) (fun d hd=>by rw[kS,h.Dk d (by omega)];grind) (fun t ht=>by
   rw[kS]
   show 0<=(L.map fun p=>p.eff.getD t 0 * p.x).sum
   rw[h.ES t ht];exact Int.le_refl _) (by
   rw[kS]
   show 12 * sL L (fun p=>Cn (L.map Pl.cl) p.cl * p.x)=_
   rw[<-kT,gM (g:=fun p=>(cbO (L.map Pl.cl):Int) * (p.n * p.x)) fun p hp=>by
    have:=Pl.cn P (List.mem_map.mpr ⟨p,hp,rfl⟩)
    rw[<-Int.mul_assoc,this];grind,kT,h.sum,hm]
   rw[show(Wg.sm ps.length fun d=>M.getD d 0 * ((cbO (L.map Pl.cl):Int) * ps.getD d 0))=(cbO (L.map Pl.cl):Int) * Wg.sm ps.length fun d=>M.getD d 0 * ps.getD d 0 by rw[<-Wg.a_];exact Wg.am fun d _=>by grind]
   grind) m
 have cb:=(iG P).1
 refine eJ (Int.mul_pos m.qy.q0 (by omega)) (by decide) ?_
 rw[e,eA _ _ hm]
 rw[show(Wg.sm M.length fun d=>M.getD d 0 * ((cbO (L.map Pl.cl):Int) * ps.getD d 0))=(cbO (L.map Pl.cl):Int) * Wg.sm M.length fun d=>M.getD d 0 * ps.getD d 0 by rw[<-Wg.a_];exact Wg.am fun d _=>by grind]
 grind
end CW
namespace L3
open PySem L2
section
variable {X:Cx}
def iH:mV:=fun ps S Q=>match ps with
 |[.int i]=>i.natAbs.log2 < 1920/\Q (.str (toString i)) S
 |[.str z]=>(reprText z).length<=sizeLine/\Q (.str (reprText z)) S
 |ps=>lD ps S Q
def kU(hu:X.A.units+150 < cLine)(hg:X.A.guards=some []):eW X (.builtin "repr") iH:=⟨fun pins s σ H xs us Q I r ⟨ps,S,Q3,rp,rS,q,k⟩=>by
 unfold iH at q
 split at q
 ·rename_i i
  cases rp with
  |cons a rr=>
   cases rr
   cases r with
   |cons r1 r2=>
    cases r2;cases a
    obtain⟨t,rfl⟩:=r1
    exact P.repr_of_int q.1 ⟨.str _,H,I.kept (t':=s.toks+1) (h':=s.heap) (fun _ _ e=>e),⟨_,rfl⟩,k _ S _ H q.2 (.str _) rS .refl⟩
 ·rename_i z
  cases rp with
  |cons a rr=>
   cases rr
   cases r with
   |cons r1 r2=>
    cases r2;cases a
    obtain⟨t,rfl⟩:=r1
    exact P.repr_of_str ⟨.str _,H,I.kept (t':=s.toks+1) (h':=s.heap) (fun _ _ e=>e),⟨_,rfl⟩,k _ S _ H q.2 (.str _) rS .refl⟩ q.1
 ·exact(xv hu hg).ok pins s σ H xs us Q I r ⟨ps,S,Q3,rp,rS,q,k⟩⟩
end
end L3
namespace G36
open PySem L2 L3
noncomputable def cw(i:Nat):Stmt:=PySem.Challenge.pw_dueworth_k36_planted_sums.main.body.getD i (.Pass ⟨0,0,0,0⟩)
noncomputable def mt(i j:Nat):Stmt:=(uO (cw i)).getD j (.Pass ⟨0,0,0,0⟩)
structure Txt (P:Program) (w:World) (K:Vo) (mg:Vr):Prop where
 o_common:cf K mg "common" (cw 1) ["one","other"]
 o_fraction:cf K mg "fraction" (cw 2) ["top","bottom"]
 o_plus:cf K mg "plus" (cw 3) ["one","other"]
 o_times:cf K mg "times" (cw 4) ["one","other"]
 o_less:cf K mg "less" (cw 5) ["one","other"]
 o_highest:cf K mg "highest" (cw 6) ["fractions"]
 o_together:cf K mg "together" (cw 7) ["fractions"]
 o_worth_of:cf K mg "worth_of" (cw 8) ["numbers","fractions"]
 o_common_bottom:cf K mg "common_bottom" (cw 10) ["fractions"]
 o_row_of_deed:cf K mg "row_of_deed" (cw 11) ["columns","jars","mix","d"]
 o_row_of_jar:cf K mg "row_of_jar" (cw 12) ["columns","jars","jar"]
 o_without:cf K mg "without" (cw 13) ["row","chosen","place","bottom"]
 o_Balance___init__:lQ K "Balance" "__init__" "Balance.__init__" (mt 14 0) ["self","rows","held"]
 o_Balance_hold:lQ K "Balance" "hold" "Balance.hold" (mt 14 1) ["self","number","place"]
 o_Balance_gaining:lQ K "Balance" "gaining" "Balance.gaining" (mt 14 2) ["self"]
 o_Balance_sooner:lQ K "Balance" "sooner" "Balance.sooner" (mt 14 3) ["self","one","other","place"]
 o_Balance_used_up:lQ K "Balance" "used_up" "Balance.used_up" (mt 14 4) ["self","place"]
 o_Balance_held_by:lQ K "Balance" "held_by" "Balance.held_by" (mt 14 5) ["self","count","place","sign"]
 o_balance_of:cf K mg "balance_of" (cw 15) ["columns","jars","mix"]
 o_first_that_takes_nothing:cf K mg "first_that_takes_nothing" (cw 16) ["columns","d"]
 o_price_of:cf K mg "price_of" (cw 17) ["columns","worths","d"]
 o_endless:cf K mg "endless" (cw 18) ["balance","columns","place"]
 o_most:cf K mg "most" (cw 19) ["balance","columns","mix"]
 o_weighed:cf K mg "weighed" (cw 20) ["columns","mix"]
 o__law_deal:cf K mg "_law_deal" (cw 22) ["_law_script","_law_base"]
 o__law_draw:cf K mg "_law_draw" (cw 23) ["_law_deal_here","_law_many"]
 o__law_low:cf K mg "_law_low" (cw 24) ["_law_top","_law_bottom"]
 o__law_plus:cf K mg "_law_plus" (cw 25) ["_law_one","_law_other"]
 o__law_worth_of:cf K mg "_law_worth_of" (cw 26) ["_law_effect","_law_worths"]
 o__law_less:cf K mg "_law_less" (cw 27) ["_law_one","_law_other"]
 o__law_turned:cf K mg "_law_turned" (cw 28) ["_law_effect"]
 o__law_group:cf K mg "_law_group" (cw 29) ["_law_deal_here","_law_prices","_law_worths","_law_mix"]
 o__law_lesser:cf K mg "_law_lesser" (cw 30) ["_law_deal_here","_law_price","_law_worths"]
 o__law_planted:cf K mg "_law_planted" (cw 31) ["_law_deal_here"]
 CJ:yH K mg "Balance" ["rows","held","bottom"]
 GJ:mg "abs" = none
 Ez:mg "enumerate" = none
 GK:mg "int" = none
 Dg:mg "len" = none
 Hf:mg "list" = none
 GL:mg "max" = none
 H_:mg "min" = none
 CS:mg "range" = none
 Fe:mg "repr" = none
 FB:mg "reversed" = none
 Dd:mg "tuple" = none
 FJ:mg "zip" = none
section
variable {P:Program} {w:World} {K:Vo} {mg:Vr} {base:Heap}
def Af:(["number","one"]:Vs).Nodup:=by decide +kernel
def BP:(["column","d"]:Vs).Nodup:=by decide +kernel
def BQ:(["other","jar"]:Vs).Nodup:=by decide +kernel
def BR:(["column","jar"]:Vs).Nodup:=by decide +kernel
def Ag:(["one","other","bottom","chosen","place","row"]:Vs).Nodup:=by decide +kernel
def BS:(["row","chosen","place","self"]:Vs).Nodup:=by decide +kernel
def Ah:(["place","column","d"]:Vs).Nodup:=by decide +kernel
def Ai:(["column"]:Vs).Nodup:=by decide +kernel
def BU:(["column","bottom"]:Vs).Nodup:=by decide +kernel
def BV:(["d","columns","jars","mix"]:Vs).Nodup:=by decide +kernel
def Aj:(["jar","columns","jars"]:Vs).Nodup:=by decide +kernel
def Ak:(["number","columns","mix"]:Vs).Nodup:=by decide +kernel
def Al:(["column","d","worths"]:Vs).Nodup:=by decide +kernel
def Am:(["number","bottom"]:Vs).Nodup:=by decide +kernel
def An:(["d","columns","worths"]:Vs).Nodup:=by decide +kernel
def vX:(["_law_one"]:Vs).Nodup:=by decide +kernel
def vY:(["_law_number"]:Vs).Nodup:=by decide +kernel
def vZ:(["_law_j","_law_deal_here"]:Vs).Nodup:=by decide +kernel
def Ap:(["_law_k","_law_deal_here","_law_j"]:Vs).Nodup:=by decide +kernel
def Aq:(["_law_worth","_law_deal_here"]:Vs).Nodup:=by decide +kernel
def Ar:(["_law_d","_law_deal_here"]:Vs).Nodup:=by decide +kernel
def As:(["_law_price"]:Vs).Nodup:=by decide +kernel
def At:(["_law_k","_law_deal_here"]:Vs).Nodup:=by decide +kernel
def gN:aF:=bj 3 C.jk
def j9(T:Txt P w K mg):gf P w K mg base 1 "common" 2 gN:=gS ["one","other","left"] T.o_common (fun _ _ _ _ _ _ _ hr nd=>(ae (gD PassesOwn.never (AU hr (ad 1) af) (ae (s4 2 nd (av fJ (ad 0) (ad 1)))
  (ae (s4 0 nd (ad 1))
  (au (s4 1 nd (ad 2))))))
  (au (aN (cB vG T.GJ (l1 (ad 0))))))) rfl
def cL:aF:=bj 3 (C.fU gN)
def cQ(T:Txt P w K mg):gf P w K mg base 2 "fraction" 2 cL:=gS ["top","bottom","part"] T.o_fraction (fun _ _ _ _ _ _ _ hr nd=>(ae (s4 2 nd (c4 (j9 T) hr (lc (ad 0) (l1 (ad 1)))))
  (ae (g_ (cF mX (ad 1) af (ba _)) (au (s4 2 nd (iM cU (ad 2)))) eI)
  (au (aN (aY (lc (av e7 (ad 0) (ad 2)) (l1 (av e7 (ad 1) (ad 2)))))))))) rfl
def kW:aF:=bj 2 (C.e_ cL)
def oI(T:Txt P w K mg):gf P w K mg base 3 "plus" 2 kW:=gS ["one","other"] T.o_plus (fun _ _ _ _ _ _ _ hr nd=>(au (aN (c4 (cQ T) hr (lc (av aH (av aG (dw hr (ad 0)) (dw hr (ad 1))) (av aG (dw hr (ad 1)) (dw hr (ad 0)))) (l1 (av aG (dw hr (ad 0)) (dw hr (ad 1))))))))) rfl
def oJ:aF:=bj 2 (C.kG cL)
def sY(T:Txt P w K mg):gf P w K mg base 3 "times" 2 oJ:=gS ["one","other"] T.o_times (fun _ _ _ _ _ _ _ hr nd=>(au (aN (c4 (cQ T) hr (lc (av aG (dw hr (ad 0)) (dw hr (ad 1))) (l1 (av aG (dw hr (ad 0)) (dw hr (ad 1))))))))) rfl
def sZ:aF:=bj 2 CW.m7
def vd(T:Txt P w K mg):gf P w K mg base 1 "less" 2 sZ:=gS ["one","other"] T.o_less (fun _ _ _ _ _ _ _ hr nd=>(au (aN (ol mX (av aG (dw hr (ad 0)) (dw hr (ad 1))) (av aG (dw hr (ad 1)) (dw hr (ad 0))) (ba _))))) rfl
def j_:aF:=bj 3 (CW.hW sZ)
def nH(T:Txt P w K mg):gf P w K mg base 2 "highest" 1 j_:=gS ["fractions","found","one"] T.o_highest (fun _ _ _ _ _ _ _ hr nd=>(ae (s4 1 nd (dw hr (ad 0)))
  (ae (dy PassesOwn.never rfl (cm (ad 0)) (gn 2 nd) (au (g_ (vB (c4 (vd T) hr (lc (ad 1) (l1 (ad 2))))) (au (s4 1 nd (ad 2))) eI)))
  (au (aN (ad 1)))))) rfl
def js:aF:=bj 3 (CW.fW kW)
def l_(T:Txt P w K mg):gf P w K mg base 4 "together" 1 js:=gS ["fractions","found","one"] T.o_together (fun _ _ _ _ _ _ _ hr nd=>(ae (s4 1 nd (aY (lc af (l1 af))))
  (ae (dy PassesOwn.never rfl (cm (ad 0)) (gn 2 nd) (au (s4 1 nd (c4 (oI T) hr (lc (ad 1) (l1 (ad 2)))))))
  (au (aN (ad 1)))))) rfl
def jt:aF:=bj 2 (CW.fX js oJ)
def ma(T:Txt P w K mg):gf P w K mg base 5 "worth_of" 2 jt:=gS ["numbers","fractions"] T.o_worth_of (fun _ _ _ _ _ _ _ hr nd=>(au (aN (c4 (l_ T) hr (l1 (k7 [] 2 [] ["number","one"] (zD rfl rfl rfl T.FJ (by decide +kernel) (lc (ad 0) (l1 (ad 1)))) (fun _=>(xy rfl (b8 (gn 0 Af) (b8 (gn 1 Af) jh)))) (fun _=>bI) (fun _=>(c4 (sY T) hr (lc (aY (lc (ad 0) (l1 af))) (l1 (ad 1))))))))))) rfl
def b7:aF:=bj 3 (CW.cX gN)
def dU(T:Txt P w K mg):gf P w K mg base 2 "common_bottom" 1 b7:=gS ["fractions","found","one"] T.o_common_bottom (fun _ _ _ _ _ _ _ hr nd=>(ae (s4 1 nd af)
  (ae (dy PassesOwn.never rfl (cm (ad 0)) (gn 2 nd) (au (s4 1 nd (av e7 (av aG (ad 1) (dw hr (ad 2))) (c4 (j9 T) hr (lc (ad 1) (l1 (dw hr (ad 2)))))))))
  (au (aN (ad 1)))))) rfl
def fL:aF:=bj 4 CW.dF
def ju(T:Txt P w K mg):gf P w K mg base 1 "row_of_deed" 4 fL:=gS ["columns","jars","mix","d"] T.o_row_of_deed (fun _ _ _ _ _ _ _ hr nd=>(au (aN (av aH (av aH (k7 ["d"] 1 [3] ["column","d"] (cm (ad 0)) (fun _=>(gn 0 BP)) (fun _=>bI) (fun _=>(vE (yJ hr (dw hr (ad 0)) (ad 1)) af af))) (av aG (eF (l1 af)) (ad 1))) (eF (l1 (eO hr (ad 2) (ad 3)))))))) rfl
def gP:aF:=bj 4 CW.d_
def jG(T:Txt P w K mg):gf P w K mg base 1 "row_of_jar" 3 gP:=gS ["columns","jars","jar","over"] T.o_row_of_jar (fun _ _ _ _ _ _ _ hr nd=>(ae (uP ["jar"] 1 [2] ["other","jar"] 3 nd (aW rfl rfl T.CS (l1 (ad 1))) (fun _=>(gn 0 BQ)) (fun _=>bI) (fun _=>(vE (yJ hr (ad 0) (ad 1)) af af)))
  (au (aN (av aH (av aH (k7 ["jar"] 1 [2] ["column","jar"] (cm (ad 0)) (fun _=>(gn 0 BR)) (fun _=>bI) (fun _=>(iM cU (eO hr (dw hr (ad 0)) (ad 1))))) (ad 3)) (eF (l1 af))))))) rfl
def kc:aF:=bj 4 CW.h_
def nI(T:Txt P w K mg):gf P w K mg base 1 "without" 4 kc:=gS ["row","chosen","place","bottom"] T.o_without (fun _ _ _ _ _ _ _ hr nd=>(au (aN (k7 ["row","place","chosen","bottom"] 2 [3,1,2,0] ["one","other","bottom","chosen","place","row"] (m5 rfl rfl rfl T.FJ (by decide +kernel) (lc (ad 0) (l1 (ad 1)))) (fun _=>(xy rfl (b8 (gn 0 Ag) (b8 (gn 1 Ag) jh)))) (fun _=>bI) (fun _=>(av e7 (av fI (av aG (ad 0) (eO hr (ad 3) (ad 4))) (av aG (eO hr (ad 5) (ad 4)) (ad 1))) (ad 2))))))) rfl
def dj:aF:=bj 3 CW.b9
def fE(T:Txt P w K mg):tJ P w K mg base 1 "Balance" "__init__" 3 dj:=yI ["self","rows","held"] T.o_Balance___init__ (fun _ _ _ _ _ _ _ hr nd=>(ae (zP T.CJ (ad 1) (ad 0))
  (ae (zP T.CJ (ad 2) (ad 0))
  (au (zP T.CJ af (ad 0)))))) rfl
def cx:aF:=bj 5 (CW.dg kc)
def eL(T:Txt P w K mg):tJ P w K mg base 2 "Balance" "hold" 3 cx:=yI ["self","number","place","chosen","others"] T.o_Balance_hold (fun _ _ _ _ _ _ _ hr nd=>(ae (s4 3 nd (eO hr (k_ T.CJ (ad 0)) (ad 1)))
  (ae (uP ["self","place","chosen"] 1 [3,2,0] ["row","chosen","place","self"] 4 nd (cm (k_ T.CJ (ad 0))) (fun _=>(gn 0 BS)) (fun _=>bI) (fun _=>(c4 (nI T) hr (lc (ad 0) (lc (ad 1) (lc (ad 2) (l1 (k_ T.CJ (ad 3)))))))))
  (ae (zP T.CJ (av aH (av aH (d4 (ad 4) je (d3 (ad 1))) (eF (l1 (ad 3)))) (d4 (ad 4) (d3 (av aH (ad 1) af)) je)) (ad 0))
  (ae (zP T.CJ (eO hr (ad 3) (ad 2)) (ad 0))
  (au (gx (rR hr) (ad 2) (k_ T.CJ (ad 0)) (ad 1)))))))) rfl
def dC:aF:=bj 3 CW.cr
def dk(T:Txt P w K mg):tJ P w K mg base 1 "Balance" "gaining" 1 dC:=yI ["self","place","number"] T.o_Balance_gaining (fun _ _ _ _ _ _ _ hr nd=>(ae (dy PassesOwn.never rfl (rM rfl rfl T.Ez (by decide +kernel) (l1 (d4 (eO hr (k_ T.CJ (ad 0)) (iM cU af)) je (d3 (iM cU af))))) (xy rfl (b8 (gn 1 nd) (b8 (gn 2 nd) jh))) (au (g_ (cF mX (ad 2) af (ba _)) (au (aN (ad 1))) eI)))
  (au (aN jb)))) rfl
def dW:aF:=bj 6 CW.cJ
def gQ(T:Txt P w K mg):tJ P w K mg base 1 "Balance" "sooner" 4 dW:=yI ["self","one","other","place","first","second"] T.o_Balance_sooner (fun _ _ _ _ _ _ _ hr nd=>(ae (s4 4 nd (av aG (eO hr (eO hr (k_ T.CJ (ad 0)) (ad 1)) (iM cU af)) (eO hr (eO hr (k_ T.CJ (ad 0)) (ad 2)) (ad 3))))
  (ae (s4 5 nd (av aG (eO hr (eO hr (k_ T.CJ (ad 0)) (ad 2)) (iM cU af)) (eO hr (eO hr (k_ T.CJ (ad 0)) (ad 1)) (ad 3))))
  (au (aN (ol (zR (gF hr)) (aY (lc (ad 4) (l1 (eO hr (k_ T.CJ (ad 0)) (ad 1))))) (aY (lc (ad 5) (l1 (eO hr (k_ T.CJ (ad 0)) (ad 2))))) (ba _))))))) rfl
def dD:aF:=bj 4 (CW.cu dW)
def f_(T:Txt P w K mg):tJ P w K mg base 2 "Balance" "used_up" 2 dD:=yI ["self","place","found","number"] T.o_Balance_used_up (fun _ _ _ _ _ _ _ hr nd=>(ae (s4 2 nd jb)
  (ae (dy PassesOwn.never rfl (aW rfl rfl T.CS (l1 (cB cG T.Dg (l1 (k_ T.CJ (ad 0)))))) (gn 3 nd) (au (g_ (zr (rB (cF rQ (eO hr (eO hr (k_ T.CJ (ad 0)) (ad 3)) (ad 1)) af (ba _)) (mR (zr (zq (cF vF (ad 2) jb (ba _)) (vD (vB (yK (gQ T) hr (ad 0) (lc (ad 3) (lc (ad 2) (l1 (ad 1)))))))))))) (au (s4 2 nd (ad 3))) eI)))
  (au (aN (ad 2)))))) rfl
def bL:aF:=bj 7 (CW.cv cL)
def dm(T:Txt P w K mg):tJ P w K mg base 3 "Balance" "held_by" 4 bL:=yI ["self","count","place","sign","found","row","held"] T.o_Balance_held_by (fun _ _ _ _ _ _ _ hr nd=>(ae (s4 4 nd (av aG (eF (l1 (aY (lc af (l1 af))))) (ad 1)))
  (ae (dy PassesOwn.never rfl (m5 rfl rfl rfl T.FJ (by decide +kernel) (lc (k_ T.CJ (ad 0)) (l1 (k_ T.CJ (ad 0))))) (xy rfl (b8 (gn 5 nd) (b8 (gn 6 nd) jh))) (au (g_ (cF mX (ad 6) (ad 1) (ba _)) (au (gx (rR hr) (c4 (cQ T) hr (lc (av aG (ad 3) (eO hr (ad 5) (ad 2))) (l1 (k_ T.CJ (ad 0))))) (ad 4) (ad 6))) eI)))
  (au (aN (ad 4)))))) rfl
def bO:aF:=bj 3 CW.a9
def de(T:Txt P w K mg):gf P w K mg base 1 "first_that_takes_nothing" 2 bO:=gS ["columns","d","fit"] T.o_first_that_takes_nothing (fun _ _ _ _ _ _ _ hr nd=>(ae (uP ["d"] 2 [1] ["place","column","d"] 2 nd (rM rfl rfl T.Ez (by decide +kernel) (l1 (ad 0))) (fun _=>(xy rfl (b8 (gn 0 Ah) (b8 (gn 1 Ah) jh)))) (fun _=>(rN (zr (rB (yJ hr (dw hr (ad 1)) (ad 2)) (mR (cF zG (Cv (x_ rfl) T.H_ (dw hr (ad 1)) af) af (ba _))))))) (fun _=>(ad 0)))
  (au (aN (dw hr (ad 2)))))) rfl
def eB:aF:=bj 8 (CW.ee b7 fL gP dj cx bO)
def jH(T:Txt P w K mg):gf P w K mg base 3 "balance_of" 3 eB:=gS ["columns","jars","mix","bottom","goal","d","rows","balance"] T.o_balance_of (fun _ _ _ _ _ _ _ hr nd=>(ae (s4 3 nd (c4 (dU T) hr (l1 (k7 [] 1 [] ["column"] (cm (ad 0)) (fun _=>(gn 0 Ai)) (fun _=>bI) (fun _=>(dw hr (ad 0)))))))
  (ae (s4 4 nd (av aH (k7 ["bottom"] 1 [3] ["column","bottom"] (cm (ad 0)) (fun _=>(gn 0 BU)) (fun _=>bI) (fun _=>(av aG (iM cU (dw hr (dw hr (ad 0)))) (av e7 (ad 1) (dw hr (dw hr (ad 0))))))) (av aG (eF (l1 af)) (av aH (ad 1) af))))
  (ae (uP ["mix","jars","columns"] 1 [0,1,2] ["d","columns","jars","mix"] 6 nd (aW rfl rfl T.CS (l1 (cB cG T.Dg (l1 (ad 2))))) (fun _=>(gn 0 BV)) (fun _=>bI) (fun _=>(c4 (ju T) hr (lc (ad 1) (lc (ad 2) (lc (ad 3) (l1 (ad 0))))))))
  (ae (d6 (vJ j2 lE (ad 6) (l1 (k7 ["jars","columns"] 1 [0,1] ["jar","columns","jars"] (aW rfl rfl T.CS (l1 (ad 1))) (fun _=>(gn 0 Aj)) (fun _=>bI) (fun _=>(c4 (jG T) hr (lc (ad 1) (lc (ad 2) (l1 (ad 0))))))))))
  (ae (s4 7 nd (Cu T.CJ (fE T) hr (lc (av aH (ad 6) (eF (l1 (ad 4)))) (l1 (k7 ["mix","columns"] 1 [0,2] ["number","columns","mix"] (aW rfl rfl T.CS (l1 (cB cG T.Dg (l1 (ad 6))))) (fun _=>(gn 0 Ak)) (fun _=>bI) (fun _=>(av fI (av aH (cB cG T.Dg (l1 (ad 1))) (ad 0)) (cB cG T.Dg (l1 (ad 2))))))))))
  (ae (dy PassesOwn.never rfl (aW rfl rfl T.CS (l1 (cB cG T.Dg (l1 (ad 2))))) (gn 5 nd) (au (d6 (yK (eL T) hr (ad 7) (lc (ad 5) (l1 (c4 (de T) hr (lc (ad 0) (l1 (ad 5))))))))))
  (au (aN (ad 7)))))))))) rfl
def ga:aF:=bj 3 (CW.fY j_ kW jt)
def md(T:Txt P w K mg):gf P w K mg base 6 "price_of" 3 ga:=gS ["columns","worths","d"] T.o_price_of (fun _ _ _ _ _ _ _ hr nd=>(au (aN (c4 (nH T) hr (l1 (k7 ["worths","d"] 1 [2,1] ["column","d","worths"] (cm (ad 0)) (fun _=>(gn 0 Al)) (fun _=>(rN (yJ hr (dw hr (ad 0)) (ad 1)))) (fun _=>(c4 (oI T) hr (lc (dw hr (ad 0)) (l1 (c4 (ma T) hr (lc (dw hr (ad 0)) (l1 (ad 2)))))))))))))) rfl
def ke:aF:=bj 4 (CW.ic bL)
def nJ(T:Txt P w K mg):gf P w K mg base 4 "endless" 3 ke:=gS ["balance","columns","place","shares"] T.o_endless (fun _ _ _ _ _ _ _ hr nd=>(ae (s4 3 nd (yK (dm T) hr (ad 0) (lc (cB cG T.Dg (l1 (ad 1))) (lc (ad 2) (l1 (iM cU af))))))
  (ae (g_ (cF mX (ad 2) (cB cG T.Dg (l1 (ad 1))) (ba _)) (au (gx (rR hr) (aY (lc af (l1 af))) (ad 3) (ad 2))) eI)
  (au (aN (aY (lc cO (l1 (cT ck T.Dd (l1 (ad 3))))))))))) rfl
def s9:aF:=bj 8 (CW.m8 b7 cL ga bL)
def ve(T:Txt P w K mg):gf P w K mg base 7 "most" 3 s9:=gS ["balance","columns","mix","bottom","goal","worths","prices","shares"] T.o_most (fun _ _ _ _ _ _ _ hr nd=>(ae (s4 3 nd (av aG (k_ T.CJ (ad 0)) (c4 (dU T) hr (l1 (k7 [] 1 [] ["column"] (cm (ad 1)) (fun _=>(gn 0 Ai)) (fun _=>bI) (fun _=>(dw hr (ad 0))))))))
  (ae (s4 4 nd (eO hr (k_ T.CJ (ad 0)) (iM cU af)))
  (ae (s4 5 nd (cT ck T.Dd (l1 (k7 ["bottom"] 1 [3] ["number","bottom"] (cm (d4 (ad 4) (d3 (cB cG T.Dg (l1 (ad 1)))) (d3 (iM cU af)))) (fun _=>(gn 0 Am)) (fun _=>bI) (fun _=>(c4 (cQ T) hr (lc (ad 0) (l1 (ad 1)))))))))
  (ae (s4 6 nd (cT ck T.Dd (l1 (k7 ["worths","columns"] 1 [1,5] ["d","columns","worths"] (aW rfl rfl T.CS (l1 (cB cG T.Dg (l1 (ad 2))))) (fun _=>(gn 0 An)) (fun _=>bI) (fun _=>(c4 (md T) hr (lc (ad 1) (lc (ad 2) (l1 (ad 0))))))))))
  (ae (s4 7 nd (cT ck T.Dd (l1 (yK (dm T) hr (ad 0) (lc (cB cG T.Dg (l1 (ad 1))) (lc (iM cU af) (l1 af)))))))
  (au (aN (aY (lc cO (lc (c4 (cQ T) hr (lc (eO hr (ad 4) (iM cU af)) (l1 (ad 3)))) (lc (ad 7) (lc (ad 6) (l1 (ad 5))))))))))))))) rfl
def iw:aF:=bj 6 (CW.ie eB dC dD ke cx s9)
def jv(T:Txt P w K mg):gf P w K mg base 8 "weighed" 2 iw:=gS ["columns","mix","jars","balance","place","number"] T.o_weighed (fun _ _ _ _ _ _ _ hr nd=>(ae (s4 2 nd (cB cG T.Dg (l1 (dw hr (dw hr (ad 0))))))
  (ae (s4 3 nd (c4 (jH T) hr (lc (ad 0) (lc (ad 2) (l1 (ad 1))))))
  (ae (s4 4 nd (zQ (dk T) hr (ad 3)))
  (ae (gD PassesOwn.never (cF rD (ad 4) jb (ba _)) (ae (s4 5 nd (yK (f_ T) hr (ad 3) (l1 (ad 4))))
  (ae (g_ (cF vF (ad 5) jb (ba _)) (au (aN (c4 (nJ T) hr (lc (ad 3) (lc (ad 0) (l1 (ad 4))))))) eI)
  (ae (d6 (yK (eL T) hr (ad 3) (lc (ad 5) (l1 (ad 4)))))
  (au (s4 4 nd (zQ (dk T) hr (ad 3))))))))
  (au (aN (c4 (ve T) hr (lc (ad 3) (lc (ad 0) (l1 (ad 1)))))))))))) rfl
def iI:aF:=bj 5 C.e8
def kX(T:Txt P w K mg):gf P w K mg base 1 "_law_deal" 2 iI:=gS ["_law_script","_law_base","_law_one","_law_some","_law_number"] T.o__law_deal (fun _ _ _ _ _ _ _ hr nd=>(ae (uP [] 1 [] ["_law_one"] 3 nd (cm (d4 (ad 0) (d3 (ad 1)) (d3 af))) (fun _=>(gn 0 vX)) (fun _=>bI) (fun _=>(cB (rG rfl) T.GL (lc (ad 0) (l1 (av fI af (ad 0)))))))
  (ae (s4 4 nd (av aH af (ad 1)))
  (ae (dy PassesOwn.never rfl (cm (ad 3)) (gn 2 nd) (au (s4 4 nd (av fJ (av aH (av aG (ad 4) af) (av fJ (ad 2) af)) af))))
  (au (aN (xH (kF cO (ad 4) (kF cO af (kF cO (xI pI rfl (k7 [] 1 [] ["_law_one"] (cm (ad 3)) (fun _=>(gn 0 vX)) (fun _=>(rN (cF zG (ad 0) (av zF af af) (ba _)))) (fun _=>(ad 0))) rfl T.Hf rfl T.FB) xG)))))))))) rfl
def cR:aF:=bj 5 C.e9
def ao(T:Txt P w K mg):gf P w K mg base 1 "_law_draw" 2 cR:=gS ["_law_deal_here","_law_many","_law_number","_law_one","_law_other"] T.o__law_draw (fun _ _ _ _ _ _ _ hr nd=>(ae (gD PassesOwn.never (zr (rB (yJ hr (eO hr (ad 0) cO) af) (mR (cF rQ (cB cG T.Dg (l1 (eO hr (ad 0) cO))) af (ba _))))) (au (gx (rR hr) (BF rZ vI (eO hr (ad 0) cO)) (ad 0) cO)))
  (ae (s4 2 nd (eO hr (ad 0) cO))
  (ae (g_ (cF rQ (ad 2) af (ba _)) (ae (gx (rR hr) (av e7 (ad 2) (ad 1)) (ad 0) cO)
  (au (aN (av fJ (ad 2) (ad 1))))) eI)
  (ae (s4 3 nd (av fJ (av aH (av aG (eO hr (ad 0) cO) af) af) af))
  (ae (gx (rR hr) (av fJ (av aH (av aG (ad 3) af) af) af) (ad 0) cO)
  (ae (s4 4 nd (av fJ (av aG (eO hr (ad 0) cO) (eO hr (ad 0) cO)) af))
  (au (aN (av fJ (av aH (av aG (av fJ (av aG (ad 3) (ad 3)) af) af) (ad 4)) (ad 1))))))))))) rfl
def dq:aF:=bj 4 C.fT
def fm(T:Txt P w K mg):gf P w K mg base 1 "_law_low" 2 dq:=gS ["_law_top","_law_bottom","_law_one","_law_other"] T.o__law_low (fun _ _ _ _ _ _ _ hr nd=>(ae (lG (i:=2) (j:=3) rfl nd rfl rfl (by decide) rfl rfl (lc (cB (rG rfl) T.GL (lc (ad 0) (l1 (av fI af (ad 0))))) (l1 (ad 1))))
  (ae (gD PassesOwn.never (cF rQ (ad 3) af (ba _)) (au (lG (i:=2) (j:=3) rfl nd rfl rfl (by decide) rfl rfl (lc (ad 3) (l1 (av fJ (ad 2) (ad 3)))))))
  (au (aN (aY (lc (av e7 (ad 0) (ad 2)) (l1 (av e7 (ad 1) (ad 2)))))))))) rfl
def bP:aF:=bj 2 (C.fc dq)
def cz(T:Txt P w K mg):gf P w K mg base 2 "_law_plus" 2 bP:=gS ["_law_one","_law_other"] T.o__law_plus (fun _ _ _ _ _ _ _ hr nd=>(au (aN (c4 (fm T) hr (lc (av aH (av aG (dw hr (ad 0)) (dw hr (ad 1))) (av aG (dw hr (ad 1)) (dw hr (ad 0)))) (l1 (av aG (dw hr (ad 0)) (dw hr (ad 1))))))))) rfl
def eM(CL:aF):bX:=(aj (ap 2 (aM [(c3 (.int 0)),(c3 (.int 1))]))
  (aj (bM (fe (v3 0) (v3 1)) (.tp (.cons (.n 3) (.cons (.n 4) .nil))) (ap 2 (ac CL [(v3 2),(aM [(ah aL (v3 3) (ah al (v3 4) (c3 (.int 0)))),(ah al (v3 4) (c3 (.int 1)))])])))
  (aE (v3 2))))
def bD:aF:=bj 5 (eM bP)
def bi(T:Txt P w K mg):gf P w K mg base 3 "_law_worth_of" 2 bD:=gS ["_law_effect","_law_worths","_law_found","_law_number","_law_worth"] T.o__law_worth_of (fun _ _ _ _ _ _ _ hr nd=>(ae (s4 2 nd (aY (lc af (l1 af))))
  (ae (dy PassesOwn.never rfl (m5 rfl rfl rfl T.FJ (by decide +kernel) (lc (ad 0) (l1 (ad 1)))) (xy rfl (b8 (gn 3 nd) (b8 (gn 4 nd) jh))) (au (s4 2 nd (c4 (cz T) hr (lc (ad 2) (l1 (aY (lc (av aG (ad 3) (dw hr (ad 4))) (l1 (dw hr (ad 4)))))))))))
  (au (aN (ad 2)))))) rfl
def ft(CL:aF):bX:=(aE (ac CL [(v3 0),(aM [(ah bn (c3 (.int 0)) (ah al (v3 1) (c3 (.int 0)))),(ah al (v3 1) (c3 (.int 1)))])]))
def cS:aF:=bj 2 (ft bP)
def cA(T:Txt P w K mg):gf P w K mg base 3 "_law_less" 2 cS:=gS ["_law_one","_law_other"] T.o__law_less (fun _ _ _ _ _ _ _ hr nd=>(au (aN (c4 (cz T) hr (lc (ad 0) (l1 (aY (lc (av fI af (dw hr (ad 1))) (l1 (dw hr (ad 1))))))))))) rfl
def dI:bX:=(aE (ai aD [(aw (aO (v3 0)) (.n 0) bg (ah bn (c3 (.int 0)) (v3 0)) 1 [])]))
def fM:aF:=bj 1 dI
def jw(T:Txt P w K mg):gf P w K mg base 1 "_law_turned" 1 fM:=gS ["_law_effect"] T.o__law_turned (fun _ _ _ _ _ _ _ hr nd=>(au (aN (cT ck T.Dd (l1 (k7 [] 1 [] ["_law_number"] (cm (ad 0)) (fun _=>(gn 0 vY)) (fun _=>bI) (fun _=>(av fI af (ad 0))))))))) rfl
def eC(CH C0 CM CL EU:aF):bX:=(aj (iO 4 5 (ai bA [(v3 2)]) (ai bA [(v3 1)]))
  (aj (ap 7 (ai aD [(aw (bm (v3 4)) (.n 0) bg (ah aL (ac CH [(v3 1),(c3 (.int 10))]) (ac CH [(v3 1),(c3 (.int 2))])) 1 [0])]))
  (aj (iO 8 9 (ac CH [(v3 0),(v3 5)]) (ah aP (c3 (.int 1)) (ac CH [(v3 0),(c3 (.int 2))])))
  (aj (d8 (ah aP (ah al (v3 3) (v3 8)) (v3 9)) (v3 3) (v3 8))
  (aj (ap 10 (cC [(aM [(v3 8),(ac C0 [(ah al (v3 1) (v3 8)),(ac CM [(v3 7),(v3 2)])]),(v3 7)])]))
  (aj (gc (cE (ah (fQ false) (ac CH [(v3 0),(c3 (.int 2))]) (c3 (.int 0)))) (aj (ap 11 (ac CH [(v3 0),(v3 5)]))
  (aj (d8 (ah aP (ah al (v3 3) (v3 11)) (v3 9)) (v3 3) (v3 11))
  (aE (ah aP (v3 10) (cC [(aM [(v3 11),(ac CL [(ah al (v3 1) (v3 11)),(ac CM [(v3 7),(v3 2)])]),(ac EU [(v3 7)])])]))))) d5)
  (aj (bM (bm (v3 4)) (.n 6) (aj (ap 12 (ai aD [(aw (bm (v3 4)) (.n 0) bg (ah aL (ah bn (ah bn (c3 (.int 0)) (c3 (.int 1))) (ac CH [(v3 1),(c3 (.int 9))])) (ai eX [(ah (fQ false) (v3 0) (v3 2))])) 1 [0,6])]))
  (bS (jg "list" bv (v3 10) [(aM [(c3 .non),(ac C0 [(aM [(c3 (.int 0)),(c3 (.int 1))]),(ac CM [(v3 12),(v3 2)])]),(v3 12)])]))))
  (aE (v3 10)))))))))
def eE:aF:=bj 13 (eC cR cS bD bP fM)
def jI(T:Txt P w K mg):gf P w K mg base 4 "_law_group" 4 eE:=gS ["_law_deal_here","_law_prices","_law_worths","_law_mix","_law_jars","_law_deeds","_law_j","_law_effect","_law_one","_law_many","_law_found","_law_other","_law_takes"] T.o__law_group (fun _ _ _ _ _ _ _ hr nd=>(ae (lG (i:=4) (j:=5) rfl nd rfl rfl (by decide) rfl rfl (lc (cB cG T.Dg (l1 (ad 2))) (l1 (cB cG T.Dg (l1 (ad 1))))))
  (ae (s4 7 nd (cT ck T.Dd (l1 (k7 ["_law_deal_here"] 1 [0] ["_law_j","_law_deal_here"] (aW rfl rfl T.CS (l1 (ad 4))) (fun _=>(gn 0 vZ)) (fun _=>bI) (fun _=>(av aG (c4 (ao T) hr (lc (ad 1) (l1 af))) (c4 (ao T) hr (lc (ad 1) (l1 af)))))))))
  (ae (lG (i:=8) (j:=9) rfl nd rfl rfl (by decide) rfl rfl (lc (c4 (ao T) hr (lc (ad 0) (l1 (ad 5)))) (l1 (av aH af (c4 (ao T) hr (lc (ad 0) (l1 af)))))))
  (ae (gx (rR hr) (av aH (eO hr (ad 3) (ad 8)) (ad 9)) (ad 3) (ad 8))
  (ae (s4 10 nd (eF (l1 (aY (lc (ad 8) (lc (c4 (cA T) hr (lc (eO hr (ad 1) (ad 8)) (l1 (c4 (bi T) hr (lc (ad 7) (l1 (ad 2))))))) (l1 (ad 7))))))))
  (ae (g_ (yJ hr (c4 (ao T) hr (lc (ad 0) (l1 af))) af) (ae (s4 11 nd (c4 (ao T) hr (lc (ad 0) (l1 (ad 5)))))
  (ae (gx (rR hr) (av aH (eO hr (ad 3) (ad 11)) (ad 9)) (ad 3) (ad 11))
  (au (aN (av aH (ad 10) (eF (l1 (aY (lc (ad 11) (lc (c4 (cz T) hr (lc (eO hr (ad 1) (ad 11)) (l1 (c4 (bi T) hr (lc (ad 7) (l1 (ad 2))))))) (l1 (c4 (jw T) hr (l1 (ad 7)))))))))))))) eI)
  (ae (dy PassesOwn.never rfl (aW rfl rfl T.CS (l1 (ad 4))) (gn 6 nd) (ae (s4 12 nd (cT ck T.Dd (l1 (k7 ["_law_j","_law_deal_here"] 1 [0,6] ["_law_k","_law_deal_here","_law_j"] (aW rfl rfl T.CS (l1 (ad 4))) (fun _=>(gn 0 Ap)) (fun _=>bI) (fun _=>(av aG (av fI (av fI af af) (c4 (ao T) hr (lc (ad 1) (l1 af)))) (cT vH T.GK (l1 (ol (rC (gF hr)) (ad 0) (ad 2) (ba _))))))))))
  (au (d6 (vJ dO eZ (ad 10) (l1 (aY (lc jb (lc (c4 (cA T) hr (lc (aY (lc af (l1 af))) (l1 (c4 (bi T) hr (lc (ad 12) (l1 (ad 2))))))) (l1 (ad 12)))))))))))
  (au (aN (ad 10))))))))))) rfl
def dJ(CH C0 CL CM:aF):bX:=(aj (ap 3 (ai aD [(aw (aO (v3 2)) (.n 0) bg (ah bn (ac CH [(v3 1),(c3 (.int 19))]) (c3 (.int 9))) 1 [0])]))
  (aj (ap 4 (ac C0 [(v3 1),(ac CL [(ac CM [(v3 3),(v3 2)]),(aM [(ac CH [(v3 0),(c3 (.int 4))]),(ah aP (c3 (.int 1)) (ac CH [(v3 0),(c3 (.int 3))]))])])]))
  (aj (gc (cE (ah k6 (ah al (v3 4) (c3 (.int 0))) (c3 (.int 0)))) (aE (aM [(ac C0 [(v3 1),(aM [(c3 (.int 0)),(c3 (.int 1))])]),(ai aD [(aw (aO (v3 3)) (.n 0) bg (ah bn (c3 (.int 0)) (ai lC [(v3 0)])) 1 [])])])) d5)
  (aE (aM [(v3 4),(v3 3)])))))
def dL:aF:=bj 5 (dJ cR cS bP bD)
def fu(T:Txt P w K mg):gf P w K mg base 4 "_law_lesser" 3 dL:=gS ["_law_deal_here","_law_price","_law_worths","_law_effect","_law_cost"] T.o__law_lesser (fun _ _ _ _ _ _ _ hr nd=>(ae (s4 3 nd (cT ck T.Dd (l1 (k7 ["_law_deal_here"] 1 [0] ["_law_worth","_law_deal_here"] (cm (ad 2)) (fun _=>(gn 0 Aq)) (fun _=>bI) (fun _=>(av fI (c4 (ao T) hr (lc (ad 1) (l1 af))) af))))))
  (ae (s4 4 nd (c4 (cA T) hr (lc (ad 1) (l1 (c4 (cz T) hr (lc (c4 (bi T) hr (lc (ad 3) (l1 (ad 2)))) (l1 (aY (lc (c4 (ao T) hr (lc (ad 0) (l1 af))) (l1 (av aH af (c4 (ao T) hr (lc (ad 0) (l1 af))))))))))))))
  (ae (g_ (cF mX (dw hr (ad 4)) af (ba _)) (au (aN (aY (lc (c4 (cA T) hr (lc (ad 1) (l1 (aY (lc af (l1 af)))))) (l1 (cT ck T.Dd (l1 (k7 [] 1 [] ["_law_number"] (cm (ad 3)) (fun _=>(gn 0 vY)) (fun _=>bI) (fun _=>(av fI af (cB vG T.GJ (l1 (ad 0))))))))))))) eI)
  (au (aN (aY (lc (ad 4) (l1 (ad 3)))))))))) rfl
def dr(CH DD CL C0 Ff Ec CM:aF):bX:=(aj (iO 1 2 (ac CH [(v3 0),(c3 (.int 5))]) (ah aP (c3 (.int 1)) (ac CH [(v3 0),(c3 (.int 4))])))
  (aj (ap 3 (aw (bm (v3 1)) (.n 0) bg (ac DD [(ah aL (ac CH [(v3 1),(c3 (.int 16))]) (ac CH [(v3 1),(c3 (.int 3))])),(ah aP (c3 (.int 1)) (ac CH [(v3 1),(c3 (.int 4))]))]) 1 [0]))
  (aj (ap 5 (aw (bm (v3 2)) (.n 0) bg (ac DD [(ah aP (c3 (.int 1080)) (ac CH [(v3 1),(c3 (.int 400))])),(ah aP (c3 (.int 1)) (ah aL (ac CH [(v3 1),(c3 (.int 4))]) (ac CH [(v3 1),(c3 (.int 2))])))]) 1 [0]))
  (aj (ap 5 (aw (aO (v3 5)) (.n 0) bg (ac CL [(v3 0),(aM [(c3 (.int 1080)),(c3 (.int 1))])]) 1 []))
  (aj (ap 6 (ah aL (cC [(c3 (.int 0))]) (v3 2)))
  (aj (ap 7 (cC []))
  (aj (bM (bm (v3 2)) (.n 4) (aj (ap 8 (ah aL (ac CH [(v3 0),(c3 (.int 2))]) (ac CH [(v3 0),(c3 (.int 9))])))
  (aj (d8 (ah aP (ah al (v3 6) (v3 4)) (ai eX [(ah (fQ false) (v3 8) (c3 (.int 0)))])) (v3 6) (v3 4))
  (bS (jg "list" bv (v3 7) [(aM [(v3 4),(ac C0 [(ah al (v3 5) (v3 4)),(aM [(v3 8),(c3 (.int 1))])]),(ah j1 (aM [(c3 (.int 0))]) (v3 1))])])))))
  (aj (bM (bm (ah aP (c3 (.int 1)) (ac CH [(v3 0),(c3 (.int 2))]))) (.n 9) (bS (jg "list" da (v3 7) [(ac Ff [(v3 0),(v3 5),(v3 3),(v3 6)])])))
  (aj (bM (bm (ac CH [(v3 0),(c3 (.int 4))])) (.n 9) (aj (ap 10 (ac CH [(v3 0),(ah aP (v3 2) (c3 (.int 1)))]))
  (gc (cE (ah k6 (v3 10) (v3 2))) (bS (jg "list" bv (v3 7) [(ah aP (aM [(v3 10)]) (ac Ec [(v3 0),(ah al (v3 5) (v3 10)),(v3 3)]))])) (bS (jg "list" bv (v3 7) [(ah aP (aM [(c3 .non)]) (ac Ec [(v3 0),(aM [(c3 (.int 0)),(c3 (.int 1))]),(v3 3)]))])))))
  (aj (ap 11 (cC []))
  (aj (hG (cE (ah rP (ai bA [(v3 7)]) (c3 (.int 0)))) (bS (jg "list" bv (v3 11) [(jg "list" lF (v3 7) [(ac CH [(v3 0),(ai bA [(v3 7)])])])])))
  (aE (aM [(ai aD [(v3 11)]),(ai aD [(v3 6)]),(ac CM [(v3 6),(v3 5)])])))))))))))))
def dv:aF:=bj 12 (dr cR dq bP cS eE dL bD)
def iQ(T:Txt P w K mg):gf P w K mg base 5 "_law_planted" 1 dv:=gS ["_law_deal_here","_law_jars","_law_deeds","_law_worths","_law_d","_law_prices","_law_mix","_law_left","_law_lower","_law_k","_law_who","_law_columns"] T.o__law_planted (fun _ _ _ _ _ _ _ hr nd=>(ae (lG (i:=1) (j:=2) rfl nd rfl rfl (by decide) rfl rfl (lc (c4 (ao T) hr (lc (ad 0) (l1 af))) (l1 (av aH af (c4 (ao T) hr (lc (ad 0) (l1 af)))))))
  (ae (uP ["_law_deal_here"] 1 [0] ["_law_j","_law_deal_here"] 3 nd (aW rfl rfl T.CS (l1 (ad 1))) (fun _=>(gn 0 vZ)) (fun _=>bI) (fun _=>(c4 (fm T) hr (lc (av aG (c4 (ao T) hr (lc (ad 1) (l1 af))) (c4 (ao T) hr (lc (ad 1) (l1 af)))) (l1 (av aH af (c4 (ao T) hr (lc (ad 1) (l1 af)))))))))
  (ae (uP ["_law_deal_here"] 1 [0] ["_law_d","_law_deal_here"] 5 nd (aW rfl rfl T.CS (l1 (ad 2))) (fun _=>(gn 0 Ar)) (fun _=>bI) (fun _=>(c4 (fm T) hr (lc (av aH af (c4 (ao T) hr (lc (ad 1) (l1 af)))) (l1 (av aH af (av aG (c4 (ao T) hr (lc (ad 1) (l1 af))) (c4 (ao T) hr (lc (ad 1) (l1 af))))))))))
  (ae (uP [] 1 [] ["_law_price"] 5 nd (cm (ad 5)) (fun _=>(gn 0 As)) (fun _=>bI) (fun _=>(c4 (cz T) hr (lc (ad 0) (l1 (aY (lc af (l1 af))))))))
  (ae (s4 6 nd (av aG (eF (l1 af)) (ad 2)))
  (ae (s4 7 nd (eF rm))
  (ae (dy PassesOwn.never rfl (aW rfl rfl T.CS (l1 (ad 2))) (gn 4 nd) (ae (s4 8 nd (av aG (c4 (ao T) hr (lc (ad 0) (l1 af))) (c4 (ao T) hr (lc (ad 0) (l1 af)))))
  (ae (gx (rR hr) (av aH (eO hr (ad 6) (ad 4)) (cT vH T.GK (l1 (ol (rC (gF hr)) (ad 8) af (ba _))))) (ad 6) (ad 4))
  (au (d6 (vJ dO eZ (ad 7) (l1 (aY (lc (ad 4) (lc (c4 (cA T) hr (lc (eO hr (ad 5) (ad 4)) (l1 (aY (lc (ad 8) (l1 af)))))) (l1 (av oo (aY (l1 af)) (ad 1)))))))))))))
  (ae (dy PassesOwn.never rfl (aW rfl rfl T.CS (l1 (av aH af (c4 (ao T) hr (lc (ad 0) (l1 af)))))) (gn 9 nd) (au (d6 (vJ j2 lE (ad 7) (l1 (c4 (jI T) hr (lc (ad 0) (lc (ad 5) (lc (ad 3) (l1 (ad 6)))))))))))
  (ae (dy PassesOwn.never rfl (aW rfl rfl T.CS (l1 (c4 (ao T) hr (lc (ad 0) (l1 af))))) (gn 9 nd) (ae (s4 10 nd (c4 (ao T) hr (lc (ad 0) (l1 (av aH (ad 2) af)))))
  (au (g_ (cF mX (ad 10) (ad 2) (ba _)) (au (d6 (vJ dO eZ (ad 7) (l1 (av aH (aY (l1 (ad 10))) (c4 (fu T) hr (lc (ad 0) (lc (eO hr (ad 5) (ad 10)) (l1 (ad 3)))))))))) (au (d6 (vJ dO eZ (ad 7) (l1 (av aH (aY (l1 jb)) (c4 (fu T) hr (lc (ad 0) (lc (aY (lc af (l1 af))) (l1 (ad 3))))))))))))))
  (ae (s4 11 nd (eF rm))
  (ae (gD PassesOwn.never (cF rQ (cB cG T.Dg (l1 (ad 7))) af (ba _)) (au (d6 (vJ dO eZ (ad 11) (l1 (vJ rZ vI (ad 7) (l1 (c4 (ao T) hr (lc (ad 0) (l1 (cB cG T.Dg (l1 (ad 7)))))))))))))
  (au (aN (aY (lc (cT ck T.Dd (l1 (ad 11))) (lc (cT ck T.Dd (l1 (ad 6))) (l1 (c4 (bi T) hr (lc (ad 6) (l1 (ad 5)))))))))))))))))))))) rfl
def s_(Fo EJ EV:aF):bX:=(aj (ap 1 (ac Fo [(v3 0),(c3 (.int 0))]))
  (aj (ap 2 (aw (bm (c3 (.int 4))) (.n 0) bg (ac EJ [(v3 1)]) 1 [1]))
  (aj (bM (aO (ah aP (v3 2) (bV (v3 2) pM (k5 (c3 (.int 1)))))) (.tp (.cons (.n 3) (.cons (.n 4) (.cons (.n 5) .nil)))) (aj (ap 6 (ac EV [(v3 3),(v3 4)]))
  (aj (gc (vC (cE (ah (fQ true) (ah al (v3 6) (c3 (.int 0))) (c3 (.str "most")))) (cE (ah (fQ true) (ai iH [(ah al (v3 6) (c3 (.int 1)))]) (ai iH [(v3 5)])))) (aE (c3 (.bl false))) d5)
  (gc (cE (ah (fQ true) (ai iH [(bV (ac EV [(v3 3),(ah j1 (aM [(c3 (.int 0))]) (ai bA [(v3 4)]))]) pM (k5 (c3 (.int 2))))]) (ai iH [(aM [(c3 (.str "most")),(aM [(c3 (.int 0)),(c3 (.int 1))])])]))) (aE (c3 (.bl false))) d5))))
  (aE (c3 (.bl true))))))
def me:aF:=bj 7 (s_ iI dv iw)
def yp(T:Txt P w K mg){f:Addr}{fd:FuncData}(O:AT K mg "law" (cw 32) ["_law_script"] f fd):yG P w K mg base 9 f fd ["_law_script"] me:=Ct ["_law_script","_law_deal_here","_law_some","_law_columns","_law_mix","_law_most","_law_answer"] O (fun _ _ _ _ _ _ _ hr nd=>(ae (s4 1 nd (c4 (kX T) hr (lc (ad 0) (l1 af))))
  (ae (uP ["_law_deal_here"] 1 [1] ["_law_k","_law_deal_here"] 2 nd (aW rfl rfl T.CS (l1 af)) (fun _=>(gn 0 At)) (fun _=>bI) (fun _=>(c4 (iQ T) hr (l1 (ad 1)))))
  (ae (dy PassesOwn.never rfl (cm (av aH (ad 2) (d4 (ad 2) je (d3 af)))) (xy rfl (b8 (gn 3 nd) (b8 (gn 4 nd) (b8 (gn 5 nd) jh)))) (ae (s4 6 nd (c4 (jv T) hr (lc (ad 3) (l1 (ad 4)))))
  (ae (g_ (zr (zq (AU hr (dw hr (ad 6)) cO) (vD (AU hr (cB (kU (gF hr) hr.gd) T.Fe (l1 (dw hr (ad 6)))) (cB (kU (gF hr) hr.gd) T.Fe (l1 (ad 5))))))) (au (aN xi)) eI)
  (au (g_ (AU hr (cB (kU (gF hr) hr.gd) T.Fe (l1 (d4 (c4 (jv T) hr (lc (ad 3) (l1 (av oo (aY (l1 af)) (cB cG T.Dg (l1 (ad 4))))))) je (d3 af)))) (cB (kU (gF hr) hr.gd) T.Fe (l1 (aY (lc cO (l1 (aY (lc af (l1 af))))))))) (au (aN xi)) eI)))))
  (au (aN xi)))))) rfl
end
end G36
namespace G36
open PySem L2 L3 Wd
open C CW
def nK{x:Int}(h:x.natAbs < 2 ^ 60):x.natAbs < dG:=Nat.lt_of_lt_of_le h (show 2 ^ 60<=2 ^ 2000 from Nat.pow_le_pow_right (by decide) (by decide))
def FK{n:Int}(h:n.natAbs < 2 ^ 60):Fq 12 n:=⟨by decide,nK (by decide),nK h⟩
def tj(i:Int):PV.tup [.int i,.int 1]=cq 12 (12 * i):=by rw[ig,eJ (Q:=1) (R:=12) (n:=i) (m:=12 * i) (by decide) (by decide) (by omega)]
abbrev mf(w:aF):Prop:=∀{S:ar} {a b:Int} {Q:bH} {E:cg},a.natAbs < 2 ^ 60->b.natAbs < 2 ^ 60->Q (cq 12 (a - b)) S->w [cq 12 a,cq 12 b] S Q E
def Dc{x0:aF}(sp_plus:eK x0):mf (bj 2 (ft x0)):=by
 intro S a b Q E ha hb k
 unfold ft
 refine fK ?_
 have fb:=FK hb
 have sz:=fb.sz
 have e0:cq 12 b = .tup [.int (M3.aK b 12),.int (M3.aC b 12)]:=rfl
 rw[show az 2 [cq 12 a,cq 12 b]=[some (cq 12 a),some (cq 12 b)] from rfl]
 simp only[aE,ac,ag,aM,ah,v3,lk,c3,al,e0,lN,pV,bn,cj]
 refine oH sp_plus (m:=- b) (FK ha) sz.2.2 (by
  rw[show(0 - M3.aK b 12).natAbs=(M3.aK b 12).natAbs by omega]
  exact Nat.le_trans sz.1 (Nat.le_of_lt fb.n1)) (Nat.lt_of_le_of_lt sz.2.1 fb.q1) (by
  have w:=M3.aZ (t:=b) (b:=12) (by decide)
  rw[Int.sub_mul,w];grind) ?_
 exact k
abbrev jx(w:aF):Prop:=∀{S:ar} {v u:PV} {is ns:Vu} {Q:bH} {E:cg},kR S is v->vc S 12 ns u->is.length=ns.length->is.length<=8->(∀i∈is,i.natAbs<=2 ^ 20)->(∀n∈ns,n.natAbs<=2 ^ 20)->Q (cq 12 (dot is ns)) S->w [v,u] S Q E
def CZ{x0:aF}(sp_plus:eK x0):jx (bj 5 (eM x0)):=by
 intro S v u is ns Q E hv hu hl h8 hi hn k
 refine sW sp_plus hv hu (by decide) (nK (by decide)) hl ?_ (fun i h=>nK (by have:=hi i h;omega)) (fun i h=>nK (by have:=hn i h;omega)) k
 have:=Nat.le_trans (iX hi hn) (Nat.mul_le_mul h8 (Nat.le_refl _))
 exact Nat.lt_of_le_of_lt this (Nat.lt_of_lt_of_le (show 8 * (2 ^ 20 * 2 ^ 20) < 2 ^ 60 by decide) (show 2 ^ 60<=2 ^ 2000 from Nat.pow_le_pow_right (by decide) (by decide)))
abbrev v0(w:aF):Prop:=∀{S:ar} {es:Vu} {Q:bH} {E:cg},es.length<=1000->(∀S',Ext S S'->Q (.tup ((es.map fun e=>0 - e).map PV.int)) S')->w [.tup (es.map PV.int)] S Q E
def Fg:v0 (bj 1 dI):=by
 intro S es Q E hl k
 unfold dI
 refine fK ?_
 rw[show az 1 [PV.tup (es.map PV.int)]=[some (.tup (es.map PV.int))] from rfl]
 simp only[aE,ai,ag,aw,aO,v3,lk,bY]
 refine a7 PV.int (fun e=>.int (0 - e)) trivial es [] (fun i hi=>⟨_,rfl,fun Q' q=>?_⟩) (aQ (by simp;omega)) ?_
 ·simp only[bN,List.reduceReplicate,List.map_nil,List.append_nil,List.set_cons_zero,ah,c3,v3,lk,bn,cj]
  exact q
 intro p hp
 simp only[List.nil_append,aD,eV,aa]
 have:=k _ (.new (o:=.lst (es.map fun e=>PV.int (0 - e))) hp)
 rw[List.map_map]at this
 exact this
structure v4 (wt:Vu):Prop where
 l:wt.length<=4
 w0:∀w∈wt,0<=w
 w1:∀w∈wt,w<=360
def kf{a b:Nat}{is ns:Vu}(hi:∀i∈is,i.natAbs<=a)(hn:∀n∈ns,n.natAbs<=b)(h:is.length<=4):(dot is ns).natAbs<=4 * (a * b):=by
 have a4:(dot is ns).natAbs<=eo (bp is ns):=by rw[<-df];exact gG _
 exact Nat.le_trans a4 (Nat.le_trans (iX hi hn) (Nat.mul_le_mul h (Nat.le_refl _)))
theorem tm:∀(xs ys:Vu),(∀x∈xs,x<=0)->(∀y∈ys,0<=y)->dot xs ys<=0
 |[],_,_,_=>by simp[dot]
 |_::_,[],_,_=>by simp[dot]
 |a::r,b::s,h,g=>by
  have:=tm r s (fun x hx=>h x (by simp[hx])) (fun y hy=>g y (by simp[hy]))
  have:=Int.mul_nonneg (show 0 <= -a by have:=h a (by simp);omega) (g b (by simp))
  show a * b+dot r s<=0
  have:-a * b = -(a * b):=Int.neg_mul _ _
  omega
abbrev kY(w:aF):Prop:=∀{S:ar} {d l pw:Addr} {wt:Vu} {p:Int} {Q:bH} {E:cg},CU S d l->v4 wt->S pw=some (.lst (wt.map (cq 12)))->pw≠d->pw≠l->0<=p->p<=2 ^ 20->(∀(n:Int) (es:Vu) S',es.length=wt.length->(∀e∈es,e.natAbs<=9)->0<=n->n<=2 ^ 21->n+dot es wt<=p->CU S' d l->D0 d l S S'->Q (.tup [cq 12 n,.tup (es.map PV.int)]) S')->w [.ref d,cq 12 p,.ref pw] S Q E
def DY{x0 x1 x2 x3:aF}(CI:cp x0)(Dc:mf x1)(sp_plus:eK x2)(CZ:jx x3):kY (bj 5 (dJ x0 x1 x2 x3)):=by
 intro S d l pw wt p Q E D W hw nd nl p0 p1 k
 unfold dJ
 refine fK ?_
 have wl:=W.l
 rw[show az 5 [PV.ref d,cq 12 p,.ref pw]=[some (.ref d),some (cq 12 p),some (.ref pw),none,none] from rfl]
 refine aB fun N hN=>?_
 simp only[ap,ai,ag,aw,aO,v3,lk,bY,hw]
 refine bC (fun done ys S'=>∃es:List Int,ys=es.map PV.int/\es.length=done.length/\done.length<=wt.length/\(∀e∈es,e.natAbs<=9)/\CU S' d l/\D0 d l S S') ⟨[],rfl,rfl,Nat.zero_le _,(fun e he=>by cases he),D,.refl⟩ ?_ ?_ ?_
 ·rintro done ys S' ⟨es,rfl,e,hd,_,_,O⟩
  exact⟨O _ _ hw nd nl,aQ (by rw[List.length_map,e];omega)⟩
 ·rintro done x rest ys S' K e ⟨es,rfl,e2,hd,he,D',O'⟩ hK
  have hlen:done.length < wt.length:=by
   have:(wt.map (cq 12)).length=done.length+(rest.length+1):=by rw[e,List.length_append,List.length_cons]
   rw[List.length_map]at this
   omega
  simp only[Tg.put,bN,List.reduceReplicate,List.map_cons,List.map_nil,List.cons_append,List.nil_append,List.set_cons_zero,bg,if_true,ah,ac,ag,v3,lk,c3,List.getElem?_cons_zero,List.getElem?_cons_succ,Option.join]
  refine CI D' (by decide) (by decide) fun a S1 a0 a1 D1 O1=>?_
  simp only[bn,cj]
  refine hK _ _ ⟨es++[a - 9],by simp,by simp[e2],by rw[List.length_append];exact hlen,fun y hy=>?_,D1,O'.trans O1⟩
  rcases List.mem_append.mp hy with hy|hy
  ·exact he y hy
  ·rw[List.mem_singleton.mp hy];omega
 rintro ys S1 ⟨es,rfl,e2,hd,he,D1,O1⟩ pe Ia
 rw[List.length_map]at e2
 have O2:D0 d l S (CG S1 pe (.lst (es.map PV.int))):=O1.trans (.new Ia)
 have D2:=D1.new (o:=.lst (es.map PV.int)) Ia
 simp only[aD,eV,aa,List.set_cons_succ,List.set_cons_zero]
 generalize CG S1 pe (.lst (es.map PV.int))=S2 at O2 D2
 have w0:=W.w0;have w1:=W.w1
 have db:=kf (a:=9) (b:=360) (is:=es) (ns:=wt) he (fun n hn=>by have:=w0 n hn;have:=w1 n hn;omega) (by omega)
 refine hN _ _ (aB fun N hN=>?_)
 simp only[ap,ac,ag,aM,ah,v3,lk,c3]
 refine CZ (is:=es) (ns:=wt) .tup (.lst (O2 _ _ hw nd nl)) e2 (by omega) (fun i hi=>by have:=he i hi;omega) (fun n hn=>by have:=w0 n hn;have:=w1 n hn;omega) ?_
 refine CI D2 (by decide) (by decide) fun a S3 a0 a1 D3 O3=>CI D3 (by decide) (by decide) fun b S4 b0 b1 D4 O4=>?_
 simp only[aP]
 obtain⟨m,em,m0,m1⟩:∃m:Int,a * 12=m * (1+b)/\0<=m/\m<=36:=by
  obtain rfl|rfl|rfl:b=0\/b=1\/b=2:=by omega
  ·exact⟨a * 12,by omega,by omega,by omega⟩
  ·exact⟨a * 6,by omega,by omega,by omega⟩
  ·exact⟨a * 4,by omega,by omega,by omega⟩
 refine oH sp_plus (m:=m) (FK (by omega)) (by omega) (Nat.le_of_lt (nK (by omega))) (nK (by omega)) em ?_
 refine Dc (by omega) (by omega) ?_
 have Kl:=O2.trans (O3.trans O4)
 simp only[List.set_cons_succ,List.set_cons_zero]
 refine hN _ _ (aB fun N hN=>?_)
 have e0:cq 12 (p - (dot es wt+m)) = .tup [.int (M3.aK (p - (dot es wt+m)) 12),.int (M3.aC (p - (dot es wt+m)) 12)]:=rfl
 have ct:=(sf (n:=p - (dot es wt+m)) (Q:=12) (by decide)).1
 by_cases hneg:p - (dot es wt+m) < 0
 ·simp only[gc,cE,ah,v3,lk,c3,e0,al,lN,k6,cj]
  rw[decide_eq_true (ct.mpr hneg)]
  simp only[if_true,aE,aM,ag,ac,c3,v3,lk]
  rw[show PV.tup [.int 0,.int 1]=cq 12 0 from tj 0]
  refine Dc (by omega) (by decide) ?_
  simp only[ai,ag,aw,aO,v3,lk,bY]
  refine a7 PV.int (fun e=>.int (0 - (e.natAbs:Int))) trivial es [] (fun i hi=>⟨_,rfl,fun Q' q=>?_⟩) (aQ (by simp;omega)) ?_
  ·simp only[bN,List.reduceReplicate,List.map_nil,List.append_nil,List.set_cons_zero,ah,ai,ag,c3,v3,lk,lC,bn,cj]
   rw[show(if i < 0 then -i else i)=(i.natAbs:Int) by split<;>omega]
   exact q
  intro px hpx
  simp only[List.nil_append,aD,eV,aa]
  have em:(es.map fun e=>PV.int (0 - (e.natAbs:Int)))=(es.map fun e=>0 - (e.natAbs:Int)).map PV.int:=by rw[List.map_map];rfl
  rw[em,show p - 0=p by omega]
  refine k p (es.map fun e=>0 - (e.natAbs:Int)) _ (by simp[e2]) (fun e h=>?_) p0 (by omega) ?_ (D4.new hpx) (Kl.trans (.new hpx))
  ·obtain⟨z,hz,rfl⟩:=List.mem_map.mp h
   have:=he z hz;omega
  ·have:=tm (es.map fun e=>0 - (e.natAbs:Int)) wt (fun x hx=>by obtain⟨z,_,rfl⟩:=List.mem_map.mp hx;omega) w0
   omega
 ·simp only[gc,cE,ah,v3,lk,c3,e0,al,lN,k6,cj]
  rw[decide_eq_false (fun h=>hneg (ct.mp h))]
  simp only[Bool.false_eq_true,if_false]
  refine hN _ _ ?_
  simp only[aE,aM,ag,v3,lk]
  exact k _ es S4 e2 he (by omega) (by omega) (by omega) D4 Kl
structure yL (ps:Vu):Prop where
 l1:1<=ps.length
 l:ps.length<=4
 p0:∀p∈ps,12960<=p
 p1:∀p∈ps,p<=2 ^ 19
def DJ(d l m:Addr)(S S':ar):Prop:=∀a o,S a=some o->a≠d->a≠l->a≠m->S' a=some o
def DJ.of{d l m:Addr}{S S' S2:ar}(h:DJ d l m S S')(g:D0 d l S' S2):DJ d l m S S2:=fun a o e h1 h2 h3=>g a o (h a o e h1 h2 h3) h1 h2
structure AW (wt ps:Vu) (M M':Vu) (L:List Pl):Prop where
 ok:∀p∈L,l8 wt ps p
 ml:M'.length=M.length
 mb:∀d,M.getD d 0<=M'.getD d 0/\M'.getD d 0<=M.getD d 0+4
 Dk:∀d,d < ps.length->(L.map fun p=>w1 d p.cl * p.x).sum=2520 * (M'.getD d 0 - M.getD d 0)
 ES:∀t,t < wt.length->(L.map fun p=>p.eff.getD t 0 * p.x).sum=0
 ll:L.length<=5
def dX(M:Vu)(i:Nat)(v:Int)(h:i < M.length)(d:Nat):(M.set i v).getD d 0=if d=i then v else M.getD d 0:=by
 rw[List.getD_eq_getElem?_getD,List.getElem?_set]
 by_cases e:i=d
 ·rw[if_pos e,if_pos e.symm,if_pos h];rfl
 ·rw[if_neg e,if_neg (Ne.symm e),List.getD_eq_getElem?_getD]
theorem jy:∀(es wt:Vu),dot (es.map fun e=>0 - e) wt = - dot es wt
 |[],_=>by simp[dot]
 |_::_,[]=>by simp[dot]
 |a::r,b::s=>by
  show(0 - a) * b+dot (r.map fun e=>0 - e) s = -(a * b+dot r s)
  rw[jy r s];grind
def vf{wt ps M:Vu}(W:v4 wt)(Z:yL ps){i j:Nat}{es:Vu}{m:Int}(hi:i < ps.length)(hj:j < ps.length)(hM:M.length=ps.length)(el:es.length=wt.length)(e0:∀e∈es,0<=e/\e<=9)(m0:1<=m)(m1:m<=2) :
  AW wt ps M ((M.set i (M.getD i 0+m)).set j ((M.set i (M.getD i 0+m)).getD j 0+m)) [⟨some i,ps.getD i 0 - dot es wt,es,2520 * m⟩,⟨some j,ps.getD j 0+dot es wt,es.map fun e=>0 - e,2520 * m⟩]:=by
 have wl:=W.l
 have db:=kf (a:=9) (b:=360) (is:=es) (ns:=wt) (fun e h=>by have:=e0 e h;omega) (fun n hn=>by have:=W.w0 n hn;have:=W.w1 n hn;omega) (by omega)
 have gi:∀i,i < ps.length->12960<=ps.getD i 0/\ps.getD i 0<=2 ^ 19:=fun i h=>by
  rw[aq (List.getElem?_eq_getElem h)]
  exact⟨Z.p0 _ (List.getElem_mem h),Z.p1 _ (List.getElem_mem h)⟩
 have hi':=gi i hi
 have hj':=gi j hj
 have nn:=nE es wt (fun e h=>(e0 e h).1) W.w0
 have gm:∀d,((M.set i (M.getD i 0+m)).set j ((M.set i (M.getD i 0+m)).getD j 0+m)).getD d 0=M.getD d 0+(if d=i then m else 0)+(if d=j then m else 0):=fun d=>by
  rw[dX _ _ _ (by rw[List.length_set];omega),dX _ _ _ (by omega),dX _ _ _ (by omega)]
  by_cases h1:d=j
  ·subst h1
   by_cases h2:d=i
   ·subst h2;simp
   ·simp[h2]
  ·by_cases h2:d=i
   ·subst h2;simp[h1]
   ·simp[h1,h2]
 refine⟨fun p hp=>?_,by simp,fun d=>?_,fun d hd=>?_,fun t ht=>?_,by simp⟩
 ·simp only[List.mem_cons,List.not_mem_nil,or_false]at hp
  rcases hp with rfl|rfl
  ·exact⟨el,fun e h=>by have:=e0 e h;omega,by show 0<=ps.getD i 0 - dot es wt;omega,by show ps.getD i 0 - dot es wt<=_;omega,fun d h=>by cases h;exact hi,by show ps.getD i 0 - dot es wt+dot es wt<=ps.getD i 0;omega,by show 0<=2520 * m;omega,by show 2520 * m * (ps.getD i 0 - dot es wt+dot es wt)=2520 * m * ps.getD i 0;rw[Int.sub_add_cancel]⟩
  ·refine⟨by simpa using el,fun e h=>?_,by show 0<=ps.getD j 0+dot es wt;omega,by show ps.getD j 0+dot es wt<=_;omega,fun d h=>by cases h;exact hj,?_,by show 0<=2520 * m;omega,?_⟩
   ·obtain⟨z,hz,rfl⟩:=List.mem_map.mp h
    have:=e0 z hz;omega
   ·show ps.getD j 0+dot es wt+dot (es.map fun e=>0 - e) wt<=ps.getD j 0
    rw[jy];omega
   ·show 2520 * m * (ps.getD j 0+dot es wt+dot (es.map fun e=>0 - e) wt)=2520 * m * ps.getD j 0
    rw[jy,show ps.getD j 0+dot es wt + -dot es wt=ps.getD j 0 by omega]
 ·rw[gm d];split<;>split<;>omega
 ·rw[gm d]
  have e1:w1 d (Pl.cl ⟨some i,ps.getD i 0 - dot es wt,es,2520 * m⟩)=if d=i then 1 else 0:=by unfold w1 Pl.cl;simp[eq_comm]
  have e2:w1 d (Pl.cl ⟨some j,ps.getD j 0+dot es wt,es.map fun e=>0 - e,2520 * m⟩)=if d=j then 1 else 0:=by unfold w1 Pl.cl;simp[eq_comm]
  simp only[List.map_cons,List.map_nil,List.sum_cons,List.sum_nil,e1,e2]
  split<;>split<;>omega
 ·have e1:(es.map fun e=>0 - e).getD t 0=0 - es.getD t 0:=by
   rw[List.getD_eq_getElem?_getD,List.getElem?_map,List.getD_eq_getElem?_getD]
   cases es[t]?<;>simp
  simp only[List.map_cons,List.map_nil,List.sum_cons,List.sum_nil,e1]
  grind
def tq:∀n,n < 10->1<=n->n ∣ 2520:=by decide
def yq{r:Int}(h0:0<=r)(h1:r < 9):∃z:Int,2520=(1+r) * z/\0<=z:=by
 obtain⟨z,hz⟩:=tq (1+r).natAbs (by omega) (by omega)
 refine⟨(z:Int),?_,by omega⟩
 have:((1+r).natAbs:Int)=1+r:=by omega
 rw[<-this,<-Int.natCast_mul,<-hz];rfl
noncomputable def tk(k j:Nat)(r:Int):List Int:=(List.range k).map fun t=>(0 - 1 - r) * (if t=j then 1 else 0)
def tt{k j:Nat}{r:Int}{t:Nat}(h:t < k):(tk k j r).getD t 0=if t=j then 0 - 1 - r else 0:=by
 unfold tk
 rw[aq (by rw[List.getElem?_map,List.getElem?_range h];rfl)]
 show(0 - 1 - r) * (if t=j then 1 else 0)=_
 split
 ·rw[Int.mul_one]
 ·rw[Int.mul_zero]
def yr{wt:Vu}{j:Nat}{r:Int}(h:j < wt.length):dot (tk wt.length j r) wt = - ((1+r) * wt.getD j 0):=by
 rw[eA _ _ (by unfold tk;simp),show(tk wt.length j r).length=wt.length by unfold tk;simp,Wg.bc h fun t ht hne=>by rw[tt ht,if_neg hne,Int.zero_mul],tt h,if_pos rfl]
 grind
structure Gs (wt ps es:Vu) (i:Nat) (m:Int) (n:Nat) (L:List Pl):Prop where
 ok:∀p∈L,l8 wt ps p
 Dk:∀d,d < ps.length->(L.map fun p=>w1 d p.cl * p.x).sum=if d=i then 2520 * m else 0
 ES:∀t,t < wt.length->(L.map fun p=>p.eff.getD t 0 * p.x).sum=if t < n then 0 else es.getD t 0 * (2520 * m)
 ll:L.length=1+n
def tu{wt ps:Vu}(W:v4 wt)(Z:yL ps){i:Nat}{es:Vu}{m:Int}(hi:i < ps.length)(el:es.length=wt.length)(e0:∀e∈es,0<=e/\e<=9)(m0:1<=m)(m1:m<=2) :
  Gs wt ps es i m 0 [⟨some i,ps.getD i 0 - dot es wt,es,2520 * m⟩]:=by
 have wl:=W.l
 have db:=kf (a:=9) (b:=360) (is:=es) (ns:=wt) (fun e h=>by have:=e0 e h;omega) (fun n hn=>by have:=W.w0 n hn;have:=W.w1 n hn;omega) (by omega)
 have hi':12960<=ps.getD i 0/\ps.getD i 0<=2 ^ 19:=by
  rw[aq (List.getElem?_eq_getElem hi)]
  exact⟨Z.p0 _ (List.getElem_mem hi),Z.p1 _ (List.getElem_mem hi)⟩
 refine⟨fun p hp=>?_,fun d hd=>?_,fun t ht=>?_,rfl⟩
 ·rw[List.mem_singleton.mp hp]
  exact⟨el,fun e h=>by have:=e0 e h;omega,by show 0<=ps.getD i 0 - dot es wt;omega,by show ps.getD i 0 - dot es wt<=_;omega,fun d h=>by cases h;exact hi,by show ps.getD i 0 - dot es wt+dot es wt<=ps.getD i 0;omega,by show 0<=2520 * m;omega,by show 2520 * m * (ps.getD i 0 - dot es wt+dot es wt)=2520 * m * ps.getD i 0;rw[Int.sub_add_cancel]⟩
 ·have e1:w1 d (Pl.cl ⟨some i,ps.getD i 0 - dot es wt,es,2520 * m⟩)=if d=i then 1 else 0:=by unfold w1 Pl.cl;simp[eq_comm]
  simp only[List.map_cons,List.map_nil,List.sum_cons,List.sum_nil,e1]
  split<;>omega
 ·simp
def vg{wt ps:Vu}(W:v4 wt){i n:Nat}{es:Vu}{m r z:Int}{L:List Pl}(G:Gs wt ps es i m n L)(hn:n < wt.length)(el:es.length=wt.length)(e0:∀e∈es,0<=e/\e<=9)(m0:1<=m)(m1:m<=2)(r0:0<=r)(r1:r < 9)(hz:2520=(1+r) * z)(z0:0<=z) :
  Gs wt ps es i m (n+1) (L++[⟨none,0 - dot (tk wt.length n r) wt,tk wt.length n r,z * (m * es.getD n 0)⟩]):=by
 have wn:0<=wt.getD n 0/\wt.getD n 0<=360:=by
  rw[aq (List.getElem?_eq_getElem hn)]
  exact⟨W.w0 _ (List.getElem_mem hn),W.w1 _ (List.getElem_mem hn)⟩
 have en:0<=es.getD n 0:=by
  have h:n < es.length:=by omega
  rw[aq (List.getElem?_eq_getElem h)]
  exact(e0 _ (List.getElem_mem h)).1
 have td:=yr (wt:=wt) (j:=n) (r:=r) hn
 have tb1:0<=(1+r) * wt.getD n 0:=Int.mul_nonneg (by omega) wn.1
 have tb2:(1+r) * wt.getD n 0<=9 * 360:=Int.mul_le_mul (by omega) wn.2 wn.1 (by omega)
 refine⟨fun p hp=>?_,fun d hd=>?_,fun t ht=>?_,by rw[List.length_append,G.ll];simp;omega⟩
 ·rcases List.mem_append.mp hp with hp|hp
  ·exact G.ok p hp
  ·rw[List.mem_singleton.mp hp]
   refine⟨by unfold tk;simp,fun e h=>?_,by show 0<=0 - dot (tk wt.length n r) wt;omega,by show 0 - dot (tk wt.length n r) wt<=_;omega,(fun d h=>by cases h),by show 0 - dot (tk wt.length n r) wt+dot (tk wt.length n r) wt<=0;omega,Int.mul_nonneg z0 (Int.mul_nonneg (by omega) en),?_⟩
   ·unfold tk at h
    obtain⟨t,_,rfl⟩:=List.mem_map.mp h
    split
    ·omega
    ·omega
   ·show _ * (0 - dot (tk wt.length n r) wt+dot (tk wt.length n r) wt)=_ * 0
    rw[Int.sub_add_cancel]
 ·rw[List.map_append,List.sum_append,G.Dk d hd]
  have e1:w1 d (Pl.cl ⟨none,0 - dot (tk wt.length n r) wt,tk wt.length n r,z * (m * es.getD n 0)⟩)=0:=by unfold w1 Pl.cl;simp
  simp only[List.map_cons,List.map_nil,List.sum_cons,List.sum_nil,e1]
  omega
 ·rw[List.map_append,List.sum_append,G.ES t ht]
  simp only[List.map_cons,List.map_nil,List.sum_cons,List.sum_nil,tt ht]
  by_cases h:t=n
  ·subst h
   rw[if_neg (Nat.lt_irrefl _),if_pos rfl,if_pos (Nat.lt_succ_self _)]
   have:(0 - 1 - r) * (z * (m * es.getD t 0)) = - ((1+r) * z * (m * es.getD t 0)):=by grind
   rw[this,<-hz]
   grind
  ·rw[if_neg h]
   by_cases h2:t < n
   ·rw[if_pos h2,if_pos (by omega)];omega
   ·rw[if_neg h2,if_neg (by omega)];omega
def yt{wt ps M es:Vu}{i:Nat}{m:Int}{L:List Pl}(W:v4 wt)(hi:i < ps.length)(hM:M.length=ps.length)(m0:1<=m)(m1:m<=2)(G:Gs wt ps es i m wt.length L):AW wt ps M (M.set i (M.getD i 0+m)) L:=by
 have gm:∀d,(M.set i (M.getD i 0+m)).getD d 0=if d=i then M.getD i 0+m else M.getD d 0:=fun d=>dX _ _ _ (by omega) d
 refine⟨G.ok,by simp,fun d=>?_,fun d hd=>?_,fun t ht=>?_,by rw[G.ll];have:=W.l;omega⟩
 ·rw[gm d]
  split
  ·rename_i h;subst h;omega
  ·omega
 ·rw[G.Dk d hd,gm d]
  split
  ·rename_i h;subst h;omega
  ·omega
 ·rw[G.ES t ht,if_pos ht]
def v5{xp:aF}(sp_plus:eK xp){S:ar}{B f m:Int}{Q:bH}{E:cg}(hf:Fq B f)(hm:Fq B m)(k:Q (cq B (f+m)) S):xp [cq B f,cq B m] S Q E:=by
 have sz:=hm.sz
 have q0:=hm.q0
 exact oH sp_plus hf sz.2.2 (Nat.le_trans sz.1 (Nat.le_of_lt hm.n1)) (Nat.lt_of_le_of_lt sz.2.1 hm.q1) (M3.aZ (by omega)) k
def oK{n j:Nat}{r:Int}:tk (n+1) j r=tk n j r++[(0 - 1 - r) * (if n=j then 1 else 0)]:=by unfold tk;rw[List.range_succ,List.map_append];rfl
def yu{n j:Nat}{r a:Int}(h:n<=j):tk n j r=tk n j a:=List.map_congr_left fun t ht=>by
 have:t≠j:=by have:=List.mem_range.mp ht;omega
 rw[if_neg this,Int.mul_zero,Int.mul_zero]
def Au{S:ar}{Q:bH}:bn (.int 0) (.int 1) S Q=Q (.int (0 - 1)) S:=rfl
def Av{S:ar}{a b:Int}{Q:bH}:bn (.int a) (.int b) S Q=Q (.int (a - b)) S:=rfl
structure Kp (S:ar) (d l pp pw pm:Addr) (wt ps M:Vu):Prop where
 D:CU S d l
 p:S pp=some (.lst (ps.map (cq 12)))
 w:S pw=some (.lst (wt.map (cq 12)))
 m:S pm=some (.lst (M.map PV.int))
 n1:pp≠d/\pp≠l
 n2:pw≠d/\pw≠l
 n3:pm≠d/\pm≠l
 n4:pp≠pm/\pw≠pm
section
variable {S S':ar} {d l pp pw pm:Addr} {wt ps M:Vu}
def Kp.EY(h:Kp S d l pp pw pm wt ps M)(D:CU S' d l)(O:D0 d l S S'):Kp S' d l pp pw pm wt ps M:=⟨D,O _ _ h.p h.n1.1 h.n1.2,O _ _ h.w h.n2.1 h.n2.2,O _ _ h.m h.n3.1 h.n3.2,h.n1,h.n2,h.n3,h.n4⟩
theorem Kp.new(h:Kp S d l pp pw pm wt ps M){p:Addr}{o:SO}(hp:S p=none):Kp (CG S p o) d l pp pw pm wt ps M:=h.EY (h.D.new hp) (.new hp)
def Kp.set(h:Kp S d l pp pw pm wt ps M)(M':Vu):Kp (CG S pm (.lst (M'.map PV.int))) d l pp pw pm wt ps M':=⟨h.D.upd h.n3.1 h.n3.2,by rw[ak h.n4.1];exact h.p,by rw[ak h.n4.2];exact h.w,aa,h.n1,h.n2,h.n3,h.n4⟩
end
def oM{ps:Vu}{i:Nat}(h:i < ps.length):atI (ps.map (cq 12)) (i:Int)=some (cq 12 (ps.getD i 0)):=bE (by rw[List.getElem?_map,aq (List.getElem?_eq_getElem h),List.getElem?_eq_getElem h];rfl)
def DJ.refl{d l m:Addr}{S:ar}:DJ d l m S S:=fun _ _ h _ _ _=>h
def DJ.set{d l m:Addr}{S S':ar}{o:SO}(h:DJ d l m S S'):DJ d l m S (CG S' m o):=fun a x e h1 h2 h3=>by rw[ak h3];exact h a x e h1 h2 h3
def DJ.fresh{d l m p:Addr}{S S':ar}{o:SO}(h:DJ d l m S S')(fp:S p=none):DJ d l m S (CG S' p o):=fun a x e h1 h2 h3=>by rw[ak (fun q=>by rw[q,fp]at e;cases e)];exact h a x e h1 h2 h3
theorem Kp.upd{S:ar}{d l pp pw pm p:Addr}{wt ps M:Vu}{o:SO}(h:Kp S d l pp pw pm wt ps M)(n1:p≠d/\p≠l)(a:p≠pp)(b:p≠pw)(c:p≠pm):Kp (CG S p o) d l pp pw pm wt ps M:=⟨h.D.upd n1.1 n1.2,by rw[ak (Ne.symm a)];exact h.p,by rw[ak (Ne.symm b)];exact h.w,by rw[ak (Ne.symm c)];exact h.m,h.n1,h.n2,h.n3,h.n4⟩
abbrev nL(w:aF):Prop:=∀{S:ar} {d l pp pw pm:Addr} {wt ps M:Vu} {Q:bH} {E:cg},Kp S d l pp pw pm wt ps M->v4 wt->yL ps->M.length=ps.length->(∀(L:List Pl) (M':Vu) (pf:Addr) S',AW wt ps M M' L->S pf=none->S' pf=some (.lst (L.map fun p=>p.cl.pv))->Kp S' d l pp pw pm wt ps M'->DJ d l pm S S'->Q (.ref pf) S')->w [.ref d,.ref pp,.ref pw,.ref pm] S Q E
def BW{x0:aF}(CI:cp x0){S:ar}{d l:Addr}{i j:Nat}{Q:bH}{E:cg}(D:CU S d l)(k:∀(a:Int) S',0<=a->a < 9->CU S' d l->D0 d l S S'->Q (.int ((0 - 1 - a) * (if i=j then 1 else 0))) S'):(ah aL (ah bn (ah bn (c3 (.int 0)) (c3 (.int 1))) (ac x0 [(v3 1),(c3 (.int 9))])) (ai eX [(ah (fQ false) (v3 0) (v3 2))])) [some (.int (i:Int)),some (.ref d),some (.int (j:Int))] S Q E:=by
 simp only[ah,ac,ai,ag,v3,lk,c3]
 rw[Au]
 refine CI D (by decide) (by decide) fun a S9 a0 a1 D9 O9=>?_
 rw[Av]
 simp only[fQ,Bool.false_bne,eX,aL]
 refine⟨mY (by omega) (by omega),?_⟩
 have:=k a S9 a0 a1 D9 O9
 by_cases h:i=j
 ·simpa [h]using this
 ·have:¬((i:Int)=(j:Int)):=by omega
  simp_all
def Aw{g:Tg}{tc:iK}{te:aS}{own i n:Nat}{fr:List Nat}{σ τ:cN}{S:ar}{Q:bH}{E:cg}(hi:lk σ i=some (.int (n:Int)))(hn:n<=1000)(hb:bN own fr σ=τ)(h:dz g tc te τ (fun _=>True) (fun ys S2=>∀p,S2 p=none->Q (.tup ys) (CG S2 p (.lst ys))) (bB 0 n) [] S):(ai aD [aw (bm (v3 i)) g tc te own fr]) σ S Q E:=by
 simp only[ai,ag,aw,bm,v3,hi,hb,aD,eV,aa]
 refine⟨by omega,by omega,?_⟩
 rw[Int.toNat_natCast]
 exact h
theorem Ax{te:aS}{i:Nat}{x:PV}{σ τ:cN}{S:ar}{K:List PV->ar->Prop}{ys:List PV}(e:σ.set i (some x)=τ)(h:te τ S (fun y S4=>K (ys++[y]) S4) fD):match (Tg.n i).put x σ with
   |some σ2=>bg σ2 S (fun b S3=>if b=true then te σ2 S3 (fun y S4=>K (ys++[y]) S4) fD else K ys S3) fD
   |none=>False:=by
 subst e
 exact h
def BX{x0:aF}(CI:cp x0){S:ar}{d l:Addr}{n j:Nat}{o1 o2 o3 o5 o7 o8 o9 Hg Gv Jx:Option PV}{Q:bH}{E:cg}(D:CU S d l)(hn:n<=4)(k:∀(r:Int) S',0<=r->r < 9->CU S' d l->D0 d l S S'->Q (.tup ((tk n j r).map PV.int)) S'):(ai aD [(aw (bm (v3 4)) (.n 0) bg (ah aL (ah bn (ah bn (c3 (.int 0)) (c3 (.int 1))) (ac x0 [(v3 1),(c3 (.int 9))])) (ai eX [(ah (fQ false) (v3 0) (v3 2))])) 1 [0,6])]) [some (.ref d),o1,o2,o3,some (.int (n:Int)),o5,some (.int (j:Int)),o7,o8,o9,Hg,Gv,Jx] S Q E:=by
 refine Aw (τ:=[none,some (.ref d),some (.int (j:Int))]) rfl (by omega) rfl ?_
 refine bC (fun EK ys S'=>∃r:Int,0<=r/\r < 9/\ys=(tk EK.length j r).map PV.int/\EK.length<=n/\CU S' d l/\D0 d l S S') ⟨0,by decide,by decide,rfl,Nat.zero_le _,D,.refl⟩ ?_ ?_ ?_
 ·rintro EK ys S' ⟨r,_,_,rfl,hd,_⟩
  exact⟨trivial,aQ (by unfold tk;simp;omega)⟩
 ·rintro EK x rest ys S' K2 e ⟨r,r0,r1,rfl,hd,D',O'⟩ IE
  obtain⟨rfl,hi2⟩:=bK e
  refine Ax (τ:=[some (.int (EK.length:Int)),some (.ref d),some (.int (j:Int))]) rfl (BW CI D' fun a S9 a0 a1 D9 O9=>?_)
  by_cases h:EK.length=j
  ·refine IE _ _ ⟨a,a0,a1,?_,by rw[List.length_append];exact hi2,D9,O'.trans O9⟩
   rw[List.length_append,List.length_singleton,oK,List.map_append,yu (r:=r) (a:=a) (by omega)]
   simp[h]
  ·refine IE _ _ ⟨r,r0,r1,?_,by rw[List.length_append];exact hi2,D9,O'.trans O9⟩
   rw[List.length_append,List.length_singleton,oK,List.map_append]
   simp[h]
 rintro ys S9 ⟨r,r0,r1,rfl,_,D9,O9⟩ pt Km
 rw[bf]
 exact k r _ r0 r1 (D9.new Km) (O9.trans (.new Km))
def EL{x0 x1 x2 x3 x4:aF}(CI:cp x0)(Dc:mf x1)(CZ:jx x2)(sp_plus:eK x3)(Fg:v0 x4):nL (bj 13 (eC x0 x1 x2 x3 x4)):=by
 intro S d l pp pw pm wt ps M Q E H W Z hM k
 unfold eC
 refine fK ?_
 have wl:=W.l;have pl1:=Z.l1;have pl:=Z.l
 have wb:∀n∈wt,n.natAbs<=2 ^ 20:=fun n hn=>by have:=W.w0 n hn;have:=W.w1 n hn;omega
 rw[show az 13 [PV.ref d,.ref pp,.ref pw,.ref pm]=[some (.ref d),some (.ref pp),some (.ref pw),some (.ref pm),none,none,none,none,none,none,none,none,none] from rfl]
 refine aB fun N hN=>?_
 simp only[iO,ai,ag,v3,lk,bA,H.w,H.p,List.length_map,List.set_cons_succ,List.set_cons_zero]
 refine hN _ _ (aB fun N hN=>?_)
 simp only[ap,ai,ag,aw,bm,v3,lk]
 refine⟨by omega,by omega,?_⟩
 rw[Int.toNat_natCast]
 refine bC (fun done ys S'=>∃es:List Int,ys=es.map PV.int/\es.length=done.length/\done.length<=wt.length/\(∀e∈es,0<=e/\e<=9)/\CU S' d l/\D0 d l S S') ⟨[],rfl,rfl,Nat.zero_le _,(fun e he=>by cases he),H.D,.refl⟩ ?_ ?_ ?_
 ·rintro done ys S' ⟨es,rfl,e,hd,_⟩
  exact⟨trivial,aQ (by rw[List.length_map,e];omega)⟩
 ·rintro EK x rest ys S' K2 e ⟨es,rfl,e2,hd,he,D',O'⟩ IE
  obtain⟨rfl,hi2⟩:=bK e
  simp only[Tg.put,bN,List.reduceReplicate,List.map_cons,List.map_nil,List.cons_append,List.nil_append,List.set_cons_zero,bg,if_true,ah,ac,ag,v3,lk,c3,List.getElem?_cons_zero,List.getElem?_cons_succ,Option.join]
  refine CI D' (by decide) (by decide) fun a S6 a0 a1 D6 O6=>CI D6 (by decide) (by decide) fun b S7 b0 b1 D7 O7=>?_
  simp only[aL]
  refine⟨mY (by omega) (by omega),IE _ _ ⟨es++[a * b],by simp,by simp[e2],by rw[List.length_append];exact hi2,fun y hy=>?_,D7,O'.trans (O6.trans O7)⟩⟩
  rcases List.mem_append.mp hy with hy|hy
  ·exact he y hy
  ·rw[List.mem_singleton.mp hy]
   obtain rfl|rfl:b=0\/b=1:=by omega
   ·rw[Int.mul_zero];decide
   ·rw[Int.mul_one];omega
 rintro ys S1 ⟨es,rfl,el,_,e0,D1,O1⟩ pe Ia
 rw[bf]at el
 have O2:D0 d l S (CG S1 pe (.lst (es.map PV.int))):=O1.trans (.new Ia)
 have H2:=H.EY (D1.new (o:=.lst (es.map PV.int)) Ia) O2
 simp only[aD,eV,aa,List.set_cons_succ,List.set_cons_zero]
 generalize CG S1 pe (.lst (es.map PV.int))=S2 at O2 H2
 have eb:∀e∈es,e.natAbs<=2 ^ 20:=fun e h=>by have:=e0 e h;omega
 have db:=kf (a:=9) (b:=360) (is:=es) (ns:=wt) (fun e h=>by have:=e0 e h;omega) (fun n hn=>by have:=W.w0 n hn;have:=W.w1 n hn;omega) (by omega)
 refine hN _ _ (aB fun N hN=>?_)
 simp only[iO,ac,ag,ah,v3,lk,c3]
 refine CI H2.D (by omega) (by omega) fun a S3 a0 a1 D3 O3=>CI D3 (by decide) (by decide) fun b S4 b0 b1 D4 O4=>?_
 obtain⟨i,rfl⟩:∃i:Nat,a=(i:Int):=⟨a.toNat,by omega⟩
 have hi:i < ps.length:=by omega
 have H4:=H2.EY D4 (O3.trans O4)
 have T4:DJ d l pm S S4:=(DJ.refl (d:=d) (l:=l) (m:=pm) (S:=S)).of (O2.trans (O3.trans O4))
 simp only[aP,List.set_cons_succ,List.set_cons_zero]
 generalize hm:1+b=m
 have m0:1<=m:=by omega
 have m1:m<=2:=by omega
 refine hN _ _ (aB fun N hN=>?_)
 have pi:∀i,i < ps.length->(ps.getD i 0).natAbs < 2 ^ 30:=fun i h=>by
  rw[aq (List.getElem?_eq_getElem h)]
  have:=Z.p0 _ (List.getElem_mem h);have:=Z.p1 _ (List.getElem_mem h);omega
 simp only[d8,ah,v3,lk,al,H4.m,(dH (row:=M) (j:=i) (by omega)).1,aP,cW]
 rw[show lp (M.map PV.int).length (i:Int)=some i from dQ (by rw[List.length_map];omega)]
 have H5:=H4.set (M.set i (M.getD i 0+m))
 have T5:DJ d l pm S _:=T4.set (o:=.lst ((M.set i (M.getD i 0+m)).map PV.int))
 rw[List.map_set]at H5 T5
 dsimp only
 generalize CG S4 pm (.lst ((M.map PV.int).set i (.int (M.getD i 0+m))))=S5 at H5 T5
 refine hN _ _ (aB fun N hN=>?_)
 simp only[ap,cC,aM,ag,ac,ah,v3,lk,al,H5.p,oM hi]
 refine CZ (is:=es) (ns:=wt) .tup (.lst H5.w) el (by omega) eb wb ?_
 refine Dc (by have:=pi i hi;omega) (by omega) ?_
 intro pf hpf
 have fp:S pf=none:=by
  cases h:S pf with
  |none=>rfl
  |some o=>
   exfalso
   have nf:=H5.D.free hpf
   have nm:pf≠pm:=fun e=>by rw[e,H5.m]at hpf;cases hpf
   have:=T5 _ _ h nf.1 nf.2 nm
   rw[hpf]at this;cases this
 have nf:=H5.D.free hpf
 have nm:pf≠pm:=fun e=>by rw[e,H5.m]at hpf;cases hpf
 have Lg:pf≠pp:=fun e=>by rw[e,H5.p]at hpf;cases hpf
 have Lh:pf≠pw:=fun e=>by rw[e,H5.w]at hpf;cases hpf
 have ef:PV.tup [.int (i:Int),cq 12 (ps.getD i 0 - dot es wt),.tup (es.map PV.int)]=(Pl.cl ⟨some i,ps.getD i 0 - dot es wt,es,2520 * m⟩).pv:=(Pl.pv ⟨some i,ps.getD i 0 - dot es wt,es,2520 * m⟩).symm
 rw[ef]
 have G0:=tu W Z hi el e0 m0 m1
 have f6:(CG S5 pf (.lst [(Pl.cl ⟨some i,ps.getD i 0 - dot es wt,es,2520 * m⟩).pv])) pf=some (.lst (([⟨some i,ps.getD i 0 - dot es wt,es,2520 * m⟩]:List Pl).map fun p=>p.cl.pv)):=aa
 have H6:=H5.new (o:=.lst [(Pl.cl ⟨some i,ps.getD i 0 - dot es wt,es,2520 * m⟩).pv]) hpf
 have T6:DJ d l pm S (CG S5 pf (.lst [(Pl.cl ⟨some i,ps.getD i 0 - dot es wt,es,2520 * m⟩).pv])):=T5.of (.new hpf)
 generalize CG S5 pf (.lst [(Pl.cl ⟨some i,ps.getD i 0 - dot es wt,es,2520 * m⟩).pv])=S6 at f6 H6 T6
 simp only[List.set_cons_succ,List.set_cons_zero]
 refine hN _ _ (aB fun N hN=>?_)
 simp only[gc,cE,ah,ac,ag,v3,lk,c3,d5]
 refine CI H6.D (by decide) (by decide) fun y S7 y0 y1 D7 O7=>?_
 have H7:=H6.EY D7 O7
 have T7:=T6.of O7
 have f7:=O7 _ _ f6 nf.1 nf.2
 simp only[fQ,Bool.false_bne,decide_eq_true_eq]
 split
 ·refine aB fun N2 EI=>?_
  simp only[ap,ac,ag,v3,lk]
  refine CI D7 (by omega) (by omega) fun a S8 a0 a1 D8 O8=>?_
  obtain⟨j,rfl⟩:∃i:Nat,a=(i:Int):=⟨a.toNat,by omega⟩
  have hj:j < ps.length:=by omega
  have H8:=H7.EY D8 O8
  have T8:=T7.of O8
  have f8:=O8 _ _ f7 nf.1 nf.2
  simp only[List.set_cons_succ,List.set_cons_zero]
  refine EI _ _ (aB fun N2 EI=>?_)
  simp only[d8,ah,v3,lk,al,H8.m,(dH (row:=M.set i (M.getD i 0+m)) (j:=j) (by rw[List.length_set];omega)).1,aP,cW]
  rw[show lp ((M.set i (M.getD i 0+m)).map PV.int).length (j:Int)=some j from dQ (by rw[List.length_map,List.length_set];omega)]
  have H9:=H8.set ((M.set i (M.getD i 0+m)).set j ((M.set i (M.getD i 0+m)).getD j 0+m))
  have T9:DJ d l pm S _:=T8.set (o:=.lst (((M.set i (M.getD i 0+m)).set j ((M.set i (M.getD i 0+m)).getD j 0+m)).map PV.int))
  have f9:∀o,S8 pf=some o->(CG S8 pm (.lst (((M.set i (M.getD i 0+m)).set j ((M.set i (M.getD i 0+m)).getD j 0+m)).map PV.int))) pf=some o:=fun o h=>by rw[ak nm];exact h
  have f9:=f9 _ f8
  rw[List.map_set (i:=j)]at H9 T9 f9
  dsimp only
  generalize CG S8 pm (.lst (((M.set i (M.getD i 0+m)).map PV.int).set j (.int ((M.set i (M.getD i 0+m)).getD j 0+m))))=S9 at H9 T9 f9
  refine EI _ _ ?_
  simp only[aE,ah,cC,aM,ag,ac,v3,lk,al,H9.p,oM hj]
  refine CZ (is:=es) (ns:=wt) .tup (.lst H9.w) el (by omega) eb wb ?_
  refine v5 sp_plus (FK (by have:=pi j hj;omega)) (FK (by omega)) ?_
  refine Fg (by omega) fun SA XA=>?_
  intro pg Hq
  have fA:=XA _ _ f9
  have HA:=H9.EY (H9.D.ext XA) XA.EY
  have TA:=T9.of XA.EY
  have eg:PV.tup [.int (j:Int),cq 12 (ps.getD j 0+dot es wt),.tup ((es.map fun e=>0 - e).map PV.int)]=(Pl.cl ⟨some j,ps.getD j 0+dot es wt,es.map fun e=>0 - e,2520 * m⟩).pv:=(Pl.pv ⟨some j,ps.getD j 0+dot es wt,es.map fun e=>0 - e,2520 * m⟩).symm
  rw[eg]
  have Li:pf≠pg:=fun e=>by rw[<-e,fA]at Hq;cases Hq
  have fB:∀o,SA pf=some o->(CG SA pg (.lst [(Pl.cl ⟨some j,ps.getD j 0+dot es wt,es.map fun e=>0 - e,2520 * m⟩).pv])) pf=some o:=fun o h=>by rw[ak Li];exact h
  have fB:=fB _ fA
  have HB:=HA.new (o:=.lst [(Pl.cl ⟨some j,ps.getD j 0+dot es wt,es.map fun e=>0 - e,2520 * m⟩).pv]) Hq
  have TB:=TA.of (.new (o:=.lst [(Pl.cl ⟨some j,ps.getD j 0+dot es wt,es.map fun e=>0 - e,2520 * m⟩).pv]) Hq)
  have gB:(CG SA pg (.lst [(Pl.cl ⟨some j,ps.getD j 0+dot es wt,es.map fun e=>0 - e,2520 * m⟩).pv])) pg=some (.lst [(Pl.cl ⟨some j,ps.getD j 0+dot es wt,es.map fun e=>0 - e,2520 * m⟩).pv]):=aa
  generalize CG SA pg (.lst [(Pl.cl ⟨some j,ps.getD j 0+dot es wt,es.map fun e=>0 - e,2520 * m⟩).pv])=SB at fB HB TB gB
  simp only[aP,fB,gB]
  refine⟨aQ (by simp),fun px hpx=>?_⟩
  have fx:S px=none:=by
   cases h:S px with
   |none=>rfl
   |some o=>
    exfalso
    have nx:=HB.D.free hpx
    have Lj:px≠pm:=fun e=>by rw[e,HB.m]at hpx;cases hpx
    have:=TB _ _ h nx.1 nx.2 Lj
    rw[hpx]at this;cases this
  exact k _ _ px _ (vf W Z hi hj hM el e0 m0 m1) fx aa (HB.new hpx) (TB.of (.new hpx))
 refine hN _ _ (aB fun N hN=>?_)
 simp only[bM,bm,v3,lk]
 refine⟨by omega,by omega,?_⟩
 rw[Int.toNat_natCast]
 refine bJ (fun done σ S'=>∃(L:List Pl) (x6 JF:Option PV),σ=[some (.ref d),some (.ref pp),some (.ref pw),some (.ref pm),some (.int (wt.length:Int)),some (.int (ps.length:Int)),x6,some (.tup (es.map PV.int)),some (.int (i:Int)),some (.int m),some (.ref pf),none,JF]/\done.length<=wt.length/\Gs wt ps es i m done.length L/\S' pf=some (.lst (L.map fun p=>p.cl.pv))/\Kp S' d l pp pw pm wt ps (M.set i (M.getD i 0+m))/\DJ d l pm S S') ⟨_,_,_,rfl,Nat.zero_le _,G0,f7,H7,T7⟩ (fun _ _ _ _=>trivial) ?_ ?_
 ·rintro done x rest σ S8 K e ⟨L,x6,JF,rfl,_,G8,f8,H8,T8⟩ hK
  obtain⟨rfl,hn⟩:=bK e
  simp only[Tg.put,List.set_cons_succ,List.set_cons_zero]
  refine aB fun N2 EI=>?_
  rw[show ∀(te:aS) F σ S,ap 12 te F σ S=te σ S (fun v S'=>F.nx (σ.set 12 (some v)) S') F.ex from fun _ _ _ _=>rfl]
  refine BX CI H8.D wl fun r FV r0 r1 JG Hs=>?_
  have Ge:=H8.EY JG Hs
  have Lk:=T8.of Hs
  have Gz:=Hs _ _ f8 nf.1 nf.2
  simp only[List.set_cons_succ,List.set_cons_zero]
  have tl:(tk wt.length done.length r).length=wt.length:=by unfold tk;simp
  have tb:∀e∈tk wt.length done.length r,e.natAbs<=9:=fun e h=>by
   unfold tk at h
   obtain⟨t,_,rfl⟩:=List.mem_map.mp h
   split
   ·omega
   ·omega
  have tdb:=kf (a:=9) (b:=360) (is:=tk wt.length done.length r) (ns:=wt) tb (fun n hn=>by have:=W.w0 n hn;have:=W.w1 n hn;omega) (by omega)
  refine EI _ _ ?_
  simp only[bS,jg,pN,aM,ag,ac,v3,lk,c3,Gz,true_and]
  refine CZ (is:=tk wt.length done.length r) (ns:=wt) .tup (.lst Ge.w) tl (by omega) (fun e h=>by have:=tb e h;omega) wb ?_
  rw[show PV.tup [.int 0,.int 1]=cq 12 0 from tj 0]
  refine Dc (by decide) (by omega) ?_
  simp only[bv,Gz,List.length_map]
  obtain⟨z,hz,z0⟩:=yq r0 r1
  have G9:=vg W G8 hn el e0 m0 m1 r0 r1 hz z0
  have ll:=G8.ll
  refine⟨Nat.lt_of_lt_of_le (show L.length < 1000 by omega) (aQ (Nat.le_refl _)),hK _ _ ⟨_,_,_,rfl,by rw[List.length_append];exact hn,by rw[List.length_append];exact G9,?_,Ge.upd nf Lg Lh nm,Lk.fresh fp⟩⟩
  rw[aa,List.map_append]
  simp only[List.map_cons,List.map_nil,Pl.pv,qd]
 ·rintro σ S8 ⟨L,x6,JF,rfl,_,G8,f8,H8,T8⟩
  rw[bf]at G8
  refine hN _ _ ?_
  simp only[aE,v3,lk]
  exact k L _ pf S8 (yt W hi hM m0 m1 G8) fp f8 H8 T8
def v6{t b w:Int}(hb:0 < b)(e:t * 12=w * b):PV.tup [.int (M3.aK t b),.int (M3.aC t b)]=cq 12 w:=eJ hb (by decide) e
def Cc{t c:Int}(c0:1<=c)(c1:c<=4)(t0:0<=t):∃w:Int,t * 12=w * c/\0<=w/\w<=t * 12:=by
 obtain rfl|rfl|rfl|rfl:c=1\/c=2\/c=3\/c=4:=by omega
 ·exact⟨t * 12,by omega,by omega,by omega⟩
 ·exact⟨t * 6,by omega,by omega,by omega⟩
 ·exact⟨t * 4,by omega,by omega,by omega⟩
 ·exact⟨t * 3,by omega,by omega,by omega⟩
def tw{a b x y:Int}(a0:0<=a)(a1:a<=x)(b0:0<=b)(b1:b<=y):0<=a * b/\a * b<=x * y:=⟨Int.mul_nonneg a0 b0,Int.mul_le_mul a1 b1 b0 (by omega)⟩
def yv(i:Nat)(te:aS)(F:jU)(σ:cN)(S:ar):ap i te F σ S=te σ S (fun v S1=>F.nx (σ.set i (some v)) S1) F.ex:=rfl
def Ay{x0 x1:aF}(CI:cp x0)(DR:fy x1){S:ar}{d l:Addr}{n:Nat}{o2 o3 o4 o5 o6 o7 o8 o9 Hg Gv:Option PV}{Q:bH}{E:cg}(D:CU S d l)(hn:n<=4)(k:∀(wt:Vu) p S',wt.length=n->v4 wt->S' p=some (.lst (wt.map (cq 12)))->CU S' d l->p≠d/\p≠l->D0 d l S S'->Q (.ref p) S') :
  (aw (bm (v3 1)) (.n 0) bg (ac x1 [(ah aL (ac x0 [(v3 1),(c3 (.int 16))]) (ac x0 [(v3 1),(c3 (.int 3))])),(ah aP (c3 (.int 1)) (ac x0 [(v3 1),(c3 (.int 4))]))]) 1 [0]) [some (.ref d),some (.int (n:Int)),o2,o3,o4,o5,o6,o7,o8,o9,Hg,Gv] S Q E:=by
 simp only[aw,bm,v3,lk]
 refine⟨by omega,by omega,?_⟩
 rw[Int.toNat_natCast]
 refine bC (fun done ys S'=>∃wt:List Int,ys=wt.map (cq 12)/\wt.length=done.length/\done.length<=n/\(∀w∈wt,0<=w/\w<=360)/\CU S' d l/\D0 d l S S') ⟨[],rfl,rfl,Nat.zero_le _,(fun e he=>by cases he),D,.refl⟩ ?_ ?_ ?_
 ·rintro done ys S' ⟨wt,rfl,e,hd,_⟩
  exact⟨trivial,aQ (by rw[List.length_map,e];omega)⟩
 ·rintro done x rest ys S' K e ⟨wt,rfl,e2,hd,he,D',O'⟩ hK
  obtain⟨rfl,hi⟩:=bK e
  simp only[Tg.put,bN,List.reduceReplicate,List.map_cons,List.map_nil,List.cons_append,List.nil_append,List.set_cons_zero,bg,if_true,ah,ac,ag,v3,lk,c3,List.getElem?_cons_zero,List.getElem?_cons_succ,Option.join]
  refine CI D' (by decide) (by decide) fun a S1 a0 a1 D1 O1=>CI D1 (by decide) (by decide) fun b S2 b0 b1 D2 O2=>?_
  simp only[aL]
  refine⟨mY (by omega) (by omega),CI D2 (by decide) (by decide) fun c S3 c0 c1 D3 O3=>?_⟩
  simp only[aP]
  have ab:=tw (a:=a) (b:=b) (x:=15) (y:=2) a0 (by omega) b0 (by omega)
  generalize a * b=t at ab
  obtain⟨w,ew,w0,w1⟩:=Cc (t:=t) (c:=1+c) (by omega) (by omega) ab.1
  refine DR (by omega) (j0 (by omega)) ?_
  rw[v6 (by omega) ew]
  refine hK _ _ ⟨wt++[w],by simp,by simp[e2],by rw[List.length_append];exact hi,fun y hy=>?_,D3,O'.trans (O1.trans (O2.trans O3))⟩
  rcases List.mem_append.mp hy with hy|hy
  ·exact he y hy
  ·rw[List.mem_singleton.mp hy];omega
 rintro ys S1 ⟨wt,rfl,e2,_,he,D1,O1⟩ p hp
 rw[bf]at e2
 exact k wt p _ e2 ⟨by omega,fun w hw=>(he w hw).1,fun w hw=>(he w hw).2⟩ aa (D1.new hp) (D1.free hp) (O1.trans (.new hp))
def Az{x0 x1:aF}(CI:cp x0)(DR:fy x1){S:ar}{d l:Addr}{n:Nat}{o1 o3 o4 o5 o6 o7 o8 o9 Hg Gv:Option PV}{Q:bH}{E:cg}(D:CU S d l)(hn:n<=4)(k:∀(ps:Vu) p S',ps.length=n->(∀w∈ps,0<=w/\w<=17748)->S' p=some (.lst (ps.map (cq 12)))->CU S' d l->D0 d l S S'->Q (.ref p) S') :
  (aw (bm (v3 2)) (.n 0) bg (ac x1 [(ah aP (c3 (.int 1080)) (ac x0 [(v3 1),(c3 (.int 400))])),(ah aP (c3 (.int 1)) (ah aL (ac x0 [(v3 1),(c3 (.int 4))]) (ac x0 [(v3 1),(c3 (.int 2))])))]) 1 [0]) [some (.ref d),o1,some (.int (n:Int)),o3,o4,o5,o6,o7,o8,o9,Hg,Gv] S Q E:=by
 simp only[aw,bm,v3,lk]
 refine⟨by omega,by omega,?_⟩
 rw[Int.toNat_natCast]
 refine bC (fun done ys S'=>∃wt:List Int,ys=wt.map (cq 12)/\wt.length=done.length/\done.length<=n/\(∀w∈wt,0<=w/\w<=17748)/\CU S' d l/\D0 d l S S') ⟨[],rfl,rfl,Nat.zero_le _,(fun e he=>by cases he),D,.refl⟩ ?_ ?_ ?_
 ·rintro done ys S' ⟨wt,rfl,e,hd,_⟩
  exact⟨trivial,aQ (by rw[List.length_map,e];omega)⟩
 ·rintro done x rest ys S' K e ⟨wt,rfl,e2,hd,he,D',O'⟩ hK
  obtain⟨rfl,hi⟩:=bK e
  simp only[Tg.put,bN,List.reduceReplicate,List.map_cons,List.map_nil,List.cons_append,List.nil_append,List.set_cons_zero,bg,if_true,ah,ac,ag,v3,lk,c3,List.getElem?_cons_zero,List.getElem?_cons_succ,Option.join]
  refine CI D' (by decide) (by decide) fun a S1 a0 a1 D1 O1=>?_
  simp only[aP]
  refine CI D1 (by decide) (by decide) fun b S2 b0 b1 D2 O2=>CI D2 (by decide) (by decide) fun c S3 c0 c1 D3 O3=>?_
  simp only[aL]
  refine⟨mY (by omega) (by omega),?_⟩
  have ab:=tw (a:=b) (b:=c) (x:=3) (y:=1) b0 (by omega) c0 (by omega)
  generalize b * c=t at ab
  obtain⟨w,ew,w0,w1⟩:=Cc (t:=1080+a) (c:=1+t) (by omega) (by omega) (by omega)
  refine DR (by omega) (j0 (by omega)) ?_
  rw[v6 (by omega) ew]
  refine hK _ _ ⟨wt++[w],by simp,by simp[e2],by rw[List.length_append];exact hi,fun y hy=>?_,D3,O'.trans (O1.trans (O2.trans O3))⟩
  rcases List.mem_append.mp hy with hy|hy
  ·exact he y hy
  ·rw[List.mem_singleton.mp hy];omega
 rintro ys S1 ⟨wt,rfl,e2,_,he,D1,O1⟩ p hp
 rw[bf]at e2
 exact k wt p _ e2 he aa (D1.new hp) (O1.trans (.new hp))
def AA{x0:aF}(sp_plus:eK x0){S:ar}{q:Addr}{qs:Vu}{o0 o1 o2 o3 o4 o6 o7 o8 o9 Hg Gv:Option PV}{Q:bH}{E:cg}(hq:S q=some (.lst (qs.map (cq 12))))(hl:qs.length<=4)(hb:∀w∈qs,0<=w/\w<=17748)(k:∀p S',S p=none->S'=CG S p (.lst ((qs.map (·+12960)).map (cq 12)))->Q (.ref p) S') :
  (aw (aO (v3 5)) (.n 0) bg (ac x0 [(v3 0),(aM [(c3 (.int 1080)),(c3 (.int 1))])]) 1 []) [o0,o1,o2,o3,o4,some (.ref q),o6,o7,o8,o9,Hg,Gv] S Q E:=by
 simp only[aw,aO,v3,lk,bY,hq]
 refine a7 (cq 12) (fun n=>cq 12 (n+12960)) hq qs [] (fun i hi=>⟨_,rfl,fun Q' q=>?_⟩) (aQ (by simp;omega)) ?_
 ·simp only[bN,List.reduceReplicate,List.map_nil,List.append_nil,List.set_cons_zero,ac,aM,ag,c3,v3,lk]
  have:=hb i hi
  rw[show PV.tup [.int 1080,.int 1]=cq 12 12960 from tj 1080]
  exact v5 sp_plus (FK (by omega)) (FK (by decide)) q
 intro p hp
 simp only[List.nil_append]
 exact k p _ hp (by rw[List.map_map];rfl)
structure Gw (wt ps M:Vu) (f:Nat) (L:List Pl) (B:Int) (n:Nat):Prop where
 pl:Plan wt ps M f L
 ml:M.length=ps.length
 mb:∀e,0<=M.getD e 0/\M.getD e 0<=B
 ll:L.length<=n
def jz(n e:Nat):(List.replicate n (0:Int)).getD e 0=0:=by
 rw[List.getD_eq_getElem?_getD,List.getElem?_replicate]
 split<;>rfl
def Gw.nil{wt ps:Vu}{n:Nat}(h:n=ps.length):Gw wt ps (List.replicate n 0) 0 [] 0 0:=⟨⟨(fun p hp=>by cases hp),fun d _=>by rw[jz];rfl,fun t _=>rfl,fun d hd=>absurd hd (Nat.not_lt_zero _)⟩,by simp[h],fun e=>by rw[jz];exact⟨Int.le_refl _,Int.le_refl _⟩,Nat.le_refl _⟩
def Gw.le{wt ps M:Vu}{f n n':Nat}{L:List Pl}{B B':Int}(h:Gw wt ps M f L B n)(hB:B<=B')(hn:n<=n'):Gw wt ps M f L B' n':=⟨h.pl,h.ml,fun e=>by have:=h.mb e;omega,Nat.le_trans h.ll hn⟩
def Gw.idle{wt ps M:Vu}{f n:Nat}{L:List Pl}{B:Int}{p:Pl}(h:Gw wt ps M f L B n)(o:l8 wt ps p)(x0:p.x=0):Gw wt ps M f (L++[p]) B (n+1):=by
 refine⟨⟨fun q hq=>?_,fun d hd=>?_,fun t ht=>?_,fun d hd=>?_⟩,h.ml,h.mb,by rw[List.length_append,List.length_singleton];exact Nat.succ_le_succ h.ll⟩
 ·rcases List.mem_append.mp hq with hq|hq
  ·exact h.pl.ok q hq
  ·rw[List.mem_singleton.mp hq];exact o
 ·rw[List.map_append,List.sum_append,h.pl.Dk d hd];simp[x0]
 ·rw[List.map_append,List.sum_append,h.pl.ES t ht];simp[x0]
 ·obtain⟨q,hq,e⟩:=h.pl.fx d hd
  exact⟨q,List.mem_append.mpr (.inl hq),e⟩
def Gw.grp{wt ps M M':Vu}{f n:Nat}{L G:List Pl}{B:Int}(h:Gw wt ps M f L B n)(g:AW wt ps M M' G):Gw wt ps M' f (L++G) (B+4) (n+5):=by
 refine⟨⟨fun q hq=>?_,fun d hd=>?_,fun t ht=>?_,fun d hd=>?_⟩,by rw[g.ml];exact h.ml,fun e=>by have:=h.mb e;have:=g.mb e;omega,by rw[List.length_append];exact Nat.add_le_add h.ll g.ll⟩
 ·rcases List.mem_append.mp hq with hq|hq
  ·exact h.pl.ok q hq
  ·exact g.ok q hq
 ·rw[List.map_append,List.sum_append,h.pl.Dk d hd,g.Dk d hd];omega
 ·rw[List.map_append,List.sum_append,h.pl.ES t ht,g.ES t ht];rfl
 ·obtain⟨q,hq,e⟩:=h.pl.fx d hd
  exact⟨q,List.mem_append.mpr (.inl hq),e⟩
theorem iY:∀(n:Nat) (wt:Vu),dot (List.replicate n (0:Int)) wt=0
 |0,_=>by simp[dot]
 |_+1,[]=>by simp[dot,List.replicate_succ]
 |n+1,b::r=>by
  show 0 * b+dot (List.replicate n 0) r=0
  rw[iY n r];omega
def Gw.own{wt ps M:Vu}{f n:Nat}{L:List Pl}{B lo i:Int}(h:Gw wt ps M f L B n)(Z:yL ps)(hf:f < ps.length)(l0:0<=lo)(l1:lo<=8)(hi:i=0\/(i=1/\lo=0)) :
  Gw wt ps (M.set f (M.getD f 0+i)) (f+1) (L++[⟨some f,ps.getD f 0 - 12 * lo,List.replicate wt.length 0,2520 * i⟩]) (B+1) (n+1):=by
 have ml:=h.ml
 have hp:12960<=ps.getD f 0/\ps.getD f 0<=2 ^ 19:=by
  rw[aq (List.getElem?_eq_getElem hf)]
  exact⟨Z.p0 _ (List.getElem_mem hf),Z.p1 _ (List.getElem_mem hf)⟩
 have gm:∀d,(M.set f (M.getD f 0+i)).getD d 0=if d=f then M.getD f 0+i else M.getD d 0:=fun d=>dX _ _ _ (by omega) d
 refine⟨⟨fun q hq=>?_,fun d hd=>?_,fun t ht=>?_,fun d hd=>?_⟩,by rw[List.length_set];exact ml,fun e=>?_,by rw[List.length_append,List.length_singleton];exact Nat.succ_le_succ h.ll⟩
 ·rcases List.mem_append.mp hq with hq|hq
  ·exact h.pl.ok q hq
  ·rw[List.mem_singleton.mp hq]
   refine⟨by simp,fun e he=>?_,by show 0<=ps.getD f 0 - 12 * lo;omega,by show ps.getD f 0 - 12 * lo<=2 ^ 30;omega,fun d hd=>by cases hd;exact hf,?_,by show 0<=2520 * i;omega,?_⟩
   ·rw[(List.mem_replicate.mp he).2];decide
   ·show ps.getD f 0 - 12 * lo+dot (List.replicate wt.length 0) wt<=ps.getD f 0
    rw[iY];omega
   ·show 2520 * i * (ps.getD f 0 - 12 * lo+dot (List.replicate wt.length 0) wt)=2520 * i * ps.getD f 0
    rw[iY]
    rcases hi with rfl|⟨rfl,rfl⟩<;>simp
 ·rw[List.map_append,List.sum_append,h.pl.Dk d hd,gm d]
  have e1:w1 d (Pl.cl ⟨some f,ps.getD f 0 - 12 * lo,List.replicate wt.length 0,2520 * i⟩)=if d=f then 1 else 0:=by unfold w1 Pl.cl;simp[eq_comm]
  simp only[List.map_cons,List.map_nil,List.sum_cons,List.sum_nil,e1]
  split
  ·rename_i h;subst h;omega
  ·omega
 ·rw[List.map_append,List.sum_append,h.pl.ES t ht]
  simp only[List.map_cons,List.map_nil,List.sum_cons,List.sum_nil,jz]
  omega
 ·by_cases hdf:d < f
  ·obtain⟨q,hq,e⟩:=h.pl.fx d hdf
   exact⟨q,List.mem_append.mpr (.inl hq),e⟩
  ·obtain rfl:d=f:=by omega
   refine⟨_,List.mem_append.mpr (.inr (List.mem_singleton.mpr rfl)),?_⟩
   unfold io Pl.cl
   simp only[decide_true,Bool.true_and,List.all_eq_true,decide_eq_true_eq]
   exact fun z hz=>by rw[(List.mem_replicate.mp hz).2];exact Int.le_refl _
 ·have:=h.mb e;have:=h.mb f
  rw[gm e]
  split<;>omega
def CB{r n:Nat}(h:r < n):seqIndex? (r:Int) n=some r:=by
 unfold seqIndex?
 simp
 omega
theorem jA{α β:Type}(f:α->β):∀(xs:List α) (i:Nat),(xs.map f).eraseIdx i=(xs.eraseIdx i).map f
 |[],_=>rfl
 |_::_,0=>rfl
 |a::r,i+1=>by simp[List.eraseIdx,jA f r i]
structure Pd where
 wt:List Int
 ps:List Int
 M:List Int
 L:List Pl
noncomputable def Pd.pv(p:Pd):PV:=.tup [.tup (p.L.map fun p=>p.cl.pv),.tup (p.M.map PV.int),cq 12 (dot p.M p.ps)]
structure Pd.Ok (p:Pd):Prop where
 g:Gw p.wt p.ps p.M p.ps.length p.L 100 100
 W:v4 p.wt
 Z:yL p.ps
abbrev nM(w:aF):Prop:=∀{S:ar} {d l:Addr} {Q:bH} {E:cg},CU S d l->(∀(p:Pd) S',p.Ok->CU S' d l->Q p.pv S')->w [.ref d] S Q E
theorem jB{α:Type}:∀(rs:List α) (i:Nat) (hi:i < rs.length),(rs[i]::rs.eraseIdx i).Perm rs
 |_::_,0,_=>.refl _
 |a::r,i+1,hi=>(List.Perm.swap a _ _).trans ((jB r i (Nat.lt_of_succ_lt_succ hi)).cons a)
def tx{os rs L:List Pl}(h:(os++rs).Perm L){i:Nat}(hi:i < rs.length):((os++[rs[i]])++rs.eraseIdx i).Perm L:=by
 refine List.Perm.trans ?_ h
 rw[List.append_assoc]
 exact(jB rs i hi).append_left os
def Eg{x0 x1 x2 x3 x4 x5 x6:aF}(CI:cp x0)(DR:fy x1)(sp_plus:eK x2)(Dc:mf x3)(EL:nL x4)(DY:kY x5)(CZ:jx x6):nM (bj 12 (dr x0 x1 x2 x3 x4 x5 x6)):=by
 intro S d l Q E DL kk
 unfold dr
 refine fK ?_
 rw[show az 12 [PV.ref d]=[some (.ref d),none,none,none,none,none,none,none,none,none,none,none] from rfl]
 refine aB fun N hN=>?_
 simp only[iO,ac,ag,ah,v3,lk,c3]
 refine CI DL (by decide) (by decide) fun a S1 a0 a1 D1 _=>CI D1 (by decide) (by decide) fun b S2 b0 b1 D2 _=>?_
 obtain⟨k,rfl⟩:∃k:Nat,a=(k:Int):=⟨a.toNat,by omega⟩
 obtain⟨D,eD⟩:∃D:Nat,1+b=(D:Int):=⟨(1+b).toNat,by omega⟩
 have hk:k<=4:=by omega
 have hD0:1<=D:=by omega
 have hD:D<=4:=by omega
 simp only[aP,eD,List.set_cons_succ,List.set_cons_zero]
 refine hN _ _ (aB fun N hN=>?_)
 rw[yv]
 refine Ay CI DR D2 hk fun wt pw S3 wl W fw D3 nw _=>?_
 simp only[List.set_cons_succ,List.set_cons_zero]
 refine hN _ _ (aB fun N hN=>?_)
 rw[yv]
 refine Az CI DR D3 hD fun qs q S4 ql qb fq D4 O4=>?_
 have JH:=O4 _ _ fw nw.1 nw.2
 simp only[List.set_cons_succ,List.set_cons_zero]
 refine hN _ _ (aB fun N hN=>?_)
 rw[yv]
 refine AA sp_plus fq (by omega) qb fun pp S5 hpp e5=>?_
 have np:=D4.free hpp
 have Z:yL (qs.map (·+12960)):=⟨by rw[List.length_map];omega,by rw[List.length_map];omega,fun p hp=>by obtain⟨z,hz,rfl⟩:=List.mem_map.mp hp;have:=qb z hz;omega,fun p hp=>by obtain⟨z,hz,rfl⟩:=List.mem_map.mp hp;have:=qb z hz;omega⟩
 have JI:(qs.map (·+12960)).length=D:=by rw[List.length_map];exact ql
 generalize qs.map (·+12960)=ps at e5 Z JI
 have D5:CU S5 d l:=by rw[e5];exact D4.new hpp
 have HY:S5 pp=some (.lst (ps.map (cq 12))):=by rw[e5];exact aa
 have JJ:S5 pw=some (.lst (wt.map (cq 12))):=by rw[e5,ak (fun h=>by rw[h,hpp]at JH;cases JH)];exact JH
 simp only[List.set_cons_succ,List.set_cons_zero]
 refine hN _ _ (aB fun N hN=>?_)
 simp only[ap,ah,cC,ag,c3,v3,lk]
 intro pz Hm
 simp only[aL,aa]
 refine⟨by omega,by omega,aQ (by rw[List.length_singleton];omega),fun pm Ib=>?_⟩
 rw[Int.toNat_natCast,show(List.replicate D [PV.int 0]).flatten=(List.replicate D (0:Int)).map PV.int by rw[List.map_replicate,List.flatten_replicate_singleton]]
 have D6:=(D5.new (o:=.lst [.int 0]) Hm).new (o:=.lst ((List.replicate D (0:Int)).map PV.int)) Ib
 have nm:=(D5.new (o:=.lst [.int 0]) Hm).free Ib
 have IF:CG S5 pz (.lst [.int 0]) pp=some (.lst (ps.map (cq 12))):=by rw[ak (fun h=>by rw[h,Hm]at HY;cases HY)];exact HY
 have IG:CG S5 pz (.lst [.int 0]) pw=some (.lst (wt.map (cq 12))):=by rw[ak (fun h=>by rw[h,Hm]at JJ;cases JJ)];exact JJ
 generalize CG S5 pz (.lst [.int 0])=Kn at Ib D6 nm IF IG
 have Ko:pp≠pm:=fun h=>by rw[h,Ib]at IF;cases IF
 have Kr:pw≠pm:=fun h=>by rw[h,Ib]at IG;cases IG
 have H6:Kp (CG Kn pm (.lst ((List.replicate D (0:Int)).map PV.int))) d l pp pw pm wt ps (List.replicate D 0):=⟨D6,by rw[ak Ko];exact IF,by rw[ak Kr];exact IG,aa,np,nw,nm,Ko,Kr⟩
 generalize CG Kn pm (.lst ((List.replicate D (0:Int)).map PV.int))=S6 at H6
 simp only[List.set_cons_succ,List.set_cons_zero]
 refine hN _ _ (aB fun N hN=>?_)
 simp only[ap,cC,ag]
 intro pl hpl
 have nl:=H6.D.free hpl
 have IH:pl≠pp:=fun e=>by rw[e,H6.p]at hpl;cases hpl
 have II:pl≠pw:=fun e=>by rw[e,H6.w]at hpl;cases hpl
 have Ht:pl≠pm:=fun e=>by rw[e,H6.m]at hpl;cases hpl
 have H7:=H6.new (o:=.lst []) hpl
 have f7:(CG S6 pl (.lst [])) pl=some (.lst (([]:List Pl).map fun p=>p.cl.pv)):=aa
 generalize CG S6 pl (.lst [])=S7 at H7 f7
 simp only[List.set_cons_succ,List.set_cons_zero]
 have pi:∀i,i < ps.length->12960<=ps.getD i 0/\ps.getD i 0<=2 ^ 19:=fun i h=>by
  rw[aq (List.getElem?_eq_getElem h)]
  exact⟨Z.p0 _ (List.getElem_mem h),Z.p1 _ (List.getElem_mem h)⟩
 refine hN _ _ (aB fun N hN=>?_)
 simp only[bM,bm,v3,lk]
 refine⟨by omega,by omega,?_⟩
 rw[Int.toNat_natCast]
 refine bJ (fun done σ S'=>∃(L:List Pl) (M:Vu) (x4 x8:Option PV),σ=[some (.ref d),some (.int (k:Int)),some (.int (D:Int)),some (.ref pw),x4,some (.ref pp),some (.ref pm),some (.ref pl),x8,none,none,none]/\S' pl=some (.lst (L.map fun p=>p.cl.pv))/\Kp S' d l pp pw pm wt ps M/\Gw wt ps M done.length L (done.length:Int) done.length) ⟨[],_,_,_,rfl,f7,H7,Gw.nil JI.symm⟩ (fun _ _ _ _=>trivial) ?_ ?_
 ·rintro done x rest σ S8 K e ⟨L,M,x4,x8,rfl,f8,H8,G8⟩ hK
  obtain⟨rfl,hi⟩:=bK e
  have hi':done.length < ps.length:=by omega
  have ml:=G8.ml
  have ll:=G8.ll
  simp only[Tg.put,List.set_cons_succ,List.set_cons_zero]
  refine aB fun N2 EI=>?_
  simp only[ap,ah,ac,ag,v3,lk,c3]
  refine CI H8.D (by decide) (by decide) fun a S9 a0 a1 D9 O9=>CI D9 (by decide) (by decide) fun b FV b0 b1 JG Hs=>?_
  have Ge:=H8.EY JG (O9.trans Hs)
  have Gz:=(O9.trans Hs) _ _ f8 nl.1 nl.2
  simp only[aL]
  refine⟨mY (by omega) (by omega),?_⟩
  have ab:=tw (a:=a) (b:=b) (x:=1) (y:=8) a0 (by omega) b0 (by omega)
  generalize a * b=lo at ab
  simp only[List.set_cons_succ,List.set_cons_zero]
  refine EI _ _ (aB fun N2 EI=>?_)
  simp only[d8,ah,ai,ag,v3,lk,c3,al,Ge.m,(dH (row:=M) (j:=done.length) (by omega)).1,fQ,Bool.false_bne,eX,aP,cW]
  obtain⟨i,ei,hi2⟩:∃i:Int,(if decide (lo=0)=true then (1:Int) else 0)=i/\(i=0\/(i=1/\lo=0)):=⟨_,rfl,by
   by_cases h:lo=0
   ·exact .inr ⟨by simp[h],h⟩
   ·exact .inl (by simp[h])⟩
  rw[ei]
  rw[show lp (M.map PV.int).length (done.length:Int)=some done.length from dQ (by rw[List.length_map];omega)]
  have GM:=Ge.set (M.set done.length (M.getD done.length 0+i))
  have FW:(CG FV pm (.lst ((M.set done.length (M.getD done.length 0+i)).map PV.int))) pl=some (.lst (L.map fun p=>p.cl.pv)):=by rw[ak Ht];exact Gz
  rw[List.map_set]at GM FW
  dsimp only
  generalize CG FV pm (.lst ((M.map PV.int).set done.length (.int (M.getD done.length 0+i))))=HW at GM FW
  refine EI _ _ ?_
  simp only[bS,jg,pN,aM,ag,ac,ah,v3,lk,c3,FW,true_and,al,GM.p,oM hi']
  rw[show PV.tup [.int lo,.int 1]=cq 12 (12 * lo)from tj lo]
  have:=pi _ hi'
  refine Dc (by omega) (by omega) ?_
  simp only[j1,Int.toNat_natCast]
  refine⟨by omega,by omega,?_⟩
  simp only[bv,FW,List.length_map]
  have F9:=G8.own Z hi' ab.1 ab.2 hi2
  refine⟨Nat.lt_of_lt_of_le (show L.length < 1000 by omega) (aQ (Nat.le_refl _)),hK _ _ ⟨_,_,_,_,rfl,?_,GM.upd nl IH II Ht,by rw[List.length_append,List.length_singleton];exact F9⟩⟩
  rw[aa,List.map_append]
  simp only[List.map_cons,List.map_nil,Pl.pv,qd,List.map_replicate,wl]
 rintro σ S8 ⟨L0,M0,x4,x8,rfl,f8,H8,G8⟩
 rw[bf,<-JI]at G8
 refine hN _ _ (aB fun N hN=>?_)
 simp only[bM,bm,ah,ac,ag,v3,lk,c3]
 refine CI H8.D (by decide) (by decide) fun g S9 g0 g1 D9 O9=>?_
 have H9:=H8.EY D9 O9
 have f9:=O9 _ _ f8 nl.1 nl.2
 simp only[aP]
 obtain⟨n,en⟩:∃n:Nat,1+g=(n:Int):=⟨(1+g).toNat,by omega⟩
 rw[en]
 refine⟨by omega,by omega,?_⟩
 rw[Int.toNat_natCast]
 refine bJ (fun done σ S'=>∃(L:List Pl) (M:Vu) (x9:Option PV),σ=[some (.ref d),some (.int (k:Int)),some (.int (D:Int)),some (.ref pw),x4,some (.ref pp),some (.ref pm),some (.ref pl),x8,x9,none,none]/\done.length<=n/\S' pl=some (.lst (L.map fun p=>p.cl.pv))/\Kp S' d l pp pw pm wt ps M/\Gw wt ps M ps.length L (ps.length+4 * done.length) (ps.length+5 * done.length)) ⟨L0,M0,_,rfl,Nat.zero_le _,f9,H9,G8.le (by simp) (by simp)⟩ (fun _ _ _ _=>trivial) ?_ ?_
 ·rintro done x rest σ FV K e ⟨L,M,x9,rfl,_,Gz,Ge,GN⟩ hK
  obtain⟨rfl,hi⟩:=bK e
  have ll:=GN.ll
  simp only[Tg.put,List.set_cons_succ,List.set_cons_zero,bS,jg,pN,ag,ac,v3,lk,Gz,true_and]
  refine EL Ge W Z GN.ml fun G M' pf HW g fpf ff GM IJ=>?_
  have FW:=IJ _ _ Gz nl.1 nl.2 Ht
  have gl:=g.ll
  simp only[da,FW,ff,List.length_map]
  refine⟨aQ (by omega),hK _ _ ⟨L++G,M',_,rfl,by rw[List.length_append,List.length_singleton];exact hi,by rw[aa,List.map_append],GM.upd nl IH II Ht,?_⟩⟩
  rw[List.length_append,List.length_singleton]
  exact(GN.grp g).le (by omega) (by omega)
 rintro σ FV ⟨L1,M,x9,rfl,_,Gz,Ge,GN⟩
 rw[bf]at GN
 have GN:=GN.le (B':=100) (n':=20) (by omega) (by omega)
 refine hN _ _ (aB fun N hN=>?_)
 simp only[bM,bm,ac,ag,v3,lk,c3]
 refine CI Ge.D (by decide) (by decide) fun g HW g0 g1 Ll IJ=>?_
 have GM:=Ge.EY Ll IJ
 have FW:=IJ _ _ Gz nl.1 nl.2
 obtain⟨n,rfl⟩:∃n:Nat,g=(n:Int):=⟨g.toNat,by omega⟩
 refine⟨by omega,by omega,?_⟩
 rw[Int.toNat_natCast]
 refine bJ (fun done σ S'=>∃(L:List Pl) (x9 Ic:Option PV),σ=[some (.ref d),some (.int (k:Int)),some (.int (D:Int)),some (.ref pw),x4,some (.ref pp),some (.ref pm),some (.ref pl),x8,x9,Ic,none]/\done.length<=n/\S' pl=some (.lst (L.map fun p=>p.cl.pv))/\Kp S' d l pp pw pm wt ps M/\Gw wt ps M ps.length L 100 (20+done.length)) ⟨L1,_,_,rfl,Nat.zero_le _,FW,GM,GN⟩ (fun _ _ _ _=>trivial) ?_ ?_
 ·rintro done x rest σ F6 K e ⟨L,x9,Ic,rfl,_,FK,GO,F9⟩ hK
  obtain⟨rfl,hi⟩:=bK e
  have ll:=F9.ll
  simp only[Tg.put,List.set_cons_succ,List.set_cons_zero]
  refine aB fun N2 EI=>?_
  simp only[ap,ah,ac,ag,v3,lk,c3,aP]
  refine CI GO.D (by omega) (by omega) fun r Ks r0 r1 Lm Kt=>?_
  have GA:=GO.EY Lm Kt
  have Hu:=Kt _ _ FK nl.1 nl.2
  obtain⟨w,rfl⟩:∃w:Nat,r=(w:Int):=⟨r.toNat,by omega⟩
  simp only[List.set_cons_succ,List.set_cons_zero]
  refine EI _ _ ?_
  have fin:∀(who:Option Nat) (n:Int) (es:Vu) (Gf:ar),(∀d,who=some d->d < ps.length)->es.length=wt.length->(∀e∈es,e.natAbs<=9)->0<=n->n<=2 ^ 21->n+dot es wt<=CW.pw ps who->CU Gf d l->D0 d l Ks Gf->bv (.ref pl) [.tup [qd who,cq 12 n,.tup (es.map PV.int)]] Gf (fun _ S1=>K [some (.ref d),some (.int (k:Int)),some (.int (D:Int)),some (.ref pw),x4,some (.ref pp),some (.ref pm),some (.ref pl),x8,some (.int (done.length:Int)),some (.int (w:Int)),none] S1):=by
   intro who n es Gf hw el eb n0 n1 hd Ie Hv
   have GP:=GA.EY Ie Hv
   have Ig:=Hv _ _ Hu nl.1 nl.2
   simp only[bv,Ig,List.length_map]
   have ok:l8 wt ps ⟨who,n,es,0⟩:=⟨el,fun e he=>by have:=eb e he;omega,n0,by show n<=_;omega,hw,hd,Int.le_refl _,by show 0 * _=0 * _;rw[Int.zero_mul,Int.zero_mul]⟩
   refine⟨Nat.lt_of_lt_of_le (show L.length < 1000 by omega) (aQ (Nat.le_refl _)),hK _ _ ⟨L++[⟨who,n,es,0⟩],_,_,rfl,by rw[List.length_append,List.length_singleton];exact hi,?_,GP.upd nl IH II Ht,by rw[List.length_append,List.length_singleton];exact F9.idle ok rfl⟩⟩
   rw[aa,List.map_append]
   simp only[List.map_cons,List.map_nil,Pl.pv]
  simp only[gc,cE,ah,v3,lk,k6,cj,decide_eq_true_eq]
  split
  ·rename_i hw
   have hw':w < ps.length:=by omega
   have:=pi w hw'
   simp only[bS,jg,pN,ah,aM,ag,ac,v3,lk,Hu,true_and,al,GA.p,oM hw']
   refine DY GA.D W GA.w nw.1 nw.2 (by omega) (by omega) fun n es Gf el eb n0 n1 hd Ie Hv=>?_
   simp only[aP,List.cons_append,List.nil_append]
   exact⟨aQ (by simp),fin (some w) n es Gf (fun e he=>by cases he;exact hw') el eb n0 n1 hd Ie Hv⟩
  ·simp only[bS,jg,pN,ah,aM,ag,ac,v3,lk,c3,Hu,true_and]
   rw[show PV.tup [.int 0,.int 1]=cq 12 0 from tj 0]
   refine DY GA.D W GA.w nw.1 nw.2 (by omega) (by omega) fun n es Gf el eb n0 n1 hd Ie Hv=>?_
   simp only[aP,List.cons_append,List.nil_append]
   exact⟨aQ (by simp),fin none n es Gf (fun e he=>by cases he) el eb n0 n1 hd Ie Hv⟩
 rintro σ F6 ⟨L,x9,Ic,rfl,_,FK,GO,F9⟩
 rw[bf]at F9
 have ll:=F9.ll
 refine hN _ _ (aB fun N hN=>?_)
 simp only[ap,cC,ag]
 intro pn GB
 have nn:=GO.D.free GB
 have JK:pl≠pn:=fun h=>by rw[h,GB]at FK;cases FK
 have Ln:pn≠pp:=fun e=>by rw[e,GO.p]at GB;cases GB
 have Lo:pn≠pw:=fun e=>by rw[e,GO.w]at GB;cases GB
 have Lp:pn≠pm:=fun e=>by rw[e,GO.m]at GB;cases GB
 have Hu:(CG F6 pn (.lst [])) pl=some (.lst (L.map fun p=>p.cl.pv)):=by rw[ak JK];exact FK
 have Ku:(CG F6 pn (.lst [])) pn=some (.lst (([]:List Pl).map fun p=>p.cl.pv)):=aa
 have GA:=GO.new (o:=.lst []) GB
 generalize CG F6 pn (.lst [])=Ks at Hu Ku GA
 simp only[List.set_cons_succ,List.set_cons_zero]
 refine hN _ _ (aB fun N hN=>?_)
 refine⟨fun n σ S'=>∃rs os:List Pl,σ=[some (.ref d),some (.int (k:Int)),some (.int (D:Int)),some (.ref pw),x4,some (.ref pp),some (.ref pm),some (.ref pl),x8,x9,Ic,some (.ref pn)]/\S' pl=some (.lst (rs.map fun p=>p.cl.pv))/\S' pn=some (.lst (os.map fun p=>p.cl.pv))/\rs.length=n/\(os++rs).Perm L/\Kp S' d l pp pw pm wt ps M,⟨_,L,[],rfl,Hu,Ku,rfl,.refl _,GA⟩,?_⟩
 rintro n2 σ Gf ⟨rs,os,rfl,Ig,JL,ln,hp,GP⟩
 have Lq:=hp.length_eq
 rw[List.length_append]at Lq
 simp only[cE,ah,ai,ag,v3,lk,c3,bA,Ig,List.length_map,rP,cj,decide_eq_true_eq]
 split
 ·rename_i hp0
  refine⟨fun σ' S'=>∃rs os:List Pl,σ'=[some (.ref d),some (.int (k:Int)),some (.int (D:Int)),some (.ref pw),x4,some (.ref pp),some (.ref pm),some (.ref pl),x8,x9,Ic,some (.ref pn)]/\S' pl=some (.lst (rs.map fun p=>p.cl.pv))/\S' pn=some (.lst (os.map fun p=>p.cl.pv))/\rs.length < n2/\(os++rs).Perm L/\Kp S' d l pp pw pm wt ps M,?_,?_⟩
  ·rintro σ' S' ⟨rs,os,a,b,c,lt',r⟩
   exact⟨_,lt',rs,os,a,b,c,rfl,r⟩
  ·simp only[bS,jg,pN,ag,ac,ai,v3,lk,JL,Ig,bA,List.length_map,true_and]
   refine CI GP.D (by omega) (by omega) fun r SA r0 r1 DA OA=>?_
   obtain⟨i,rfl⟩:∃i:Nat,r=(i:Int):=⟨r.toNat,by omega⟩
   have hi:i < rs.length:=by omega
   have fA:=OA _ _ Ig nl.1 nl.2
   have gA:=OA _ _ JL nn.1 nn.2
   have HA:=GP.EY DA OA
   simp only[lF,fA,List.length_map,CB hi,List.getElem?_map,List.getElem?_eq_getElem hi,Option.map_some]
   refine⟨by omega,by omega,?_⟩
   have gB:(CG SA pl (.lst ((rs.map fun p=>p.cl.pv).eraseIdx i))) pn=some (.lst (os.map fun p=>p.cl.pv)):=by rw[ak (Ne.symm JK)];exact gA
   simp only[bv,gB,List.length_map]
   exact⟨Nat.lt_of_lt_of_le (show os.length < 1000 by omega) (aQ (Nat.le_refl _)),rs.eraseIdx i,os++[rs[i]],by rw[ak JK,aa,jA],by rw[aa,List.map_append];rfl,by rw[List.length_eraseIdx_of_lt hi];omega,tx hp hi,(HA.upd nl IH II Ht).upd nn Ln Lo Lp⟩
 ·rename_i hp0
  obtain rfl:rs=[]:=List.length_eq_zero_iff.mp (by omega)
  rw[List.append_nil]at hp
  refine hN _ _ ?_
  have ml:=F9.ml
  simp only[aE,aM,ag,ai,ac,v3,lk,aD,eV,JL,GP.m]
  refine CZ (is:=M) (ns:=ps) (.lst GP.m) (.lst GP.p) ml (by omega) (fun i hi=>?_) (fun n hn=>by have:=Z.p0 n hn;have:=Z.p1 n hn;omega) ?_
  ·obtain⟨e,he,rfl⟩:=List.getElem_of_mem hi
   have:=F9.mb e
   rw[aq (List.getElem?_eq_getElem he)]at this
   omega
  ·exact kk ⟨wt,ps,M,os⟩ Gf ⟨⟨F9.pl.perm hp.symm,ml,F9.mb,by rw[hp.length_eq];omega⟩,W,Z⟩ GP.D
def Pd.n1{p:Pd}(h:p.Ok):1<=p.L.length:=by
 obtain⟨q,hq,_⟩:=h.g.pl.fx 0 (by have:=h.Z.l1;omega)
 exact List.length_pos_of_mem hq
theorem Pd.Gy{p:Pd}(h:p.Ok){mix:Vu}(hm:mix.length=p.ps.length)(m0:∀x∈mix,0<=x/\x<=2 ^ 30):bx (p.L.map Pl.cl) mix p.wt.length:=
 h.g.pl.Gy (by have:=h.W.l;omega) (by have:=h.Z.l;omega) (Pd.n1 h) h.g.ll hm m0
theorem Pd.mb{p:Pd}(h:p.Ok):∀x∈p.M,0<=x/\x<=100:=fun x hx=>by
 obtain⟨e,he,rfl⟩:=List.getElem_of_mem hx
 have:=h.g.mb e
 rw[aq (List.getElem?_eq_getElem he)]at this
 exact this
def Pd.GQ{p:Pd}(h:p.Ok):bx (p.L.map Pl.cl) p.M p.wt.length:=Pd.Gy h h.g.ml fun x hx=>by have:=Pd.mb h x hx;omega
def Pd.GR{p:Pd}(h:p.Ok):bx (p.L.map Pl.cl) (List.replicate p.M.length 0) p.wt.length:=Pd.Gy h (by rw[List.length_replicate];exact h.g.ml) fun x hx=>by rw[(List.mem_replicate.mp hx).2];omega
theorem Pd.most{p:Pd}(h:p.Ok){v:PV}(o:Out (p.L.map Pl.cl) p.M p.wt.length v):∃a b c,v = .tup [.str "most",cq 12 (dot p.M p.ps),a,b,c]:=by
 have P:=Pd.GQ h
 rcases o.right P with⟨q,g,X,Y,pr,m⟩|⟨q,y,e⟩
 ·have e:=h.g.pl.most h.W.w0 h.g.ml P m
  have mv:=m.v
  rw[e]at mv
  exact⟨_,_,_,mv⟩
 ·exact((h.g.pl.He h.W.w0 P rfl).F8 P e).elim
def Pd.none{p:Pd}(h:p.Ok){v:PV}(o:Out (p.L.map Pl.cl) (List.replicate p.M.length 0) p.wt.length v):∃a b c,v = .tup [.str "most",.tup [.int 0,.int 1],a,b,c]:=by
 have P:=Pd.GR h
 rcases o.right P with⟨q,g,X,Y,pr,m⟩|⟨q,y,e⟩
 ·have mv:=m.v
  have g0:g=0:=by rw[<-m.sum,iY]
  have cb:=(iG P).1
  rw[eJ (R:=1) (m:=0) (Int.mul_pos m.qy.q0 (by omega)) (by decide) (by rw[g0];omega),<-ig]at mv
  exact⟨_,_,_,mv⟩
 ·exact((h.g.pl.He h.W.w0 P rfl).F8 P e).elim
def Pd.small{p:Pd}(h:p.Ok):(dot p.M p.ps).natAbs < 2 ^ 60:=by
 have:=kf (a:=100) (b:=2 ^ 19) (is:=p.M) (ns:=p.ps) (fun i hi=>by have:=Pd.mb h i hi;omega) (fun n hn=>by have:=h.Z.p0 n hn;have:=h.Z.p1 n hn;omega) (by rw[h.g.ml];exact h.Z.l)
 omega
noncomputable def AB(n:Int):PyData:=.tuple [.int (M3.aK n 12),.int (M3.aC n 12)]
def oN{n:Int}(h:n.natAbs < 2 ^ 60){S:ar}{Q:bH}(q:Q (.str (AB n).shown) S):iH [cq 12 n] S Q:=by
 have z:=(FK h).sz
 have s:Sh S (.tup [.int (M3.aK n 12),.int (M3.aC n 12)]) (AB n) 3849 1:=Sh.tup (Sh.cons (Sh.i (i:=M3.aK n 12) (by have:=z.1;omega)) (Sh.cons (Sh.i (i:=M3.aC n 12) (by have:=z.2.1;omega)) (FR.G6 0)))
 exact lP s (by decide) (by decide) q
noncomputable def Lr:PyData:=.tuple [.str "most",.tuple [.int 0,.int 1]]
def tz{S:ar}{Q:bH}(q:Q (.str Lr.shown) S):iH [.tup [.str "most",.tup [.int 0,.int 1]]] S Q:=
 lP (Sh.tup (Sh.cons (Sh.s "most" 1 (by decide +kernel) (by decide +kernel)) (Sh.cons (Sh.tup (Sh.cons (Sh.i (i:=0) (by decide)) (Sh.cons (Sh.i (i:=1) (by decide)) (FR.G6 0)))) (FR.G6 1)))) (by decide) (by decide) q
def ne_str{z:Str}{S:ar}{Q:bH}(q:Q (.bl false) S):fQ true (.str z) (.str z) S Q:=by
 simp only[fQ,decide_true,bne_self_eq_false];exact q
def AC(L:List Pl):(L.map fun p=>p.cl.pv)=(L.map Pl.cl).map Cl.pv:=by rw[List.map_map];rfl
abbrev vh(w:aF):Prop:=∀{ns:Vu} {S:ar} {Q:bH} {E:cg},ns.length<=63->(∀S',Q (.bl true) S')->w [.cl (ns.map PV.int)] S Q E
def yw{x0 x1 x2:aF}(E4:lO x0)(Eg:nM x1)(Em:iu x2):vh (bj 7 (s_ x0 x1 x2)):=by
 intro ns S Q E hl k
 unfold s_
 refine fK ?_
 rw[show az 7 [PV.cl (ns.map PV.int)]=[some (.cl (ns.map PV.int)),none,none,none,none,none,none] from rfl]
 refine aB fun N hN=>?_
 simp only[ap,ac,ag,v3,lk,c3]
 refine E4 hl (by decide) (by decide) fun d l S1 _ _ D1 _=>?_
 simp only[List.set_cons_succ,List.set_cons_zero]
 refine hN _ _ (aB fun N hN=>?_)
 simp only[ap,aw,bm,c3]
 refine⟨by decide,by decide,?_⟩
 refine bC (fun done ys S'=>∃ps:List Pd,ys=ps.map Pd.pv/\ps.length=done.length/\done.length<=4/\(∀p∈ps,p.Ok)/\CU S' d l) ⟨[],rfl,rfl,Nat.zero_le _,(fun z hz=>by cases hz),D1⟩ ?_ ?_ ?_
 ·rintro done ys S' ⟨ws,rfl,e,hd,_⟩
  exact⟨trivial,aQ (by rw[List.length_map,e];omega)⟩
 ·rintro done x rest ys S' K e ⟨ps,rfl,e2,hd,hw,D'⟩ hK
  obtain⟨rfl,hi⟩:=bK (n:=4) e
  simp only[Tg.put,bN,List.reduceReplicate,List.map_cons,List.map_nil,List.cons_append,List.nil_append,List.set_cons_zero,bg,if_true,ac,ag,v3,lk,List.getElem?_cons_zero,List.getElem?_cons_succ,Option.join]
  refine Eg D' fun p S2 P2 D2=>hK _ _ ⟨ps++[p],by simp,by simp[e2],by rw[List.length_append];exact hi,fun y hy=>?_,D2⟩
  rcases List.mem_append.mp hy with hy|hy
  ·exact hw y hy
  ·rw[List.mem_singleton.mp hy];exact P2
 rintro ys S2 ⟨ps,rfl,e2,_,hps,D2⟩ pp hpp
 have e2:ps.length=4:=e2
 have f3:(CG S2 pp (.lst (ps.map Pd.pv))) pp=some (.lst (ps.map Pd.pv)):=aa
 generalize CG S2 pp (.lst (ps.map Pd.pv))=S3 at f3
 simp only[List.set_cons_succ,List.set_cons_zero]
 refine hN _ _ (aB fun N hN=>?_)
 simp only[bM,aO,ah,bV,pM,k5,v3,lk,c3,iN,f3]
 intro p1 hp1
 have f4:(CG S3 p1 (.lst (cV (ps.map Pd.pv) none (some 1)))) pp=some (.lst (ps.map Pd.pv)):=by rw[ak (fun h=>by rw[h,hp1]at f3;cases f3)];exact f3
 have g4:(CG S3 p1 (.lst (cV (ps.map Pd.pv) none (some 1)))) p1=some (.lst ((ps.take 1).map Pd.pv)):=by
  rw[aa,show cV (ps.map Pd.pv) none (some 1)=(ps.map Pd.pv).take 1 from m4 (n:=1) (by rw[List.length_map];omega),List.map_take]
 generalize CG S3 p1 (.lst (cV (ps.map Pd.pv) none (some 1)))=S4 at f4 g4
 simp only[aP,f4,g4]
 refine⟨aQ (by simp;omega),fun p2 hp2=>?_⟩
 rw[<-List.map_append]
 have Gd:∀p∈ps++ps.take 1,p.Ok:=fun p hp=>by
  rcases List.mem_append.mp hp with hp|hp
  ·exact hps p hp
  ·exact hps p (List.mem_of_mem_take hp)
 generalize ps++ps.take 1=qs at Gd
 have f5:(CG S4 p2 (.lst (qs.map Pd.pv))) p2=some (.lst (qs.map Pd.pv)):=aa
 generalize CG S4 p2 (.lst (qs.map Pd.pv))=S5 at f5
 simp only[bY,f5]
 refine bJ (fun done σ S'=>Ext S5 S'/\∃x3 x4 x5 x6,σ=[some (.cl (ns.map PV.int)),some (.ref d),some (.ref pp),x3,x4,x5,x6]) ⟨.refl,_,_,_,_,rfl⟩ (fun _ _ _ ⟨X,_⟩=>X _ _ f5) ?_ ?_
 ·rintro done x rest σ S6 K e ⟨X6,x3,x4,x5,x6,rfl⟩ hK
  have hx:x∈qs.map Pd.pv:=by rw[e];simp
  obtain⟨p,hp,rfl⟩:=List.mem_map.mp hx
  have ok:=Gd p hp
  have sm:=Pd.small ok
  simp only[Pd.pv,AC,Tg.put,Tg.Dr,List.set_cons_zero,List.set_cons_succ]
  refine aB fun N2 EI=>?_
  simp only[ap,ac,ag,v3,lk]
  refine Em (Pd.GQ ok) fun v S7 X7 o7=>?_
  obtain⟨a,b,c,rfl⟩:=Pd.most ok o7
  simp only[List.set_cons_zero,List.set_cons_succ]
  refine EI _ _ (aB fun N2 EI=>?_)
  simp only[gc,vC,cE,ah,ai,ag,v3,lk,c3,al,lN,pV,d5]
  refine ne_str ?_
  simp only[Bool.false_eq_true,if_false]
  refine oN sm (oN sm (ne_str ?_))
  simp only[Bool.false_eq_true,if_false]
  refine EI _ _ ?_
  simp only[gc,cE,ah,ai,ac,bV,pM,k5,aM,ag,v3,lk,c3,d5,bA,List.length_map,j1,Int.toNat_natCast]
  refine⟨by omega,by have:=ok.g.ml;have:=ok.Z.l;omega,?_⟩
  rw[show List.replicate p.M.length (PV.int 0)=(List.replicate p.M.length (0:Int)).map PV.int by rw[List.map_replicate]]
  refine Em (Pd.GR ok) fun v S8 X8 o8=>?_
  obtain⟨a',b',c',rfl⟩:=Pd.none ok o8
  simp only[iN]
  rw[show cV [PV.str "most",.tup [.int 0,.int 1],a',b',c'] none (some 2)=[.str "most",.tup [.int 0,.int 1]] from m4 (n:=2) (by simp)]
  refine tz (tz (ne_str ?_))
  simp only[Bool.false_eq_true,if_false]
  exact hK _ _ ⟨X6.trans (X7.trans X8),_,_,_,_,rfl⟩
 ·rintro σ S6 ⟨X6,x3,x4,x5,x6,rfl⟩
  refine hN _ _ ?_
  simp only[aE,c3]
  exact k S6
def nN:cp cR:=CI
def v7:fy dq:=DR
def yx:yb dq:=uT v7
def gR:eK bP:=p_ yx
def mh:iW gN:=m9
def kZ:iF cL:=si mh
def tD:ou kW:=sr kZ
def AD:kI b7:=Fl mh
def tE:gK cx:=Ek E9
def tF:gL bL:=El kZ
def AE:iq eB:=sR AD E7 E8 Fc tE EG
def vi:ir ga:=EH (sy su) tD (qc (uU tD) (p8 kZ))
def vj:iu iw:=Em AE E_ (Fb Fa) (FA tF) tE (Fd AD kZ vi tF)
def nO:mf cS:=Dc gR
def k4:jx bD:=CZ gR
def vk:nL eE:=EL nN nO k4 gR Fg
def tG:kY dL:=DY nN nO gR k4
def qm:nM dv:=Eg nN v7 gR nO vk tG k4
def tH:∀ns:List Int,ns.length<=63->me [.cl (ns.map PV.int)] (fun _=>none) (fun v _=>v = .bl true) fD:=fun ns h=>yw E4 qm vj h fun _=>rfl
end G36
namespace L3
open PySem L2 Xc
def yy{P:List Value->Prop}(h:∀a,P [a])(us:Vv)(hl:us.length=1):P us:=match us,hl with|[_],_=>h _
def nP{P:List Value->Prop}(h:∀a b,P [a,b])(us:Vv)(hl:us.length=2):P us:=match us,hl with|[_,_],_=>h _ _
def v8{P:List Value->Prop}(h:∀a b c,P [a,b,c])(us:Vv)(hl:us.length=3):P us:=match us,hl with|[_,_,_],_=>h _ _ _
def AF{P:List Value->Prop}(h:∀a b c d,P [a,b,c,d])(us:Vv)(hl:us.length=4):P us:=match us,hl with|[_,_,_,_],_=>h _ _ _ _
section
variable {K:Vo} {h:Heap} {mg:Vr} {x c m q:Str} {st:Stmt} {ps fl:Vs}
noncomputable def qo:Option (Option Value)->Bool
 |some none=>true
 |_=>false
def oO{o:Option (Option Value)}(h:qo o=true):o=some none:=by
 unfold qo at h;split at h
 ·rfl
 ·cases h
def FnAt(K:Vo)(f:Addr)(m q:Str)(st:Stmt):Prop:=∃(oc kV doc pm cdv ct:Value) (od an:Option Addr) (osl:Array (Option Value)),
 K.lookup f=some ⟨oc,od,.func (PySem.W.fnOf m q (cZ st) (bG st) (aJ st) .none kV doc pm an cdv ct),osl⟩/\PySem.W.codeIn K cdv q=true/\PySem.W.keepIn K (.ref f)=true
abbrev oP(m q:Str)(st:Stmt)(ps:Vs):Prop:=∀(kV doc pm:Value) (an:Option Addr) (cdv ct:Value) (us:Vv),us.length=ps.length->bindArgs (PySem.W.fnOf m q (cZ st) (bG st) (aJ st) .none kV doc pm an cdv ct) ⟨us,[]⟩=pure (ps.zip us)
def FnAt.mk{f:Addr}(a:FnAt K f m q st)(hb:oP m q st ps):∃fd,Gj K m q st f fd/\Binds K fd ps []/\PySem.W.keepIn K (.ref f)=true:=by
 obtain⟨oc,kV,doc,pm,cdv,ct,od,an,osl,l,cc,k⟩:=a
 exact⟨_,ku l cc k,(ku l cc k).binds hb,k⟩
def DZ(K:Vo)(x:Str)(st:Stmt):Prop:=∃f,PySem.W.nsIn K mainGlobals x=some (some (.ref f))/\FnAt K f x x st
def DZ.own(X:K.In h)(G:h.Ns mainGlobals mg)(a:DZ K x st)(hb:oP x x st ps):cf K mg x st ps:=by
 obtain⟨f,n,a⟩:=a
 obtain⟨fd,F,b,k⟩:=a.mk hb
 exact⟨f,fd,F,b,k,PySem.W.mg_of X G n⟩
def DZ.law{fa:Addr}(X:K.In h)(G:h.Ns mainGlobals mg)(a:DZ K x st)(hfa:mg x=some (.ref fa))(hb:oP x x st ps):∃kV doc pm an cdv ct,AT K mg x st ps fa (PySem.W.fnOf x x (cZ st) (bG st) (aJ st) .none kV doc pm an cdv ct):=by
 obtain⟨f,n,oc,kV,doc,pm,cdv,ct,od,an,osl,l,cc,k⟩:=a
 cases hfa.symm.trans (PySem.W.mg_of X G n)
 exact⟨kV,doc,pm,an,cdv,ct,ku l cc k,(ku l cc k).binds hb,k,hfa⟩
def IK(K:Vo)(c:Str)(fl:Vs):Prop:=∃C,PySem.W.nsIn K mainGlobals c=some (some (.ref C))/\PySem.W.findIn K (.ref C) "__setattr__" = some (some (.builtin "object.__setattr__"))/\PySem.W.keepIn K (.ref C)=true/\
 (PySem.W.plainGet K C Str.empty&&PySem.W.hasDictIn K C&&PySem.W.plainOver K C&&PySem.W.makesIn K C&&fl.all fun f=>qo (PySem.W.findIn K (.ref C) f))=true
def IK.cl(X:K.In h)(G:h.Ns mainGlobals mg)(a:IK K c fl):yH K mg c fl:=by
 obtain⟨C,n,s,k,r⟩:=a
 simp only[Bool.and_eq_true,List.all_eq_true]at r
 obtain⟨⟨⟨⟨r1,r2⟩,r3⟩,r4⟩,r5⟩:=r
 exact⟨C,n,PySem.W.mg_of X G n,⟨r1,r2,r3,s⟩,r4,k,fun f hf=>oO (r5 f hf)⟩
def GC(K:Vo)(c m q:Str)(st:Stmt):Prop:=∃C f,PySem.W.nsIn K mainGlobals c=some (some (.ref C))/\PySem.W.findIn K (.ref C) m=some (some (.ref f))/\PySem.W.isFn K (.ref f)=true/\FnAt K f m q st
def GC.own(a:GC K c m q st)(k:yH K mg c fl)(hb:oP m q st ps):lQ K c m q st ps:=by
 obtain⟨C,f,n,e,i,a⟩:=a
 obtain⟨fd,F,b,kp⟩:=a.mk hb
 obtain⟨C',n',_,cl,_⟩:=k.ex
 cases EB.inj (c:=c) n n'
 exact⟨C,f,fd,n,cl,⟨e,i,kp⟩,F,b⟩
def iR(X:K.In h)(G:h.Ns mainGlobals mg){l:Vs}(a:(l.all fun x=>qo (PySem.W.nsIn K mainGlobals x))=true)(hx:x∈l:=by decide):mg x=none:=PySem.W.mg_none_of X G (oO (List.all_eq_true.mp a x hx))
section
variable {f C:Addr} {oc kV doc pm cdv ct:Value} {od an:Option Addr} {osl:Array (Option Value)}
def CC(n:PySem.W.nsIn K mainGlobals x=some (some (.ref f)))(l:K.lookup f=some ⟨oc,od,.func (PySem.W.fnOf x x (cZ st) (bG st) (aJ st) .none kV doc pm an cdv ct),osl⟩)(cc:PySem.W.codeIn K cdv x=true)(k:PySem.W.keepIn K (.ref f)=true):DZ K x st:=⟨f,n,oc,kV,doc,pm,cdv,ct,od,an,osl,l,cc,k⟩
def CD(n:PySem.W.nsIn K mainGlobals c=some (some (.ref C)))(e:PySem.W.findIn K (.ref C) m=some (some (.ref f)))(i:PySem.W.isFn K (.ref f)=true)(l:K.lookup f=some ⟨oc,od,.func (PySem.W.fnOf m q (cZ st) (bG st) (aJ st) .none kV doc pm an cdv ct),osl⟩)(cc:PySem.W.codeIn K cdv q=true)(k:PySem.W.keepIn K (.ref f)=true):GC K c m q st:=⟨C,f,n,e,i,oc,kV,doc,pm,cdv,ct,od,an,osl,l,cc,k⟩
def CF(n:PySem.W.nsIn K mainGlobals c=some (some (.ref C)))(e:PySem.W.findIn K (.ref C) "__setattr__" = some (some (.builtin "object.__setattr__")))(k:PySem.W.keepIn K (.ref C)=true)
  (r:(PySem.W.plainGet K C Str.empty&&PySem.W.hasDictIn K C&&PySem.W.plainOver K C&&PySem.W.makesIn K C&&fl.all fun f=>qo (PySem.W.findIn K (.ref C) f))=true):IK K c fl:=⟨C,n,e,k,r⟩
end
end
end L3
namespace G36
open PySem L2 L3
def yz{l:PySem.W.OpenLaw}{w:World}{K:Vo}{h:Heap}{mg:Vr}{fa:Addr}(X:K.In h)(G:h.Ns mainGlobals mg)(hfa:mg "law" = some (.ref fa))
  (Eh:DZ K "common" (cw 1))
  (DE:DZ K "fraction" (cw 2))
  (EM:DZ K "plus" (cw 3))
  (Ex:DZ K "times" (cw 4))
  (EN:DZ K "less" (cw 5))
  (DS:DZ K "highest" (cw 6))
  (DF:DZ K "together" (cw 7))
  (DG:DZ K "worth_of" (cw 8))
  (De:DZ K "common_bottom" (cw 10))
  (Do:DZ K "row_of_deed" (cw 11))
  (Du:DZ K "row_of_jar" (cw 12))
  (DT:DZ K "without" (cw 13))
  (C2:GC K "Balance" "__init__" "Balance.__init__" (mt 14 0))
  (Di:GC K "Balance" "hold" "Balance.hold" (mt 14 1))
  (C4:GC K "Balance" "gaining" "Balance.gaining" (mt 14 2))
  (C9:GC K "Balance" "sooner" "Balance.sooner" (mt 14 3))
  (C5:GC K "Balance" "used_up" "Balance.used_up" (mt 14 4))
  (C6:GC K "Balance" "held_by" "Balance.held_by" (mt 14 5))
  (Dv:DZ K "balance_of" (cw 15))
  (CN:DZ K "first_that_takes_nothing" (cw 16))
  (DH:DZ K "price_of" (cw 17))
  (DU:DZ K "endless" (cw 18))
  (EO:DZ K "most" (cw 19))
  (DV:DZ K "weighed" (cw 20))
  (Dy:DZ K "_law_deal" (cw 22))
  (Dz:DZ K "_law_draw" (cw 23))
  (DI:DZ K "_law_low" (cw 24))
  (DB:DZ K "_law_plus" (cw 25))
  (Df:DZ K "_law_worth_of" (cw 26))
  (DC:DZ K "_law_less" (cw 27))
  (Dp:DZ K "_law_turned" (cw 28))
  (Dw:DZ K "_law_group" (cw 29))
  (Dq:DZ K "_law_lesser" (cw 30))
  (Dj:DZ K "_law_planted" (cw 31))
  (CO:IK K "Balance" ["rows","held","bottom"])
  (FL:((["abs","enumerate","int","len","list","max","min","range","repr","reversed","tuple","zip"]:Vs).all fun x=>qo (PySem.W.nsIn K mainGlobals x))=true)
  (F_:DZ K "law" (cw 32))
  : ∃fd:FuncData,(∀(s:Shared) (v:Value),BindsTo s fd ⟨[v],[]⟩ [("_law_script",v)])/\∀base:Heap,K.In base->base.Ns mainGlobals mg->gW l.prog w K mg base vx 9 fa fd ["_law_script"] (zE K 1 me):=by
 obtain⟨kV,doc,pm,an,cdv,ct,O⟩:=F_.law X G hfa (ps:=["_law_script"]) (fun _ _ _ _ _ _=>yy fun _=>rfl)
 exact⟨_,fun s v=>.of_eq rfl,fun base _ _=>(yp (P:=l.prog) (w:=w) (base:=base) ⟨Eh.own X G (fun _ _ _ _ _ _=>nP fun _ _=>rfl),
  DE.own X G (fun _ _ _ _ _ _=>nP fun _ _=>rfl),
  EM.own X G (fun _ _ _ _ _ _=>nP fun _ _=>rfl),
  Ex.own X G (fun _ _ _ _ _ _=>nP fun _ _=>rfl),
  EN.own X G (fun _ _ _ _ _ _=>nP fun _ _=>rfl),
  DS.own X G (fun _ _ _ _ _ _=>yy fun _=>rfl),
  DF.own X G (fun _ _ _ _ _ _=>yy fun _=>rfl),
  DG.own X G (fun _ _ _ _ _ _=>nP fun _ _=>rfl),
  De.own X G (fun _ _ _ _ _ _=>yy fun _=>rfl),
  Do.own X G (fun _ _ _ _ _ _=>AF fun _ _ _ _=>rfl),
  Du.own X G (fun _ _ _ _ _ _=>v8 fun _ _ _=>rfl),
  DT.own X G (fun _ _ _ _ _ _=>AF fun _ _ _ _=>rfl),
  C2.own (mg:=mg) (CO.cl X G) (fun _ _ _ _ _ _=>v8 fun _ _ _=>rfl),
  Di.own (mg:=mg) (CO.cl X G) (fun _ _ _ _ _ _=>v8 fun _ _ _=>rfl),
  C4.own (mg:=mg) (CO.cl X G) (fun _ _ _ _ _ _=>yy fun _=>rfl),
  C9.own (mg:=mg) (CO.cl X G) (fun _ _ _ _ _ _=>AF fun _ _ _ _=>rfl),
  C5.own (mg:=mg) (CO.cl X G) (fun _ _ _ _ _ _=>nP fun _ _=>rfl),
  C6.own (mg:=mg) (CO.cl X G) (fun _ _ _ _ _ _=>AF fun _ _ _ _=>rfl),
  Dv.own X G (fun _ _ _ _ _ _=>v8 fun _ _ _=>rfl),
  CN.own X G (fun _ _ _ _ _ _=>nP fun _ _=>rfl),
  DH.own X G (fun _ _ _ _ _ _=>v8 fun _ _ _=>rfl),
  DU.own X G (fun _ _ _ _ _ _=>v8 fun _ _ _=>rfl),
  EO.own X G (fun _ _ _ _ _ _=>v8 fun _ _ _=>rfl),
  DV.own X G (fun _ _ _ _ _ _=>nP fun _ _=>rfl),
  Dy.own X G (fun _ _ _ _ _ _=>nP fun _ _=>rfl),
  Dz.own X G (fun _ _ _ _ _ _=>nP fun _ _=>rfl),
  DI.own X G (fun _ _ _ _ _ _=>nP fun _ _=>rfl),
  DB.own X G (fun _ _ _ _ _ _=>nP fun _ _=>rfl),
  Df.own X G (fun _ _ _ _ _ _=>nP fun _ _=>rfl),
  DC.own X G (fun _ _ _ _ _ _=>nP fun _ _=>rfl),
  Dp.own X G (fun _ _ _ _ _ _=>yy fun _=>rfl),
  Dw.own X G (fun _ _ _ _ _ _=>AF fun _ _ _ _=>rfl),
  Dq.own X G (fun _ _ _ _ _ _=>v8 fun _ _ _=>rfl),
  Dj.own X G (fun _ _ _ _ _ _=>yy fun _=>rfl),
  CO.cl X G,
  iR (x:="abs") X G FL,
  iR (x:="enumerate") X G FL,
  iR (x:="int") X G FL,
  iR (x:="len") X G FL,
  iR (x:="list") X G FL,
  iR (x:="max") X G FL,
  iR (x:="min") X G FL,
  iR (x:="range") X G FL,
  iR (x:="repr") X G FL,
  iR (x:="reversed") X G FL,
  iR (x:="tuple") X G FL,
  iR (x:="zip") X G FL⟩ O).ok⟩
def walk{l:PySem.W.OpenLaw}{q:Program}{loose:Vs}{XP:(Vr)->Heap->Prop}{YP:World->Heap->Prop}{d:DefRec}{K:Params->PySem.W.Frag}(hn:l.most=some 63)(hdf:d.params.defaults=[])
  (hY:∀(w:World) (h:Heap),YP w h->(K w.params).In h)
  (F:∀(w:World) (mg:Vr) (fa:Addr) (h:Heap),(K w.params).In h->h.Ns mainGlobals mg->mg d.name=some (.ref fa)->
   ∃fd:FuncData,(∀(s:Shared) (u:Value),BindsTo s fd ⟨[u],[]⟩ [("_law_script",u)])/\∀base:Heap,(K w.params).In base->base.Ns mainGlobals mg->gW l.prog w (K w.params) mg base vx 9 fa fd ["_law_script"] (zE (K w.params) 1 me)) :
  PySem.W.WalkO q loose XP YP l.row.toRowW d [] (fun f vs=>PySem.call f vs):=
 L2.uu (n:=63) (k:=9) (x:="_law_script") (CX:=fun _=>vx) (sp:=fun w=>zE (K w.params) 1 me) hn (by decide) hdf ⟨rfl,by decide,by decide,rfl⟩ hY F (fun _ _ a ns hl hO hS=>BE hO hS (tH ns hl)) fun _ _ _ _ _ z=>z
end G36
local macro_rules | `(tactic| walk_at "k")=>`(tactic| (apply L3.CC; k_is; k_is; k_is; k_is))
local macro_rules | `(tactic| walk_at "m")=>`(tactic| (apply L3.CD; k_is; k_is; k_is; k_is; k_is; k_is))
local macro_rules | `(tactic| walk_at "c")=>`(tactic| (apply L3.CF; k_is; k_is; k_is; kernel_rfl))
open PySem PySem.W PyProof.Rows
set_option maxRecDepth 100000 in
set_option maxHeartbeats 0 in
theorem PySem.Challenge.cw_dueworth_k36_planted_sums_holds : PySem.Challenge.rw_dueworth_k36_planted_sums.Holds := by
 w_on; refine holds_law E36.said fun said => ?_
 refine holds_open (q := E36.vw) (loose := []) (Xt := fun s => (xlAt E36.vw [] s && recOk (RowW.records E36.rr) s)) (XP := XL E36.vw []) (N := 2632)
  (Yf := Hook.obs E36.hk) (Ya := Hook.val E36.hk) (YP := Hook.says (kHook E36.early.heap_1 E36.as E36.BY)) E36.left (Hook.of E36.hk) (Hook.keeps E36.hk) (fun s e => xl_of s (Bool.and_eq_true_iff.mp e).1)
  XL.keeps rfl rfl rfl (fun s e => recFacts_of (Bool.and_eq_true_iff.mp e).2) rfl (by assumption)
  (by decide +kernel) ⟨rfl, rfl, rfl, rfl, rfl, by decide +kernel⟩ ?hw ?hc
 (case hw => w_witness2)
 k_fill
 refine G36.walk (l := PySem.Challenge.rw_dueworth_k36_planted_sums) rfl rfl (fun w h Y => PySem.W.kIn_of Y) ?F
 case F =>
  intro w mg fa h KX G hmg
  refine' G36.yz KX G hmg ?Eh ?DE ?EM ?Ex ?EN ?DS ?DF ?DG ?De ?Do ?Du ?DT ?C2 ?Di ?C4 ?C9 ?C5 ?C6 ?Dv ?CN ?DH ?DU ?EO ?DV ?Dy ?Dz ?DI ?DB ?Df ?DC ?Dp ?Dw ?Dq ?Dj ?CO ?FL ?F_
  (case Eh => walk_at "k")
  (case DE => walk_at "k")
  (case EM => walk_at "k")
  (case Ex => walk_at "k")
  (case EN => walk_at "k")
  (case DS => walk_at "k")
  (case DF => walk_at "k")
  (case DG => walk_at "k")
  (case De => walk_at "k")
  (case Do => walk_at "k")
  (case Du => walk_at "k")
  (case DT => walk_at "k")
  (case C2 => walk_at "m")
  (case Di => walk_at "m")
  (case C4 => walk_at "m")
  (case C9 => walk_at "m")
  (case C5 => walk_at "m")
  (case C6 => walk_at "m")
  (case Dv => walk_at "k")
  (case CN => walk_at "k")
  (case DH => walk_at "k")
  (case DU => walk_at "k")
  (case EO => walk_at "k")
  (case DV => walk_at "k")
  (case Dy => walk_at "k")
  (case Dz => walk_at "k")
  (case DI => walk_at "k")
  (case DB => walk_at "k")
  (case Df => walk_at "k")
  (case DC => walk_at "k")
  (case Dp => walk_at "k")
  (case Dw => walk_at "k")
  (case Dq => walk_at "k")
  (case Dj => walk_at "k")
  (case CO => walk_at "c")
  (case FL => kernel_rfl)
  (case F_ => walk_at "k")
#print axioms PySem.Challenge.cw_dueworth_k36_planted_sums_holds
