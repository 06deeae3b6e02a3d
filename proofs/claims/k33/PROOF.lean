import PyProof.Rows.All
import Wide.All
import OpenK.AllK
import Wide.FinOn
import Lean
import PyProof.EqAt
import PyProof.EqKinds
import PyProof.TupleCall
import PySem.Challenge.RW_dueworth_k33_whole_traces_are_lines
import Open.Tree
import Open.Head
section
set_option Elab.async false
set_option linter.all false
set_option maxRecDepth 100000
set_option maxHeartbeats 0
namespace ET
open PySem PySem.W PyProof.Rows
def jc(tb:String→Option Builtin)(p:Program)(w:World)(n₀:Nat)(ann:Option Value):Nat→SharedT→Thread→Option SharedT
 |0,_,_=>none
 |n+1,s,t=>match through t with
  |true=>some s
  |false=>match stepOk n₀ ann t with
   |false=>none
   |true=>match stepT (denote tb) p w s t with
    |some x=>jc tb p w n₀ ann n x.1 x.2
    |none=>none
theorem mN{tb:String→Option Builtin}{p:Program}{w:World}{n₀:Nat}{ann:Option Value}:∀{n:Nat} {s s':SharedT} {t:Thread},jc tb p w n₀ ann n s t=some s'→topRun tb p w n₀ ann n s.abs t=some s'.abs
 |0,_,_,_,h=>by cases h
 |n+1,s,s',t,h=>by
  unfold jc at h
  unfold topRun
  cases he:through t with
  |true=>rw[he]at h;cases h;rfl
  |false=>
   rw[he]at h
   cases hk:stepOk n₀ ann t with
   |false=>rw[hk]at h;cases h
   |true=>
    rw[hk]at h
    cases hs:stepT (denote tb) p w s t with
    |none=>rw[hs]at h;cases h
    |some r=>rw[hs]at h;rw[stepT_spec hs];exact mN h
def BJ:List Obj→BT→Nat→Option (BT×Nat)
 |[],t,n=>some (t,n)
 |o::os,t,n=>match ((t.ins n o).get n).isSome with
  |true=>BJ os (t.ins n o) (n+1)
  |false=>none
theorem rZ{life:Life}:∀{os:List Obj} {t t':BT} {n n':Nat},BJ os t n=some (t',n')→absHeap t' n' life=⟨(absHeap t n life).objs++os.toArray,life⟩
 |[],t,t',n,n',h=>by cases h;simp[absHeap]
 |o::os,t,t',n,n',h=>by
  unfold BJ at h
  cases g:((t.ins n o).get n).isSome with
  |false=>rw[g]at h;cases h
  |true=>
   rw[g]at h
   rw[rZ h,absHeap_ins g]
   simp[Heap.push]
def jd(tb:String→Option Builtin)(p:Program)(w:World)(N:Nat)(s₀:Shared):Option Shared:=
 match s₀.heap.isNs mainGlobals&&s₀.gens.size == 0 with
 |true=>match BJ s₀.heap.objs.toList .nil 0 with
  |some x=>match jc tb p w x.2 (s₀.heap.nsMap mainGlobals "__annotations__") N ⟨x.1,x.2,s₀.heap.life,s₀.gens,s₀.drawn,s₀.toks,s₀.os⟩ (topStub p)with
   |some s=>match staticsOk (importedModules p.main.body) s₀.heap s.abs.heap&&namesBound p s.abs.heap&&gensDone s.abs&&laidKept s₀.heap s.abs.heap with
    |true=>some s.abs
    |false=>none
   |none=>none
  |none=>none
 |false=>none
theorem qL{tb:String→Option Builtin}{p:Program}{w:World}{N:Nat}{s₀ s:Shared}(h:jd tb p w N s₀=some s):topFrom tb p w N s₀=some s:=by
 unfold jd at h
 unfold topFrom
 cases h1:s₀.heap.isNs mainGlobals&&s₀.gens.size == 0 with
 |false=>rw[h1]at h;cases h
 |true=>
  rw[h1]at h
  dsimp only at h ⊢
  cases h2:BJ s₀.heap.objs.toList .nil 0 with
  |none=>rw[h2]at h;cases h
  |some x=>
   rw[h2]at h
   dsimp only at h
   have e:=rZ (life:=s₀.heap.life) h2
   have e':absHeap x.1 x.2 s₀.heap.life=s₀.heap:=by
    rw[e]
    simp[absHeap,BT.list]
   have n':x.2=s₀.heap.objs.size:=by rw[←e',absHeap_size]
   cases h3:jc tb p w x.2 (s₀.heap.nsMap mainGlobals "__annotations__") N ⟨x.1,x.2,s₀.heap.life,s₀.gens,s₀.drawn,s₀.toks,s₀.os⟩ (topStub p)with
   |none=>rw[h3]at h;cases h
   |some r=>
    rw[h3]at h
    dsimp only at h
    have ea:SharedT.abs ⟨x.1,x.2,s₀.heap.life,s₀.gens,s₀.drawn,s₀.toks,s₀.os⟩=s₀:=by
     unfold SharedT.abs
     rw[e']
    have:=mN h3
    rw[ea,n']at this
    rw[this]
    exact h
theorem qM{tb:String→Option Builtin}{p:Program}{w:World}{N:Nat}{s₀:Shared}{α:Type}{f:Shared→α}{a:α}(h:Option.map f (jd tb p w N s₀)=some a):Option.map f (topFrom tb p w N s₀)=some a:=by
 obtain⟨s,h1,h2⟩:=Option.map_eq_some_iff.mp h
 rw[qL h1]
 exact congrArg some h2
def seenT(p q:Program)(loose:List Str)(Xt:Shared→Bool){α:Type}(Yf:Shared→α)(N:Nat)(u u':World):=
 Option.map (fun c=>Option.map (fun s=>(openSeen q loose (importedModules p.main.body) Xt true s,Yf s)) (jd treeTable p u' N c)) (fencedOpening treeTable p u N)
lay_quick seenT
theorem r9{p q:Program}{loose:List Str}{Xt:Shared→Bool}{α:Type}{Yf:Shared→α}{N:Nat}{u u':World}{r}(h:PySem.W.Fast.tw2787559817927863336 p q loose Xt Yf N u u'=r):seenT p q loose Xt Yf N u u'=r:=by
 rw[PySem.W.Fast.te2787559817927863336]
 exact h
theorem Dl{p q:Program}{loose:List Str}{Xt:Shared→Bool}{α:Type}{Yf:Shared→α}{Ya:World→α}{N:Nat}
  (h:∀u:World,seenT p q loose Xt Yf N u u=some (some (openGood q loose,Ya u))):LeftO p q loose Xt Yf Ya N:=fun u=>by
 obtain⟨c,a,b⟩:=Option.map_eq_some_iff.mp (h u)
 unfold openEnds
 rw[a]
 exact qM b
theorem uA{p q:Program}{loose:List Str}{Xt:Shared→Bool}{α:Type}{Yf:Shared→α}{Ya:World→α}{N:Nat}(row:String)
  (h0:∀u:World,seenT p q loose Xt Yf N u (u.withFollow row false)=some (some (openGood q loose,Ya (u.withFollow row false))))
  (h1:∀u:World,seenT p q loose Xt Yf N u (u.withFollow row true)=some (some (openGood q loose,Ya (u.withFollow row true)))):LeftO p q loose Xt Yf Ya N:=fun u=>by
 obtain⟨c,a,b⟩:=Option.map_eq_some_iff.mp (h0 u)
 obtain⟨c',a',b'⟩:=Option.map_eq_some_iff.mp (h1 u)
 have hc:c'=c:=by rw[a]at a';cases a';rfl
 subst hc
 have b:=qM b
 have b':=qM b'
 have hu:=World.withFollow_self u row
 unfold openEnds
 rw[a]
 cases hb:u.params.followText row<;>rw[hb]at hu
 ·rw[hu]at b
  exact b
 ·rw[hu]at b'
  exact b'
end ET
namespace E33
open PySem PySem.W PyProof.Rows
abbrev tp(i:Nat):Stmt:=PySem.Challenge.pw_dueworth_k33_whole_traces_are_lines.main.body.getD i (.Pass ⟨0,0,0,0⟩)
/-- the text without what says nothing -/
def vw:Program:={ PySem.Challenge.pw_dueworth_k33_whole_traces_are_lines with main:={ PySem.Challenge.pw_dueworth_k33_whole_traces_are_lines.main with body:=[tp 1,tp 2,tp 3,tp 4,tp 6,tp 7,tp 8,tp 11,tp 12,tp 13,tp 15,tp 16,tp 17,tp 19,tp 20,tp 21,tp 22,tp 24,tp 25,tp 26,tp 27,tp 28,tp 29,tp 30,tp 31,tp 32,tp 33,tp 35,tp 36,tp 38,tp 39,tp 40,tp 41,tp 42,tp 43,tp 44,tp 45,tp 46,tp 47,tp 48,tp 49,tp 50,tp 51,tp 52,tp 53,tp 54,tp 55,tp 56,tp 57,tp 58,tp 59,tp 60,tp 61,tp 62,tp 63,tp 64] } }
abbrev rr:RowW:=OpenRow.toRowW (OpenLaw.row PySem.Challenge.rw_dueworth_k33_whole_traces_are_lines)
local macro_rules | `(tactic| o_head $H)=>`(tactic|
 refine holds_open (q:=vw) (loose:=["SIDES_FROM","parts_reached"]) (Xt:=fun s=>(xlAt vw [] s&&recOk (RowW.records rr) s)) (XP:=XL vw []) (N:=3772)
  (Yf:=Hook.obs $H) (Ya:=Hook.val $H) (YP:=Hook.says $H) ?hl (Hook.of $H) (Hook.keeps $H) (fun s e=>xl_of s (Bool.and_eq_true_iff.mp e).1)
  XL.keeps rfl rfl rfl (fun s e=>recFacts_of (Bool.and_eq_true_iff.mp e).2) rfl (by assumption)
  (by decide +kernel) ⟨rfl,rfl,rfl,rfl,rfl,by decide +kernel⟩ ?hw ?hc)
/-- the law is well said: by the quick twin of the look,with no twin of the program -/
theorem said:OpenLaw.wellSaid PySem.Challenge.rw_dueworth_k33_whole_traces_are_lines=true:=(congrFun PySem.W.Fast.te9446332074065402090 _).trans (by kernel_rfl)
/-- says nothing; what lies in the heap is written down by the way -/
theorem early(h:∀P:Prop,P):PySem.Challenge.rw_dueworth_k33_whole_traces_are_lines.Holds:=by
 w_on;refine holds_law said fun said=>?_;k_head
 all_goals exact h _
abbrev as:List Addr:=[2,3,15,16,18,19,21,22,23,25,26,28,29,30,32,33,35,36,37,39,40,42,43,44,46,47,49,50,51,53,54,56,57,58,59,61,62,64,65,66,68,69,71,72,73,75,76,78,79,80,83,84,85,88,89,90,93,94,95,98,99,100,102,103,105,106,107,109,110,112,113,114,116,117,119,120,121,123,124,126,127,128,131,132,133,136,137,138,141,142,143,145,146,148,149,150,153,154,155,158,159,160,162,163,165,166,167,169,170,172,173,174,176,177,179,180,181,183,184,186,187,188,190,191,193,194,195,197,198,200,201,202,205,206,207,209,210,212,213,214,217,218,219,221,222,224,225,226,228,229,231,232,233,235,236,238,239,240,242,243,245,246,247,249,250,252,253,254,256,257,259,260,261,263,264,266,267,268,270,271,273,274,275,277,278,280,281,282,285,286,287,289,290,292,293,294,296,297,299,300,301,303,304,306,307,308,311,312,313,315,316,318,319,320,323,324,325,327,328,330,331,332,334,335,337,338,339,342,343,344,346,347,349,350,351,353,354,356,357,358,361,362,363,366,367,368,370,371,373,374]
theorem EH(P:Params):as=(early.heap_1 P).map (·.1):=by kernel_rfl
noncomputable abbrev hk:Hook:=kHook early.heap_1 as EH
theorem BK(u:World):ET.seenT (OpenLaw.row PySem.Challenge.rw_dueworth_k33_whole_traces_are_lines).prog vw ["SIDES_FROM","parts_reached"] (fun s=>(xlAt vw [] s&&recOk (RowW.records rr) s)) (Hook.obs hk) 3772 u (u.withFollow "special-get-raises" false)=some (some (openGood vw ["SIDES_FROM","parts_reached"],Hook.val hk (u.withFollow "special-get-raises" false))):=ET.r9 (by kernel_rfl)
theorem BL(u:World):ET.seenT (OpenLaw.row PySem.Challenge.rw_dueworth_k33_whole_traces_are_lines).prog vw ["SIDES_FROM","parts_reached"] (fun s=>(xlAt vw [] s&&recOk (RowW.records rr) s)) (Hook.obs hk) 3772 u (u.withFollow "special-get-raises" true)=some (some (openGood vw ["SIDES_FROM","parts_reached"],Hook.val hk (u.withFollow "special-get-raises" true))):=ET.r9 (by kernel_rfl)
theorem left:LeftO (OpenLaw.row PySem.Challenge.rw_dueworth_k33_whole_traces_are_lines).prog vw ["SIDES_FROM","parts_reached"] (fun s=>(xlAt vw [] s&&recOk (RowW.records rr) s)) (Hook.obs hk) (Hook.val hk) 3772:=ET.uA "special-get-raises" BK BL
end E33
end
open PySem in
abbrev Vq:=Value->Shared->Prop
open PySem in
abbrev Va:=List (Addr×Obj)
open PySem in
abbrev Vo:=PySem.W.Frag
open PySem in
abbrev Vr:=Str->Option Value
open PySem in
abbrev Vs:=List Str
open PySem in
abbrev Vu:=List Int
open PySem in
abbrev Vv:=List Value
open PySem in
abbrev Vw:=Array Value
set_option Elab.async false
set_option linter.all false
set_option maxRecDepth 100000
namespace L2
open PySem PySem.Spec PyProof.Rows
abbrev bE:=Sum Int Str
noncomputable def mO:bE->Value->Bool
 | .inl k,v=>Value.isInt k v
 | .inr x,v=>Value.isStrOf x v
noncomputable def DC(w:World):bE->Int
 | .inl k=>hashInt k
 | .inr x=>hashStr w x
theorem bD:∀{k:bE} {v:Value},mO k v=true->(∃i t,k=Sum.inl i/\v=Value.int i t)\/(∃x t,k=Sum.inr x/\v=Value.str x t)
 | .inl i,v,h=>by
  obtain⟨t,e⟩:=Value.isInt_shape (k:=i) (v:=v) h
  exact .inl ⟨i,t,rfl,e⟩
 | .inr x,v,h=>by
  obtain⟨t,e⟩:=Value.isStrOf_shape (x:=x) (v:=v) h
  exact .inr ⟨x,t,rfl,e⟩
def sW(i:Int)(t:Tok):mO (.inl i) (.int i t)=true:=by simp[mO,Value.isInt]
def jM(x:Str)(t:Tok):mO (.inr x) (.str x t)=true:=by simp[mO,Value.isStrOf]
def zF(a b:Int):decide ((Sum.inl a:bE)=Sum.inl b)=(a == b):=by
 by_cases e:a=b
 ·subst e;simp
 ·have h:¬(Sum.inl a:bE)=Sum.inl b:=fun q=>e (Sum.inl.inj q)
  rw[decide_eq_false h]
  exact(beq_eq_false_iff_ne.mpr e).symm
def zG(a b:Str):decide ((Sum.inr a:bE)=Sum.inr b)=decide (a=b):=by
 by_cases e:a=b
 ·subst e;simp
 ·have h:¬(Sum.inr a:bE)=Sum.inr b:=fun q=>e (Sum.inr.inj q)
  rw[decide_eq_false h,decide_eq_false e]
def zH(a:Int)(b:Str):decide ((Sum.inl a:bE)=Sum.inr b)=false:=decide_eq_false (fun q=>nomatch q)
def zI(a:Str)(b:Int):decide ((Sum.inr a:bE)=Sum.inl b)=false:=decide_eq_false (fun q=>nomatch q)
noncomputable def ba(prog:Program)(w:World):PySem.KeyKind prog w bE where
 is:=mO
 hash:=DC w
 inj:=fun v a b ha hb=>by
  rcases bD ha with⟨i,t,rfl,rfl⟩|⟨x,t,rfl,rfl⟩
  ·rcases bD hb with⟨j,u,rfl,e⟩|⟨y,u,rfl,e⟩
   ·injection e with e1 _;rw[e1]
   ·exact nomatch e
  ·rcases bD hb with⟨j,u,rfl,e⟩|⟨y,u,rfl,e⟩
   ·exact nomatch e
   ·injection e with e1 _;rw[e1]
 byValue:=fun k v h=>by
  rcases bD h with⟨i,t,rfl,rfl⟩|⟨x,t,rfl,rfl⟩<;>rfl
 pyHash:=fun hv h=>by
  rcases bD hv with⟨i,t,rfl,rfl⟩|⟨x,t,rfl,rfl⟩
  ·exact wpAny_pyHash_int h
  ·exact wpAny_pyHash_str h
 eqBool:=fun hu hv h=>by
  rcases bD hu with⟨i,t,rfl,rfl⟩|⟨x,t,rfl,rfl⟩
  ·rcases bD hv with⟨j,u,rfl,rfl⟩|⟨y,u,rfl,rfl⟩
   ·rw[zF]at h;exact wpAny_eqBool_int h
   ·rw[zH]at h;exact SeqAt.EqAt.int_str i t y u _ _ _ _ h
  ·rcases bD hv with⟨j,u,rfl,rfl⟩|⟨y,u,rfl,rfl⟩
   ·rw[zI]at h;exact SeqAt.EqAt.str_int x t j u _ _ _ _ h
   ·rw[zG]at h;exact wpAny_eqBool_str h
 «strs»:=fun k x t v h=>by
  rcases bD h with⟨i,u,rfl,e⟩|⟨y,u,rfl,e⟩
  ·exact nomatch e
  ·injection e with e1 _
   subst e1
   cases v<;>rfl
def o_(prog:Program)(w:World)(i:Int)(t:Tok):(ba prog w).is (.inl i) (.int i t)=true:=sW i t
def pk(prog:Program)(w:World)(x:Str)(t:Tok):(ba prog w).is (.inr x) (.str x t)=true:=jM x t
inductive V where
 |non|bl (b:Bool)|int (i:Int)|str (x:Str)|Kd (b:Array UInt8)|Mq (b:UInt64)|ref (a:Addr)|ty (n:String)
 deriving DecidableEq
noncomputable def RelV:V->Value->Prop
 | .non,u=>u=Value.none
 | .bl b,u=>u=Value.bool b
 | .int i,u=>∃t,u=Value.int i t
 | .str x,u=>∃t,u=Value.str x t
 | .Kd b,u=>∃t,u=Value.bytes b t
 | .Mq b,u=>∃t,u=Value.float b t
 | .ref a,u=>u=Value.ref a
 | .ty n,u=>u=Value.type n
noncomputable abbrev Vals:List V->List Value->Prop:=Paired RelV
theorem Vals.length{xs:List V}{us:Vv}(r:Vals xs us):xs.length=us.length:=Paired.length r
theorem Vals.get:∀{xs:List V} {us:Vv} {i:Nat} {x:V},Vals xs us->xs[i]?=some x->∃u,us[i]?=some u/\RelV x u
 |_,_,_,_,.nil,e=>by simp at e
 |_,_,0,_,.cons r _,e=>by simp at e;subst e;exact⟨_,rfl,r⟩
 |_,_,i+1,x,.cons _ t,e=>by
  obtain⟨u,h1,h2⟩:=Vals.get (i:=i) (x:=x) t (by simpa using e)
  exact⟨u,by simpa using h1,h2⟩
theorem Vals.set{x:V}{u:Value}(r:RelV x u):∀{xs:List V} {us:Vv} (i:Nat),Vals xs us->Vals (xs.set i x) (us.set i u)
 |_,_,_,.nil=>.nil
 |_,_,0,.cons _ t=>.cons r t
 |_,_,i+1,.cons q t=>.cons q (Vals.set r i t)
theorem Vals.append:∀{xs ys:List V} {us ws:Vv},Vals xs us->Vals ys ws->Vals (xs++ys) (us++ws)
 |_,_,_,_,.nil,s=>s
 |_,_,_,_,.cons r t,s=>.cons r (Vals.append t s)
theorem Vals.take:∀{xs:List V} {us:Vv} (n:Nat),Vals xs us->Vals (xs.take n) (us.take n)
 |_,_,0,_=>.nil
 |_,_,_+1,.nil=>.nil
 |_,_,n+1,.cons r t=>.cons r (Vals.take n t)
theorem Vals.drop:∀{xs:List V} {us:Vv} (n:Nat),Vals xs us->Vals (xs.drop n) (us.drop n)
 |_,_,0,r=>r
 |_,_,_+1,.nil=>.nil
 |_,_,n+1,.cons _ t=>Vals.drop n t
noncomputable def RelO:Option V->Option Value->Prop
 |some v,some u=>RelV v u
 |none,none=>True
 |_,_=>False
noncomputable def KV{κ:Type}:List (κ×V)->List (κ×Value)->Prop:=Paired fun(p:κ×V) (q:κ×Value)=>p.1=q.1/\RelV p.2 q.2
noncomputable def kV:bE->V
 | .inl i=>.int i
 | .inr x=>.str x
inductive HO where
 /-- a list -/
 |lst (xs:List V)
 /-- a tuple (never changes) -/
 |tup (xs:List V)
 /-- a dict whose keys are ints and texts; one whose keys are tuples of ints and texts (the empty one is both) -/
 |dK (kvs:List (bE×V))|dT (kvs:List (List bE×V))
 /-- a set of ints: its members,its size -/
 |set (S:Int->Bool) (n:Nat)
 /-- an instance of the class at C,its dict at dx,its attributes -/
 |ins (C dx:Addr) (fs:List (Str×V))
 /-- the dict of the instance at x -/
 |own (x:Addr)
 /-- the dict of an exception -/
 |xd (fs:List (Str×V))
 /-- a bound method,f of x -/
 |met (f x:Addr)
 /-- a range object lo,lo + 1,.. below hi -/
 |Mr (lo hi:Int)
 /-- a thing that is known to the object (the script; a dict while a loop walks it): read,never written while it is so -/
 |frz (o:Obj) (u:HO)
 /-- a code object's table -/
 |K8 (ps:Vw)
 /-- any other thing,by what is true of its one object (a def of Nt own: Oi a S n:=HO.ext fun h=>..) -/
 |ext (φ:Heap->Prop)
abbrev Hp:=Addr->Option HO
noncomputable def upd(H:Hp)(a:Addr)(o:HO):Hp:=fun b=>if b=a then some o else H b
def aG{H:Hp}{a:Addr}{o:HO}:upd H a o a=some o:=by unfold upd;rw[if_pos rfl]
def aH{H:Hp}{a b:Addr}{o:HO}(h:b≠a):upd H a o b=H b:=by unfold upd;rw[if_neg h]
def BM{H:Hp}{a b:Addr}{o u:HO}(h:H a=some o)(h':H b=some u)(d:o≠u):a≠b:=by
 intro e;subst e;rw[h]at h';exact d (Option.some.inj h')
def bm{H:Hp}{a b:Addr}{o:HO}(h:H a=some o)(h':H b=none):a≠b:=by
 intro e;subst e;rw[h]at h';cases h'
def F7(h:Heap)(a:Addr)(its:Vw):Prop:=∃o,h.get? a=some o/\o.dict=none/\o.cls = .type "tuple"/\∃n,o.data = .seq its n
def F7.tup{h:Heap}{a:Addr}{its:Vw}(x:F7 h a its):IsTup h a its:=let ⟨o,e,_,c,d⟩:=x;⟨o,e,c,d⟩
def F7.new(h:Heap)(its:Vw):F7 (h.push { cls:=.type "tuple",data:=.seq its }) h.objs.size its:=⟨_,Heap.get?_push_size _ rfl,rfl,rfl,_,rfl⟩
section
variable (P:Program) (w:World)
noncomputable def ObjOk(H:Hp)(h:Heap)(a:Addr):HO->Prop
 | .lst xs=>xs.length<=sizeLine/\∃(its:Vv) (n:Nat),Vals xs its/\h.get? a=some { cls:=.type "list",data:=.seq its.toArray n }
 | .tup xs=>xs.length<=sizeLine/\∃its:List Value,Vals xs its/\F7 h a its.toArray
 | .dK kvs=>kvs.length<=sizeLine/\(a == sysModules)=false/\∃vs,KV kvs vs/\h.DictOf (ba P w) a vs
 | .dT kvs=>kvs.length<=sizeLine/\(a == sysModules)=false/\∃xs:List (List bE×Addr×Value),
   Paired (fun(p:List bE×V) (q:List bE×Addr×Value)=>p.1=q.1/\H q.2.1=some (.tup (p.1.map kV))/\RelV p.2 q.2.2) kvs xs/\
   ∃o es ep,h.get? a=some o/\o.ExactDict/\o.data = .dict es ep/\es.toList=xs.map (entryOfKey (tupleKind (ba P w)))/\(xs.map (·.1)).Nodup
 | .set S n=>h.SetOf (intKind P w) a S n
 | .ins C dx fs=>H dx=some (.own a)/\fs.length<=1000/\dx≠a/\h.get? a=some (PySem.W.instObj C dx)/\
   ∃mA,h.Ns1 dx mA/\(∀f,RelO (fs.lookup f) (mA f))/\PySem.Within mA (fs.map (·.1))
 | .own _=>∃o,h.get? a=some o
 | .xd fs=>∃mA,h.Ns1 a mA/\∀f,RelO (fs.lookup f) (mA f)
 | .Mr lo hi=>∃t u v,h.get? a=some { cls:=.type "range",data:=.fields #[.int lo t,.int hi u,.int 1 v] }
 | .frz o u=>h.get? a=some o/\ObjOk H h a u
 | .K8 ps=>h.get? a=some { cls:=.none,data:=.fields ps }
 | .met f x=>h.get? a=some (PySem.W.methodObj (.ref f) (.ref x))
 | .ext φ=>φ h/\(∃o,h.get? a=some o)/\∀h1 h2:Heap,φ h1->(∀o,h1.get? a=some o->h2.get? a=some o)->φ h2
def Hv(H:Hp)(h:Heap):Prop:=∀a o,H a=some o->ObjOk P w H h a o
end
section
variable {P:Program} {w:World} {H H':Hp} {h h':Heap} {a:Addr} {o:HO}
theorem ObjOk.lt(x:ObjOk P w H h a o):a < h.objs.size:=by
 cases o with
 |lst xs=>obtain⟨_,_,_,_,e⟩:=x;exact Heap.lt_size e
 |tup xs=>obtain⟨_,_,_,p⟩:=x;exact p.tup.lt
 |dK kvs=>obtain⟨_,_,_,_,o,_,_,e,_⟩:=x;exact Heap.lt_size e
 |dT kvs=>obtain⟨_,_,_,_,o,_,_,e,_⟩:=x;exact Heap.lt_size e
 |set S n=>obtain⟨o,_,_,_,e,_⟩:=x;exact Heap.lt_size e
 |ins C dx fs=>obtain⟨_,_,_,e,_⟩:=x;exact Heap.lt_size e
 |own y=>obtain⟨_,e⟩:=x;exact Heap.lt_size e
 |xd fs=>obtain⟨_,⟨_,_,_,e,_⟩,_⟩:=x;exact Heap.lt_size e
 |Mr lo hi=>obtain⟨_,_,_,e⟩:=x;exact Heap.lt_size e
 |frz ob u=>obtain⟨e,_⟩:=x;exact Heap.lt_size e
 |K8 ps=>exact Heap.lt_size (show h.get? a=some _ from x)
 |met f y=>exact Heap.lt_size (show h.get? a=some _ from x)
 |ext φ=>obtain⟨_,⟨_,e⟩,_⟩:=x;exact Heap.lt_size e
theorem Paired.K9{α β:Type}{F G:α->β->Prop}:∀{l₁:List α} {l₂:List β},Paired F l₁ l₂->(∀a b,F a b->G a b)->Paired G l₁ l₂
 |_,_,.nil,_=>.nil
 |_,_,.cons r t,f=>.cons (f _ _ r) (Paired.K9 t f)
def ObjOk.stay(x:ObjOk P w H h a o)(k:∀b u,(b=a\/H b=some (.own a))->h.get? b=some u->h'.get? b=some u)
  (ho:∀b,H b=some (.own a)->H' b=some (.own a)) (ht:∀b xs,H b=some (.tup xs)->H' b=some (.tup xs)):ObjOk P w H' h' a o:=by
 induction o with
 |lst xs=>obtain⟨z,its,n,r,e⟩:=x;exact⟨z,its,n,r,k _ _ (.inl rfl) e⟩
 |tup xs=>obtain⟨z,its,r,ob,e,c⟩:=x;exact⟨z,its,r,ob,k _ _ (.inl rfl) e,c⟩
 |dK kvs=>obtain⟨z,y,vs,r,ob,es,ep,e,c⟩:=x;exact⟨z,y,vs,r,ob,es,ep,k _ _ (.inl rfl) e,c⟩
 |dT kvs=>
  obtain⟨z,y,xs,r,ob,es,ep,e,c⟩:=x
  exact⟨z,y,xs,Paired.K9 r fun p q z=>⟨z.1,ht _ _ z.2.1,z.2.2⟩,ob,es,ep,k _ _ (.inl rfl) e,c⟩
 |set S n=>obtain⟨ob,es,ep,t,e,c⟩:=x;exact⟨ob,es,ep,t,k _ _ (.inl rfl) e,c⟩
 |ins C dx fs=>
  obtain⟨d,z,ne,e,mA,⟨od,es,ep,e2,c⟩,r⟩:=x
  exact⟨ho _ d,z,ne,k _ _ (.inl rfl) e,mA,⟨od,es,ep,k _ _ (.inr d) e2,c⟩,r⟩
 |own y=>obtain⟨ob,e⟩:=x;exact⟨ob,k _ _ (.inl rfl) e⟩
 |xd fs=>obtain⟨mA,⟨od,es,ep,e,c⟩,r⟩:=x;exact⟨mA,⟨od,es,ep,k _ _ (.inl rfl) e,c⟩,r⟩
 |Mr lo hi=>obtain⟨t,u,v,e⟩:=x;exact⟨t,u,v,k _ _ (.inl rfl) e⟩
 |frz ob u ih=>obtain⟨e,q⟩:=x;exact⟨k _ _ (.inl rfl) e,ih q⟩
 |K8 ps=>
  have e:h.get? a=some { cls:=.none,data:=.fields ps }:=x
  show h'.get? a=some { cls:=.none,data:=.fields ps }
  exact k a _ (.inl rfl) e
 |met f y=>
  have e:h.get? a=some (PySem.W.methodObj (.ref f) (.ref y)):=x
  show h'.get? a=some (PySem.W.methodObj (.ref f) (.ref y))
  exact k a _ (.inl rfl) e
 |ext φ=>obtain⟨p,⟨o,e⟩,st⟩:=x;exact⟨st _ _ p fun o q=>k _ _ (.inl rfl) q,⟨o,k _ _ (.inl rfl) e⟩,st⟩
theorem Hv.lt(x:Hv P w H h)(e:H a=some o):a < h.objs.size:=(x a o e).lt
def Hv.fresh(x:Hv P w H h)(e:h.objs.size<=a):H a=none:=by
 cases q:H a with
 |none=>rfl
 |some u=>exact absurd (Nat.lt_of_lt_of_le (x.lt q) e) (Nat.lt_irrefl _)
def Hv.kept(x:Hv P w H h)(k:∀b u,h.get? b=some u->h'.get? b=some u):Hv P w H h':=fun a o e=>
 (x a o e).stay (fun b u _ q=>k b u q) (fun _ q=>q) fun _ _ q=>q
def Hv.laid(x:Hv P w H h)(k:∀b u,h.get? b=some u->h'.get? b=some u)(hp:h.objs.size<=a)(new:ObjOk P w (upd H a o) h' a o):Hv P w (upd H a o) h':=fun b u e=>by
 have hn:=x.fresh hp
 by_cases hb:b=a
 ·subst hb;rw[aG]at e;cases e;exact new
 ·rw[aH hb]at e
  exact(x b u e).stay (fun c v _ q=>k c v q) (fun c q=>by rw[aH (bm q hn)];exact q) fun c xs q=>by rw[aH (bm q hn)];exact q
end
def Rd(H:Hp)(a:Addr)(u:HO):Prop:=H a=some u\/∃o,H a=some (.frz o u)
def Rd.ok{P:Program}{w:World}{H:Hp}{h:Heap}{a:Addr}{u:HO}(r:Rd H a u)(x:Hv P w H h):ObjOk P w H h a u:=by
 rcases r with r|⟨o,r⟩
 ·exact x a u r
 ·obtain⟨_,q⟩:=x a _ r
  exact q
noncomputable def BN:Option HO->Prop
 |some (.lst _)=>True
 |some (.dK _)=>True
 |some (.dT _)=>True
 |some (.set _ _)=>True
 |some (.ins _ _ _)=>True
 |some (.ext _)=>True
 |_=>False
section
variable {P:Program} {w:World} {H:Hp} {h h':Heap} {x e:Addr} {o':HO}
def Hv.write(ok:Hv P w H h)(mu:BN (H x))(he:e=x\/H e=some (.own x))(k:∀b u,b≠e->h.get? b=some u->h'.get? b=some u)(Ly:∃u,h'.get? e=some u)
  (new:ObjOk P w (upd H x o') h' x o'):Hv P w (upd H x o') h':=fun b u q=>by
 have LJ:∀c y,H c=some (.own y)->c≠x:=fun c y r z=>by subst z;rw[r]at mu;exact mu
 have Ms:∀c xs,H c=some (.tup xs)->c≠x:=fun c xs r z=>by subst z;rw[r]at mu;exact mu
 by_cases hb:b=x
 ·subst hb;rw[aG]at q;cases q;exact new
 ·rw[aH hb]at q
  by_cases K_:b=e
  ·have q':H b=some (.own x):=by
    rcases he with z|z
    ·exact absurd (K_.trans z) hb
    ·rw[K_];exact z
   rw[q]at q';cases q'
   obtain⟨v,hv⟩:=Ly
   exact⟨v,by rw[K_];exact hv⟩
  ·refine(ok b u q).stay (fun c v hc r=>k c v ?_ r) (fun c r=>by rw[aH (LJ c b r)];exact r) fun c xs r=>by rw[aH (Ms c xs r)];exact r
   rcases hc with rfl|hc
   ·exact K_
   ·rintro rfl
    rcases he with z|z
    ·exact LJ c b hc z
    ·rw[hc]at z;cases z;exact hb rfl
end
structure Un (fs ex:List Addr) (H H':Hp) (h h':Heap):Prop where
 keep:∀b o,h.get? b=some o->H b=none->b ∉ fs->b ∉ ex->h'.get? b=some o
 slot:∀b o,h.get? b=some o->H b=none->b∈fs->b ∉ ex->∃sl,h'.get? b=some { o with slots:=sl }
 free:∀b o,h.get? b=some o->H b=none->b ∉ ex->H' b=none
 there:∀b o,h.get? b=some o->b ∉ ex->∃o',h'.get? b=some o'
 tups:∀b xs,H b=some (.tup xs)->H' b=some (.tup xs)
 IR:∀b o u,H b=some (.frz o u)->H' b=some (.frz o u)
 Jq:∀b ps,H b=some (.K8 ps)->∃more,H' b=some (.K8 (ps++more))
section
variable {fs fs' ex ex':List Addr} {H H1 H2:Hp} {h h1 h2 h':Heap} {a x e:Addr} {o:HO}
def Un.any(u:Un fs ex H H1 h h1){b:Addr}{ob:Obj}(q:h.get? b=some ob)(n:H b=none)(hx:b ∉ ex):∃sl,h1.get? b=some { ob with slots:=sl }:=by
 by_cases hb:b∈fs
 ·exact u.slot b ob q n hb hx
 ·exact⟨ob.slots,u.keep b ob q n hb hx⟩
def Un.kept(k:∀b u,h.get? b=some u->h'.get? b=some u):Un fs ex H H h h':=
 ⟨fun b ob q _ _ _=>k b ob q,fun b ob q _ _ _=>⟨ob.slots,k b ob q⟩,fun _ _ _ n _=>n,fun b ob q _=>⟨ob,k b ob q⟩,fun _ _ q=>q,fun _ _ _ q=>q,fun _ ps q=>⟨#[],by rw[q];simp⟩⟩
def Un.refl:Un fs ex H H h h:=Un.kept fun _ _ q=>q
def Un.laid(k:∀b u,h.get? b=some u->h'.get? b=some u)(hp:h.objs.size<=a)(hn:H a=none):Un fs ex H (upd H a o) h h' where
 keep:=fun b u q _ _ _=>k b u q
 slot:=fun b u q _ _ _=>⟨u.slots,k b u q⟩
 free:=fun b u q n _=>by rw[aH (Nat.ne_of_lt (Nat.lt_of_lt_of_le (Heap.lt_size q) hp))];exact n
 there:=fun b u q _=>⟨u,k b u q⟩
 tups:=fun b xs q=>by rw[aH (bm q hn)];exact q
 IR:=fun b u xs q=>by rw[aH (bm q hn)];exact q
 Jq:=fun b ps q=>⟨#[],by rw[aH (bm q hn),q];simp⟩
def Un.write(mu:BN (H x))(he:e=x\/H e=some (.own x))(k:∀b u,b≠e->h.get? b=some u->h'.get? b=some u)(Ly:∃u,h'.get? e=some u):Un fs ex H (upd H x o) h h':=by
 have hx:∀b,H b=none->b≠x:=fun b n z=>by subst z;rw[n]at mu;exact mu
 have hb:∀b,H b=none->b≠e:=fun b n z=>by
  subst z
  rcases he with r|r
  ·exact hx b n r
  ·rw[n]at r;cases r
 have hm:∀b u,H b=some u->¬BN (some u)->b≠x:=fun b u q nm z=>by subst z;rw[q]at mu;exact nm mu
 refine⟨fun b u q n _ _=>k b u (hb b n) q,fun b u q n _ _=>⟨u.slots,k b u (hb b n) q⟩,fun b u q n _=>by rw[aH (hx b n)];exact n,fun b u q _=>?_,
  fun b xs q=>by rw[aH (hm b _ q fun z=>z)];exact q,fun b u xs q=>by rw[aH (hm b _ q fun z=>z)];exact q,fun b ps q=>⟨#[],by rw[aH (hm b _ q fun z=>z),q];simp⟩⟩
 by_cases K_:b=e
 ·subst K_;exact Ly
 ·exact⟨u,k b u K_ q⟩
end
noncomputable def Dm(h:Heap)(H:Hp):List Addr:=(List.range h.objs.size).filter fun a=>(H a).isSome
noncomputable def nH(h:Heap)(H:Hp):Heap:=PySem.W.hideAll h (Dm h H)
def sX(h:Heap)(H:Hp):(nH h H).objs.size=h.objs.size:=PySem.W.hideAll_size _ _
def uB{h:Heap}{H:Hp}{b:Addr}{o:Obj}(e:h.get? b=some o)(n:H b=none):(nH h H).get? b=some o:=
 PySem.W.hideAll_get _ e fun hm=>by
  have q:(H b).isSome=true:=(List.mem_filter.mp hm).2
  rw[n]at q;simp at q
def wZ{h:Heap}{H:Hp}{b:Addr}{o:Obj}(e:(nH h H).get? b=some o):h.get? b=some o/\H b=none:=by
 have e':h.get? b=some o:=PySem.W.of_hideAll (Dm h H) e
 refine⟨e',?_⟩
 cases q:H b with
 |none=>rfl
 |some x=>
  have hm:b∈Dm h H:=List.mem_filter.mpr ⟨List.mem_range.mpr (Heap.lt_size e'),by simp[q]⟩
  have z:(nH h H).get? b=none:=PySem.W.hideAll_none (Dm h H) hm
  rw[z]at e;cases e
structure Mod (K:Vo) (mg:Vr) (base:Heap):Prop where
 Mt:K.In base
 glob:base.Ns mainGlobals mg
 blt:∃mb,base.Ns builtinsNs mb/\∀x:Str,x ≠ "__name__"->mb x=bootBuiltins x
 nolimit:base.NoLimit
structure Cx where
 prog:Program
 w:World
 K:Vo
 mg:Vr
 base:Heap
 A:Around
 N:List Str
 s₀:Shared
 H₀:Hp
 env:Env
 outer:List Env
 stack:List Env
 ex:List Addr
 fn:Str->Bool
 calm:Bool
 pn:Va
 xe:Value->Shared->Prop
noncomputable def frs(l:List Env):List Addr:=l.filterMap (·.frame)
noncomputable abbrev Cx.fs(X:Cx):List Addr:=frs X.outer
def Dn(sc:Scope)(x:Str):Prop:=sc.names.lookup x=some .local\/sc.names.lookup x=some .cell\/sc.names.lookup x=some .free
def y8(sc:Scope)(x:Str):Prop:=sc.names.lookup x=some .local\/sc.names.lookup x=some .cell
def DD(env:Env)(h:Heap)(m:Vr)(x:Str)(u:Value):Prop:=
 (env.kindOf x=some .local/\m x=some u)\/((env.kindOf x=some .cell\/env.kindOf x=some .free)/\∃c,env.cells.lookup x=some c/\h.IsCell c (some u))
structure Cx.Ok (X:Cx):Prop where
 mod:Mod X.K X.mg X.base
 kind:X.env.scope.kind = .function
 glob:X.env.globals=mainGlobals
 blt:X.env.builtins=builtinsNs
 above:X.s₀.heap.objs.size<=X.env.locals
 inj:∀x y c,X.env.cells.lookup x=some c->X.env.cells.lookup y=some c->x=y
 has:∀x,(X.env.kindOf x=some .cell\/X.env.kindOf x=some .free)->∃c,X.env.cells.lookup x=some c
 Lz:∀x c,X.fn x=true->X.env.cells.lookup x=some c->X.s₀.heap.objs.size<=c
 hd:X.calm=true->X.A.handled=none
 frames:X.A.frames=some X.stack
 stk:X.stack=X.outer\/(X.stack=X.env::X.outer/\X.env.frame=some X.env.locals)
 Mv:∀b∈X.ex,b≠X.env.locals/\∀x c,X.env.cells.lookup x=some c->c≠b
 bs:∀b o,X.base.get? b=some o->X.s₀.heap.get? b=some o/\X.H₀ b=none
 Kz:X.base.objs.size<=X.s₀.heap.objs.size
 J5:∀b o,X.base.get? b=some o->b ∉ X.ex
 Ke:∀b∈X.ex,b ∉ X.fs
 Iw:X.s₀.heap.FunFrames X.base X.outer
 La:∀b∈X.fs,X.H₀ b=none
structure Inv (X:Cx) (pins:Va) (σ:List (Option V)) (H:Hp) (s:Shared):Prop where
 ok:X.Ok
 os:s.os=X.s₀.os
 bare:AllBare s.gens
 base:Un X.fs X.ex X.H₀ H X.s₀.heap s.heap
 loc:∃m,s.heap.Ns X.env.locals m/\∀(i:Nat) (x:Str) (v:V),X.N[i]?=some x->σ[i]?=some (some v)->Dn X.env.scope x->∃u,RelV v u/\DD X.env s.heap m x u
 cell:∀x c,X.env.cells.lookup x=some c->∃v,s.heap.IsCell c v
 free:H X.env.locals=none
 Hf:∀x c,X.env.cells.lookup x=some c->H c=none
 pin:∀p∈X.pn++pins,s.heap.get? p.1=some p.2/\H p.1=none/\p.1≠X.env.locals/\p.1 ∉ X.fs/\∀v,p.2.data ≠ .cell v
 hok:Hv X.prog X.w H s.heap
 len:σ.length=X.N.length
section
variable {X:Cx} {pins:Va} {σ:List (Option V)} {H H':Hp} {s:Shared} {h':Heap}
def Cx.Ok.Mw(ok:X.Ok){b:Addr}{o:Obj}(e:X.base.get? b=some o):b ∉ X.fs:=fun hb=>by
 have:=(ok.Iw.mem hb).1
 rw[e]at this;cases this
theorem Inv.bs(I:Inv X pins σ H s):∀b o,X.base.get? b=some o->s.heap.get? b=some o/\H b=none:=fun b o e=>
 ⟨I.base.keep b o (I.ok.bs b o e).1 (I.ok.bs b o e).2 (I.ok.Mw e) (I.ok.J5 b o e),I.base.free b o (I.ok.bs b o e).1 (I.ok.bs b o e).2 (I.ok.J5 b o e)⟩
def Inv.bk(I:Inv X pins σ H s):∀b o,X.base.get? b=some o->s.heap.get? b=some o:=fun b o e=>(I.bs b o e).1
theorem Inv.mod(I:Inv X pins σ H s):Mod X.K X.mg X.base:=I.ok.mod
def Inv.Kf(I:Inv X pins σ H s):X.K.In s.heap:=I.ok.mod.Mt.keeps I.bk
theorem Inv.lt(I:Inv X pins σ H s):X.env.locals < s.heap.objs.size:=let ⟨_,hn,_⟩:=I.loc;hn.lt
def Inv.sz(I:Inv X pins σ H s):X.s₀.heap.objs.size<=s.heap.objs.size:=Nat.le_trans I.ok.above (Nat.le_of_lt I.lt)
def Inv.LK(I:Inv X pins σ H s){a:Addr}(h:s.heap.objs.size<=a):a ∉ X.fs:=fun hb=>by
 obtain⟨_,o,ho,_⟩:=I.ok.Iw.mem hb
 exact absurd (Nat.lt_of_lt_of_le (Heap.lt_size ho) (Nat.le_trans I.sz h)) (Nat.lt_irrefl _)
def Inv.Lb(I:Inv X pins σ H s):∀x c,X.env.cells.lookup x=some c->c≠X.env.locals:=fun x c e z=>by
 obtain⟨v,o,ho,hd⟩:=I.cell x c e
 obtain⟨m,⟨o',es,ep,ho',hd',_⟩,_⟩:=I.loc
 rw[z,ho']at ho;cases ho;rw[hd']at hd;cases hd
theorem Inv.Iw(I:Inv X pins σ H s):s.heap.FunFrames X.base X.outer:=by
 have all:∀(l:List Env),(∀b∈frs l,b∈X.fs)->X.s₀.heap.FunFrames X.base l->s.heap.FunFrames X.base l:=by
  intro l
  induction l with
  |nil=>intro _ _;trivial
  |cons env r ih=>
   intro hs hl
   obtain⟨hk,⟨L,o,hf,hn,ho,hd⟩,hr⟩:=hl
   have hL:L∈X.fs:=hs L (by unfold frs;rw[List.filterMap_cons,hf];exact List.mem_cons_self)
   obtain⟨sl,e⟩:=I.base.slot L o ho (I.ok.La L hL) hL fun z=>I.ok.Ke L z hL
   exact⟨hk,⟨L,_,hf,hn,e,hd⟩,ih (fun b hb=>hs b (by unfold frs;rw[List.filterMap_cons,hf];exact List.mem_cons_of_mem _ hb)) hr⟩
 exact all X.outer (fun _ hb=>hb) I.ok.Iw
theorem Inv.stack(I:Inv X pins σ H s):s.heap.FunFrames X.base X.stack:=by
 rcases I.ok.stk with e|⟨e,hf⟩
 ·rw[e];exact I.Iw
 ·rw[e]
  obtain⟨m,hn,_⟩:=I.loc
  refine .cons (by rw[I.ok.kind];decide) hf hn ?_ I.Iw
  exact Heap.get?_none_of_le (Nat.le_trans I.ok.Kz I.ok.above)
def Inv.HY(I:Inv X pins σ H s):∀b∈frs X.stack,b∈X.env.locals::X.fs:=fun b hb=>by
 rcases I.ok.stk with e|⟨e,hf⟩
 ·rw[e]at hb;exact List.mem_cons_of_mem _ hb
 ·rw[e]at hb
  unfold frs at hb
  rw[List.filterMap_cons,hf]at hb
  exact hb
def Inv.JR(I:Inv X pins σ H s):∀b∈frs X.stack,H b=none:=fun b hb=>by
 rcases List.mem_cons.mp (I.HY b hb)with e|hb
 ·rw[e];exact I.free
 ·obtain⟨_,o,ho,_⟩:=I.ok.Iw.mem hb
  exact I.base.free b o ho (I.ok.La b hb) fun z=>I.ok.Ke b z hb
def Inv.step{g':Array GenState}{t':Nat}{d':Drawn}{ch:List Addr}(I:Inv X pins σ H s)
  (hch:∀b∈ch,(b∈X.ex\/X.s₀.heap.objs.size<=b)/\b≠X.env.locals/\(∀x c,X.env.cells.lookup x=some c->c≠b)/\∀p∈X.pn++pins,p.1≠b)
  (keep:∀b o,b≠X.env.locals->b ∉ X.fs->b ∉ ch->s.heap.get? b=some o->H b=none->h'.get? b=some o)
  (slot:∀b o,b≠X.env.locals->b∈X.fs->b ∉ ch->s.heap.get? b=some o->H b=none->∃sl,h'.get? b=some { o with slots:=sl }) (free:∀b o,b ∉ ch->s.heap.get? b=some o->H b=none->H' b=none)
  (there:∀b o,b ∉ ch->s.heap.get? b=some o->∃o',h'.get? b=some o')
  (tups:∀b xs,H b=some (.tup xs)->H' b=some (.tup xs)) (IR:∀b o u,H b=some (.frz o u)->H' b=some (.frz o u)) (Jq:∀b ps,H b=some (.K8 ps)->∃more,H' b=some (.K8 (ps++more)))
  (ns:∀m,s.heap.Ns X.env.locals m->h'.Ns X.env.locals m) (hok:Hv X.prog X.w H' h') (hg:AllBare g') :
  Inv X pins σ H' { s with heap:=h',gens:=g',drawn:=d',toks:=t' }:=by
 have Nv:∀b o,X.s₀.heap.get? b=some o->b≠X.env.locals:=fun b o e=>Nat.ne_of_lt (Nat.lt_of_lt_of_le (Heap.lt_size e) I.ok.above)
 have L_:∀b o,X.s₀.heap.get? b=some o->b ∉ X.ex->b ∉ ch:=fun b o e hx hb=>by
  rcases(hch b hb).1 with z|z
  ·exact hx z
  ·exact absurd (Nat.lt_of_lt_of_le (Heap.lt_size e) z) (Nat.lt_irrefl _)
 have cellK:∀x c,X.env.cells.lookup x=some c->∀v,s.heap.IsCell c v->h'.IsCell c v:=fun x c e v ⟨o,ho,hd⟩=>by
  have LL:c ∉ ch:=fun z=>(hch c z).2.2.1 x c e rfl
  by_cases hc:c∈X.fs
  ·obtain⟨sl,q⟩:=slot c o (I.Lb x c e) hc LL ho (I.Hf x c e)
   exact⟨_,q,hd⟩
  ·exact⟨o,keep c o (I.Lb x c e) hc LL ho (I.Hf x c e),hd⟩
 refine⟨I.ok,I.os,hg,⟨fun b o e n hb hx=>?_,fun b o e n hb hx=>?_,fun b o e n hx=>?_,fun b o e hx=>?_,fun b xs e=>tups b xs (I.base.tups b xs e),fun b o xs e=>IR b o xs (I.base.IR b o xs e),fun b ps e=>?_⟩,?_,fun x c e=>?_,?_,fun x c e=>?_,fun p hp=>?_,hok,I.len⟩
 ·exact keep b o (Nv b o e) hb (L_ b o e hx) (I.base.keep b o e n hb hx) (I.base.free b o e n hx)
 ·obtain⟨sl,e1⟩:=I.base.slot b o e n hb hx
  obtain⟨sl',e2⟩:=slot b _ (Nv b o e) hb (L_ b o e hx) e1 (I.base.free b o e n hx)
  exact⟨sl',e2⟩
 ·obtain⟨o',e1⟩:=I.base.there b o e hx
  exact free b o' (L_ b o e hx) e1 (I.base.free b o e n hx)
 ·obtain⟨o',e1⟩:=I.base.there b o e hx
  exact there b o' (L_ b o e hx) e1
 ·obtain⟨m1,e1⟩:=I.base.Jq b ps e
  obtain⟨m2,e2⟩:=Jq b _ e1
  exact⟨m1++m2,by rw[e2,Array.append_assoc]⟩
 ·obtain⟨m,hn,hl⟩:=I.loc
  refine⟨m,ns m hn,fun i x v e1 e2 e3=>?_⟩
  obtain⟨u,r,l⟩:=hl i x v e1 e2 e3
  refine⟨u,r,?_⟩
  rcases l with l|⟨k,c,e,z⟩
  ·exact .inl l
  ·exact .inr ⟨k,c,e,cellK x c e _ z⟩
 ·obtain⟨v,z⟩:=I.cell x c e
  exact⟨v,cellK x c e v z⟩
 ·obtain⟨m,⟨o,_,_,ho,_⟩,_⟩:=I.loc
  exact free _ o (fun z=>(hch _ z).2.1 rfl) ho I.free
 ·obtain⟨v,o,ho,hd⟩:=I.cell x c e
  exact free c o (fun z=>(hch c z).2.2.1 x c e rfl) ho (I.Hf x c e)
 ·obtain⟨e,n,ne,nf,d⟩:=I.pin p hp
  have LL:p.1 ∉ ch:=fun z=>(hch p.1 z).2.2.2 p hp rfl
  exact⟨keep p.1 p.2 ne nf LL e n,free p.1 p.2 LL e n,ne,nf,d⟩
def Inv.un{t':Nat}(I:Inv X pins σ H s)(u:Un X.fs [] H H' s.heap h')(hok:Hv X.prog X.w H' h'):Inv X pins σ H' { s with heap:=h',toks:=t' }:=by
 obtain⟨m,⟨o,es,ep,ho,r⟩,_⟩:=id I.loc
 obtain⟨sl,hL⟩:=u.any ho I.free (by simp)
 exact I.step (g':=s.gens) (d':=s.drawn) (ch:=[]) (fun _ z=>nomatch z) (fun b o _ hb _ e n=>u.keep b o e n hb (by simp)) (fun b o _ hb _ e n=>u.slot b o e n hb (by simp)) (fun b o _ e n=>u.free b o e n (by simp)) (fun b o _ e=>u.there b o e (by simp)) u.tups u.IR u.Jq (fun m' hm=>by
  obtain⟨o',es',Mx,ho',r'⟩:=hm
  rw[ho]at ho';cases ho'
  exact⟨_,es',Mx,hL,r'⟩) hok I.bare
def Inv.call{g':Array GenState}{t':Nat}{d':Drawn}{ch:List Addr}(I:Inv X pins σ H s)(u:Un (frs X.stack) ch H H' s.heap h')(hok:Hv X.prog X.w H' h')(hg:AllBare g')
  (hch:∀b∈ch,(b∈X.ex\/X.s₀.heap.objs.size<=b)/\b≠X.env.locals/\(∀x c,X.env.cells.lookup x=some c->c≠b)/\∀p∈X.pn++pins,p.1≠b) :
  Inv X pins σ H' { s with heap:=h',gens:=g',drawn:=d',toks:=t' }:=by
 obtain⟨m,⟨o,es,ep,ho,r⟩,_⟩:=id I.loc
 obtain⟨sl,hL⟩:=u.any ho I.free fun z=>(hch _ z).2.1 rfl
 exact I.step (ch:=ch) hch (fun b o hL hb hc e n=>u.keep b o e n (fun z=>(List.mem_cons.mp (I.HY b z)).elim hL hb) hc) (fun b o _ _ hc e n=>u.any e n hc) (fun b o hc e n=>u.free b o e n hc) (fun b o hc e=>u.there b o e hc) u.tups u.IR u.Jq (fun m' hm=>by
  obtain⟨o',es',Mx,ho',r'⟩:=hm
  rw[ho]at ho';cases ho'
  exact⟨_,es',Mx,hL,r'⟩) hok hg
def Inv.turned{t':Nat}{it:Addr}(I:Inv X pins σ H s)(k:∀b o,b≠it->s.heap.get? b=some o->h'.get? b=some o)(hn:H it=none)(hL:it≠X.env.locals)
  (h1:it∈X.ex\/X.s₀.heap.objs.size<=it) (h2:∀x c,X.env.cells.lookup x=some c->c≠it) (h3:∀p∈X.pn++pins,p.1≠it):Inv X pins σ H { s with heap:=h',toks:=t' }:=by
 have LN:∀b u,H b=some u->b≠it:=fun b u e z=>by rw[z,hn]at e;cases e
 refine I.step (g':=s.gens) (d':=s.drawn) (ch:=[it]) (fun b hb=>?_) (fun b o _ _ hc e _=>k b o (fun z=>hc (by simp[z])) e) (fun b o _ _ hc e _=>⟨o.slots,k b o (fun z=>hc (by simp[z])) e⟩) (fun _ _ _ _ n=>n)
  (fun b o hc e=>⟨o,k b o (fun z=>hc (by simp[z])) e⟩) (fun _ _ e=>e) (fun _ _ _ e=>e) (fun b ps e=>⟨#[],by rw[e];simp⟩) (fun m hm=>?_) (fun b u e=>?_) I.bare
 ·have e:b=it:=by simpa using hb
  subst e
  exact⟨h1,hL,h2,h3⟩
 ·obtain⟨o,es,ep,ho,r⟩:=hm
  exact⟨o,es,ep,k _ o (Ne.symm hL) ho,r⟩
 ·refine(I.hok b u e).stay (fun c v hc q=>k c v ?_ q) (fun _ q=>q) fun _ _ q=>q
  rcases hc with z|z
  ·rw[z];exact LN b u e
  ·exact LN c _ z
def Inv.tok(I:Inv X pins σ H s)(t:Nat):Inv X pins σ H { s with toks:=t }:=I.un (h':=s.heap) (t':=t) Un.refl I.hok
theorem Inv.kept{t':Nat}(I:Inv X pins σ H s)(k:∀b u,s.heap.get? b=some u->h'.get? b=some u):Inv X pins σ H { s with heap:=h',toks:=t' }:=I.un (Un.kept k) (I.hok.kept k)
theorem Inv.laid{a:Addr}{o:HO}{t':Nat}(I:Inv X pins σ H s)(k:∀b u,s.heap.get? b=some u->h'.get? b=some u)(hp:s.heap.objs.size<=a)(new:ObjOk X.prog X.w (upd H a o) h' a o) :
  Inv X pins σ (upd H a o) { s with heap:=h',toks:=t' }:=I.un (Un.laid k hp (I.hok.fresh hp)) (I.hok.laid k hp new)
theorem Inv.write{x e:Addr}{o:HO}{t':Nat}(I:Inv X pins σ H s)(mu:BN (H x))(he:e=x\/H e=some (.own x))(k:∀b u,b≠e->s.heap.get? b=some u->h'.get? b=some u)(Ly:∃u,h'.get? e=some u)
  (new:ObjOk X.prog X.w (upd H x o) h' x o):Inv X pins σ (upd H x o) { s with heap:=h',toks:=t' }:=I.un (Un.write mu he k Ly) (I.hok.write mu he k Ly new)
def Inv.weak{σ':List (Option V)}(I:Inv X pins σ H s)(hl:σ'.length=σ.length)(w:∀(i:Nat) v,σ'[i]?=some (some v)->σ[i]?=some (some v)):Inv X pins σ' H s:=
 ⟨I.ok,I.os,I.bare,I.base,let ⟨m,hn,hl'⟩:=I.loc;⟨m,hn,fun i x v e1 e2 e3=>hl' i x v e1 (w i v e2) e3⟩,I.cell,I.free,I.Hf,I.pin,I.hok,hl.trans I.len⟩
def Inv.Iz{JS:Va}(I:Inv X pins σ H s)(h:∀p∈JS,s.heap.get? p.1=some p.2/\H p.1=none/\p.1≠X.env.locals/\p.1 ∉ X.fs/\∀v,p.2.data ≠ .cell v):Inv X JS σ H s:=
 ⟨I.ok,I.os,I.bare,I.base,I.loc,I.cell,I.free,I.Hf,fun p hp=>(List.mem_append.mp hp).elim (fun z=>I.pin p (List.mem_append_left _ z)) (h p),I.hok,I.len⟩
def pA{N:Vs}(hN:N.Nodup){i j:Nat}{x:Str}(a:N[i]?=some x)(b:N[j]?=some x):i=j:=by
 obtain⟨h1,e1⟩:=List.getElem?_eq_some_iff.mp a
 obtain⟨h2,e2⟩:=List.getElem?_eq_some_iff.mp b
 exact(List.getElem_inj hN).mp (e1.trans e2.symm)
def mP {M : Model} {A : Around} {E : Value -> Shared -> Prop} {i : Nat} {x : Str} {v : V} {u : Value} {Q : Unit -> Shared -> Prop} (I : Inv X pins σ H s) (hN : X.N.Nodup) (hi : X.N[i]? = some x) (hx : y8 X.env.scope x) (r : RelV v u)
  (h : ∀ s', Inv X pins (σ.set i (some v)) H s' -> (∃ a, Heap.SameBut a s.heap s'.heap /\ (a = X.env.locals \/ X.env.cells.lookup x = some a)) -> Q () s') (hf : X.fn x = true \/ X.env.scope.names.lookup x = some .local := by first | exact .inl rfl | exact .inr rfl | assumption) : wpAny M A (storeName X.env x u) Q E s := by
 obtain ⟨m, hn, hl⟩ := id I.loc
 have hcls : (X.env.scope.kind == .class || (X.env.scope.kind == .module && X.env.locals != X.env.globals)) = false := by rw [I.ok.kind]; rfl
 have Nw : i < σ.length := by rw [I.len]; exact (List.getElem?_eq_some_iff.mp hi).1
 have Lb := I.Lb
 have tracked : ∀ {a : Addr} {h' : Heap}, (∃ o, s.heap.get? a = some o /\ H a = none) -> Heap.SameBut a s.heap h' -> Hv X.prog X.w H h' := fun {a h'} ha hs b ob e => by
  obtain ⟨_, _, hfree⟩ := ha
  refine (I.hok b ob e).stay (fun c w' hc q => (hs.2 c ?_).trans q) (fun _ q => q) fun _ _ q => q
  rintro rfl
  rcases hc with rfl | hc
  ·rw [hfree] at e; cases e
  ·rw [hfree] at hc; cases hc
 rcases hx with hk | hk
 ·refine wpAny_storeName_local hk hn (fun h' hn' hs => ?_) hcls
  obtain ⟨oL, _, _, Oj, _⟩ := id hn
  refine h _ ⟨I.ok, I.os, I.bare, ⟨fun b o e n hb hx => ?_, fun b o e n hb hx => ?_, I.base.free, fun b o e hx => ?_, I.base.tups, I.base.IR, I.base.Jq⟩, ⟨_, hn', fun j y v' e1 e2 e3 => ?_⟩, fun y c e => ?_, I.free, I.Hf, fun p hp => ?_, tracked ⟨oL, Oj, I.free⟩ hs, by simpa using I.len⟩ ⟨_, hs, .inl rfl⟩
  ·exact (hs.2 b (Nat.ne_of_lt (Nat.lt_of_lt_of_le (Heap.lt_size e) I.ok.above))).trans (I.base.keep b o e n hb hx)
  ·obtain ⟨sl, e1⟩ := I.base.slot b o e n hb hx
   exact ⟨sl, (hs.2 b (Nat.ne_of_lt (Nat.lt_of_lt_of_le (Heap.lt_size e) I.ok.above))).trans e1⟩
  ·obtain ⟨o', e1⟩ := I.base.there b o e hx
   exact ⟨o', (hs.2 b (Nat.ne_of_lt (Nat.lt_of_lt_of_le (Heap.lt_size e) I.ok.above))).trans e1⟩
  ·by_cases hj : j = i
   ·subst hj
    rw [hi] at e1; cases e1
    rw [List.getElem?_set_self Nw] at e2
    cases e2
    exact ⟨u, r, .inl ⟨hk, by simp⟩⟩
   ·rw [List.getElem?_set_ne (Ne.symm hj)] at e2
    obtain ⟨u', r', q⟩ := hl j y v' e1 e2 e3
    refine ⟨u', r', ?_⟩
    rcases q with ⟨k, e⟩ | ⟨k, c, e, z⟩
    ·refine .inl ⟨k, ?_⟩
     have : y ≠ x := fun e => hj (pA hN e1 (e ▸ hi))
     simp [this, e]
    ·exact .inr ⟨k, c, e, z.sameBut hs (Lb y c e)⟩
  ·obtain ⟨w', z⟩ := I.cell y c e
   exact ⟨w', z.sameBut hs (Lb y c e)⟩
  ·obtain ⟨e, n, ne, nf, d⟩ := I.pin p hp
   exact ⟨(hs.2 p.1 ne).trans e, n, ne, nf, d⟩
 ·have hfn : X.fn x = true := by
   rcases hf with z | z
   ·exact z
   ·rw [z] at hk; cases hk
  obtain ⟨c, hc⟩ := I.ok.has x (.inl hk)
  obtain ⟨w', z⟩ := I.cell x c hc
  refine wpAny_storeName_cell I.ok.kind hk hc z (fun h' hc' hs => ?_)
  obtain ⟨oc, hoc, My⟩ := id z
  refine h { s with heap := h' } ⟨I.ok, I.os, I.bare, ⟨fun b o e n hb hx => ?_, fun b o e n hb hx => ?_, I.base.free, fun b o e hx => ?_, I.base.tups, I.base.IR, I.base.Jq⟩, ⟨m, hn.sameBut hs (Ne.symm (Lb x c hc)), fun j y v' e1 e2 e3 => ?_⟩, fun y c' e => ?_, I.free, I.Hf, fun p hp => ?_, tracked ⟨oc, hoc, I.Hf x c hc⟩ hs, by simpa using I.len⟩ ⟨c, hs, .inr hc⟩
  ·exact (hs.2 b (Nat.ne_of_lt (Nat.lt_of_lt_of_le (Heap.lt_size e) (I.ok.Lz x c hfn hc)))).trans (I.base.keep b o e n hb hx)
  ·obtain ⟨sl, e1⟩ := I.base.slot b o e n hb hx
   exact ⟨sl, (hs.2 b (Nat.ne_of_lt (Nat.lt_of_lt_of_le (Heap.lt_size e) (I.ok.Lz x c hfn hc)))).trans e1⟩
  ·obtain ⟨o', e1⟩ := I.base.there b o e hx
   exact ⟨o', (hs.2 b (Nat.ne_of_lt (Nat.lt_of_lt_of_le (Heap.lt_size e) (I.ok.Lz x c hfn hc)))).trans e1⟩
  ·by_cases hj : j = i
   ·subst hj
    rw [hi] at e1; cases e1
    rw [List.getElem?_set_self Nw] at e2
    cases e2
    exact ⟨u, r, .inr ⟨.inl hk, c, hc, hc'⟩⟩
   ·rw [List.getElem?_set_ne (Ne.symm hj)] at e2
    obtain ⟨u', r', q⟩ := hl j y v' e1 e2 e3
    refine ⟨u', r', ?_⟩
    rcases q with q | ⟨k, c', e, z'⟩
    ·exact .inl q
    ·refine .inr ⟨k, c', e, z'.sameBut hs ?_⟩
     rintro rfl
     exact hj (pA hN e1 (I.ok.inj _ _ _ e hc ▸ hi))
  ·by_cases hcc : c' = c
   ·subst hcc; exact ⟨_, hc'⟩
   ·obtain ⟨w2, z2⟩ := I.cell y c' e
    exact ⟨w2, z2.sameBut hs hcc⟩
  ·obtain ⟨e, n, ne, nf, d⟩ := I.pin p hp
   refine ⟨(hs.2 p.1 ?_).trans e, n, ne, nf, d⟩
   intro q
   rw [q, hoc] at e
   have q' : oc = p.2 := Option.some.inj e
   exact d w' (by rw [<- q']; exact My)
def d0{M:Model}{A:Around}{E:Vq}{i:Nat}{x:Str}{v:V}{u:Value}{Q:Unit->Shared->Prop}(I:Inv X pins σ H s)(hN:X.N.Nodup)(hi:X.N[i]?=some x)(hx:y8 X.env.scope x)(r:RelV v u)
  (h:∀s',Inv X pins (σ.set i (some v)) H s'->Q () s') (hf:X.fn x=true\/X.env.scope.names.lookup x=some .local:=by first|exact .inl rfl|exact .inr rfl|assumption):wpAny M A (storeName X.env x u) Q E s:=
 mP I hN hi hx r (fun s' I' _=>h s' I') hf
def Inv.LP{s':Shared}{ch:List Addr}(I:Inv X pins σ H s)(ho:s'.os=s.os)(u:Un (frs X.stack) ch H H' s.heap s'.heap)(hok:Hv X.prog X.w H' s'.heap)(hg:AllBare s'.gens)
  (hch:∀b∈ch,(b∈X.ex\/X.s₀.heap.objs.size<=b)/\b≠X.env.locals/\(∀x c,X.env.cells.lookup x=some c->c≠b)/\∀p∈X.pn++pins,p.1≠b):Inv X pins σ H' s':=by
 obtain⟨h',g',d',t',o'⟩:=s'
 have e:o'=s.os:=ho
 subst e
 exact I.call (g':=g') (t':=t') (d':=d') u hok hg hch
end
abbrev XK:=Value->Option Addr->Hp->Prop
abbrev St:=List (Option V)
abbrev VK:=V->Hp->Prop
abbrev TE:=St->Hp->VK->Prop
abbrev TT:=St->Hp->(Bool->Hp->Prop)->Prop
abbrev TA:=St->Hp->(List V->Hp->Prop)->Prop
structure qN where
 nx:St->Hp->Prop
 rt:VK
 bk:St->Hp->Prop:=fun _ _=>False
 ct:St->Hp->Prop:=fun _ _=>False
abbrev TS:=qN->St->Hp->Prop
def EP(X:Cx)(pins:Va)(σ:St)(Q:VK)(u:Value)(s':Shared):Prop:=∃v H',Inv X pins σ H' s'/\RelV v u/\Q v H'
def TP(X:Cx)(pins:Va)(σ:St)(Q:Bool->Hp->Prop)(b:Bool)(s':Shared):Prop:=∃H',Inv X pins σ H' s'/\Q b H'
def AP(X:Cx)(pins:Va)(σ:St)(Q:List V->Hp->Prop)(us:Vv)(s':Shared):Prop:=∃vs H',Inv X pins σ H' s'/\Vals vs us/\Q vs H'
def SP(X:Cx)(pins:Va)(D:qN)(f:Flow)(s':Shared):Prop:=
 match f with
 | .next=>∃σ' H',Inv X pins σ' H' s'/\D.nx σ' H'
 | .brk=>∃σ' H',Inv X pins σ' H' s'/\D.bk σ' H'
 | .cont=>∃σ' H',Inv X pins σ' H' s'/\D.ct σ' H'
 | .ret u=>∃v σ' H',Inv X pins σ' H' s'/\RelV v u/\D.rt v H'
def PE(X:Cx)(e:Expr)(t:TE):Prop:=
 ∀(pins:Va) (s:Shared) (σ:St) (H:Hp) (Q:VK),Inv X pins σ H s->t σ H Q->wpAny (model X.prog X.w) X.A (eval e X.env) (EP X pins σ Q) X.xe s
def PT(X:Cx)(e:Expr)(t:TT):Prop:=
 ∀(pins:Va) (s:Shared) (σ:St) (H:Hp) (Q:Bool->Hp->Prop),Inv X pins σ H s->t σ H Q->wpAny (model X.prog X.w) X.A (isTrue e X.env (eval e X.env)) (TP X pins σ Q) X.xe s
def PW(X:Cx)(e:Expr)(t:TT):Prop:=
 ∀(whole:Sem Value) (pins:Va) (s:Shared) (σ:St) (H:Hp) (Q:Bool->Hp->Prop),Inv X pins σ H s->t σ H Q->wpAny (model X.prog X.w) X.A (isTrue e X.env whole) (TP X pins σ Q) X.xe s
def PW.pt{X:Cx}{e:Expr}{t:TT}(h:PW X e t):PT X e t:=h _
def PA(X:Cx)(es:List Expr)(t:TA):Prop:=
 ∀(pos:Pos) (pins:Va) (s:Shared) (σ:St) (H:Hp) (Q:List V->Hp->Prop),Inv X pins σ H s->t σ H Q->wpAny (model X.prog X.w) X.A (spliced (backTo pos (starEach es X.env))) (AP X pins σ Q) X.xe s
def PS(X:Cx)(st:Stmt)(t:TS):Prop:=
 ∀(pins:Va) (s:Shared) (σ:St) (H:Hp) (D:qN),Inv X pins σ H s->t D σ H->wpAny (model X.prog X.w) X.A (exec st X.env) (SP X pins D) X.xe s
def Jr(X:Cx)(st:List Stmt)(t:TS):Prop:=
 ∀(pins:Va) (s:Shared) (σ:St) (H:Hp) (D:qN),Inv X pins σ H s->t D σ H->wpAny (model X.prog X.w) X.A (execs st X.env) (SP X pins D) X.xe s
def Fw{α:Type}{t:Sem α}{Q Q':α->Shared->Prop}{M:Model}{A:Around}{E:Vq}{s:Shared}(h:wpAny M A t Q E s)(hQ:∀a s,Q a s->Q' a s):wpAny M A t Q' E s:=wpAny_mono h hQ fun _ _ x=>x
section
variable {X:Cx}
def DE(i:Nat):TE:=fun σ H Q=>∃v,σ[i]?=some (some v)/\Q v H
def tC(v:V):TE:=fun _ H Q=>Q v H
def zJ{i:Nat}{x:Str}{pos:Pos}(hN:X.N[i]?=some x)(hv:Dn X.env.scope x)(hd:(x == ("__debug__":Str))=false:=by decide)(hcd:(x == ("__classdict__":Str))=false:=by decide):PE X (.Name x pos) (DE i):=by
 intro pins s σ H Q I h
 obtain⟨v,e,h⟩:=h
 obtain⟨m,hn,hl⟩:=I.loc
 obtain⟨u,r,l⟩:=hl i x v hN e hv
 have fin:EP X pins σ Q u s:=⟨v,H,I,r,h⟩
 rcases l with⟨hk,hm⟩|⟨hk,c,hc,hcell⟩
 ·exact wpAny_Name (wpAny_loadName_local I.ok.kind hk hn hm fin) hd
 ·rcases hk with hk|hk
  ·exact wpAny_Name (wpAny_loadName_cell I.ok.kind hk hc hcell fin) hd
  ·exact wpAny_Name (wpAny_loadName_free I.ok.kind hk hc hcell fin hcd) hd
def zK{i j pos}:PE X (.Constant (.int i) j pos) (tC (.int i)):=fun _ _ _ H _ I h=>wpAny_Constant_int ⟨.int i,H,I.tok _,⟨_,rfl⟩,h⟩
def BO{b j pos}:PE X (.Constant (.bool b) j pos) (tC (.bl b)):=fun _ _ _ H _ I h=>Constant_bool ⟨.bl b,H,I,rfl,h⟩
def zL{j pos}:PE X (.Constant .none j pos) (tC .non):=fun _ _ _ H _ I h=>Constant_none ⟨.non,H,I,rfl,h⟩
def zM{x j pos}:PE X (.Constant (.str x) j pos) (tC (.str x)):=fun _ _ _ H _ I h=>Calls.Constant_str ⟨.str x,H,I.tok _,⟨_,rfl⟩,h⟩
def Gl(X:Cx)(x:Str):Prop:=X.env.kindOf x=some .globalImplicit
def r_{E:Vq}{pins:Va}{s:Shared}{σ:St}{H:Hp}{x:Str}{u:Value}{pos:Pos}{Q:Vq}(I:Inv X pins σ H s)(hg:Gl X x)(hm:X.mg x=some u)(h:Q u s)
  (hd:(x == ("__debug__":Str))=false:=by decide):wpAny (model X.prog X.w) X.A (eval (.Name x pos) X.env) Q E s:=
 Calls.Name_function_global I.ok.kind hg (Calls.loadGlobal_global (by rw[I.ok.glob];exact I.mod.glob.keeps I.bk) hm h) hd
def fA{E:Vq}{pins:Va}{s:Shared}{σ:St}{H:Hp}{x:Str}{u:Value}{pos:Pos}{Q:Vq}(I:Inv X pins σ H s)(hg:Gl X x)(hm:X.mg x=none)(hv:bootBuiltins x=some u)(h:Q u s)
  (hn:x ≠ "__name__":=by decide) (hd:(x == ("__debug__":Str))=false:=by decide):wpAny (model X.prog X.w) X.A (eval (.Name x pos) X.env) Q E s:=by
 obtain⟨mb,h1,h2⟩:=I.mod.blt
 exact Calls.Name_function_global I.ok.kind hg (Calls.loadGlobal_builtin (by rw[I.ok.glob];exact I.mod.glob.keeps I.bk) hm (by rw[I.ok.blt];exact h1.keeps I.bk) ((h2 x hn).trans hv) h) hd
def w4{x:Str}{v:V}{u:Value}{pos:Pos}(hg:Gl X x)(hm:X.mg x=none)(hv:bootBuiltins x=some u)(r:RelV v u)(hn:x ≠ "__name__":=by decide)(hd:(x == ("__debug__":Str))=false:=by decide):PE X (.Name x pos) (tC v):=
 fun _ _ _ H _ I h=>fA I hg hm hv ⟨v,H,I,r,h⟩ hn hd
variable {a b:Expr} {ta tb:TE} {pos:Pos}
def tB(t:TE):TT:=fun σ H Q=>t σ H fun x H1=>∃c,x = .bl c/\Q c H1
def zN{e:Expr}{t:TE}(h:PE X e t)(he:∀whole,isTrue e X.env whole=(do let v <-whole;standAt e.pos;holding [v] (truthy v)):=by intro _;rfl):PT X e (tB t):=by
 intro pins s σ H Q I hw
 refine isTrue_plain (Fw (h pins s σ H _ I hw) fun v s1 ⟨x,H1,I1,r1,q1⟩=>?_) (he _)
 obtain⟨d,rfl,q⟩:=q1
 cases r1
 exact wpAny_truthy_bool ⟨H1,I1,q⟩
variable {tA Ma:TT} {rest:List Expr}
def DF(t u:TT):TT:=fun σ H Q=>t σ H fun c H1=>if c=true then u σ H1 Q else Q false H1
def ER(t u:TT):TT:=fun σ H Q=>t σ H fun c H1=>if c=true then Q true H1 else u σ H1 Q
def DG(t:TT):TT:=fun σ H Q=>t σ H fun c H1=>Q (!c) H1
def w5(ha:PT X a tA):PW X (.BoolOp .And [a] pos) tA:=by
 intro wh pins s σ H Q I h
 refine isTrue_and (Fw (ha pins s σ H Q I h) fun c s1 e=>?_)
 cases c with
 |true=>exact isTrue_and_nil e
 |false=>exact e
def zO(ha:PT X a tA):PW X (.BoolOp .Or [a] pos) tA:=by
 intro wh pins s σ H Q I h
 refine isTrue_or (Fw (ha pins s σ H Q I h) fun c s1 e=>?_)
 cases c with
 |false=>exact isTrue_or_nil e
 |true=>exact e
def zP(ha:PT X a tA)(hb:PW X (.BoolOp .And (b::rest) pos) Ma):PW X (.BoolOp .And (a::b::rest) pos) (DF tA Ma):=by
 intro wh pins s σ H Q I h
 refine isTrue_and (Fw (ha pins s σ H _ I h) fun c s1 ⟨H1,I1,q1⟩=>?_)
 cases c with
 |true=>exact hb wh pins s1 σ H1 Q I1 q1
 |false=>exact⟨H1,I1,q1⟩
def BP(ha:PT X a tA)(hb:PW X (.BoolOp .Or (b::rest) pos) Ma):PW X (.BoolOp .Or (a::b::rest) pos) (ER tA Ma):=by
 intro wh pins s σ H Q I h
 refine isTrue_or (Fw (ha pins s σ H _ I h) fun c s1 ⟨H1,I1,q1⟩=>?_)
 cases c with
 |true=>exact⟨H1,I1,q1⟩
 |false=>exact hb wh pins s1 σ H1 Q I1 q1
def zQ(ha:PT X a tA):PT X (.UnaryOp .Not a pos) (DG tA):=by
 intro pins s σ H Q I h
 exact isTrue_not (ha pins s σ H (fun c H1=>Q (!c) H1) I h)
def BQ(ta tb:TE):TE:=fun σ H Q=>ta σ H fun x H1=>∃c,x = .bl c/\if c=true then tb σ H1 Q else Q (.bl false) H1
def DH(ta tb:TE):TE:=fun σ H Q=>ta σ H fun x H1=>∃c,x = .bl c/\if c=true then Q (.bl true) H1 else tb σ H1 Q
def BR(ta:TE):TE:=fun σ H Q=>ta σ H fun x H1=>∃c,x = .bl c/\Q (.bl (!c)) H1
def zR{op}{t:TE}(h:PE X a t):PE X (.BoolOp op [a] pos) t:=fun pins s σ H Q I hw=>BoolOp_one (h pins s σ H Q I hw)
def zS(ha:PE X a ta)(hb:PE X (.BoolOp .And (b::rest) pos) tb):PE X (.BoolOp .And (a::b::rest) pos) (BQ ta tb):=by
 intro pins s σ H Q I h
 refine BoolOp_and (Fw (ha pins s σ H _ I h) fun v s1 ⟨x,H1,I1,r1,q1⟩=>?_)
 obtain⟨c,rfl,q1⟩:=q1
 cases r1
 refine wpAny_truthy_bool ?_
 cases c with
 |true=>exact hb pins s1 σ H1 Q I1 q1
 |false=>exact⟨.bl false,H1,I1,rfl,q1⟩
def BS(ha:PE X a ta)(hb:PE X (.BoolOp .Or (b::rest) pos) tb):PE X (.BoolOp .Or (a::b::rest) pos) (DH ta tb):=by
 intro pins s σ H Q I h
 refine BoolOp_or (Fw (ha pins s σ H _ I h) fun v s1 ⟨x,H1,I1,r1,q1⟩=>?_)
 obtain⟨c,rfl,q1⟩:=q1
 cases r1
 refine wpAny_truthy_bool ?_
 cases c with
 |false=>exact hb pins s1 σ H1 Q I1 q1
 |true=>exact⟨.bl true,H1,I1,rfl,q1⟩
def zT(ha:PE X a ta):PE X (.UnaryOp .Not a pos) (BR ta):=by
 intro pins s σ H Q I h
 refine UnaryOp_ (Fw (ha pins s σ H _ I h) fun v s1 ⟨x,H1,I1,r1,q1⟩=>?_)
 obtain⟨c,rfl,q1⟩:=q1
 cases r1
 exact not_of (wpAny_truthy_bool ⟨.bl (!c),H1,I1,rfl,q1⟩)
def ES(t:TT)(ta tb:TE):TE:=fun σ H Q=>t σ H fun c H1=>if c=true then ta σ H1 Q else tb σ H1 Q
def uC{c:Expr}(hc:PT X c tA)(ha:PE X a ta)(hb:PE X b tb):PE X (.IfExp c a b pos) (ES tA ta tb):=by
 intro pins s σ H Q I h
 refine wpAny_IfExp (Fw (hc pins s σ H _ I h) fun d s1 ⟨H1,I1,q1⟩=>?_)
 cases d with
 |true=>exact ha pins s1 σ H1 Q I1 q1
 |false=>exact hb pins s1 σ H1 Q I1 q1
end
def SqL(K:Vo)(H:Hp)(a:Addr)(xs:List V):Prop:=
 Rd H a (.lst xs) \/
  ∃(o:Obj) (its:Vw) (n:Nat),K.lookup a=some o/\o.cls = .type "list"/\o.dict=none/\o.data = .seq its n/\its.size<=sizeLine/\Vals xs its.toList
def SqT(K:Vo)(H:Hp)(a:Addr)(xs:List V):Prop:=
 Rd H a (.tup xs) \/
  ∃(o:Obj) (its:Vw) (n:Nat),K.lookup a=some o/\o.cls = .type "tuple"/\o.dict=none/\o.data = .seq its n/\its.size<=sizeLine/\Vals xs its.toList
noncomputable def DI:Value->Option V
 | .none=>some .non
 | .bool b=>some (.bl b)
 | .int i _=>some (.int i)
 | .str x _=>some (.str x)
 | .bytes b _=>some (.Kd b)
 | .float b _=>some (.Mq b)
 | .ref a=>some (.ref a)
 | .type n=>some (.ty n)
 |_=>none
def RelV.abs{x:V}{u:Value}(r:RelV x u):DI u=some x:=by
 cases x with
 |non=>cases r;rfl
 |bl _=>cases r;rfl
 |int _=>obtain⟨t,rfl⟩:=r;rfl
 |str _=>obtain⟨t,rfl⟩:=r;rfl
 |Kd _=>obtain⟨t,rfl⟩:=r;rfl
 |Mq _=>obtain⟨t,rfl⟩:=r;rfl
 |ref _=>cases r;rfl
 |ty _=>cases r;rfl
theorem RelV.inj{x y:V}{u:Value}(r:RelV x u)(q:RelV y u):x=y:=Option.some.inj (r.abs.symm.trans q.abs)
theorem Vals.inj:∀{xs ys:List V} {us:Vv},Vals xs us->Vals ys us->xs=ys
 |_,_,_,.nil,.nil=>rfl
 |_,_,_,.cons r t,.cons r' t'=>by rw[r.inj r',Vals.inj t t']
section
variable {X:Cx} {pins:Va} {σ:St} {H:Hp} {s:Shared} {a:Addr} {xs ys:List V}
def SqL.of{K:Vo}(h:H a=some (.lst xs)):SqL K H a xs:=.inl (.inl h)
def SqT.of{K:Vo}(h:H a=some (.tup xs)):SqT K H a xs:=.inl (.inl h)
def Inv.list(I:Inv X pins σ H s)(h:SqL X.K H a xs):∃its:List Value,Vals xs its/\PlainL s.heap a its.toArray/\xs.length<=sizeLine:=by
 rcases h with h|⟨o,its,n,hk,hc,hd,hs,hz,r⟩
 ·obtain⟨z,its,n,r,e⟩:=h.ok I.hok
  exact⟨its,r,⟨_,n,e,rfl,rfl,rfl⟩,z⟩
 ·refine⟨its.toList,r,⟨o,n,I.Kf a o hk,hc,hd,by simpa using hs⟩,?_⟩
  have e:=r.length
  simp only[Array.length_toList]at e
  omega
def Inv.tuple(I:Inv X pins σ H s)(h:SqT X.K H a xs):∃its:List Value,Vals xs its/\IsTup s.heap a its.toArray/\xs.length<=sizeLine:=by
 rcases h with h|⟨o,its,n,hk,hc,_,hs,hz,r⟩
 ·obtain⟨z,its,r,p⟩:=h.ok I.hok
  exact⟨its,r,p.tup,z⟩
 ·refine⟨its.toList,r,⟨o,I.Kf a o hk,hc,n,by simpa using hs⟩,?_⟩
  have e:=r.length
  simp only[Array.length_toList]at e
  omega
def Inv.IB(I:Inv X pins σ H s)(h:SqL X.K H a xs)(h':SqL X.K H a ys):xs=ys:=by
 obtain⟨its,r,⟨o,n,e,_,_,d⟩,_⟩:=I.list h
 obtain⟨its',r',⟨o',n',e',_,_,d'⟩,_⟩:=I.list h'
 rw[e]at e';cases e'
 rw[d]at d'
 injection d' with d1 _
 have:its=its':=by simpa using congrArg Array.toList d1
 subst this
 exact r.inj r'
def Inv.HZ(I:Inv X pins σ H s)(h:SqT X.K H a xs)(h':SqT X.K H a ys):xs=ys:=by
 obtain⟨its,r,⟨o,e,_,n,d⟩,_⟩:=I.tuple h
 obtain⟨its',r',⟨o',e',_,n',d'⟩,_⟩:=I.tuple h'
 rw[e]at e';cases e'
 rw[d]at d'
 injection d' with d1 _
 have:its=its':=by simpa using congrArg Array.toList d1
 subst this
 exact r.inj r'
end
noncomputable abbrev Cx.wish(X:Cx)(E:Vq):Cx:={ X with xe:=E }
noncomputable abbrev Cx.Lc(X:Cx):Cx:=X.wish fun _ _=>False
theorem Cx.Ok.wish{X:Cx}(ok:X.Ok)(E:Vq):(X.wish E).Ok:=
 ⟨ok.mod,ok.kind,ok.glob,ok.blt,ok.above,ok.inj,ok.has,ok.Lz,ok.hd,ok.frames,ok.stk,ok.Mv,ok.bs,ok.Kz,ok.J5,ok.Ke,ok.Iw,ok.La⟩
def Cx.Ok.Hg{X:Cx}{E:Vq}(ok:(X.wish E).Ok):X.Ok:=
 ⟨ok.mod,ok.kind,ok.glob,ok.blt,ok.above,ok.inj,ok.has,ok.Lz,ok.hd,ok.frames,ok.stk,ok.Mv,ok.bs,ok.Kz,ok.J5,ok.Ke,ok.Iw,ok.La⟩
section
variable {X:Cx} {pins:Va} {σ:St} {H:Hp} {s:Shared} {E:Vq}
theorem Inv.wish(I:Inv X pins σ H s)(E:Vq):Inv (X.wish E) pins σ H s:=⟨I.ok.wish E,I.os,I.bare,I.base,I.loc,I.cell,I.free,I.Hf,I.pin,I.hok,I.len⟩
theorem Inv.Hg(I:Inv (X.wish E) pins σ H s):Inv X pins σ H s:=⟨I.ok.Hg,I.os,I.bare,I.base,I.loc,I.cell,I.free,I.Hf,I.pin,I.hok,I.len⟩
theorem SP.Hg{D:qN}{f:Flow}{s':Shared}(h:SP (X.wish E) pins D f s'):SP X pins D f s':=by
 cases f with
 |next=>obtain⟨σ',H',I,q⟩:=h;exact⟨σ',H',I.Hg,q⟩
 |brk=>obtain⟨σ',H',I,q⟩:=h;exact⟨σ',H',I.Hg,q⟩
 |cont=>obtain⟨σ',H',I,q⟩:=h;exact⟨σ',H',I.Hg,q⟩
 |ret u=>obtain⟨v,σ',H',I,r,q⟩:=h;exact⟨v,σ',H',I.Hg,r,q⟩
theorem Jr.Lc{st:List Stmt}{t:TS}(h:Jr X.Lc st t):Jr X st t:=fun pins s σ H D I hw=>
 wpAny_mono (h pins s σ H D (I.wish _) hw) (fun _ _ q=>q.Hg) fun _ _ z=>False.elim z
end
section
variable {X:Cx} {st:Stmt} {rest:List Stmt} {t u:TS} {e:Expr} {te:TE} {pos:Pos}
def BU:TS:=fun D σ H=>D.nx σ H
def DJ(t u:TS):TS:=fun D σ H=>t { D with nx:=u D } σ H
def w9:Jr X [] BU:=fun _ _ σ H _ I h=>wpAny_execs_nil ⟨σ,H,I,h⟩
def uD(h1:PS X st t)(h2:Jr X rest u):Jr X (st::rest) (DJ t u):=by
 intro pins s σ H D I h
 refine wpAny_execs_cons (Fw (h1 pins s σ H { D with nx:=u D } I h) fun f s1 q=>?_)
 cases f with
 |next=>
  obtain⟨σ',H',I',q⟩:=q
  exact h2 pins s1 σ' H' D I' q
 |ret v=>exact q
 |brk=>exact q
 |cont=>exact q
def w_(h1:PS X st t):Jr X [st] t:=by
 intro pins s σ H D I h
 refine wpAny_execs_cons (Fw (h1 pins s σ H D I h) fun f s1 q=>?_)
 cases f with
 |next=>exact wpAny_execs_nil q
 |ret v=>exact q
 |brk=>exact q
 |cont=>exact q
def Inv.quiet{pins:Va}{σ:St}{H:Hp}{s:Shared}(I:Inv X pins σ H s):interactive X.env=false:=by simp[interactive,I.ok.kind]
def BV(te:TE):TS:=fun D σ H=>te σ H fun _ H1=>D.nx σ H1
def xg(he:PE X e te)(hs:swapsWith e none pos.line X.env=pure false:=by rfl):PS X (.Expr e pos) (BV te):=by
 intro pins s σ H D I h
 exact wpAny_Expr_any (Fw (he pins s σ H _ I h) fun v s1 ⟨x,H1,I1,r1,q1⟩=>⟨σ,H1,I1,q1⟩) I.quiet hs
def DK(te:TE):TS:=fun D σ H=>te σ H D.rt
def zU(he:PE X e te):PS X (.Return (some e) pos) (DK te):=by
 intro pins s σ H D I h
 exact wpAny_Return_some (Fw (he pins s σ H _ I h) fun v s1 ⟨x,H1,I1,r1,q1⟩=>⟨x,σ,H1,I1,r1,q1⟩)
def DL(c:TT)(t u:TS):TS:=fun D σ H=>c σ H fun b H1=>if b=true then t D σ H1 else u D σ H1
def BW{c:Expr}{a b:List Stmt}{tc:TT}(hc:PT X c tc)(ha:Jr X a t)(hb:Jr X b u):PS X (.If c a b pos) (DL tc t u):=by
 intro pins s σ H D I h
 refine wpAny_If (Fw (hc pins s σ H _ I h) fun d s1 ⟨H1,I1,q1⟩=>?_)
 cases d with
 |true=>exact ha pins s1 σ H1 D I1 q1
 |false=>exact hb pins s1 σ H1 D I1 q1
end
abbrev TG:=V->St->Hp->(St->Hp->Prop)->Prop
abbrev y9:=List V->St->Hp->(St->Hp->Prop)->Prop
def PG(X:Cx)(target:Expr)(t:TG):Prop:=
 ∀(pins:Va) (s:Shared) (σ:St) (H:Hp) (v:V) (u:Value) (Q:St->Hp->Prop),Inv X pins σ H s->RelV v u->t v σ H Q->
  wpAny (model X.prog X.w) X.A (assign target X.env u) (fun _ s'=>∃σ' H',Inv X pins σ' H' s'/\Q σ' H') X.xe s
def BX(X:Cx)(ts:List Expr)(t:y9):Prop:=
 ∀(pins:Va) (s:Shared) (σ:St) (H:Hp) (vs:List V) (us:Vv) (Q:St->Hp->Prop),Inv X pins σ H s->Vals vs us->t vs σ H Q->
  wpAny (model X.prog X.w) X.A (assignInOrder ((assignEach ts X.env).map (·.2)) us) (fun _ s'=>∃σ' H',Inv X pins σ' H' s'/\Q σ' H') X.xe s
abbrev zV:=V->V->V->Hp->(Hp->Prop)->Prop
def xh(X:Cx)(t:zV):Prop:=
 ∀(pins:Va) (s:Shared) (σ:St) (H:Hp) (o i v:V) (ov iv u:Value) (Q:Hp->Prop),Inv X pins σ H s->RelV o ov->RelV i iv->RelV v u->t o i v H Q->
  wpAny (model X.prog X.w) X.A (setItem ov iv u) (fun _ s'=>∃H',Inv X pins σ H' s'/\Q H') X.xe s
section
variable {X:Cx} {pos:Pos}
def pB(i:Nat):TG:=fun v σ H Q=>Q (σ.set i (some v)) H
def xi{i:Nat}{x:Str}(hN:X.N.Nodup)(hi:X.N[i]?=some x)(hx:y8 X.env.scope x)(hf:X.fn x=true\/X.env.scope.names.lookup x=some .local:=by first|exact .inl rfl|exact .inr rfl|assumption):PG X (.Name x pos) (pB i):=by
 intro pins s σ H v u Q I r h
 exact wpAny_assign_Name (d0 I hN hi hx r (fun s' I'=>⟨_,H,I',h⟩) hf)
noncomputable def BY:y9:=fun vs σ H Q=>vs=[]/\Q σ H
noncomputable def y_(t:TG)(u:y9):y9:=fun vs σ H Q=>∃v r,vs=v::r/\t v σ H fun σ' H'=>u r σ' H' Q
def xj:BX X [] BY:=by
 intro pins s σ H vs us Q I r h
 obtain⟨e,h⟩:=h
 subst e
 cases r
 exact assignInOrder_nil ⟨σ,H,I,h⟩
def uE{e:Expr}{es:List Expr}{t:TG}{u:y9}(h1:PG X e t)(h2:BX X es u)
  (hs:(assignEach (e::es) X.env).map (·.2)=assign e X.env::(assignEach es X.env).map (·.2):=by rfl):BX X (e::es) (y_ t u):=by
 intro pins s σ H vs us Q I r h
 obtain⟨v,vr,e1,h⟩:=h
 subst e1
 cases r with
 |cons r rr=>
  rw[hs]
  refine assignInOrder_cons (Fw (h1 pins s σ H _ _ _ I r h) fun _ s1 ⟨σ1,H1,I1,q1⟩=>?_)
  exact h2 pins s1 σ1 H1 _ _ Q I1 rr q1
def BZ(K:Vo)(n:Nat)(t:y9):TG:=fun v σ H Q=>∃a xs,v = .ref a/\SqT K H a xs/\xs.length=n/\t xs σ H Q
def zW{es:List Expr}{k:Nat}{t:y9}{n:Nat}(hc:X.calm=true)(h:BX X es t)
  (hn:(assignEach es X.env).length=n:=by rfl) (hst:(assignEach es X.env).findIdx? (·.1)=none:=by rfl):PG X (.Tuple es k pos) (BZ X.K n t):=by
 intro pins s σ H v u Q I r hw
 obtain⟨a,xs,e1,hq,hl,hw⟩:=hw
 subst e1
 cases r
 obtain⟨its,rv,ht,hz⟩:=I.tuple hq
 refine assign_Tuple_tuple (I.ok.hd hc) ht (by simp[hn,<-hl,rv.length]) hst fun h' hx=>?_
 have I1:Inv X pins σ H { s with heap:=h' }:=I.kept (t':=s.toks) fun b o e=>hx b o (Nat.ne_of_lt (Heap.lt_size e)) e
 exact h pins _ σ H xs _ Q I1 (by simpa using rv) hw
def DM(to ti:TE)(t:zV):TG:=fun v σ H Q=>to σ H fun o H1=>ti σ H1 fun i H2=>t o i v H2 fun H3=>Q σ H3
def zX{o i:Expr}{to ti:TE}{t:zV}(ho:PE X o to)(hi:PE X i ti)(hs:xh X t)
  (ha:∀v,assign (.Subscript o i pos) X.env v=(do
   let ov <-holding [v] (eval o X.env)
   let iv <-holding [v,ov] (eval i X.env)
   standAt pos
   holding [v,ov,iv] (setItem ov iv v)
   release [v,ov,iv] []):=by intro _;rfl):PG X (.Subscript o i pos) (DM to ti t):=by
 intro pins s σ H v u Q I r h
 rw[ha]
 refine wpAny_bind (wpAny_holding (Fw (ho pins s σ H _ I h) fun ov s1 ⟨x,H1,I1,r1,q1⟩=>?_))
 refine wpAny_bind (wpAny_holding (Fw (hi pins s1 σ H1 _ I1 q1) fun iv s2 ⟨y,H2,I2,r2,q2⟩=>?_))
 refine wpAny_bind (wpAny_standAt (wpAny_bind (wpAny_holding (Fw (hs pins s2 σ H2 x y v ov iv u _ I2 r1 r2 r q2) fun _ s3 ⟨H3,I3,q3⟩=>?_))))
 exact wpAny_release ⟨σ,H3,I3,q3⟩
def xq(te:TE)(g:TG):TS:=fun D σ H=>te σ H fun x H1=>g x σ H1 D.nx
def zY{tg e:Expr}{te:TE}{g:TG}(he:PE X e te)(hg:PG X tg g)(hs:swapsWithSole [tg] e pos.line X.env=pure false:=by rfl)(hw:swappedStores [tg] e X.env=pure none:=by rfl)
  (h1:(assignEach [tg] X.env).map (·.2)=[assign tg X.env]:=by rfl):PS X (.Assign [tg] e pos) (xq te g):=by
 intro pins s σ H D I h
 refine wpAny_Assign_stores (Fw (he pins s σ H _ I h) fun v s1 ⟨x,H1,I1,r1,q1⟩=>?_) hs hw
 rw[h1]
 exact Fw (hg pins s1 σ H1 x v _ I1 r1 q1) fun _ s2 q=>q
def zZ{i:Nat}{x:Str}{e:Expr}{te:TE}{pos':Pos}(hN:X.N.Nodup)(hi:X.N[i]?=some x)(hx:y8 X.env.scope x)(he:PE X e te)(hs:swapsWith e (some (.Name x pos')) pos.line X.env=pure false:=by rfl)(hf:X.fn x=true\/X.env.scope.names.lookup x=some .local:=by first|exact .inl rfl|exact .inr rfl|assumption) :
  PS X (.Assign [.Name x pos'] e pos) (xq te (pB i)):=by
 intro pins s σ H D I h
 refine wpAny_Assign_Name (Fw (he pins s σ H _ I h) fun v s1 ⟨y,H1,I1,r1,q1⟩=>?_) hs
 exact d0 I1 hN hi hx r1 (fun s2 I2=>⟨_,H1,I2,q1⟩) hf
def DN(i j:Nat)(ta:TA):TS:=fun D σ H=>ta σ H fun vs H1=>∃v w,vs=[v,w]/\D.nx ((σ.set i (some v)).set j (some w)) H1
def z_{i j:Nat}{x y:Str}{a b:Expr}{ta:TA}{px py pt:Pos}{kt k2 Ld}(hc:X.calm=true)(hN:X.N.Nodup)(hi:X.N[i]?=some x)(hj:X.N[j]?=some y)(hij:i≠j)
  (hx:X.env.scope.names.lookup x=some .local) (hy:X.env.scope.names.lookup y=some .local) (ha:PA X [a,b] ta)
  (hw:swappedStores [.Tuple [.Name x px,.Name y py] kt pt] (.Tuple [a,b] k2 Ld) X.env=pure (some [x,y]))
  (hs:swapsWithSole [.Tuple [.Name x px,.Name y py] kt pt] (.Tuple [a,b] k2 Ld) pos.line X.env=pure false:=by rfl) :
  PS X (.Assign [.Tuple [.Name x px,.Name y py] kt pt] (.Tuple [a,b] k2 Ld) pos) (DN i j ta):=by
 intro pins s σ H D I h
 rw[exec_Assign_arm]
 refine wpAny_bind (wpAny_standAt ?_)
 rw[hs]
 refine wpAny_bind (wpAny_pure ?_)
 rw[if_neg (by decide)]
 refine wpAny_bind (Tuple_ (Fw (ha _ pins s σ H _ I h) fun us s1 ⟨vs,H1,I1,r1,q1⟩=>?_))
 obtain⟨v,w,e1,q1⟩:=q1
 subst e1
 obtain⟨u1,u2,rfl,rv,rw'⟩:∃u1 u2,us=[u1,u2]/\RelV v u1/\RelV w u2:=by
  cases r1 with
  |cons p q=>
   cases q with
   |cons p' q'=>
    cases q'
    exact⟨_,_,rfl,p,p'⟩
 refine wpAny_newObj_type ?_ (by show 2<=sizeLine;decide)
 have I2:Inv X pins σ H1 { s1 with heap:=s1.heap.push { cls:=.type "tuple",data:=.seq [u1,u2].toArray } }:=I1.kept (t':=s1.toks) fun b o e=>Heap.get?_push_of_some _ e
 rw[hw]
 refine wpAny_bind (wpAny_pure ?_)
 show wpAny (model X.prog X.w) X.A (do rule "assign.swapped-stores"; let items <-unpackItems (.ref s1.heap.objs.size) 2 none;assignInOrder [fun v=>bindName X.env y v,fun v=>bindName X.env x v] items.reverse;pure Flow.next) _ _ _
 refine wpAny_bind (wpAny_rule (wpAny_bind (unpackItems_tuple (items:=#[u1,u2]) (I.ok.hd hc) (IsTup.new s1.heap _) fun h' hx'=>?_)))
 have I3:=I2.kept (h':=h') (t':=s1.toks) fun b o e=>hx' b o (Nat.ne_of_lt (Heap.lt_size e)) e
 show wpAny _ _ (assignInOrder [fun v=>bindName X.env y v,fun v=>bindName X.env x v] [u2,u1] >>= fun _=>pure Flow.next) _ _ _
 refine wpAny_bind (assignInOrder_cons (wpAny_bindName (d0 I3 hN hj (.inl hy) rw' (fun s2 I4=>?_) (.inr hy))))
 refine assignInOrder_cons (wpAny_bindName (d0 I4 hN hi (.inl hx) rv (fun s3 I5=>assignInOrder_nil (wpAny_pure ?_)) (.inr hx)))
 rw[List.set_comm _ _ (Ne.symm hij)]at I5
 exact⟨_,H1,I5,q1⟩
end
section
variable {X:Cx} {pos:Pos}
def Aa(c:TT)(tb:TS):TS:=fun D σ H=>∃W:Nat->St->Hp->Prop,(∃m,W m σ H)/\∀m σ H,W m σ H->
 c σ H fun b H1=>if b=true then ∃N:St->Hp->Prop,(∀σ' H',N σ' H'->∃m',m' < m/\W m' σ' H')/\tb { D with nx:=N,ct:=N,bk:=D.nx } σ H1 else D.nx σ H1
def uF{c:Expr}{body:List Stmt}{tc:TT}{tb:TS}(hp:PassesOwn (model X.prog X.w) X.A X.env X.xe)(hc:PT X c tc)(hb:Jr X body tb):PS X (.While c body [] pos) (Aa tc tb):=by
 intro pins s σ H D I h
 obtain⟨W,⟨m0,w0⟩,turn⟩:=h
 refine wpAny_While (codeAny_whileLoop (fun n s'=>∃σ' H',Inv X pins σ' H' s'/\W n σ' H') ?_ m0 ⟨σ,H,I,w0⟩)
 rintro n s1 ⟨σ1,H1,I1,w1⟩
 refine wpAny_passesOwn hp (Fw (hc pins s1 σ1 H1 _ I1 (turn n σ1 H1 w1)) fun b s2 ⟨H2,I2,q2⟩=>?_)
 cases b with
 |true=>
  obtain⟨N,hN,q2⟩:=q2
  rw[if_pos rfl]
  refine wpAny_passesOwn hp (Fw (hb pins s2 σ1 H2 _ I2 q2) fun f s3 q3=>?_)
  cases f with
  |next=>
   obtain⟨σ3,H3,I3,n3⟩:=q3
   obtain⟨m',hm,w3⟩:=hN σ3 H3 n3
   exact⟨m',hm,σ3,H3,I3,w3⟩
  |cont=>
   obtain⟨σ3,H3,I3,n3⟩:=q3
   obtain⟨m',hm,w3⟩:=hN σ3 H3 n3
   exact⟨m',hm,σ3,H3,I3,w3⟩
  |brk=>exact q3
  |ret v=>exact q3
 |false=>
  rw[if_neg Bool.false_ne_true]
  exact wpAny_execs_nil ⟨σ1,H2,I2,q2⟩
end
structure It where
 go:Nat->Hp->Prop
 Mb:Nat->Hp->V->Hp->Prop
 stop:Nat->Hp->Prop
def fB(X:Cx)(pins:Va)(H:Hp)(b:Addr):Prop:=
 H b=none/\b≠X.env.locals/\b ∉ X.fs/\(b∈X.ex\/X.s₀.heap.objs.size<=b)/\(∀x c,X.env.cells.lookup x=some c->c≠b)/\∀p∈X.pn++pins,p.1≠b
def Inv.HR{X:Cx}{pins:Va}{σ:St}{H H':Hp}{s:Shared}{b:Addr}(I:Inv X pins σ H s)(hb:s.heap.objs.size<=b)(hn:H' b=none):fB X pins H' b:=by
 refine⟨hn,Nat.ne_of_gt (Nat.lt_of_lt_of_le I.lt hb),I.LK hb,.inr (Nat.le_trans I.sz hb),fun x c e z=>?_,fun p hp z=>?_⟩
 ·obtain⟨v,q⟩:=I.cell x c e
  exact absurd (Nat.lt_of_lt_of_le q.lt (by rw[z];exact hb)) (Nat.lt_irrefl _)
 ·exact absurd (Nat.lt_of_lt_of_le (Heap.lt_size (I.pin p hp).1) (by rw[z];exact hb)) (Nat.lt_irrefl _)
structure ml (P:Program) (w:World) (K:Vo) (tg:Expr) (J:It) (fp:List Addr) (it:Addr) (tn:Nat->Heap->Prop):Prop where
 mem:it∈fp
 obj:∀i h,tn i h->∀b∈fp,∃o,h.get? b=some o/\∀v,o.data ≠ .cell v
 keep:∀i h h',tn i h->(∀b∈fp,∀o,h.get? b=some o->h'.get? b=some o)->tn i h'
 item:∀(X:Cx),X.prog=P->X.w=w->X.K=K->X.calm=true->∀(i:Nat) (pins:Va) (s:Shared) (σ:St) (H:Hp) (E:Vq),Inv X pins σ H s->(∀b∈fp,fB X pins H b)->tn i s.heap->J.go i H->
  wpAny (model P w) X.A (pyNext (.ref it)) (fun r s1=>∃u,r=some u/\
   wpAny (model P w) X.A (letOwnedTupleGo tg (.ref it) u) (fun _ s2=>∃x H',Inv X pins σ H' s2/\RelV x u/\J.Mb i H x H'/\tn (i+1) s2.heap/\∀b∈fp,H' b=none) E s1) E s
 done:∀(X:Cx),X.prog=P->X.w=w->X.K=K->X.calm=true->∀(i:Nat) (pins:Va) (s:Shared) (σ:St) (H:Hp) (E:Vq),Inv X pins σ H s->(∀b∈fp,fB X pins H b)->tn i s.heap->J.stop i H->
  wpAny (model P w) X.A (pyNext (.ref it)) (fun r s1=>r=none/\Inv X pins σ H s1) E s
 self:∀(A:Around) (i:Nat) (s:Shared) (Q:Vq) (E:Vq),tn i s.heap->Q (.ref it) s->wpAny (model P w) A (pyIter (.ref it)) Q E s
abbrev TI:=St->Hp->(It->Hp->Prop)->Prop
def DO(X:Cx)(pins:Va)(σ:St)(tg:Expr)(R:It->Hp->Prop)(itv:Value)(s2:Shared):Prop:=
 ∃(it:Addr) (fp:List Addr) (tn:Nat->Heap->Prop) (J:It) (H':Hp),itv = .ref it/\Inv X pins σ H' s2/\ml X.prog X.w X.K tg J fp it tn/\tn 0 s2.heap/\(∀b∈fp,fB X pins H' b)/\R J H'
def PI(X:Cx)(tg iter:Expr)(wi:TI):Prop:=
 ∀(pins:Va) (s:Shared) (σ:St) (H:Hp) (R:It->Hp->Prop),Inv X pins σ H s->wi σ H R->
  wpAny (model X.prog X.w) X.A (eval iter X.env) (fun v s1=>wpAny (model X.prog X.w) X.A (pyIter v) (DO X pins σ tg R) X.xe s1) X.xe s
def cO {M : Model} {A : Around} {E : Value -> Shared -> Prop} {s : Shared} {tg : Expr} {it : Addr} {u : Value} {o : Obj} {n : String} {vs : Array Value} {Q : Unit -> Shared -> Prop} (ho : s.heap.get? it = some o) (hc : o.cls = .type n) (hd : o.data = .fields vs)
    (hn : ["enumerate", "zip", "dict_itemiterator", "dict_reverseitemiterator", "odict_iterator", "itertools.zip_longest", "itertools.pairwise"].contains n = false) (hQ : Q () s) : wpAny M A (letOwnedTupleGo tg (.ref it) u) Q E s := by
  unfold letOwnedTupleGo
  cases tg <;> first
    | exact wpAny_pure hQ
    | (cases u <;> first
        | exact wpAny_pure hQ
        | (refine wpAny_bind (wpAny_load ho ?_)
           rw [hc, hd]
           show wpAny M A (if (["enumerate", "zip", "dict_itemiterator", "dict_reverseitemiterator", "odict_iterator", "itertools.zip_longest", "itertools.pairwise"].contains n && vs[0]? == some (rawInt _)) = true then _ else _) Q E s
           rw [if_neg (by intro h; rw [hn, Bool.false_and] at h; cases h)]
           exact wpAny_pure hQ))
noncomputable def Do(K:Vo)(a:Addr):It:=
 ⟨fun i H=>∃xs x,SqL K H a xs/\xs[i]?=some x,fun i H x H'=>H'=H/\∀xs,SqL K H a xs->xs[i]?=some x,fun i H=>∃xs,SqL K H a xs/\xs.length<=i⟩
noncomputable def DP(K:Vo)(a:Addr):It:=
 ⟨fun i H=>∃xs x,SqT K H a xs/\xs[i]?=some x,fun i H x H'=>H'=H/\∀xs,SqT K H a xs->xs[i]?=some x,fun i H=>∃xs,SqT K H a xs/\xs.length<=i⟩
noncomputable def Dp(lo:Int)(n:Nat):It:=⟨fun i _=>i < n,fun i H x H'=>H'=H/\x = .int (lo+i),fun i _=>n<=i⟩
def sY{P:Program}{w:World}{K:Vo}{tg:Expr}(a it:Addr):ml P w K tg (Do K a) [it] it (fun i h=>h.IsListIter it a i) where
 mem:=by simp
 obj:=fun i h st b hb=>by
  have e:b=it:=by simpa using hb
  subst e
  obtain⟨o,e,c,d⟩:=st
  exact⟨o,e,fun v z=>by rw[d]at z;cases z⟩
 keep:=fun i h h' st k=>st.at fun o e=>k it (by simp) o e
 item:=by
  intro X hP hw hK hc i pins s σ H E I hf st hg
  subst hP hw hK
  obtain⟨xs,x,hq,hx⟩:=hg
  obtain⟨its,rv,p,hz⟩:=I.list hq
  obtain⟨u,hu,ru⟩:=rv.get hx
  obtain⟨f0,f1,f2,f3,f4,f5⟩:=hf it (by simp)
  refine wpAny_pyNext_list_item st p.isList (x:=u) (by simpa using hu) fun h' st' sb=>?_
  have I1:Inv X pins σ H { s with heap:=h' }:=I.turned (t':=s.toks) (fun b o hb e=>(sb.2 b hb).trans e) f0 f1 f3 f4 f5
  obtain⟨o,e,c,d⟩:=id st'
  exact⟨u,rfl,cO (s:={ s with heap:=h' }) e c d (by decide) ⟨x,H,I1,ru,⟨rfl,fun ys hy=>by rw[I.IB hy hq];exact hx⟩,st',fun b hb=>(hf b hb).1⟩⟩
 done:=by
  intro X hP hw hK hc i pins s σ H E I hf st hg
  subst hP hw hK
  obtain⟨xs,hq,hx⟩:=hg
  obtain⟨its,rv,p,hz⟩:=I.list hq
  obtain⟨f0,f1,f2,f3,f4,f5⟩:=hf it (by simp)
  have hl:=rv.length
  exact wpAny_pyNext_list_end (I.ok.hd hc) st p.isList (by simp;omega) fun h' eb=>⟨rfl,I.turned (t':=s.toks) (fun b o hb e=>eb b o hb e) f0 f1 f3 f4 f5⟩
 self:=fun _ _ _ _ _ st h=>wpAny_pyIter_listiter st h
def qO{P:Program}{w:World}{K:Vo}{tg:Expr}(a it:Addr):ml P w K tg (DP K a) [it] it (fun i h=>h.IsTupleIter it a i) where
 mem:=by simp
 obj:=fun i h st b hb=>by
  have e:b=it:=by simpa using hb
  subst e
  obtain⟨o,e,c,d⟩:=st
  exact⟨o,e,fun v z=>by rw[d]at z;cases z⟩
 keep:=fun i h h' st k=>st.at fun o e=>k it (by simp) o e
 item:=by
  intro X hP hw hK hc i pins s σ H E I hf st hg
  subst hP hw hK
  obtain⟨xs,x,hq,hx⟩:=hg
  obtain⟨its,rv,p,hz⟩:=I.tuple hq
  obtain⟨u,hu,ru⟩:=rv.get hx
  obtain⟨f0,f1,f2,f3,f4,f5⟩:=hf it (by simp)
  refine wpAny_pyNext_tuple_item st (show s.heap.IsTuple a its.toArray from p) (x:=u) (by simpa using hu) fun h' st' sb=>?_
  have I1:Inv X pins σ H { s with heap:=h' }:=I.turned (t':=s.toks) (fun b o hb e=>(sb.2 b hb).trans e) f0 f1 f3 f4 f5
  obtain⟨o,e,c,d⟩:=id st'
  exact⟨u,rfl,cO (s:={ s with heap:=h' }) e c d (by decide) ⟨x,H,I1,ru,⟨rfl,fun ys hy=>by rw[I.HZ hy hq];exact hx⟩,st',fun b hb=>(hf b hb).1⟩⟩
 done:=by
  intro X hP hw hK hc i pins s σ H E I hf st hg
  subst hP hw hK
  obtain⟨xs,hq,hx⟩:=hg
  obtain⟨its,rv,p,hz⟩:=I.tuple hq
  obtain⟨f0,f1,f2,f3,f4,f5⟩:=hf it (by simp)
  have hl:=rv.length
  exact wpAny_pyNext_tuple_end (I.ok.hd hc) st (show s.heap.IsTuple a its.toArray from p) (by simp;omega) fun h' eb=>⟨rfl,I.turned (t':=s.toks) (fun b o hb e=>eb b o hb e) f0 f1 f3 f4 f5⟩
 self:=fun _ _ _ _ _ st h=>wpAny_pyIter_tupleiter st h
def qP{P:Program}{w:World}{K:Vo}{tg:Expr}(it:Addr)(lo:Int)(n:Nat):ml P w K tg (Dp lo n) [it] it (fun i h=>IsRangeIter h it (lo+(i:Nat) * 1) ((n:Int) - (i:Nat)) 1) where
 mem:=by simp
 obj:=fun i h st b hb=>by
  have e:b=it:=by simpa using hb
  subst e
  exact⟨_,st,fun v z=>by
   have z':Data.fields _=Data.cell v:=z
   cases z'⟩
 keep:=fun i h h' st k=>k it (by simp) _ st
 item:=by
  intro X hP hw hK hc i pins s σ H E I hf st hg
  subst hP hw hK
  obtain⟨f0,f1,f2,f3,f4,f5⟩:=hf it (by simp)
  have W:=Walks.range (prog:=X.prog) (w:=X.w) (I.ok.hd hc) it lo 1 n
  refine W.item i s _ _ hg st fun v h' tk hv st' kk=>?_
  obtain⟨t,rfl⟩:=hv
  have I1:Inv X pins σ H { s with heap:=h',toks:=tk }:=I.turned (fun b o hb e=>kk b o (by simpa using hb) e) f0 f1 f3 f4 f5
  refine⟨_,rfl,cO (s:={ s with heap:=h',toks:=tk }) (n:="range_iterator") st' rfl rfl (by decide) ⟨.int (lo+i),H,I1,⟨t,?_⟩,⟨rfl,rfl⟩,st',fun b hb=>(hf b hb).1⟩⟩
  rw[Int.mul_one]
 done:=by
  intro X hP hw hK hc i pins s σ H E I hf st hg
  subst hP hw hK
  obtain⟨f0,f1,f2,f3,f4,f5⟩:=hf it (by simp)
  exact wpAny_pyNext_range_end (I.ok.hd hc) st (by have:n<=i:=hg;omega) fun h' eb=>⟨rfl,I.turned (t':=s.toks) (fun b o hb e=>eb b o hb e) f0 f1 f3 f4 f5⟩
 self:=fun _ _ _ _ _ st h=>wpAny_pyIter_rangeiter st h
section
variable {X:Cx} {tg:Expr}
def uG{pins:Va}{σ:St}{H:Hp}{s:Shared}{R:It->Hp->Prop}{E:Vq}{lo hi:Int}{t u v:Tok}{tk:Nat}(I:Inv X pins σ H s)(h1:-(2 ^ 62)<=lo)(h2:lo < 2 ^ 62)(h3:-(2 ^ 62)<=hi)(h4:hi < 2 ^ 62)
  (q:R (Dp lo (hi - lo).toNat) H):wpAny (model X.prog X.w) X.A (pyIter (.ref s.heap.objs.size)) (DO X pins σ tg R) E { s with heap:=s.heap.push { cls:=.type "range",data:=.fields #[.int lo t,.int hi u,.int 1 v] },toks:=tk }:=by
 refine wpAny_pyIter_range (IsRange.new ..) (small_one h1 h2 h3 h4) ?_
 have I1:Inv X pins σ H { s with heap:=s.heap.push { cls:=.type "range",data:=.fields #[.int lo t,.int hi u,.int 1 v] },toks:=tk }:=I.kept fun b o e=>Heap.get?_push_of_some _ e
 refine⟨(s.heap.push { cls:=.type "range",data:=.fields #[.int lo t,.int hi u,.int 1 v] }).objs.size,[(s.heap.push { cls:=.type "range",data:=.fields #[.int lo t,.int hi u,.int 1 v] }).objs.size],_,_,H,rfl,
  I1.kept (t':=tk) fun b o e=>Heap.get?_push_of_some _ e,qP _ lo (hi - lo).toNat,?_,fun b hb=>?_,q⟩
 ·have e1:lo+((0:Nat):Int) * 1=lo:=by simp
  have e2:(((hi - lo).toNat:Nat):Int) - ((0:Nat):Int)=Builtin.Range.rangeSize lo hi 1:=by rw[rangeSize_one];split<;>omega
  show IsRangeIter _ _ (lo+((0:Nat):Int) * 1) ((((hi - lo).toNat:Nat):Int) - ((0:Nat):Int)) 1
  rw[e1,e2]
  exact Heap.get?_push_size _ rfl
 ·have e:b=(s.heap.push { cls:=.type "range",data:=.fields #[.int lo t,.int hi u,.int 1 v] }).objs.size:=by simpa using hb
  subst e
  exact I1.HR (Nat.le_refl _) (I1.hok.fresh (Nat.le_refl _))
def B1(ta:TA):TI:=fun σ H R=>ta σ H fun vs H1=>∃j:Int,vs=[.int j]/\-(2 ^ 62)<=j/\j < 2 ^ 62/\R (Dp 0 j.toNat) H1
def sZ{a:Expr}{ta:TA}{p pos:Pos}(hg:Gl X "range")(hm:X.mg "range" = none)(ha:PA X [a] ta)(hs:starEach [a] X.env=[(false,eval a X.env)]:=by rfl):PI X tg (.Call (.Name "range" p) [a] [] pos) (B1 ta):=by
 intro pins s σ H R I h
 refine Call_ (fA I hg hm boot_range (PyProof.Rows.callWith_type1 (Fw (ha pos pins s σ H _ I h) fun us s1 ⟨vs,H1,I1,r1,q1⟩=>?_) hs rfl))
 obtain⟨j,e,q1,q2,q⟩:=q1
 subst e
 cases r1 with
 |cons r rr=>
  cases rr
  obtain⟨t,rfl⟩:=r
  exact call_range_1 (uG I1 (by omega) (by omega) q1 q2 (by simpa using q))
def DQ(wi:TI)(g:TG)(tb:TS):TS:=fun D σ H=>wi σ H fun J H1=>∃W:Nat->Nat->St->Hp->Prop,(∃m,W 0 m σ H1)/\∀i m σ H,W i m σ H->
 (J.stop i H/\D.nx σ H)\/(J.go i H/\∃N:St->Hp->Prop,(∀σ' H',N σ' H'->∃m',m' < m/\W (i+1) m' σ' H')/\∀x H',J.Mb i H x H'->g x σ H' fun σ2 H2=>tb { D with nx:=N,ct:=N,bk:=D.nx } σ2 H2)
noncomputable def lh(fp:List Addr)(h:Heap):List (Addr×Obj):=fp.filterMap fun b=>(h.get? b).map fun o=>(b,o)
def iN{fp:List Addr}{h:Heap}{b:Addr}{o:Obj}(hb:b∈fp)(e:h.get? b=some o):(b,o)∈lh fp h:=List.mem_filterMap.mpr ⟨b,hb,by rw[e];rfl⟩
def s9{fp:List Addr}{h:Heap}{p:Addr×Obj}(hp:p∈lh fp h):p.1∈fp/\h.get? p.1=some p.2:=by
 obtain⟨b,hb,e⟩:=List.mem_filterMap.mp hp
 cases q:h.get? b with
 |none=>rw[q]at e;cases e
 |some o=>
  rw[q]at e
  have e':(b,o)=p:=Option.some.inj e
  subst e'
  exact⟨hb,q⟩
def Inv.pinned{pins:Va}{σ:St}{H:Hp}{s:Shared}{fp:List Addr}(I:Inv X pins σ H s)(hf:∀b∈fp,fB X pins H b)(ho:∀b∈fp,∃o,s.heap.get? b=some o/\∀v,o.data ≠ .cell v):Inv X (pins++lh fp s.heap) σ H s:=
 I.Iz fun p hp=>(List.mem_append.mp hp).elim (fun z=>I.pin p (List.mem_append_right _ z)) fun z=>by
  obtain⟨hb,e⟩:=s9 z
  obtain⟨f0,f1,f2,_⟩:=hf p.1 hb
  obtain⟨o,e',d⟩:=ho p.1 hb
  rw[e]at e';cases e'
  exact⟨e,f0,f1,f2,d⟩
def Inv.HS{pins pl:Va}{σ:St}{H:Hp}{s:Shared}(I:Inv X (pins++pl) σ H s):Inv X pins σ H s:=I.Iz fun p hp=>I.pin p (List.mem_append_right _ (List.mem_append_left _ hp))
def Ab{iter:Expr}{body:List Stmt}{wi:TI}{g:TG}{tb:TS}{pos:Pos}(hp:PassesOwn (model X.prog X.w) X.A X.env X.xe)(hc:X.calm=true)(hi:PI X tg iter wi)(hg:PG X tg g)(hb:Jr X body tb)
  (hs:∀x,foldedSetIterable iter X.env x=pure x:=by intro _;rfl):PS X (.For tg iter body [] pos) (DQ wi g tb):=by
 intro pins s σ H D I h
 refine wpAny_For (Fw (hi pins s σ H _ I h) fun v s1 h1=>Fw h1 fun itv s2 h2=>?_) hs
 obtain⟨it,fp,tn,J,H2,e,I2,T,st2,f2,W,⟨m0,w0⟩,turn⟩:=h2
 subst e
 -- what stays true of the iterator's objects through the loop
 have stat:∀{H':Hp},(∀b∈fp,H' b=none)->∀b∈fp,fB X pins H' b:=fun hn b hb=>⟨hn b hb,(f2 b hb).2⟩
 refine codeAny_forLoop_any (fun n s'=>∃i σ' H',Inv X pins σ' H' s'/\tn i s'.heap/\(∀b∈fp,H' b=none)/\W i n σ' H') ?_ m0 ⟨0,σ,H2,I2,st2,fun b hb=>(f2 b hb).1,w0⟩
 rintro n s3 ⟨i,σ3,H3,I3,st3,Ny,w3⟩
 rcases turn i n σ3 H3 w3 with⟨stop,qn⟩|⟨go,N,hN,step⟩
 ·refine wpAny_passesOwn hp (Fw (T.done X rfl rfl rfl hc i pins s3 σ3 H3 X.xe I3 (stat Ny) st3 stop) fun r s4 ⟨hr,I4⟩=>?_)
  subst hr
  exact wpAny_execs_nil ⟨σ3,H3,I4,qn⟩
 ·refine wpAny_passesOwn hp (Fw (T.item X rfl rfl rfl hc i pins s3 σ3 H3 X.xe I3 (stat Ny) st3 go) fun r s4 ⟨u,hr,h4⟩=>?_)
  subst hr
  refine wpAny_passesOwn hp (Fw h4 fun _ s5 ⟨x,H5,I5,r5,y5,KA,Mz⟩=>?_)
  have MA:=I5.pinned (stat Mz) (T.obj _ _ KA)
  refine wpAny_passesOwn hp (Fw (hg _ s5 σ3 H5 x u _ MA r5 (step x H5 y5)) fun _ s6 ⟨σ6,H6,I6,q6⟩=>?_)
  refine wpAny_passesOwn hp (Fw (hb _ s6 σ6 H6 _ I6 q6) fun f s7 q7=>?_)
  have again:∀{σ7:St} {H7:Hp},Inv X (pins++lh fp s5.heap) σ7 H7 s7->N σ7 H7->∃m,m < n/\∃i σ' H',Inv X pins σ' H' s7/\tn i s7.heap/\(∀b∈fp,H' b=none)/\W i m σ' H':=fun{σ7 H7} I7 n7=>by
   obtain⟨m',hm,w7⟩:=hN σ7 H7 n7
   refine⟨m',hm,i+1,σ7,H7,I7.HS,T.keep _ _ _ KA fun b hb o e=>(I7.pin (b,o) (List.mem_append_right _ (List.mem_append_right _ (iN hb e)))).1,fun b hb=>?_,w7⟩
   obtain⟨o,e,d⟩:=T.obj _ _ KA b hb
   exact(I7.pin (b,o) (List.mem_append_right _ (List.mem_append_right _ (iN hb e)))).2.1
  cases f with
  |next=>obtain⟨σ7,H7,I7,n7⟩:=q7;exact again I7 n7
  |cont=>obtain⟨σ7,H7,I7,n7⟩:=q7;exact again I7 n7
  |brk=>obtain⟨σ7,H7,I7,q7⟩:=q7;exact⟨σ7,H7,I7.HS,q7⟩
  |ret v=>obtain⟨x7,σ7,H7,I7,r7,q7⟩:=q7;exact⟨x7,σ7,H7,I7.HS,r7,q7⟩
end
abbrev R2:=V->V->Hp->VK->Prop
def iB(X:Cx)(f:Value->Value->Sem Value)(r:R2):Prop:=
 ∀(pins:Va) (s:Shared) (σ:St) (H:Hp) (x y:V) (v u:Value) (Q:VK),Inv X pins σ H s->RelV x v->RelV y u->r x y H Q->
  wpAny (model X.prog X.w) X.A (f v u) (EP X pins σ Q) X.xe s
def Dq(X:Cx)(f:Value->Sem Value)(r:V->Hp->VK->Prop):Prop:=
 ∀(pins:Va) (s:Shared) (σ:St) (H:Hp) (x:V) (v:Value) (Q:VK),Inv X pins σ H s->RelV x v->r x H Q->
  wpAny (model X.prog X.w) X.A (f v) (EP X pins σ Q) X.xe s
def gv(X:Cx)(f:Value)(r:List V->Hp->VK->Prop):Prop:=
 ∀(pins:Va) (s:Shared) (σ:St) (H:Hp) (xs:List V) (us:Vv) (Q:VK),Inv X pins σ H s->Vals xs us->r xs H Q->
  wpAny (model X.prog X.w) X.A (call f us) (EP X pins σ Q) X.xe s
def B2(r:R2)(ta tb:TE):TE:=fun σ H Q=>ta σ H fun x H1=>tb σ H1 fun y H2=>r x y H2 Q
def EU(r:V->Hp->VK->Prop)(ta:TE):TE:=fun σ H Q=>ta σ H fun x H1=>r x H1 Q
def rI(C:Int->Int->Prop)(g:Int->Int->V):R2:=fun x y H Q=>∃i j,x = .int i/\y = .int j/\C i j/\Q (g i j) H
def xu(g:Int->Int->V):R2:=fun x y H Q=>∃i j,x = .int i/\y = .int j/\Q (g i j) H
noncomputable def rU(g:Int->V):V->Hp->VK->Prop:=fun x H Q=>∃i,x = .int i/\Q (g i) H
section
variable {X:Cx} {a b c:Expr} {ta tb tc:TE} {pos:Pos}
def Ac(ha:PE X a ta)(hb:PE X b tb){pins:Va}{s:Shared}{σ:St}{H:Hp}{R:V->V->Hp->Prop}(I:Inv X pins σ H s)
  (h:ta σ H fun x H1=>tb σ H1 fun y H2=>R x y H2) {Q:Vq} {f:Value->Value->Sem Value}
  (hf:∀v u s2 x y H2,Inv X pins σ H2 s2->RelV x v->RelV y u->R x y H2->wpAny (model X.prog X.w) X.A (f v u) Q X.xe s2) :
  wpAny (model X.prog X.w) X.A (eval a X.env) (fun v s₁=>wpAny (model X.prog X.w) X.A (eval b X.env) (fun u s₂=>wpAny (model X.prog X.w) X.A (f v u) Q X.xe s₂) X.xe s₁) X.xe s:=by
 refine Fw (ha pins s σ H _ I h) fun v s1 ⟨x,H1,I1,r1,q1⟩=>?_
 refine Fw (hb pins s1 σ H1 _ I1 q1) fun u s2 ⟨y,H2,I2,r2,q2⟩=>?_
 exact hf v u s2 x y H2 I2 r1 r2 q2
def B4{op:Operator}{r:R2}(ho:iB X (binaryOp op) r)(ha:PE X a ta)(hb:PE X b tb):PE X (.BinOp a op b pos) (B2 r ta tb):=by
 intro pins s σ H Q I h
 exact wpAny_BinOp (Ac ha hb I h fun v u s2 x y H2 I2 rx ry q=>ho pins s2 σ H2 x y v u Q I2 rx ry q)
def B6{op:UnaryOp}{r:V->Hp->VK->Prop}(ho:Dq X (unaryOp op) r)(ha:PE X a ta):PE X (.UnaryOp op a pos) (EU r ta):=by
 intro pins s σ H Q I h
 exact UnaryOp_ (Fw (ha pins s σ H _ I h) fun v s1 ⟨x,H1,I1,r1,q1⟩=>ho pins s1 σ H1 x v Q I1 r1 q1)
def Dr{f:Value->Value->Sem Value}{C:Int->Int->Prop}{g:Int->Int->Int}
  (rule:∀(i j:Int) (t u:Tok) (s:Shared) (Q:Vq) (E:Vq),C i j->Q (.int (g i j) s.toks) { s with toks:=s.toks+1 }->wpAny (model X.prog X.w) X.A (f (.int i t) (.int j u)) Q E s) :
  iB X f (rI C fun i j=>.int (g i j)):=by
 intro pins s σ H x y v u Q I rx ry h
 obtain⟨i,j,rfl,rfl,hc,q⟩:=h
 obtain⟨t,rfl⟩:=rx
 obtain⟨t',rfl⟩:=ry
 exact rule i j t t' s _ _ hc ⟨.int (g i j),H,I.tok _,⟨_,rfl⟩,q⟩
def B8{f:Value->Value->Sem Value}{g:Int->Int->Int}
  (rule:∀(i j:Int) (t u:Tok) (s:Shared) (Q:Vq) (E:Vq),Q (.int (g i j) s.toks) { s with toks:=s.toks+1 }->wpAny (model X.prog X.w) X.A (f (.int i t) (.int j u)) Q E s) :
  iB X f (xu fun i j=>.int (g i j)):=by
 intro pins s σ H x y v u Q I rx ry h
 obtain⟨i,j,rfl,rfl,q⟩:=h
 obtain⟨t,rfl⟩:=rx
 obtain⟨t',rfl⟩:=ry
 exact rule i j t t' s _ _ ⟨.int (g i j),H,I.tok _,⟨_,rfl⟩,q⟩
def Ad{f:Value->Value->Sem Value}{g:Int->Int->Bool}
  (rule:∀(i j:Int) (t u:Tok) (s:Shared) (Q:Vq) (E:Vq),Q (.bool (g i j)) s->wpAny (model X.prog X.w) X.A (f (.int i t) (.int j u)) Q E s) :
  iB X f (xu fun i j=>.bl (g i j)):=by
 intro pins s σ H x y v u Q I rx ry h
 obtain⟨i,j,rfl,rfl,q⟩:=h
 obtain⟨t,rfl⟩:=rx
 obtain⟨t',rfl⟩:=ry
 exact rule i j t t' s _ _ ⟨.bl (g i j),H,I,rfl,q⟩
def Ae(i j:Int):Prop:=0<=j/\j<=1000000/\i.natAbs < 2 ^ 64
def KB(i j:Int):Prop:=(-(2 ^ 64) < i/\i < 2 ^ 64)\/(-(2 ^ 64) < j/\j < 2 ^ 64)
def KB.ok{i j:Int}(h:KB i j):IntMulOk i j:=by
 rcases h with⟨h1,h2⟩|⟨h1,h2⟩
 ·exact .of_left (intBits_le_64 h1 h2)
 ·exact .of_right (intBits_le_64 h1 h2)
def Af:iB X (binaryOp .Add) (xu fun i j=>.int (i+j)):=B8 fun _ _ _ _ _ _ _ q=>add_int q
def Ag:iB X (binaryOp .Sub) (xu fun i j=>.int (i - j)):=B8 fun _ _ _ _ _ _ _ q=>sub_int q
def xv:iB X (binaryOp .Mod) (rI (fun _ j=>j≠0) fun i j=>.int (i.fmod j)):=Dr fun _ _ _ _ _ _ _ hc q=>mod_int' hc q
def Ah:iB X (binaryOp .Pow) (rI Ae fun i j=>.int (i ^ j.toNat)):=Dr fun _ _ _ _ _ _ _ hc q=>pow_int_small hc.1 hc.2.1 hc.2.2 q
def EV{f:Value->Sem Value}{g:Int->Int}
  (rule:∀(i:Int) (t:Tok) (s:Shared) (Q:Vq) (E:Vq),Q (.int (g i) s.toks) { s with toks:=s.toks+1 }->wpAny (model X.prog X.w) X.A (f (.int i t)) Q E s) :
  Dq X f (rU fun i=>.int (g i)):=by
 intro pins s σ H x v Q I rx h
 obtain⟨i,rfl,q⟩:=h
 obtain⟨t,rfl⟩:=rx
 exact rule i t s _ _ ⟨.int (g i),H,I.tok _,⟨_,rfl⟩,q⟩
def Ai:Dq X (unaryOp .USub) (rU fun i=>.int (-i)):=EV fun _ _ _ _ _ q=>neg_int q
end
noncomputable def B9:V->V->Bool
 | .non,.non=>true | .non,.int _=>true | .int _,.non=>true | .non,.bl _=>true | .bl _,.non=>true | .non,.str _=>true | .str _,.non=>true
 | .int _,.int _=>true | .bl _,.bl _=>true | .str _,.str _=>true | .Kd _,.Kd _=>true
 | .int _,.str _=>true | .str _,.int _=>true | .bl _,.str _=>true | .str _,.bl _=>true
 |_,_=>false
def EW:R2:=fun x y H Q=>B9 x y=true/\Q (.bl (decide (x=y))) H
def EX:R2:=fun x y H Q=>B9 x y=true/\Q (.bl (!decide (x=y))) H
def sd{i j:Int}:decide (V.int i=V.int j)=(i == j):=by
 rw[Bool.eq_iff_iff]
 simp
def uH{i j:Bool}:decide (V.bl i=V.bl j)=(i == j):=by
 rw[Bool.eq_iff_iff]
 simp
def se{i j:Str}:decide (V.str i=V.str j)=(i == j):=by
 rw[Bool.eq_iff_iff]
 simp
def sf{i j:Array UInt8}:decide (V.Kd i=V.Kd j)=(i.toList == j.toList):=by
 rw[Bool.eq_iff_iff]
 cases i
 cases j
 simp
section
variable {X:Cx} {a b c:Expr} {ta tb tc:TE} {pos:Pos}
def aS{pins:Va}{σ:St}{H:Hp}{s:Shared}{Q:VK}{k k':Bool}(I:Inv X pins σ H s)(q:Q (.bl k) H)(e:k=k'):EP X pins σ Q (.bool k') s:=by
 subst e
 exact⟨.bl k,H,I,rfl,q⟩
def uI:iB X (compareOp .Eq) EW:=by
 intro pins s σ H x y v u Q I rx ry h
 obtain⟨hs,q⟩:=h
 cases x with
 |non=>
  cases rx
  cases y with
  |non=>cases ry;exact PySem.EqNone.eq_none_none (aS I q (by simp))
  |bl j=>cases ry;exact PySem.EqNone.eq_none_bool (aS I q (by simp))
  |int j=>obtain⟨t',rfl⟩:=ry;exact PySem.EqNone.eq_none_int (aS I q (by simp))
  |str j=>obtain⟨t',rfl⟩:=ry;exact PySem.EqNone.eq_none_str (aS I q (by simp))
  |_=>exact absurd (show false=true from hs) Bool.false_ne_true
 |bl i=>
  cases rx
  cases y with
  |non=>cases ry;exact PySem.EqNone.eq_bool_none (aS I q (by simp))
  |bl j=>cases ry;exact eq_bool (aS I q uH)
  |str j=>obtain⟨t',rfl⟩:=ry;exact PySem.EqMixed.eq_bool_str (aS I q (by simp))
  |_=>exact absurd (show false=true from hs) Bool.false_ne_true
 |int i=>
  obtain⟨t,rfl⟩:=rx
  cases y with
  |non=>cases ry;exact PySem.EqNone.eq_int_none (aS I q (by simp))
  |int j=>obtain⟨t',rfl⟩:=ry;exact eq_int (aS I q sd)
  |str j=>obtain⟨t',rfl⟩:=ry;exact PySem.EqMixed.eq_int_str (aS I q (by simp))
  |_=>exact absurd (show false=true from hs) Bool.false_ne_true
 |str i=>
  obtain⟨t,rfl⟩:=rx
  cases y with
  |non=>cases ry;exact PySem.EqNone.eq_str_none (aS I q (by simp))
  |bl j=>cases ry;exact PySem.EqMixed.eq_str_bool (aS I q (by simp))
  |int j=>obtain⟨t',rfl⟩:=ry;exact PySem.EqMixed.eq_str_int (aS I q (by simp))
  |str j=>obtain⟨t',rfl⟩:=ry;exact eq_str (aS I q se)
  |_=>exact absurd (show false=true from hs) Bool.false_ne_true
 |Kd i=>
  obtain⟨t,rfl⟩:=rx
  cases y with
  |Kd j=>obtain⟨t',rfl⟩:=ry;exact PySem.W.eq_bytes (aS I q sf)
  |_=>exact absurd (show false=true from hs) Bool.false_ne_true
 |_=>cases y<;>exact absurd (show false=true from hs) Bool.false_ne_true
def uJ:iB X (compareOp .NotEq) EX:=by
 intro pins s σ H x y v u Q I rx ry h
 obtain⟨hs,q⟩:=h
 cases x with
 |non=>
  cases rx
  cases y with
  |non=>cases ry;exact PySem.EqNone.ne_none_none (aS I q (by simp))
  |bl j=>cases ry;exact PySem.EqNone.ne_none_bool (aS I q (by simp))
  |int j=>obtain⟨t',rfl⟩:=ry;exact PySem.EqNone.ne_none_int (aS I q (by simp))
  |str j=>obtain⟨t',rfl⟩:=ry;exact PySem.EqNone.ne_none_str (aS I q (by simp))
  |_=>exact absurd (show false=true from hs) Bool.false_ne_true
 |bl i=>
  cases rx
  cases y with
  |non=>cases ry;exact PySem.EqNone.ne_bool_none (aS I q (by simp))
  |bl j=>cases ry;exact ne_bool (aS I q (congrArg not uH))
  |str j=>obtain⟨t',rfl⟩:=ry;exact PySem.EqMixed.ne_bool_str (aS I q (by simp))
  |_=>exact absurd (show false=true from hs) Bool.false_ne_true
 |int i=>
  obtain⟨t,rfl⟩:=rx
  cases y with
  |non=>cases ry;exact PySem.EqNone.ne_int_none (aS I q (by simp))
  |int j=>obtain⟨t',rfl⟩:=ry;exact ne_int (aS I q (congrArg not sd))
  |str j=>obtain⟨t',rfl⟩:=ry;exact PySem.EqMixed.ne_int_str (aS I q (by simp))
  |_=>exact absurd (show false=true from hs) Bool.false_ne_true
 |str i=>
  obtain⟨t,rfl⟩:=rx
  cases y with
  |non=>cases ry;exact PySem.EqNone.ne_str_none (aS I q (by simp))
  |bl j=>cases ry;exact PySem.EqMixed.ne_str_bool (aS I q (by simp))
  |int j=>obtain⟨t',rfl⟩:=ry;exact PySem.EqMixed.ne_str_int (aS I q (by simp))
  |str j=>obtain⟨t',rfl⟩:=ry;exact ne_str (aS I q (congrArg not se))
  |_=>exact absurd (show false=true from hs) Bool.false_ne_true
 |Kd i=>
  obtain⟨t,rfl⟩:=rx
  cases y with
  |Kd j=>obtain⟨t',rfl⟩:=ry;exact PySem.W.ne_bytes (aS I q (congrArg not sf))
  |_=>exact absurd (show false=true from hs) Bool.false_ne_true
 |_=>cases y<;>exact absurd (show false=true from hs) Bool.false_ne_true
def B_:iB X (compareOp .Lt) (xu fun i j=>.bl (decide (i < j))):=Ad fun _ _ _ _ _ _ _ q=>lt_int q
def Ca:iB X (compareOp .Gt) (xu fun i j=>.bl (decide (j < i))):=Ad fun _ _ _ _ _ _ _ q=>gt_int q
def Cb:iB X (compareOp .GtE) (xu fun i j=>.bl (decide (j<=i))):=Ad fun _ _ _ _ _ _ _ q=>ge_int q
def s_:iB X (compareOp .In) (fun x y H Q=>∃i j,x = .str i/\y = .str j/\Q (.bl (!(Builtin.Str.occurrences j i 0 j.length 1).isEmpty)) H):=by
 intro pins s σ H x y v u Q I rx ry h
 obtain⟨i,j,rfl,rfl,q⟩:=h
 obtain⟨t,rfl⟩:=rx
 obtain⟨t',rfl⟩:=ry
 exact in_str (aS I q rfl)
def Aj:iB X (compareOp .Is) (fun x y H Q=>y = .non/\Q (.bl (decide (x = .non))) H):=by
 intro pins s σ H x y v u Q I rx ry h
 obtain⟨rfl,q⟩:=h
 cases ry
 refine is_none_gen (aS I q ?_)
 cases x<;>first
  |(cases rx;rfl)
  |(obtain⟨t,rfl⟩:=rx;rfl)
def xx:iB X (compareOp .IsNot) (fun x y H Q=>y = .non/\Q (.bl (!decide (x = .non))) H):=by
 intro pins s σ H x y v u Q I rx ry h
 obtain⟨rfl,q⟩:=h
 cases ry
 refine isnot_none_gen (aS I q ?_)
 cases x<;>first
  |(cases rx;rfl)
  |(obtain⟨t,rfl⟩:=rx;rfl)
def aP(b:Expr){op:CmpOp}(h:op ≠ .In:=by decide)(h2:op ≠ .NotIn:=by decide):behindInMarks op b=false:=by
 have e1:(op == CmpOp.In)=false:=by cases op<;>first|rfl|exact absurd rfl h
 have e2:(op == CmpOp.NotIn)=false:=by cases op<;>first|rfl|exact absurd rfl h2
 cases b<;>simp[behindInMarks,e1,e2]
def xy{op:CmpOp}{r:R2}(ho:iB X (compareOp op) r)(ha:PE X a ta)(hb:PE X b tb)(hm:behindInMarks op b=false):PE X (.Compare a [op] [b] pos) (B2 r ta tb):=by
 intro pins s σ H Q I h
 exact wpAny_Compare1 (Ac ha hb I h fun v u s2 x y H2 I2 rx ry q=>ho pins s2 σ H2 x y v u Q I2 rx ry q) hm
def Cc(t:TE):TT:=fun σ H Q=>t σ H fun x H'=>∃k,x = .bl k/\Q k H'
def xz{op:CmpOp}{r:R2}(ho:iB X (compareOp op) r)(ha:PE X a ta)(hb:PE X b tb)(hm:behindInMarks op b=false):PT X (.Compare a [op] [b] pos) (Cc (B2 r ta tb)):=by
 intro pins s σ H Q I h
 refine wpAny_isTrue_Compare1 (Fw (ha pins s σ H _ I h) fun v s1 ⟨x,H1,I1,r1,q1⟩=>Fw (hb pins s1 σ H1 _ I1 q1) fun u s2 ⟨y,H2,I2,r2,q2⟩=>
  Fw (ho pins s2 σ H2 x y v u _ I2 r1 r2 q2) fun c s3 ⟨z,H3,I3,r3,k,e,q3⟩=>?_) hm
 subst e
 cases r3
 exact wpAny_truthy_bool ⟨H3,I3,q3⟩
def jN:(sizeLine:Nat) < 2 ^ 63:=by rw[sizeLine_eq];decide
def qQ:iB X (binaryOp .Add) (fun x y H Q=>∃i j,x = .str i/\y = .str j/\i.length+j.length<=sizeLine/\Q (.str (i++j)) H):=by
 intro pins s σ H x y v u Q I rx ry h
 obtain⟨i,j,rfl,rfl,hz,q⟩:=h
 obtain⟨t,rfl⟩:=rx
 obtain⟨t',rfl⟩:=ry
 exact add_str (fun t' tk=>⟨.str (i++j),H,I.tok _,⟨_,rfl⟩,q⟩) hz
def gj{x:V}{us:Vv}(r:Vals [x] us):∃u,us=[u]/\RelV x u:=by
 cases r with
 |cons r1 r2=>cases r2;exact⟨_,rfl,r1⟩
def uK{x y:V}{us:Vv}(r:Vals [x,y] us):∃u w',us=[u,w']/\RelV x u/\RelV y w':=by
 cases r with
 |cons r1 r2=>
  cases r2 with
  |cons r3 r4=>cases r4;exact⟨_,_,rfl,r1,r3⟩
def uL:gv X (.builtin "abs") (fun xs H Q=>∃i,xs=[.int i]/\Q (.int (if i < 0 then -i else i)) H):=by
 intro pins s σ H xs us Q I r h
 obtain⟨i,rfl,q⟩:=h
 obtain⟨u,rfl,t,rfl⟩:=gj r
 exact call_abs_int fun u tk=>⟨.int (if i < 0 then -i else i),H,I.tok _,⟨_,rfl⟩,q⟩
def tj(hc:X.calm=true):gv X (.builtin "max") (fun xs H Q=>∃i j,xs=[.int i,.int j]/\Q (.int (if j > i then j else i)) H):=by
 intro pins s σ H xs us Q I r h
 obtain⟨i,j,rfl,q⟩:=h
 obtain⟨u,w',rfl,⟨t,rfl⟩,⟨t',rfl⟩⟩:=uK r
 refine max_two_ints (I.ok.hd hc) fun h' tk k=>⟨_,H,I.kept k,?_,q⟩
 by_cases hj:j > i
 ·rw[if_pos hj,if_pos hj];exact⟨_,rfl⟩
 ·rw[if_neg hj,if_neg hj];exact⟨_,rfl⟩
def mQ:gv X (.type "int") (fun xs H Q=>(∃i,xs=[.int i]/\Q (.int i) H)\/∃k,xs=[.bl k]/\Q (.int (if k then 1 else 0)) H):=by
 intro pins s σ H xs us Q I r h
 rcases h with⟨i,rfl,q⟩|⟨k,rfl,q⟩
 ·obtain⟨u,rfl,t,rfl⟩:=gj r
  exact call_int_int ⟨.int i,H,I,⟨_,rfl⟩,q⟩
 ·obtain⟨u,rfl,r1⟩:=gj r
  cases r1
  exact call_int_bool ⟨.int (if k then 1 else 0),H,I.tok _,⟨_,rfl⟩,q⟩
end
section
variable {prog:Program} {w:World} {A:Around} {E:Vq} {s:Shared} {K:Vo} {x dx C f:Addr} {mA:Vr} {name:Str} {v:Value}
end
def RelO.some_of{v:V}{o:Option Value}(r:RelO (some v) o):∃u,o=some u/\RelV v u:=by
 cases o with
 |none=>exact(show False from r).elim
 |some u=>exact⟨u,rfl,r⟩
section
variable {P:Program} {w:World} {H H':Hp} {h h':Heap} {a C dx:Addr} {fs fs':List (Str×V)}
end
section
variable {X:Cx} {pins:Va} {σ:St} {H:Hp} {s:Shared} {a C dx:Addr} {fs:List (Str×V)} {f:Str} {v:V} {A:Around} {E:Vq}
end
section
variable {X:Cx} {o e value:Expr} {f:Str} {pos pos' tpos:Pos} {ta tv:TE}
end
section
variable {X:Cx} {pins:Va} {σ:St} {H:Hp} {s:Shared} {A:Around} {E:Vq} {Q:Vq} {c:Value} {b:Bool}
end
structure Room (k:Nat) (A:Around):Prop where
 hd:A.handled=none
 dp:A.depth+3 * k+5 < recursionLimit
 un:A.units+16 * k+200 < cLine
 gd:A.guards=some []
def Room.mono{j k:Nat}{A:Around}(r:Room k A)(h:j<=k):Room j A:=⟨r.hd,by have:=r.dp;omega,by have:=r.un;omega,r.gd⟩
theorem Room.deeper{k:Nat}{A:Around}(r:Room (k+1) A)(env:Env):Room k (A.deeper env):=
 ⟨r.hd,by have:=r.dp;show A.depth+1+3 * k+5 < _;omega,by have:=r.un;show A.units+3+16 * k+200 < _;omega,r.gd⟩
theorem Room.depth{k:Nat}{A:Around}(r:Room k A):A.depth < recursionLimit:=by have:=r.dp;omega
def Cd:TA:=fun _ H Q=>Q [] H
def zb(ta:TE)(tr:TA):TA:=fun σ H Q=>ta σ H fun x H1=>tr σ H1 fun xs H2=>Q (x::xs) H2
section
variable {X:Cx} {e:Expr} {es:List Expr} {te:TE} {t:TA} {pos:Pos}
def Al:PA X [] Cd:=fun _ _ _ _ H Q I h=>Calls.spliced_nil ⟨[],H,I,.nil,h⟩
def xA(ha:PE X e te)(hr:PA X es t)(hs:starEach (e::es) X.env=(false,eval e X.env)::starEach es X.env:=by rfl):PA X (e::es) (zb te t):=by
 intro pos pins s σ H Q I h
 rw[hs]
 show wpAny _ _ (spliced ((false,eval e X.env)::backTo pos (starEach es X.env))) _ _ s
 refine Calls.spliced_cons (Fw (ha pins s σ H _ I h) fun u s1 ⟨x,H1,I1,r1,q1⟩=>?_)
 exact Fw (hr pos pins s1 σ H1 _ I1 q1) fun us s2 ⟨xs,H2,I2,r2,q2⟩=>⟨x::xs,H2,I2,.cons r1 r2,q2⟩
def DR(t:TA):TE:=fun σ H Q=>t σ H fun xs H1=>xs.length<=sizeLine/\∀p,H1 p=none->Q (.ref p) (upd H1 p (.tup xs))
def DS(t:TA):TE:=fun σ H Q=>t σ H fun xs H1=>xs.length<=sizeLine/\∀p,H1 p=none->Q (.ref p) (upd H1 p (.lst xs))
def Am{x1}(h:PA X es t):PE X (.Tuple es x1 pos) (DR t):=by
 intro pins s σ H Q I hq
 refine wpAny_Tuple_spliced (Fw (h pos pins s σ H _ I hq) fun us s1 ⟨xs,H1,I1,r,z,q⟩=>⟨by rw[<-r.length];exact z,?_⟩)
 have hf:H1 s1.heap.objs.size=none:=I1.hok.fresh (Nat.le_refl _)
 refine⟨.ref s1.heap.objs.size,upd H1 s1.heap.objs.size (.tup xs),I1.laid (t':=s1.toks) (fun b u e=>Heap.get?_push_of_some _ e) (Nat.le_refl _) ?_,rfl,q _ hf⟩
 exact⟨z,us,r,⟨_,Heap.get?_push_size _ rfl,rfl,rfl,_,rfl⟩⟩
def An(h:PA X es t):PE X (.List es pos) (DS t):=by
 intro pins s σ H Q I hq
 refine wpAny_List_spliced (Fw (h pos pins s σ H _ I hq) fun us s1 ⟨xs,H1,I1,r,z,q⟩=>⟨by rw[<-r.length];exact z,?_⟩)
 have hf:H1 s1.heap.objs.size=none:=I1.hok.fresh (Nat.le_refl _)
 refine⟨.ref s1.heap.objs.size,upd H1 s1.heap.objs.size (.lst xs),I1.laid (t':=s1.toks) (fun b u e=>Heap.get?_push_of_some _ e) (Nat.le_refl _) ?_,rfl,q _ hf⟩
 exact⟨z,us,0,r,Heap.get?_push_size _ rfl⟩
end
abbrev Sp:=List V->Hp->VK->XK->Prop
abbrev uM:=List Env->Hp->Shared->XK->Value->Shared->Prop
structure xB (P:Program) (w:World) (K:Vo) (mg:Vr) (base:Heap) (A:Around) (outer:List Env) (s:Shared) (H:Hp):Prop where
 frames:A.frames=some outer
 mod:Mod K mg base
 bs:∀b o,base.get? b=some o->s.heap.get? b=some o/\H b=none
 Kz:base.objs.size<=s.heap.objs.size
 Iw:s.heap.FunFrames base outer
 La:∀b∈frs outer,H b=none
 hok:Hv P w H s.heap
 bare:AllBare s.gens
def CE(outer:List Env)(P:Program)(w:World)(H:Hp)(s:Shared)(Q:VK)(u:Value)(s':Shared):Prop:=
 ∃v H',s'.os=s.os/\AllBare s'.gens/\Un (frs outer) [] H H' s.heap s'.heap/\Hv P w H' s'.heap/\RelV v u/\Q v H'
def CR(CX:uM)(outer:List Env)(P:Program)(w:World)(H:Hp)(s:Shared)(Q:VK)(E:XK)(r:Result)(s':Shared):Prop:=
 match r with
 | .ok (.ret u)=>CE outer P w H s Q u s'
 | .ok _=>False
 | .error e=>CX outer H s E e s'
structure mn (P:Program) (w:World) (K:Vo) (mg:Vr) (base:Heap) (CX:uM) (k:Nat) (f:Addr) (fd:FuncData) (ps:Vs) (sp:Sp):Prop where
 len:∀vs H Q E,sp vs H Q E->vs.length=ps.length
 run:∀(A:Around) (outer:List Env) (s:Shared) (H:Hp) (args:Args) (us:Vv) (vs:List V) (Q:VK) (E:XK),Room k A->xB P w K mg base A outer s H->BindsTo s fd args (ps.zip us)->Vals vs us->sp vs H Q E->
  codeAny (model P w) A (.call (.ref f) args) (CR CX outer P w H s Q E) s
section
variable {X:Cx} {pins:Va} {σ:St} {H:Hp} {s s':Shared}
def Inv.MB(I:Inv X pins σ H s):xB X.prog X.w X.K X.mg X.base X.A X.stack s H:=
 ⟨I.ok.frames,I.ok.mod,I.bs,Nat.le_trans I.ok.Kz I.sz,I.stack,I.JR,I.hok,I.bare⟩
def Inv.after{Q:VK}{u:Value}(I:Inv X pins σ H s)(h:CE X.stack X.prog X.w H s Q u s'):EP X pins σ Q u s':=by
 obtain⟨v,H',os,bare,un,hok,r,q⟩:=h
 obtain⟨hh,g,d,t,os'⟩:=s'
 obtain rfl:os'=s.os:=os
 exact⟨v,H',I.call (h':=hh) (g':=g) (d':=d) (t':=t) (ch:=[]) un hok bare (fun b z=>absurd z (by simp)),r,q⟩
end
def Ce(sp:Sp)(dvs:List V)(E:XK)(t:TA):TE:=fun σ H Q=>t σ H fun vs H1=>sp (vs++dvs) H1 Q E
def Binds(K:Vo)(fd:FuncData)(ps:Vs)(ds:Vv):Prop:=
 ∀(s:Shared) (us:Vv),K.In s.heap->(us++ds).length=ps.length->BindsTo s fd ⟨us,[]⟩ (ps.zip (us++ds))
def Binds.all{K:Vo}{fd:FuncData}{ps:Vs}(h:∀us:List Value,us.length=ps.length->bindArgs fd ⟨us,[]⟩=pure (ps.zip us)):Binds K fd ps []:=fun s us _ hl=>by
 rw[List.append_nil]at hl ⊢
 exact .of_eq (h us hl)
def qR(CX:uM)(X:Cx)(E:XK):Prop:=∀(pins:Va) (σ:St) (H:Hp) (s:Shared) (e:Value) (s':Shared),Inv X pins σ H s->CX X.stack H s E e s'->X.xe e s'
section
variable {X:Cx} {CX:uM} {k:Nat} {f C:Addr} {fd:FuncData} {ps:Vs} {sp:Sp} {dvs:List V} {ds:Vv} {E:XK} {x m:Str} {p pos apos:Pos} {e o:Expr} {es:List Expr} {ta:TE} {t:TA}
def Ao{pins:Va}{σ:St}{H:Hp}{s:Shared}{Q:VK}{us:Vv}{vs:List V}(F:mn X.prog X.w X.K X.mg X.base CX k f fd ps sp)(hr:Room k X.A)(hb:Binds X.K fd ps ds)(hd:Vals dvs ds)(hx:qR CX X E)
  (I:Inv X pins σ H s) (r:Vals vs us) (h:sp (vs++dvs) H Q E):wpAny (model X.prog X.w) X.A (call (.ref f) us) (EP X pins σ Q) X.xe s:=by
 have r2:Vals (vs++dvs) (us++ds):=r.append hd
 have hl:(us++ds).length=ps.length:=by rw[<-r2.length];exact F.len _ _ _ _ h
 refine wpAny_call (codeAny_mono (F.run X.A X.stack s H ⟨us,[]⟩ (us++ds) (vs++dvs) Q E hr I.MB (hb s us I.Kf hl) r2 h) fun r s' hq=>?_)
 cases r with
 |error e=>exact hx pins σ H s e s' I hq
 |ok fl=>
  cases fl with
  |ret u=>exact I.after hq
  |next=>exact False.elim hq
  |brk=>exact False.elim hq
  |cont=>exact False.elim hq
def sg(F:mn X.prog X.w X.K X.mg X.base CX k f fd ps sp)(hr:Room k X.A)(hg:Gl X x)(hm:X.mg x=some (.ref f))(hk:PySem.W.keepIn X.K (.ref f)=true)(hb:Binds X.K fd ps ds)(hd:Vals dvs ds)(hx:qR CX X E)
  (ha:PA X (e::es) t) (hdb:(x == ("__debug__":Str))=false:=by decide) (he:starEach (e::es) X.env=(false,eval e X.env)::starEach es X.env:=by rfl) (hpl:(backTo pos (starEach es X.env)).any (·.1)=false:=by rfl) :
  PE X (.Call (.Name x p) (e::es) [] pos) (Ce sp dvs E t):=by
 intro pins s σ H Q I h
 refine wpAny_Call_Name_kw (r_ I hg hm ?_ hdb)
 refine PySem.W.callWith_K (h₀:=X.base) I.ok.mod.Mt hk (Fw (ha pos pins s σ H _ I h) fun us s1 ⟨vs,H1,I1,r,q⟩=>⟨I1.Kf,?_⟩) he hpl
 exact Ao F hr hb hd hx I1 r q
end
section
variable {X:Cx} {CX:uM} {k:Nat} {f C:Addr} {fd:FuncData} {ps ks:Vs} {sp:Sp} {E:XK} {x m:Str} {p pos apos kpos:Pos} {e o:Expr} {es:List Expr} {kws:List Keyword} {te ta:TE} {t tk:TA} {nm:Option Str}
variable {g:List Value->List Value->List Value} {gV:List V->List V->List V}
end
structure dP (N P:Vs) (sc:Scope):Prop where
 kind:sc.kind = .function
 co:sc.isCoroutine=false
 gen:sc.isGenerator=false
 nd:N.Nodup
 pre:N.take P.length=P
 par:∀x∈P,sc.names.lookup x=some .local\/sc.names.lookup x=some .cell
 Le:∀y∈sc.names,y.2 ≠ .free
theorem mR{kindOf:Str->Option NameKind}{x:Str}:∀{binds:List (Str×Value)} {m:Vr},(∀v,(x,v) ∉ binds)->bindL kindOf binds m x=m x
 |[],_,_=>rfl
 |(n,v)::r,m,h=>by
  unfold bindL
  rw[mR fun w hw=>h w (List.mem_cons_of_mem _ hw)]
  split
  ·have:x≠n:=by rintro rfl;exact h v List.mem_cons_self
   simp[this]
  ·rfl
theorem mS{kindOf:Str->Option NameKind}{x:Str}:∀{binds:List (Str×Value)} {m:Vr},(∀v,(x,v) ∉ binds)->bindC kindOf binds m x=m x
 |[],_,_=>rfl
 |(n,v)::r,m,h=>by
  unfold bindC
  rw[mS fun w hw=>h w (List.mem_cons_of_mem _ hw)]
  split
  ·rfl
  ·have:x≠n:=by rintro rfl;exact h v List.mem_cons_self
   simp[this]
theorem mT{kindOf:Str->Option NameKind}{x:Str}{v:Value}:∀{P:Vs} {vs:Vv} {i:Nat} {m:Vr},P.Nodup->P[i]?=some x->vs[i]?=some v->kindOf x=some .local->
  bindL kindOf (P.zip vs) m x=some v
 |[],_,_,_,_,h,_,_=>by simp at h
 |_::_,[],_,_,_,_,h,_=>by simp at h
 |p::P,w::vs,0,m,nd,h1,h2,hk=>by
  simp at h1 h2;subst h1;subst h2
  show bindL kindOf ((p,w)::P.zip vs) m p=_
  unfold bindL
  rw[mR fun v hv=>(List.nodup_cons.mp nd).1 (List.of_mem_zip hv).1,if_pos hk]
  simp
 |p::P,w::vs,i+1,m,nd,h1,h2,hk=>by
  show bindL kindOf ((p,w)::P.zip vs) m x=_
  unfold bindL
  exact mT (i:=i) (List.nodup_cons.mp nd).2 (by simpa using h1) (by simpa using h2) hk
theorem mU{kindOf:Str->Option NameKind}{x:Str}{v:Value}:∀{P:Vs} {vs:Vv} {i:Nat} {m:Vr},P.Nodup->P[i]?=some x->vs[i]?=some v->kindOf x≠some .local->
  bindC kindOf (P.zip vs) m x=some v
 |[],_,_,_,_,h,_,_=>by simp at h
 |_::_,[],_,_,_,_,h,_=>by simp at h
 |p::P,w::vs,0,m,nd,h1,h2,hk=>by
  simp at h1 h2;subst h1;subst h2
  show bindC kindOf ((p,w)::P.zip vs) m p=_
  unfold bindC
  rw[mS fun v hv=>(List.nodup_cons.mp nd).1 (List.of_mem_zip hv).1,if_neg hk]
  simp
 |p::P,w::vs,i+1,m,nd,h1,h2,hk=>by
  show bindC kindOf ((p,w)::P.zip vs) m x=_
  unfold bindC
  exact mU (i:=i) (List.nodup_cons.mp nd).2 (by simpa using h1) (by simpa using h2) hk
noncomputable def gk(N:Vs)(vs:List V):St:=vs.map some++List.replicate (N.length - vs.length) none
noncomputable def pC(CX:uM)(P:Program)(w:World)(K:Vo)(mg:Vr)(base:Heap)(N:Vs)(qual:Str)(scope:Scope)(f:Addr)(cd:Value)(A:Around)(outer:List Env)(s:Shared)(H:Hp)(E:XK):Cx where
 prog:=P
 w:=w
 K:=K
 mg:=mg
 base:=base
 A:=A.deeper (envOfC qual scope s.heap.objs.size f cd)
 N:=N
 s₀:=s
 H₀:=H
 env:=envOfC qual scope s.heap.objs.size f cd
 outer:=outer
 stack:=envOfC qual scope s.heap.objs.size f cd::outer
 ex:=[]
 calm:=true
 fn:=fun _=>true
 pn:=[]
 xe:=fun e s'=>wpAny (model P w) (A.deeper (envOfC qual scope s.heap.objs.size f cd)) (leaving (envOfC qual scope s.heap.objs.size f cd) e) (fun _ s''=>CX outer H s E e s'') (fun e' s''=>CX outer H s E e' s'') s'
def pD{sc:Scope}{n:Nat}{x:Str}(h:sc.names.lookup x=some .cell):∃c,(cellsFrom n sc.names []).lookup x=some c:=by
 have q:=PySem.W.cellsFrom_some sc.names n [] (.inl h)
 exact Option.isSome_iff_exists.mp q
def tm{CX:uM}{P:Program}{w:World}{K:Vo}{mg:Vr}{base:Heap}{N ps:Vs}{qual:Str}{scope:Scope}{f:Addr}{cd:Value}{A:Around}{outer:List Env}{s s1:Shared}{H:Hp}{E:XK}{us:Vv}{vs:List V}
  (S:dP N ps scope) (hd:A.handled=none) (e0:xB P w K mg base A outer s H) (hl:vs.length=ps.length) (r:Vals vs us)
  (x:InCallC s s.heap.objs.size (bindL (envOfC qual scope s.heap.objs.size f cd).kindOf (ps.zip us) fun _=>none) (cellsFrom (s.heap.objs.size+1) scope.names []) (bindC (envOfC qual scope s.heap.objs.size f cd).kindOf (ps.zip us) fun _=>none) s1) :
  Inv (pC CX P w K mg base N qual scope f cd A outer s H E) [] (gk N vs) H s1:=by
 have hpl:ps.length<=N.length:=by have:=congrArg List.length S.pre;rw[List.length_take]at this;omega
 obtain⟨h1,tk,rfl,hk⟩:=x.done
 have LQ:∀b:Addr,b ∉ (pC CX P w K mg base N qual scope f cd A outer s H E).ex:=fun b z=>absurd (show b∈([]:List Addr)from z) (by simp)
 refine⟨⟨e0.mod,S.kind,rfl,rfl,Nat.le_refl _,fun y z c h1 h2=>?_,fun y hy=>?_,fun y c _ h=>?_,fun _=>hd,Around.frames_deeper e0.frames,.inr ⟨rfl,rfl⟩,fun b z=>absurd z (LQ b),e0.bs,e0.Kz,fun b _ _=>LQ b,fun b z=>absurd z (LQ b),e0.Iw,e0.La⟩,
  rfl,e0.bare,Un.kept hk,⟨_,x.toInCall.ns,fun i y v h1 h2 h3=>?_⟩,fun y c h=>⟨_,x.cell y c h⟩,e0.hok.fresh (Nat.le_refl _),fun y c h=>?_,fun p hp=>absurd (show p∈([]:Va)from hp) (by simp),e0.hok.kept hk,?_⟩
 ·exact name_of_addr x.apart (PySem.mem_of_lookup h1) (PySem.mem_of_lookup h2)
 ·have hy:scope.names.lookup y=some .cell\/scope.names.lookup y=some .free:=hy
  rcases hy with hy|hy
  ·exact pD hy
  ·exact absurd rfl (S.Le _ (PySem.mem_of_lookup hy))
 ·exact Nat.le_of_lt (x.above y c (PySem.mem_of_lookup h))
 ·have hi:i < vs.length:=by
   unfold gk at h2
   by_cases hi:i < vs.length
   ·exact hi
   ·rw[List.getElem?_append_right (by simpa using hi)]at h2
    rw[List.getElem?_replicate]at h2
    split at h2<;>cases h2
  have ha:vs[i]?=some v:=by
   unfold gk at h2
   rw[List.getElem?_append_left (by simpa using hi),List.getElem?_map]at h2
   cases e:vs[i]? with
   |none=>rw[e]at h2;cases h2
   |some a=>rw[e]at h2;cases h2;rfl
  obtain⟨u,hu,rv⟩:=r.get ha
  have hp:ps[i]?=some y:=by
   rw[<-S.pre,List.getElem?_take_of_lt (by omega)];exact h1
  have Nz:ps.Nodup:=by rw[<-S.pre];exact S.nd.sublist (List.take_sublist _ _)
  refine⟨u,rv,?_⟩
  rcases S.par y (List.mem_of_getElem? hp)with k|k
  ·exact .inl ⟨k,mT Nz hp hu k⟩
  ·obtain⟨c,e⟩:=pD (n:=s.heap.objs.size+1) k
   refine .inr ⟨.inl k,c,e,?_⟩
   have q:=x.cell y c e
   rw[mU Nz hp hu (by show scope.names.lookup y≠_;rw[k];decide)]at q
   exact q
 ·exact e0.hok.fresh (Nat.le_of_lt (x.above y c (PySem.mem_of_lookup h)))
 ·unfold gk
  show _=N.length
  rw[List.length_append,List.length_map,List.length_replicate]
  omega
def zc{CX:uM}{P:Program}{w:World}{K:Vo}{mg:Vr}{base:Heap}{k:Nat}{f:Addr}{name qual:Str}{params:Arguments}{body:List Stmt}{scope:Scope}{dV kV doc pm cdv ct oc:Value}{an od:Option Addr}
  {osl:Array (Option Value)} {N ps:Vs} {sp:Sp} (lk:K.lookup f=some ⟨oc,od,.func (PySem.W.fnOf name qual params body scope dV kV doc pm an cdv ct),osl⟩) (hcd:PySem.W.codeIn K cdv qual=true) (S:dP N ps scope)
  (len:∀vs H Q E,sp vs H Q E->vs.length=ps.length)
  (hbody:∀(A:Around) (outer:List Env) (s:Shared) (H:Hp) (vs:List V) (Q:VK) (E:XK),Room k (A.deeper (envOfC qual scope s.heap.objs.size f cdv))->sp vs H Q E->
   ∃t,Jr (pC CX P w K mg base N qual scope f cdv A outer s H E) body t/\t { nx:=fun _ H'=>Q .non H',rt:=Q } (gk N vs) H) :
  mn P w K mg base CX (k+1) f (PySem.W.fnOf name qual params body scope dV kV doc pm an cdv ct) ps sp:=by
 refine⟨len,fun A outer s H args us vs Q E hr e0 hb r Kt=>?_⟩
 have hl:=len _ _ _ _ Kt
 have KX:K.In s.heap:=e0.mod.Mt.keeps fun b o e=>(e0.bs b o e).1
 have lim:s.heap.NoLimit:=e0.mod.nolimit.keeps fun b o e=>(e0.bs b o e).1
 have hkind:∀y∈ps.zip us,scope.names.lookup y.1=some .local\/(scope.names.lookup y.1=some .cell/\((cellsFrom (s.heap.objs.size+1) scope.names []).lookup y.1).isSome=true):=fun⟨n,v⟩ hy=>by
  rcases S.par n (List.of_mem_zip hy).1 with q|q
  ·exact .inl q
  ·exact .inr ⟨q,PySem.W.cellsFrom_some _ _ _ (.inl q)⟩
 refine codeAny_call_function hr.depth (KX _ _ lk) rfl S.co S.gen rfl (PySem.W.codeRec_of KX hcd) (hb _ _ _ _ ?_)
 refine wpAny_newFunctionEnv_cells S.kind hkind fun env he s1 x=>?_
 subst he
 refine⟨lim.keeps x.toInCall.keep,codeAny_func ?_⟩
 obtain⟨t,ht,hq⟩:=hbody A outer s H vs Q E (hr.deeper _) Kt
 have I:Inv (pC CX P w K mg base N qual scope f cdv A outer s H E) [] (gk N vs) H s1:=tm S hr.hd e0 hl r x
 refine wpAny_mono (ht [] s1 (gk N vs) H _ I hq) (fun fl s' hs=>?_) fun e s' hs=>hs
 have fin:∀{σ':St} {H':Hp} {v:V} {u:Value},Inv (pC CX P w K mg base N qual scope f cdv A outer s H E) [] σ' H' s'->RelV v u->Q v H'->CE outer P w H s Q u s':=
  fun{σ' H' v u} J rv q=>⟨v,H',J.os,J.bare,J.base,J.hok,rv,q⟩
 cases fl with
 |ret u=>
  obtain⟨v,σ',H',J,rv,q⟩:=hs
  exact fin J rv q
 |next=>
  obtain⟨σ',H',J,q⟩:=hs
  exact fin (v:=V.non) (u:=Value.none) J rfl q
 |brk=>
  obtain⟨_,_,_,q⟩:=hs
  exact False.elim q
 |cont=>
  obtain⟨_,_,_,q⟩:=hs
  exact False.elim q
section
variable {X:Cx} {x:Str} {p pos:Pos} {e:Expr} {es:List Expr} {t:TA} {id T:String} {r:List V->Hp->VK->Prop}
def EI(r:List V->Hp->VK->Prop)(t:TA):TE:=fun σ H Q=>t σ H fun vs H1=>r vs H1 Q
def uN(hc:gv X (.builtin id) r)(hg:Gl X x)(hm:X.mg x=none)(hv:bootBuiltins x=some (.builtin id))(ha:PA X (e::es) t)(hn:x ≠ "__name__":=by decide)(hdb:(x == ("__debug__":Str))=false:=by decide)
  (he:starEach (e::es) X.env=(false,eval e X.env)::starEach es X.env:=by rfl) (hpl:(backTo pos (starEach es X.env)).any (·.1)=false:=by rfl):PE X (.Call (.Name x p) (e::es) [] pos) (EI r t):=by
 intro pins s σ H Q I h
 refine wpAny_Call_Name_kw (fA I hg hm hv ?_ hn hdb)
 exact PyProof.Rows.callWith_builtin1 (Fw (ha pos pins s σ H _ I h) fun us s1 ⟨vs,H1,I1,r1,q1⟩=>hc pins s1 σ H1 vs us Q I1 r1 q1) he hpl
def tq(hc:gv X (.type T) r)(hg:Gl X x)(hm:X.mg x=none)(hv:bootBuiltins x=some (.type T))(ha:PA X (e::es) t)(hn:x ≠ "__name__":=by decide)(hdb:(x == ("__debug__":Str))=false:=by decide)
  (he:starEach (e::es) X.env=(false,eval e X.env)::starEach es X.env:=by rfl) (hpl:(backTo pos (starEach es X.env)).any (·.1)=false:=by rfl):PE X (.Call (.Name x p) (e::es) [] pos) (EI r t):=by
 intro pins s σ H Q I h
 refine wpAny_Call_Name_kw (fA I hg hm hv ?_ hn hdb)
 exact PyProof.Rows.callWith_type1 (Fw (ha pos pins s σ H _ I h) fun us s1 ⟨vs,H1,I1,r1,q1⟩=>hc pins s1 σ H1 vs us Q I1 r1 q1) he hpl
end
end L2
namespace HT
open PySem PyProof.Rows
section
open PySem.SeqAt
open PySem.AutoSeq1 (wpAny_loadPart')
open PySem.MeetsSeq PySem.MeetsSeq2 PySem.MeetsSeq3
end
section
variable {prog:Program} {w:World} {A:Around} {E:Vq} {s:Shared}
def xC{t b:Addr}{vs ws:Vv}{Q:Vq}(ht:IsTup s.heap t vs.toArray)(hb:IsTup s.heap b ws.toArray)(hv:vs≠[])
  (h1:ws=[]->Q (.ref t) s) (h2:ws≠[]->Q (.ref s.heap.objs.size) { s with heap:=s.heap.push { cls:=.type "tuple",data:=.seq (vs++ws).toArray } })
  (hsz:vs.length+ws.length<=sizeLine):wpAny (model prog w) A (binaryOp .Add (.ref t) (.ref b)) Q E s:=by
 obtain⟨⟨cls,dd,data,sl⟩,ho,hc,n,hd⟩:=id ht
 obtain⟨⟨MC,dd2,data2,sl2⟩,ho2,hc2,n2,hd2⟩:=id hb
 simp only at hc hd hc2 hd2
 subst hc hd hc2 hd2
 have e:vs.toArray++ws.toArray=(vs++ws).toArray:=by simp
 by_cases hw:ws=[]
 ·exact concat_meets ⟨_,ho,rfl⟩ ⟨_,ho2,rfl⟩ noFill_tuple_add seq_tuple_add PySem.F.slot_tuple_add PySem.F.entry_tuple_add (PySem.F.args_tuple_add_2 _ _)
   (tuple_addW1 t b vs.toArray ws.toArray n n2 dd dd2 sl sl2 (by simpa using hv) (by simp[hw])) ⟨ho,ho2,h1 hw⟩
 ·refine concat_meets ⟨_,ho,rfl⟩ ⟨_,ho2,rfl⟩ noFill_tuple_add seq_tuple_add PySem.F.slot_tuple_add PySem.F.entry_tuple_add (PySem.F.args_tuple_add_2 _ _)
   (tuple_addW2 t b vs.toArray ws.toArray n n2 dd dd2 sl sl2 (by simpa using hv) (by simpa using hw) (by rw[List.size_toArray,List.size_toArray];exact hsz)) ⟨ho,ho2,?_⟩
  rw[e]
  exact h2 hw
noncomputable def FV(n d:Nat):Option Int->Nat
 |none=>d
 |some v=>if v < 0 then (v+(n:Int)).toNat else min v.toNat n
def uO(n d:Nat):FV n d none=d:=rfl
def xD(n d k:Nat):FV n d (some (k:Int))=min k n:=by
 show(if (k:Int) < 0 then ((k:Int)+(n:Int)).toNat else min (k:Int).toNat n)=min k n
 rw[if_neg (by omega),Int.toNat_natCast]
def Ap(n d:Nat)(hd:d<=n)(o:Option Int):FV n d o<=n:=by
 cases o with
 |none=>exact hd
 |some v=>
  show(if v < 0 then (v+(n:Int)).toNat else min v.toNat n)<=n
  by_cases hv:v < 0
  ·rw[if_pos hv];omega
  ·rw[if_neg hv];exact Nat.min_le_right _ _
def sh(v:Int)(n d:Nat):(if v < 0 then max (v+(n:Int)) 0 else min v (n:Int))=((FV n d (some v):Nat):Int):=by
 show(if v < 0 then max (v+(n:Int)) 0 else min v (n:Int))=(((if v < 0 then (v+(n:Int)).toNat else min v.toNat n):Nat):Int)
 by_cases hv:v < 0
 ·simp only[if_pos hv];omega
 ·simp only[if_neg hv];omega
def qS(lo hi:Option Int)(n:Nat):Builtin.Slice.sliceAdjust lo hi 1 (n:Int)=(((FV n 0 lo:Nat):Int),((FV n n hi:Nat):Int)):=by
 have h1:¬((1:Int) < 0):=by omega
 unfold Builtin.Slice.sliceAdjust
 simp only[h1,if_false]
 refine Prod.ext ?_ ?_
 ·cases lo with
  |none=>rfl
  |some v=>exact sh v n 0
 ·cases hi with
  |none=>rfl
  |some v=>exact sh v n n
def qT(i j:Nat):Builtin.Slice.slicePlaces (i:Int) (j:Int) 1=j - i:=by
 unfold Builtin.Slice.slicePlaces
 have h1:(1:Int) > 0:=by omega
 simp only[h1,if_true,Int.ediv_one]
 split<;>omega
def li{v:Value}{o:Option Int}{Q:Option Int->Shared->Prop}(p:IsPart v o)(h:Q o s):wpAny (model prog w) A (Builtin.Slice.slicePartIndex v) Q E s:=by
 cases p with
 |none=>exact slicePart_none h
 |int i t=>exact slicePart_int h
def e_{sl:Addr}{vl vu:Value}{lo hi:Option Int}{n:Nat}{Q:Int×Int×Nat->Shared->Prop}(hs:s.heap.IsSliceOf sl vl vu .none)(pl:IsPart vl lo)(pu:IsPart vu hi)
  (h:Q (((FV n 0 lo:Nat):Int),1,FV n n hi - FV n 0 lo) s):wpAny (model prog w) A (Builtin.Slice.sliceApplied (.ref sl) (pure (n:Int))) Q E s:=by
 obtain⟨os,hos,hcs,hds⟩:=id hs
 unfold Builtin.Slice.sliceApplied Builtin.Slice.sliceFields
 refine wpAny_bind (wpAny_bind (wpAny_field hos hds (x:=vl) rfl (wpAny_bind (wpAny_field hos hds (x:=vu) rfl (wpAny_bind (wpAny_field hos hds (x:=.none) rfl (wpAny_pure ?_)))))))
 refine wpAny_bind (slicePart_none ?_)
 show wpAny _ _ (if ((1:Int) == 0)=true then _ else _) _ _ s
 rw[if_neg (by decide)]
 refine wpAny_bind (li pl (wpAny_bind (li pu (wpAny_bind (wpAny_pure ?_)))))
 show wpAny _ _ (match Builtin.Slice.sliceAdjust lo hi 1 (n:Int)with|(lo,hi)=>pure (lo,(1:Int),Builtin.Slice.slicePlaces lo hi 1)) _ _ s
 rw[qS lo hi n]
 show wpAny _ _ (pure (((FV n 0 lo:Nat):Int),(1:Int),Builtin.Slice.slicePlaces ((FV n 0 lo:Nat):Int) ((FV n n hi:Nat):Int) 1)) _ _ s
 rw[qT]
 exact wpAny_pure h
def uP(xs:Vw)(i k:Nat):((List.range k).filterMap fun(m:Nat)=>xs[((i:Int)+(m:Int) * 1).toNat]?).toArray=((xs.toList.drop i).take k).toArray:=by
 have e:(fun(m:Nat)=>xs[((i:Int)+(m:Int) * 1).toNat]?)=fun m=>xs[i+m]?:=by
  funext m
  have:((i:Int)+(m:Int) * 1).toNat=i+m:=by omega
  rw[this]
 rw[e]
 have:=pick_run xs i k
 rw[List.filterMap_map]at this
 have e2:((fun x=>xs[x]?) ∘ fun x=>i+x)=fun m=>xs[i+m]?:=rfl
 rw[e2]at this
 rw[this]
def je{t sl:Addr}{items:Vw}{vl vu:Value}{lo hi:Option Int}{Q:Vq}(ht:IsTup s.heap t items)(hs:s.heap.IsSliceOf sl vl vu .none)(pl:IsPart vl lo)(pu:IsPart vu hi)
  (hw:¬(FV items.size 0 lo=0/\FV items.size items.size hi=items.size))
  (h:Q (.ref s.heap.objs.size) { s with heap:=s.heap.push { cls:=.type "tuple",data:=.seq ((items.toList.drop (FV items.size 0 lo)).take (FV items.size items.size hi - FV items.size 0 lo)).toArray } })
  (hsz:items.size<=sizeLine):wpAny (model prog w) A (getItem (.ref t) (.ref sl)) Q E s:=by
 have JT:sizeOk (.seq ((items.toList.drop (FV items.size 0 lo)).take (FV items.size items.size hi - FV items.size 0 lo)).toArray):=by
  show((items.toList.drop (FV items.size 0 lo)).take (FV items.size items.size hi - FV items.size 0 lo)).toArray.size<=sizeLine
  rw[List.size_toArray,List.length_take,List.length_drop,Array.length_toList]
  omega
 have hj:FV items.size items.size hi<=items.size:=Ap _ _ (Nat.le_refl _) hi
 obtain⟨os,hos,hcs,hds⟩:=id hs
 have MD:s.TypeIs (.ref sl) "slice":=⟨os,hos,hcs⟩
 unfold getItem
 try with_reducible refine wpAny_holding ?_
 first|refine wpAny_bind (wpAny_pure ?_)|skip
 refine wpAny_bind (wpAny_sequenceKey ht.typeIs (by decide) ?_)
 refine wpAny_bind (wpAny_callSpecial?_slot (name:=Str.ofString "__getitem__") ht.typeIs PyProof.Rows.slot_tuple_getitem
  (wpAny_call_entry PyProof.Rows.slot_tuple_getitem ht.typeIs entry_tuple_getitem ?_ (args_tuple_getitem _ _)))
 show wpAny _ _ (Builtin.Tuple.tupleItemsOf (.ref t) >>= _) _ _ s
 refine wpAny_bind (tupleItemsOf_ ht ?_)
 refine wpAny_bind (wpAny_typeOf MD ?_)
 rw[if_pos (by decide)]
 refine wpAny_bind (e_ hs pl pu ?_)
 have hno:¬((((FV items.size 0 lo:Nat):Int) == 0&&(1:Int) == 1&&(FV items.size items.size hi - FV items.size 0 lo) == items.size)=true):=by
  intro q
  rw[Bool.and_eq_true,Bool.and_eq_true]at q
  have q1:((FV items.size 0 lo:Nat):Int)=0:=eq_of_beq q.1.1
  have q2:FV items.size items.size hi - FV items.size 0 lo=items.size:=eq_of_beq q.2
  exact hw ⟨by omega,by omega⟩
 show wpAny _ _ (if (((FV items.size 0 lo:Nat):Int) == 0&&(1:Int) == 1&&(FV items.size items.size hi - FV items.size 0 lo) == items.size)=true then _ else _) _ _ s
 rw[if_neg hno,uP]
 first
  |exact wpAny_bind (m:=Builtin.Tuple.tupleExact _) (wpAny_newObj_type (wpAny_pure ⟨_,rfl,wpAny_pure h⟩) JT)
  |exact wpAny_bind (m:=Builtin.Tuple.tupleExact _) (wpAny_newObj_type (wpAny_bind (wpAny_pure (wpAny_pure ⟨_,rfl,wpAny_pure h⟩))) JT)
  |exact wpAny_bind (wpAny_bind (m:=Builtin.Tuple.tupleExact _) (wpAny_newObj_type (wpAny_pure (wpAny_pure ⟨_,rfl,wpAny_pure h⟩)) JT))
  |exact wpAny_bind (wpAny_bind (m:=Builtin.Tuple.tupleExact _) (wpAny_newObj_type (wpAny_pure ⟨_,rfl,wpAny_pure h⟩) JT))
end
end HT
namespace L2
open PySem PySem.Spec PyProof.Rows
abbrev TO:=St->Hp->(Option Int->Hp->Prop)->Prop
def PO(X:Cx)(e:Option Expr)(t:TO):Prop:=
 ∀(pins:Va) (s:Shared) (σ:St) (H:Hp) (Q:Option Int->Hp->Prop),Inv X pins σ H s->t σ H Q->
  wpAny (model X.prog X.w) X.A (evalPart e X.env) (fun u s'=>∃o H',Inv X pins σ H' s'/\IsPart u o/\Q o H') X.xe s
noncomputable def xE:TO:=fun _ H Q=>Q none H
noncomputable def Cf(t:TE):TO:=fun σ H Q=>t σ H fun x H1=>∃i,x = .int i/\Q (some i) H1
section
variable {X:Cx} {e:Expr} {te:TE} {lo hi:Option Expr} {tl th:TO} {pos p2:Pos}
def xF:PO X none xE:=by
 intro pins s σ H Q I h
 rw[evalPart_none]
 exact wpAny_pure ⟨none,H,I,.none,h⟩
def xG(h:PE X e te):PO X (some e) (Cf te):=by
 intro pins s σ H Q I hw
 rw[evalPart_some]
 refine Fw (h pins s σ H _ I hw) fun u s1 ⟨x,H1,I1,r1,q1⟩=>?_
 obtain⟨i,rfl,q⟩:=q1
 obtain⟨t,rfl⟩:=r1
 exact⟨some i,H1,I1,.int i t,q⟩
def BE(X:Cx)(r:V->Option Int->Option Int->Hp->VK->Prop):Prop:=
 ∀(pins:Va) (s:Shared) (σ:St) (H:Hp) (x:V) (v vl vu:Value) (lo hi:Option Int) (sl:Addr) (Q:VK),Inv X pins σ H s->RelV x v->s.heap.IsSliceOf sl vl vu .none->IsPart vl lo->IsPart vu hi->r x lo hi H Q->
  ∃T id,typeLookup (.type T) "__getitem__" = pure (some (.builtin id))/\s.TypeIs v T/\wpAny (model X.prog X.w) X.A (getItem v (.ref sl)) (EP X pins σ Q) X.xe s
def EY(r:V->Option Int->Option Int->Hp->VK->Prop)(te:TE)(tl th:TO):TE:=fun σ H Q=>te σ H fun x H1=>tl σ H1 fun l H2=>th σ H2 fun u H3=>r x l u H3 Q
def uQ{r:V->Option Int->Option Int->Hp->VK->Prop}(hr:BE X r)(he:PE X e te)(hl:PO X lo tl)(hu:PO X hi th):PE X (.Subscript e (.Slice lo hi none p2) pos) (EY r te tl th):=by
 intro pins s σ H Q I h
 refine Subscript_ (Fw (he pins s σ H _ I h) fun v s1 ⟨x,H1,I1,r1,q1⟩=>?_)
 refine wpAny_Slice (Fw (hl pins s1 σ H1 _ I1 q1) fun vl s2 ⟨l,H2,I2,pl,q2⟩=>Fw (hu pins s2 σ H2 _ I2 q2) fun vu s3 ⟨u,H3,I3,pu,q3⟩=>?_)
 rw[evalPart_none]
 refine wpAny_pure ?_
 have I4:Inv X pins σ H3 { s3 with heap:=s3.heap.push { cls:=.type "slice",data:=.fields #[vl,vu,.none] } }:=I3.kept (t':=s3.toks) fun b ob q=>Heap.get?_push_of_some _ q
 obtain⟨T,id,hT,ht,hg⟩:=hr pins { s3 with heap:=s3.heap.push { cls:=.type "slice",data:=.fields #[vl,vu,.none] } } σ H3 x v vl vu l u s3.heap.objs.size Q I4 r1 (Heap.IsSliceOf.new ..) pl pu q3
 show wpAny (model X.prog X.w) X.A (subscriptTail e (.Slice lo hi none p2) v (.ref s3.heap.objs.size)) (EP X pins σ Q) X.xe { s3 with heap:=s3.heap.push { cls:=.type "slice",data:=.fields #[vl,vu,.none] } }
 exact tail_any (ops:=[.ref s3.heap.objs.size,v]) ht hT hg (by with_unfolding_all rfl)
noncomputable def ll(xs:List V)(lo hi:Option Int):List V:=(xs.drop (HT.FV xs.length 0 lo)).take (HT.FV xs.length xs.length hi - HT.FV xs.length 0 lo)
def kz(xs:List V)(lo hi:Option Int):(ll xs lo hi).length<=xs.length:=by
 unfold ll
 rw[List.length_take,List.length_drop]
 omega
noncomputable def DT(K:Vo):V->Option Int->Option Int->Hp->VK->Prop:=fun x lo hi H Q=>∃a xs,x = .ref a/\SqT K H a xs/\
 ¬(HT.FV xs.length 0 lo=0/\HT.FV xs.length xs.length hi=xs.length)/\∀p,H p=none->Q (.ref p) (upd H p (.tup (ll xs lo hi)))
def Aq:BE X (DT X.K):=by
 intro pins s σ H x v vl vu lo hi sl Q I rx hs pl pu h
 obtain⟨a,xs,rfl,hx,hw,q⟩:=h
 cases rx
 obtain⟨its,r,ht,hz⟩:=I.tuple hx
 have hlen:its.toArray.size=xs.length:=by rw[List.size_toArray];exact r.length.symm
 refine⟨"tuple",_,PyProof.Rows.slot_tuple_getitem.lookup,ht.typeIs,?_⟩
 refine HT.je ht hs pl pu (by rw[hlen];exact hw) ?_ (by rw[hlen];exact hz)
 rw[hlen]
 refine⟨.ref s.heap.objs.size,_,I.laid (t':=s.toks) (o:=.tup (ll xs lo hi)) (fun b ob q=>Heap.get?_push_of_some _ q) (Nat.le_refl _) ?_,rfl,q _ (I.hok.fresh (Nat.le_refl _))⟩
 exact⟨Nat.le_trans (kz xs lo hi) hz,_,(r.drop (HT.FV xs.length 0 lo)).take (HT.FV xs.length xs.length hi - HT.FV xs.length 0 lo),F7.new _ _⟩
def Cg(K:Vo):R2:=fun x y H Q=>∃a b xs ys,x = .ref a/\y = .ref b/\SqT K H a xs/\SqT K H b ys/\xs≠[]/\xs.length+ys.length<=sizeLine/\
 (ys=[]->Q (.ref a) H)/\(ys≠[]->∀p,H p=none->Q (.ref p) (upd H p (.tup (xs++ys))))
def Vals.IS{xs:List V}{us:Vv}(r:Vals xs us):us=[]↔xs=[]:=by
 cases r with
 |nil=>simp
 |cons _ _=>simp
def xH:iB X (binaryOp .Add) (Cg X.K):=by
 intro pins s σ H x y v u Q I rx ry h
 obtain⟨a,b,xs,ys,rfl,rfl,ha,hb,hx,hz,q1,q2⟩:=h
 cases rx
 cases ry
 obtain⟨its,r1,p1,_⟩:=I.tuple ha
 obtain⟨its2,r2,p2,_⟩:=I.tuple hb
 refine HT.xC p1 p2 (fun z=>hx (r1.IS.mp z)) (fun z=>⟨.ref a,H,I,rfl,q1 (r2.IS.mp z)⟩) (fun z=>?_) (by rw[<-r1.length,<-r2.length];exact hz)
 refine⟨.ref s.heap.objs.size,_,I.laid (t':=s.toks) (o:=.tup (xs++ys)) (fun b ob q=>Heap.get?_push_of_some _ q) (Nat.le_refl _) ?_,rfl,q2 (fun w=>z (r2.IS.mpr w)) _ (I.hok.fresh (Nat.le_refl _))⟩
 exact⟨by rw[List.length_append];exact hz,_,r1.append r2,F7.new _ _⟩
end
noncomputable def qU(n:Nat)(i:Int):Option Nat:=if 0<=i then (if i < n then some i.toNat else none) else if -(n:Int)<=i then some (i+n).toNat else none
noncomputable def Gw{α:Type}(xs:List α)(i:Int):Option α:=(qU xs.length i).bind fun j=>xs[j]?
def si{n:Nat}{i:Int}{j:Nat}(h:qU n i=some j):seqIndex? i n=some j/\j < n/\-(n:Int)<=i/\i < n:=by
 unfold qU at h
 by_cases h0:0<=i
 ·rw[if_pos h0]at h
  by_cases h1:i < n
  ·rw[if_pos h1]at h
   have e:i.toNat=j:=Option.some.inj h
   exact⟨by rw[seqIndex_of h0 h1,e],by omega,by omega,h1⟩
  ·rw[if_neg h1]at h;cases h
 ·rw[if_neg h0]at h
  by_cases h1:-(n:Int)<=i
  ·rw[if_pos h1]at h
   have e:(i+n).toNat=j:=Option.some.inj h
   exact⟨by rw[seqIndex_neg (by omega) h1,e],by omega,h1,by omega⟩
  ·rw[if_neg h1]at h;cases h
def nI{α:Type}{xs:List α}{i:Int}{v:α}(h:Gw xs i=some v):∃j,seqIndex? i xs.length=some j/\xs[j]?=some v/\j < xs.length/\-(xs.length:Int)<=i/\i < xs.length:=by
 unfold Gw at h
 cases e:qU xs.length i with
 |none=>rw[e]at h;cases h
 |some j=>
  rw[e]at h
  obtain⟨h1,h2,h3,h4⟩:=si e
  exact⟨j,h1,h,h2,h3,h4⟩
def bX{α:Type}{xs:List α}{j:Nat}{v:α}(h:xs[j]?=some v):Gw xs (j:Int)=some v:=by
 have hj:j < xs.length:=(List.getElem?_eq_some_iff.mp h).1
 have e:qU xs.length (j:Int)=some j:=by
  unfold qU
  rw[if_pos (by omega),if_pos (by omega)];simp
 unfold Gw;rw[e];exact h
def k4(b:Expr):Prop:=∀o i,subscripted b false o i=operate [o,i] (getItem o i)
def BF(X:Cx)(r:R2):Prop:=
 ∀(value slice:Expr) (pins:Va) (s:Shared) (σ:St) (H:Hp) (x y:V) (v u:Value) (Q:VK),Inv X pins σ H s->RelV x v->RelV y u->r x y H Q->
  subscripted slice false v u=operate [v,u] (getItem v u)->wpAny (model X.prog X.w) X.A (subscriptTail value slice v u) (EP X pins σ Q) X.xe s
def Ar(X:Cx)(id:String)(r:V->List V->Hp->VK->Prop):Prop:=
 ∀(pins:Va) (s:Shared) (σ:St) (H:Hp) (x:V) (xs:List V) (v:Value) (us:Vv) (Q:VK),Inv X pins σ H s->RelV x v->Vals xs us->r x xs H Q->
  wpAny (model X.prog X.w) X.A (call (.builtin id) (v::us)) (EP X pins σ Q) X.xe s
section
variable {X:Cx} {a b:Expr} {ta tb:TE} {pos:Pos}
def Ch{r:R2}(hr:BF X r)(ha:PE X a ta)(hb:PE X b tb)(hs:k4 b):PE X (.Subscript a b pos) (B2 r ta tb):=by
 intro pins s σ H Q I h
 exact Subscript_ (Ac ha hb I h fun v u s2 x y H2 I2 rx ry q=>hr a b pins s2 σ H2 x y v u Q I2 rx ry q (hs _ _))
def DU(K:Vo):R2:=fun x y H Q=>∃p xs i v,x = .ref p/\y = .int i/\SqL K H p xs/\Gw xs i=some v/\Q v H
def DV(K:Vo):R2:=fun x y H Q=>∃p xs i v,x = .ref p/\y = .int i/\SqT K H p xs/\Gw xs i=some v/\Q v H
def DW:R2:=fun x y H Q=>∃z i c,x = .str z/\y = .int i/\z.length<=sizeLine/\Gw z.cps.toList i=some c/\Q (.str ⟨#[c]⟩) H
def sj:BF X (DU X.K):=by
 intro value slice pins s σ H x y v u Q I rx ry h hs
 obtain⟨p,xs,i,z,rfl,rfl,hq,he,q⟩:=h
 cases rx
 obtain⟨t,rfl⟩:=ry
 obtain⟨its,r,pl,hz⟩:=I.list hq
 obtain⟨j,h1,h2,h3,h4,h5⟩:=nI he
 obtain⟨w,ew,rw'⟩:=r.get h2
 have hl:=r.length
 have hn:=jN
 have fin:EP X pins σ Q w s:=⟨z,H,I,rw',q⟩
 by_cases h0:0<=i
 ·have hj:i.toNat=j:=by
   rw[seqIndex_of h0 h5]at h1
   exact Option.some.inj h1
  exact item_listR pl.isList h0 (by omega) (by rw[hj];simpa using ew) fin hs
 ·have hj:(i+(its.toArray.size:Int)).toNat=j:=by
   rw[seqIndex_neg (by omega) h4]at h1
   rw[List.size_toArray,<-hl]
   exact Option.some.inj h1
  exact subscriptTail_builtinR (x:=w) pl.isList.typeIs slot_list_getitem.lookup
   (wpAny_getItem_list_neg (Q:=fun r s'=>r=w/\EP X pins σ Q r s') pl.isList (by omega) (by rw[List.size_toArray]<;>omega) (by omega) (by rw[hj];simpa using ew) ⟨rfl,fin⟩) hs
def As:BF X (DV X.K):=by
 intro value slice pins s σ H x y v u Q I rx ry h hs
 obtain⟨p,xs,i,z,rfl,rfl,hq,he,q⟩:=h
 cases rx
 obtain⟨t,rfl⟩:=ry
 obtain⟨its,r,pl,hz⟩:=I.tuple hq
 obtain⟨j,h1,h2,h3,h4,h5⟩:=nI he
 obtain⟨w,ew,rw'⟩:=r.get h2
 have hl:=r.length
 have hn:=jN
 have fin:EP X pins σ Q w s:=⟨z,H,I,rw',q⟩
 exact subscriptTail_builtinR (x:=w) pl.typeIs slot_tuple_getitem.lookup
  (getItem_tuple (j:=j) (Q:=fun r s'=>r=w/\EP X pins σ Q r s') pl (by omega) (by omega) (by rw[List.size_toArray,<-hl];exact h1) (by simpa using ew) ⟨rfl,fin⟩) hs
def At:BF X DW:=by
 intro value slice pins s σ H x y v u Q I rx ry h hs
 obtain⟨z,i,c,rfl,rfl,hz,he,q⟩:=h
 obtain⟨t,rfl⟩:=rx
 obtain⟨t',rfl⟩:=ry
 obtain⟨j,h1,h2,h3,h4,h5⟩:=nI he
 have hl:z.cps.toList.length=z.length:=by simp[Str.length]
 rw[hl]at h1 h4 h5
 have hn:=jN
 exact tail_any (typeIs_str s z t) slot_str_getitem.lookup (getItem_str (c:=c) (by
  have e1:decide (i < -(2 ^ 63:Int))=false:=decide_eq_false (by omega)
  have e2:decide (i>=2 ^ 63)=false:=decide_eq_false (by omega)
  rw[e1,e2,Bool.or_false]) (by rw[h1];simpa using h2) ⟨.str ⟨#[c]⟩,H,I.tok _,⟨_,rfl⟩,q⟩) hs
def qV(its:Vv)(n j:Nat)(u:Value):Obj.mapSeq (·.setIfInBounds j u) { cls:=.type "list",data:=.seq its.toArray n }={ cls:=.type "list",data:=.seq (its.set j u).toArray n }:=by
 simp[Obj.mapSeq]
theorem Inv.lst{pins:Va}{σ:St}{H:Hp}{s:Shared}{p:Addr}{xs:List V}(I:Inv X pins σ H s)(h:H p=some (.lst xs)) :
  ∃(its:Vv) (n:Nat),Vals xs its/\s.heap.get? p=some { cls:=.type "list",data:=.seq its.toArray n }/\xs.length<=sizeLine:=by
 obtain⟨z,its,n,r,e⟩:=I.hok p _ h
 exact⟨its,n,r,e,z⟩
def Inv.Lf{pins:Va}{σ:St}{H:Hp}{s:Shared}{p:Addr}{xs ys:List V}{its its':Vv}{n n':Nat}{f:Obj->Obj}(I:Inv X pins σ H s)(h:H p=some (.lst xs))
  (ho:s.heap.get? p=some { cls:=.type "list",data:=.seq its.toArray n }) (hf:f { cls:=.type "list",data:=.seq its.toArray n }={ cls:=.type "list",data:=.seq its'.toArray n' }) (r:Vals ys its') (hz:ys.length<=sizeLine) (t:Nat) :
  Inv X pins σ (upd H p (.lst ys)) { s with heap:=s.heap.update p f,toks:=t }:=by
 have e:(s.heap.update p f).get? p=some { cls:=.type "list",data:=.seq its'.toArray n' }:=by
  rw[Heap.get?_update_self f ho (by rw[hf]<;>rfl),hf]
 refine I.write (x:=p) (e:=p) (by rw[h];trivial) (.inl rfl) (fun b u hb q=>(Heap.get?_update_other _ _ (Ne.symm hb)).trans q) ⟨_,e⟩ ?_
 exact⟨hz,its',n',r,e⟩
noncomputable def Ci:V->V->V->Hp->(Hp->Prop)->Prop:=fun o i v H Q=>∃p xs k j,o = .ref p/\i = .int k/\H p=some (.lst xs)/\qU xs.length k=some j/\Q (upd H p (.lst (xs.set j v)))
def uR:xh X Ci:=by
 intro pins s σ H o i v ov iv u Q I ro ri rv h
 obtain⟨p,xs,k,j,rfl,rfl,hp,hj,q⟩:=h
 cases ro
 obtain⟨t,rfl⟩:=ri
 obtain⟨its,n,r,ho,hz⟩:=I.lst hp
 obtain⟨h1,h2,h3,h4⟩:=si hj
 have hl:=r.length
 have hn:=jN
 have I':Inv X pins σ (upd H p (.lst (xs.set j v))) { s with heap:=s.heap.update p (Obj.mapSeq (·.setIfInBounds j u)) }:=
  I.Lf hp ho (qV its n j u) (r.set rv j) (by rw[List.length_set];exact hz) s.toks
 by_cases h0:0<=k
 ·have hk:k.toNat=j:=by
   rw[seqIndex_of h0 h4]at h1
   exact Option.some.inj h1
  exact PySem.W.ki_setAt ho h0 (by omega) (by rw[List.size_toArray,<-hl];exact h4) (by rw[hk];exact⟨_,I',q⟩)
 ·have hk:(k+(its.toArray.size:Int)).toNat=j:=by
   rw[seqIndex_neg (by omega) h3]at h1
   rw[List.size_toArray,<-hl]
   exact Option.some.inj h1
  exact PySem.W.ki_setBack ho (by omega) (by rw[List.size_toArray,<-hl];exact h3) (by omega) (by rw[hk];exact⟨_,I',q⟩)
def nJ(lo hi:Option Int)(n:Nat):(sliceBounds lo hi none n).1=((HT.FV n 0 lo:Nat):Int)/\(sliceBounds lo hi none n).2.1=((HT.FV n n hi:Nat):Int)/\(sliceBounds lo hi none n).2.2=1:=by
 refine⟨?_,?_,rfl⟩
 ·cases lo with
  |none=>simp[sliceBounds,HT.FV]
  |some i=>
   simp only[sliceBounds,HT.FV,Option.getD_none,show(1:Int) > 0 by decide,if_true]
   by_cases h:i < 0
   ·simp only[h,if_true]<;>omega
   ·simp only[h,if_false]<;>omega
 ·cases hi with
  |none=>simp[sliceBounds,HT.FV]
  |some i=>
   simp only[sliceBounds,HT.FV,Option.getD_none,show(1:Int) > 0 by decide,if_true]
   by_cases h:i < 0
   ·simp only[h,if_true]<;>omega
   ·simp only[h,if_false]<;>omega
def mo(its:Vv)(lo hi:Option Int):slicePick its.toArray lo hi none=((its.drop (HT.FV its.length 0 lo)).take (HT.FV its.length its.length hi - HT.FV its.length 0 lo)).toArray:=by
 obtain⟨h1,h2,h3⟩:=nJ lo hi its.toArray.size
 unfold slicePick
 rw[h1,h2,h3]
 simp only[sliceRange_one,pick_run,List.size_toArray]<;>rfl
noncomputable def DX(K:Vo):V->Option Int->Option Int->Hp->VK->Prop:=fun x lo hi H Q=>∃a xs,x = .ref a/\SqL K H a xs/\∀p,H p=none->Q (.ref p) (upd H p (.lst (ll xs lo hi)))
def sk:BE X (DX X.K):=by
 intro pins s σ H x v vl vu lo hi sl Q I rx hs pl pu h
 obtain⟨a,xs,rfl,hx,q⟩:=h
 cases rx
 obtain⟨its,r,ht,hz⟩:=I.list hx
 have hlen:=r.length
 refine⟨"list",_,slot_list_getitem.lookup,ht.isList.typeIs,?_⟩
 refine wpAny_getItem_list_slice ht.isList hs pl pu .none (by simp) ?_ (by rw[List.size_toArray]<;>omega)
 rw[mo,<-hlen]
 refine⟨.ref s.heap.objs.size,_,I.laid (t':=s.toks) (o:=.lst (ll xs lo hi)) (fun b ob q=>Heap.get?_push_of_some _ q) (Nat.le_refl _) ?_,rfl,q _ (I.hok.fresh (Nat.le_refl _))⟩
 exact⟨Nat.le_trans (kz xs lo hi) hz,_,0,(r.drop (HT.FV xs.length 0 lo)).take (HT.FV xs.length xs.length hi - HT.FV xs.length 0 lo),Heap.get?_push_size _ rfl⟩
def nK:iB X (compareOp .NotIn) (fun x y H Q=>∃i j,x = .str i/\y = .str j/\Q (.bl (!(!(Builtin.Str.occurrences j i 0 j.length 1).isEmpty))) H):=by
 intro pins s σ H x y v u Q I rx ry h
 obtain⟨i,j,rfl,rfl,q⟩:=h
 obtain⟨t,rfl⟩:=rx
 obtain⟨t',rfl⟩:=ry
 exact notIn_str ⟨.bl _,H,I,rfl,q⟩
def fD:gv X (.builtin "len") (fun xs H Q=>∃p ys,xs=[.ref p]/\(SqL X.K H p ys\/SqT X.K H p ys)/\Q (.int ys.length) H):=by
 intro pins s σ H xs us Q I r h
 obtain⟨p,ys,rfl,hq,q⟩:=h
 obtain⟨u,rfl,rx⟩:=gj r
 cases rx
 have hn:=jN
 rcases hq with hq|hq
 ·obtain⟨its,r',pl,hz⟩:=I.list hq
  have hlen:=r'.length
  exact Calls.call_len_list pl.isList (by simp only[List.size_toArray]<;>omega) ⟨.int ys.length,H,I.tok _,⟨s.toks+1,by rw[List.size_toArray,hlen]⟩,q⟩
 ·obtain⟨its,r',pl,hz⟩:=I.tuple hq
  have hlen:=r'.length
  exact len_tuple pl (by simp only[List.size_toArray]<;>omega) ⟨.int ys.length,H,I.tok _,⟨s.toks+1,by rw[List.size_toArray,hlen]⟩,q⟩
def nL:gv X (.builtin "len") (fun xs H Q=>∃z,xs=[.str z]/\z.length<=sizeLine/\Q (.int z.length) H):=by
 intro pins s σ H xs us Q I r h
 obtain⟨z,rfl,hz,q⟩:=h
 obtain⟨u,rfl,t,rfl⟩:=gj r
 have hn:=jN
 exact len_str (by omega) ⟨.int z.length,H,I.tok _,⟨_,rfl⟩,q⟩
def iC:gv X (.type "tuple") (fun xs H Q=>∃p ys,xs=[.ref p]/\((SqL X.K H p ys/\∀l,H l=none->Q (.ref l) (upd H l (.tup ys)))\/(SqT X.K H p ys/\Q (.ref p) H))):=by
 intro pins s σ H xs us Q I r h
 obtain⟨p,ys,rfl,h⟩:=h
 obtain⟨u,rfl,rx⟩:=gj r
 cases rx
 rcases h with⟨hq,q⟩|⟨hq,q⟩
 ·obtain⟨its,r',pl,hz⟩:=I.list hq
  have hlen:=r'.length
  refine call_tuple_list pl.isList (fun h' kp=>?_) (by simp only[List.size_toArray]<;>omega)
  have I1:Inv X pins σ H { s with heap:=h' }:=I.kept (t':=s.toks) kp
  have I2:Inv X pins σ (upd H h'.objs.size (.tup ys)) { s with heap:=h'.push { cls:=.type "tuple",data:=.seq its.toArray } }:=
   I1.laid (t':=s.toks) (fun b o e=>Heap.get?_push_of_some _ e) (Nat.le_refl _) (show ObjOk X.prog X.w _ _ _ (.tup ys)from ⟨hz,its,r',F7.new _ _⟩)
  exact⟨.ref h'.objs.size,_,I2,rfl,q _ (I1.hok.fresh (Nat.le_refl _))⟩
 ·obtain⟨its,r',pl,hz⟩:=I.tuple hq
  exact call_tuple_same pl ⟨.ref p,H,I,rfl,q⟩
def Ds(K:Vo)(T:String)(x:V)(H:Hp):Prop:=match x with
 | .str _=>T = "str"
 | .int _=>T = "int"
 | .ref p=>(T = "list"/\∃xs,SqL K H p xs)\/(T = "tuple"/\∃o,K.lookup p=some o/\o.cls = .type "tuple"/\o.dict=none) \/
   (T = "dict"/\((∃kvs,H p=some (.dK kvs))\/∃kvs,H p=some (.dT kvs)))\/(T = "set"/\∃S n,H p=some (.set S n))
 |_=>False
def uS{pins:Va}{σ:St}{H:Hp}{s:Shared}{T:String}{x:V}{v:Value}(I:Inv X pins σ H s)(r:RelV x v)(ty:Ds X.K T x H) :
  s.TypeIs v T/\∀a,v = .ref a->∃ob,s.heap.get? a=some ob/\ob.dict=none:=by
 cases x with
 |str z=>
  obtain⟨t,rfl⟩:=r
  cases (show T = "str" from ty)
  exact⟨typeIs_str s z t,fun _ e=>nomatch e⟩
 |int i=>
  obtain⟨t,rfl⟩:=r
  cases (show T = "int" from ty)
  exact⟨typeIs_int s i t,fun _ e=>nomatch e⟩
 |ref p=>
  cases r
  rcases ty with⟨rfl,xs,hq⟩|⟨rfl,o,hk,hc,hd⟩|⟨rfl,hk⟩|⟨rfl,S,n,hk⟩
  ·obtain⟨its,_,pl,_⟩:=I.list hq
   refine⟨pl.isList.typeIs,fun a e=>?_⟩
   cases e
   obtain⟨o,n,e,c,hd,_⟩:=pl
   exact⟨o,e,hd⟩
  ·refine⟨⟨o,I.Kf p o hk,hc⟩,fun a e=>?_⟩
   cases e
   exact⟨o,I.Kf _ o hk,hd⟩
  ·have z:∃o,s.heap.get? p=some o/\o.ExactDict:=by
    rcases hk with⟨kvs,hk⟩|⟨kvs,hk⟩
    ·obtain⟨_,_,_,_,o,_,_,e,ex,_⟩:=I.hok p _ hk
     exact⟨o,e,ex⟩
    ·obtain⟨_,_,_,_,o,_,_,e,ex,_⟩:=I.hok p _ hk
     exact⟨o,e,ex⟩
   obtain⟨o,e,ex⟩:=z
   refine⟨⟨o,e,ex.1⟩,fun a e2=>?_⟩
   cases e2
   exact⟨o,e,ex.2.1⟩
  ·obtain⟨o,_,_,_,e,ex,_⟩:=I.hok p _ hk
   refine⟨⟨o,e,ex.1⟩,fun a e2=>?_⟩
   cases e2
   exact⟨o,e,ex.2.1⟩
 |_=>exact False.elim ty
def DY(K:Vo)(T:String)(r:V->List V->Hp->VK->Prop)(to:TE):TE:=fun σ H Q=>to σ H fun x H1=>Ds K T x H1/\r x [] H1 Q
def EZ(K:Vo)(T:String)(r:V->List V->Hp->VK->Prop)(to:TE)(t:TA):TE:=fun σ H Q=>to σ H fun x H1=>Ds K T x H1/\t σ H1 fun xs H2=>r x xs H2 Q
variable {o e:Expr} {es:List Expr} {to:TE} {t:TA} {name:Str} {apos cpos:Pos} {T id:String} {r:V->List V->Hp->VK->Prop}
def Au(pa:PlainAttrs T)(slot:Slot T name id)(hty:typeOf (.builtin id)=pure (.type "method_descriptor"))(hm:Ar X id r)(ho:PE X o to)
  (hbase:attributeBase o name X.env (eval o X.env)=eval o X.env:=by rfl) (hline:(apos.endLine == cpos.line)=true:=by rfl):PE X (.Call (.Attribute o name apos) [] [] cpos) (DY X.K T r to):=by
 intro pins s σ H Q I h
 refine wpAny_Call_method0_late hbase hline (Fw (ho pins s σ H _ I h) fun v s1 ⟨x,H1,I1,r1,ty,q1⟩=>?_)
 obtain⟨h1,h2⟩:=uS I1 r1 ty
 exact⟨T,id,pa,slot,hty,h1,h2,Calls.callWith_builtin rfl (PySem.evalArgs_none (hm pins s1 σ H1 x [] v [] Q I1 r1 .nil q1))⟩
def Cj(pa:PlainAttrs T)(slot:Slot T name id)(hty:typeOf (.builtin id)=pure (.type "method_descriptor"))(hm:Ar X id r)(ho:PE X o to)(ha:PA X (e::es) t)
  (hbase:attributeBase o name X.env (eval o X.env)=eval o X.env:=by rfl)
  (hfew:((backTo cpos (starEach (e::es) X.env)).all (fun x=>!x.1)&&(backToKw cpos (keywordEach [] X.env)).all (fun x=>x.1.isSome)
   && decide ((e::es).length+([]:List Keyword).length+(if ([]:List Keyword).isEmpty then 0 else 1) < 30))=true:=by rfl)
  (hline:(apos.endLine == cpos.line)=true:=by rfl) (hs:starEach (e::es) X.env=(false,eval e X.env)::starEach es X.env:=by rfl) (hplain:(backTo cpos (starEach es X.env)).any (·.1)=false:=by rfl) :
  PE X (.Call (.Attribute o name apos) (e::es) [] cpos) (EZ X.K T r to t):=by
 intro pins s σ H Q I h
 refine wpAny_Call_method_late hbase hfew hline rfl (Fw (ho pins s σ H _ I h) fun v s1 ⟨x,H1,I1,r1,ty,q1⟩=>?_)
 obtain⟨h1,h2⟩:=uS I1 r1 ty
 refine⟨T,id,pa,slot,hty,h1,h2,?_⟩
 have hA:=ha cpos pins s1 σ H1 _ I1 q1
 rw[hs]at hA ⊢
 refine Calls.callWith_builtin (by show(false || (backTo cpos (starEach es X.env)).any (·.1))=false;rw[hplain]<;>rfl) (Calls.evalArgs_plain ?_)
 exact Fw hA fun us s2 ⟨vs,H2,I2,r2,q2⟩=>hm pins s2 σ H2 x vs v us Q I2 r1 r2 q2
end
def Ck(X:Cx)(id:String)(r:V->List V->Hp->VK->Prop):Prop:=
 ∀(pins:Va) (s:Shared) (σ:St) (H:Hp) (x:V) (xs:List V) (v:Value) (us:Vv) (Q:VK),Inv X pins σ H s->RelV x v->Vals xs us->r x xs H Q->
  wpAny (model X.prog X.w) X.A (call (.builtin id) (v::us)) (EP X pins σ Q) X.xe s
theorem Vals.one:∀{x:V} {us:Vv},Vals [x] us->∃u,us=[u]/\RelV x u
 |_,_,.cons r .nil=>⟨_,rfl,r⟩
theorem Vals.zero:∀{us:Vv},Vals [] us->us=[]
 |_,.nil=>rfl
theorem Vals.dropLast{xs:List V}{us:Vv}(h:Vals xs us):Vals xs.dropLast us.dropLast:=by
 induction h with
 |nil=>exact .nil
 |cons r t ih=>
  cases t with
  |nil=>exact .nil
  |cons q t'=>exact .cons r ih
theorem Vals.eraseIdx:∀{xs:List V} {us:Vv} (i:Nat),Vals xs us->Vals (xs.eraseIdx i) (us.eraseIdx i)
 |_,_,_,.nil=>.nil
 |_,_,0,.cons _ t=>t
 |_,_,i+1,.cons r t=>.cons r (Vals.eraseIdx i t)
theorem Vals.reverse{xs:List V}{us:Vv}(h:Vals xs us):Vals xs.reverse us.reverse:=by
 induction h with
 |nil=>exact .nil
 |cons r t ih=>rw[List.reverse_cons,List.reverse_cons];exact Vals.append ih (.cons r .nil)
theorem Vals.rep{xs:List V}{us:Vv}(h:Vals xs us):∀k:Nat,Vals (List.replicate k xs).flatten (List.replicate k us).flatten
 |0=>.nil
 |k+1=>by
  rw[List.replicate_succ,List.replicate_succ,List.flatten_cons,List.flatten_cons]
  exact Vals.append h (Vals.rep h k)
def qW{α:Type}(l:List α):l.eraseIdx (l.length - 1)=l.dropLast:=by
 induction l with
 |nil=>rfl
 |cons a r ih=>
  cases r with
  |nil=>rfl
  |cons b r=>
   have e:(a::b::r).length - 1=((b::r).length - 1)+1:=by
    have h1:(a::b::r).length=r.length+2:=rfl
    have h2:(b::r).length=r.length+1:=rfl
    omega
   rw[e,List.eraseIdx_cons_succ,ih]
   all_goals rfl
theorem mV{α:Type}:∀(l:List α) (i:Nat),(l.eraseIdx i).length<=l.length
 |[],_=>Nat.le_refl _
 |_::_,0=>Nat.le_succ _
 |_::r,i+1=>Nat.succ_le_succ (mV r i)
theorem jO(its:Vv):∀(k:Nat) (acc:Vv),
  List.foldl (fun x1 x2=>x1++x2) acc.toArray (List.replicate k its.toArray)=(acc++(List.replicate k its).flatten).toArray
 |0,acc=>by simp
 |k+1,acc=>by
  have e:acc.toArray++its.toArray=(acc++its).toArray:=by simp
  have e2:(acc++its)++(List.replicate k its).flatten=acc++(List.replicate (k+1) its).flatten:=by
   rw[List.replicate_succ,List.flatten_cons,List.append_assoc]
  rw[<-e2,<-jO its k (acc++its),<-e,List.replicate_succ,List.foldl_cons]
section
variable {X:Cx} {pins:Va} {σ:St} {H:Hp} {s:Shared} {l b:Addr} {xs ys zs:List V}
def Inv.Kg{its its':Vv}{n:Nat}{f:Array Value->Array Value}{t':Nat}(I:Inv X pins σ H s)(hH:H l=some (.lst xs))
  (e:s.heap.get? l=some { cls:=.type "list",data:=.seq its.toArray n }) (hf:f its.toArray=its'.toArray) (hv:Vals ys its') (hz:ys.length<=sizeLine) :
  Inv X pins σ (upd H l (.lst ys)) { s with heap:=s.heap.update l (Obj.mapSeq f),toks:=t' }:=by
 have q:=PySem.IsL.update e f
 rw[hf]at q
 refine I.write (x:=l) (e:=l) (by rw[hH];exact trivial) (.inl rfl) (fun b' u hb hu=>(Heap.get?_update_other s.heap (Obj.mapSeq f) (Ne.symm hb)).trans hu) ⟨_,q⟩ ?_
 exact⟨hz,its',_,hv,q⟩
def Inv.LU{its:Vv}{t':Nat}(I:Inv X pins σ H s)(hv:Vals ys its)(hz:ys.length<=sizeLine) :
  Inv X pins σ (upd H s.heap.objs.size (.lst ys)) { s with heap:=s.heap.push { cls:=.type "list",data:=.seq its.toArray },toks:=t' }:=
 I.laid (fun _ _ q=>Heap.get?_push_of_some _ q) (Nat.le_refl _) ⟨hz,its,0,hv,Heap.get?_push_size _ rfl⟩
theorem Inv.fresh(I:Inv X pins σ H s):H s.heap.objs.size=none:=I.hok.fresh (Nat.le_refl _)
def Inv.IU(I:Inv X pins σ H s)(hH:H l=some (.lst xs)):xs.length<=sizeLine/\∃(its:Vv) (n:Nat),Vals xs its/\xs.length=its.length/\s.heap.get? l=some { cls:=.type "list",data:=.seq its.toArray n }:=by
 obtain⟨z,its,n,r,e⟩:=I.hok l _ hH
 exact⟨z,its,n,r,r.length,e⟩
def pE{n:Nat}(h:n<=sizeLine):Builtin.List.listTooLong n=false:=by
 unfold Builtin.List.listTooLong
 exact decide_eq_false (by omega)
end
section
variable {X:Cx}
noncomputable def xI:V->List V->Hp->VK->Prop:=fun x vs H Q=>∃l xs y,x = .ref l/\vs=[y]/\H l=some (.lst xs)/\xs.length < sizeLine/\Q .non (upd H l (.lst (xs++[y])))
def tt:Ck X "list.append" xI:=by
 intro pins s σ H x vs v us Q I rx rv h
 obtain⟨l,xs,y,rfl,rfl,hH,hz,q⟩:=h
 cases rx
 obtain⟨u,rfl,ru⟩:=rv.one
 obtain⟨z,its,n,r,hl,e⟩:=I.IU hH
 refine call_meets F.slot_list_append ⟨_,e,rfl⟩ F.entry_list_append (F.args_list_append_2 _ _) (PySem.list_append l its.toArray n u (by rw[List.size_toArray];omega)) ⟨e,?_⟩
 refine⟨.non,_,I.Kg (its':=its++[u]) hH e (by simp) (r.append (.cons ru .nil)) ?_,rfl,q⟩
 rw[List.length_append,List.length_singleton]
 omega
noncomputable def xJ:V->List V->Hp->VK->Prop:=fun x vs H Q=>∃l b xs zs,x = .ref l/\vs=[.ref b]/\H l=some (.lst xs)/\H b=some (.lst zs)/\xs.length+zs.length<=sizeLine/\Q .non (upd H l (.lst (xs++zs)))
def tw:Ck X "list.extend" xJ:=by
 intro pins s σ H x vs v us Q I rx rv h
 obtain⟨l,b,xs,zs,rfl,rfl,hH,hB,hz,q⟩:=h
 cases rx
 obtain⟨u,rfl,ru⟩:=rv.one
 cases ru
 obtain⟨z,its,n,r,hl,e⟩:=I.IU hH
 obtain⟨z2,its2,n2,r2,hl2,e2⟩:=I.IU hB
 have hsz:its.toArray.size+its2.toArray.size<=sizeLine:=by rw[List.size_toArray,List.size_toArray];omega
 have Kh:¬(!its.toArray.isEmpty&&Builtin.List.listTooLong (its.toArray.size+its2.toArray.size))=true:=by
  rw[pE hsz,Bool.and_false]
  exact Bool.false_ne_true
 refine call_meets F.slot_list_extend ⟨_,e,rfl⟩ F.entry_list_extend (F.args_list_extend_2 _ _)
  (AutoSeq1.list_extend_list_list_0 l its.toArray n b its2.toArray n2 Kh (by rw[List.size_toArray];omega) (by omega)) ⟨e,e2,?_⟩
 refine⟨.non,_,I.Kg (its':=its++its2) hH e (by simp) (r.append r2) ?_,rfl,q⟩
 rw[List.length_append]
 omega
noncomputable def DZ:V->List V->Hp->VK->Prop:=fun x vs H Q=>∃l xs y,x = .ref l/\vs=[]/\H l=some (.lst xs)/\xs[xs.length - 1]?=some y/\Q y (upd H l (.lst xs.dropLast))
def Av:Ck X "list.pop" DZ:=by
 intro pins s σ H x vs v us Q I rx rv h
 obtain⟨l,xs,y,rfl,rfl,hH,hy,q⟩:=h
 cases rx
 have Ol:=rv.zero
 subst Ol
 obtain⟨z,its,n,r,hl,e⟩:=I.IU hH
 obtain⟨u,hu,ru⟩:=r.get hy
 have hy':its.toArray[its.toArray.size - 1]?=some u:=by
  show its.toArray[its.length - 1]?=some u
  rw[<-Array.getElem?_toList,<-hl]
  exact hu
 refine call_meets F.slot_list_pop ⟨_,e,rfl⟩ F.entry_list_pop (F.args_list_pop_1 _) (MeetsSeq.list_pop_last l its.toArray n u hy' (by rw[List.size_toArray];omega)) ⟨e,?_⟩
 refine⟨y,_,I.Kg (its':=its.dropLast) hH e ?_ r.dropLast ?_,ru,q⟩
 ·show its.toArray.eraseIdxIfInBounds (its.toArray.size - 1)=its.dropLast.toArray
  rw[List.size_toArray,List.eraseIdxIfInBounds_toArray,qW]
 ·rw[List.length_dropLast]
  omega
noncomputable def Aw:V->List V->Hp->VK->Prop:=fun x vs H Q=>∃l xs i k y,x = .ref l/\vs=[.int i]/\H l=some (.lst xs)/\-(2 ^ 63)<=i/\i < 2 ^ 63/\seqIndex? i xs.length=some k/\xs[k]?=some y/\Q y (upd H l (.lst (xs.eraseIdx k)))
def uT:Ck X "list.pop" Aw:=by
 intro pins s σ H x vs v us Q I rx rv h
 obtain⟨l,xs,i,k,y,rfl,rfl,hH,h1,h2,hk,hy,q⟩:=h
 cases rx
 obtain⟨u,rfl,ru⟩:=rv.one
 obtain⟨t,rfl⟩:=ru
 obtain⟨z,its,n,r,hl,e⟩:=I.IU hH
 obtain⟨w,hw,rw'⟩:=r.get hy
 refine call_meets F.slot_list_pop ⟨_,e,rfl⟩ F.entry_list_pop (F.args_list_pop_2 _ _)
  (MeetsSeq.list_pop_at l its.toArray n i t k w (fitsIndex_both h1 h2) (by rw[List.size_toArray,<-hl];exact hk) (by rw[<-Array.getElem?_toList];exact hw) (by rw[List.size_toArray];omega)) ⟨e,?_⟩
 refine⟨y,_,I.Kg (its':=its.eraseIdx k) hH e ?_ (r.eraseIdx k) ?_,rw',q⟩
 ·show its.toArray.eraseIdxIfInBounds k=(its.eraseIdx k).toArray
  rw[List.eraseIdxIfInBounds_toArray]
 ·have:=mV xs k
  omega
def D8:R2:=fun x y H Q=>∃l b xs zs,x = .ref l/\y = .ref b/\H l=some (.lst xs)/\H b=some (.lst zs)/\xs.length+zs.length<=sizeLine/\∀p,H p=none->Q (.ref p) (upd H p (.lst (xs++zs)))
def Ax:iB X (binaryOp .Add) D8:=by
 intro pins s σ H x y v u Q I rx ry h
 obtain⟨l,b,xs,zs,rfl,rfl,hH,hB,hz,q⟩:=h
 cases rx
 cases ry
 obtain⟨z,its,n,r,hl,e⟩:=I.IU hH
 obtain⟨z2,its2,n2,r2,hl2,e2⟩:=I.IU hB
 refine PySem.P.add_list e e2 ?_ (by rw[List.size_toArray,List.size_toArray];omega)
 have ea:its.toArray++its2.toArray=(its++its2).toArray:=by simp
 rw[ea]
 exact⟨.ref _,_,I.LU (t':=s.toks) (r.append r2) (by rw[List.length_append];omega),rfl,q _ I.fresh⟩
def D9:R2:=fun x y H Q=>∃l k xs,x = .ref l/\y = .int k/\H l=some (.lst xs)/\-(2 ^ 63)<=k/\k < 2 ^ 63/\xs.length * k.toNat<=sizeLine/\
 ∀p,H p=none->Q (.ref p) (upd H p (.lst (List.replicate k.toNat xs).flatten))
def xK{α:Type}(xs:List α)(k:Nat):(List.replicate k xs).flatten.length=k * xs.length:=by
 induction k with
 |zero=>simp
 |succ k ih=>rw[List.replicate_succ,List.flatten_cons,List.length_append,ih,Nat.succ_mul,Nat.add_comm]
def Ay:iB X (binaryOp .Mult) D9:=by
 intro pins s σ H x y v u Q I rx ry h
 obtain⟨l,k,xs,rfl,rfl,hH,h1,h2,hz,q⟩:=h
 cases rx
 obtain⟨t,rfl⟩:=ry
 obtain⟨z,its,n,r,hl,e⟩:=I.IU hH
 have hlen:its.toArray.size * k.toNat<=sizeLine:=by rw[List.size_toArray,<-hl];exact hz
 have hcap:¬its.toArray.size * k.toNat > (2 ^ 63 - 1) / 8:=by
  have:(sizeLine:Nat)<=(2 ^ 63 - 1) / 8:=by decide
  omega
 have hfit:¬(!Builtin.List.listFitsIndex k)=true:=by
  rw[fitsIndex_both h1 h2]
  exact Bool.false_ne_true
 have Kh:¬Builtin.List.listTooLong (its.toArray.size * k.toNat)=true:=by
  rw[pE hlen]
  exact Bool.false_ne_true
 have hnew:List.foldl (fun x1 x2=>x1++x2) #[] (List.replicate (if its.toArray.isEmpty=true then 0 else k.toNat) its.toArray)=(List.replicate k.toNat its).flatten.toArray:=by
  have f0:∀m:Nat,List.foldl (fun x1 x2=>x1++x2) #[] (List.replicate m its.toArray)=(List.replicate m its).flatten.toArray:=fun m=>by
   have:=jO its m []
   rw[List.nil_append]at this
   exact this
  rw[f0]
  cases its with
  |nil=>simp
  |cons a r'=>rw[if_neg (by simp)]
 refine wpAny_binaryOp_repeat_ref (T:="list") (U:="int") (by decide) ⟨_,e,rfl⟩ (fun s'=>typeIs_int s' k t) noFill_list_mul F.fills_int_mul F.slot_int_rmul repeat_list F.slot_int_index.lookup
  (call_meets F.slot_int_rmul (typeIs_int s k t) F.entry_int_rmul (F.args_int_rmul_2 _ _) (int___rmul___int_list k t l its.toArray n)
   ⟨e,rfl,⟨_,e,rfl⟩,call_meets F.slot_list_mul ⟨_,e,rfl⟩ F.entry_list_mul (F.args_list_mul_2 _ _) (AutoListH.list___mul___list_int_3 l its.toArray n k t hfit hcap Kh) ⟨e,?_⟩⟩)
 rw[hnew]
 exact⟨.ref _,_,I.LU (t':=s.toks) (r.rep k.toNat) (by rw[xK,Nat.mul_comm];exact hz),rfl,q _ I.fresh⟩
end
section
variable {prog:Program} {w:World} {A:Around} {E:Vq} {s:Shared}
end
section
variable {X:Cx}
end
section
variable {κ:Type} [DecidableEq κ]
noncomputable def iO(kvs:List (κ×V))(k:κ):Option V:=(kvs.find? fun kv=>decide (kv.1=k)).map (·.2)
noncomputable def gw(kvs:List (κ×V))(k:κ)(v:V):List (κ×V):=
 if (kvs.any fun kv=>decide (kv.1=k))=true then kvs.map (fun kv=>if kv.1=k then (kv.1,v) else kv) else kvs++[(k,v)]
def G0{p:κ×V}{r:List (κ×V)}{k:κ}(e:p.1=k):iO (p::r) k=some p.2:=by simp[iO,List.find?_cons,e]
def G1{p:κ×V}{r:List (κ×V)}{k:κ}(e:¬p.1=k):iO (p::r) k=iO r k:=by simp[iO,List.find?_cons,e]
theorem lm(k:κ):∀kvs:List (κ×V),(kvs.any fun kv=>decide (kv.1=k))=(iO kvs k).isSome
 |[]=>rfl
 |p::r=>by
  rw[List.any_cons]
  by_cases e:p.1=k
  ·simp only[G0 e,decide_eq_true e,Bool.true_or,Option.isSome_some]
  ·rw[G1 e,decide_eq_false e,Bool.false_or];exact lm k r
def gx(kvs:List (κ×V))(k:κ)(v:V):(gw kvs k v).length<=kvs.length+1:=by
 unfold gw
 split
 ·rw[List.length_map];omega
 ·rw[List.length_append,List.length_cons,List.length_nil];omega
def RelO.G2{o:Option V}{u:Option Value}(r:RelO o u):o.isSome=u.isSome:=by
 cases o with
 |none=>cases u with
  |none=>rfl
  |some _=>exact(show False from r).elim
 |some _=>cases u with
  |none=>exact(show False from r).elim
  |some _=>rfl
theorem RelO.getD{o:Option V}{u:Option Value}{d:V}{d':Value}(r:RelO o u)(rd:RelV d d'):RelV (o.getD d) (u.getD d'):=by
 cases o with
 |none=>cases u with
  |none=>exact rd
  |some _=>exact(show False from r).elim
 |some _=>cases u with
  |none=>exact(show False from r).elim
  |some _=>exact r
def KV.val{kvs:List (κ×V)}{vs:List (κ×Value)}(r:KV kvs vs)(k:κ):RelO (iO kvs k) (valueAt vs k):=by
 unfold KV at r
 induction r with
 |nil=>exact True.intro
 |@cons p q ps qs h t ih=>
  obtain⟨h1,h2⟩:=h
  by_cases e:p.1=k
  ·have e':q.1=k:=h1.symm.trans e
   have b:valueAt (q::qs) k=some q.2:=by simp[valueAt,List.find?_cons,e']
   rw[G0 e,b];exact h2
  ·have e':¬q.1=k:=fun z=>e (h1.trans z)
   have b:valueAt (q::qs) k=valueAt qs k:=by simp[valueAt,List.find?_cons,e']
   rw[G1 e,b];exact ih
theorem KV.any{kvs:List (κ×V)}{vs:List (κ×Value)}(r:KV kvs vs)(k:κ):(kvs.any fun kv=>decide (kv.1=k))=vs.any fun kv=>decide (kv.1=k):=by
 unfold KV at r
 induction r with
 |nil=>rfl
 |cons h t ih=>rw[List.any_cons,List.any_cons,ih,h.1]
def KV.repl{kvs:List (κ×V)}{vs:List (κ×Value)}(r:KV kvs vs)(k:κ){y:V}{u:Value}(ry:RelV y u) :
  KV (kvs.map fun kv=>if kv.1=k then (kv.1,y) else kv) (vs.map fun kv=>if kv.1=k then (kv.1,u) else kv):=by
 unfold KV at r ⊢
 induction r with
 |nil=>exact .nil
 |@cons p q ps qs h t ih=>
  rw[List.map_cons,List.map_cons]
  refine .cons ?_ ih
  obtain⟨h1,h2⟩:=h
  by_cases e:p.1=k
  ·rw[if_pos e,if_pos (h1.symm.trans e)];exact⟨h1,ry⟩
  ·rw[if_neg e,if_neg (fun z=>e (h1.trans z))];exact⟨h1,h2⟩
def KV.put{kvs:List (κ×V)}{vs:List (κ×Value)}(r:KV kvs vs)(k:κ){y:V}{u:Value}(ry:RelV y u):KV (gw kvs k y) (stored vs k u):=by
 unfold gw stored
 rw[r.any k]
 by_cases e:(vs.any fun kv=>decide (kv.1=k))=true
 ·rw[if_pos e,if_pos e];exact r.repl k ry
 ·rw[if_neg e,if_neg e];exact Paired.snoc r ⟨rfl,ry⟩
theorem KV.length{kvs:List (κ×V)}{vs:List (κ×Value)}(r:KV kvs vs):kvs.length=vs.length:=Paired.length r
end
def lp{P:Program}{w:World}{k:bE}{u:Value}(r:RelV (kV k) u):(ba P w).is k u=true:=by
 cases k with
 |inl i=>obtain⟨t,e⟩:=(show ∃t,u=Value.int i t from r);subst e;exact o_ P w i t
 |inr x=>obtain⟨t,e⟩:=(show ∃t,u=Value.str x t from r);subst e;exact pk P w x t
theorem mW{P:Program}{w:World}:∀{ks:List bE} {us:Vv},Vals (ks.map kV) us->ItemsAre (ba P w) ks us
 |[],_,r=>by rw[List.map_nil]at r;cases r;exact .nil
 |k::ks,_,r=>by
  rw[List.map_cons]at r
  cases r with
  |cons h t=>exact .cons (lp h) (mW t)
noncomputable abbrev KT(H:Hp):List (List bE×V)->List (List bE×Addr×Value)->Prop:=Paired fun p q=>p.1=q.1/\H q.2.1=some (.tup (p.1.map kV))/\RelV p.2 q.2.2
def KT.val{H:Hp}{kvs:List (List bE×V)}{xs:List (List bE×Addr×Value)}(r:KT H kvs xs)(k:List bE):RelO (iO kvs k) ((atKey xs k).map (·.2)):=by
 induction r with
 |nil=>exact True.intro
 |@cons p q ps qs h t ih=>
  obtain⟨h1,_,h2⟩:=h
  by_cases e:p.1=k
  ·have e':q.1=k:=h1.symm.trans e
   have b:atKey (q::qs) k=some q.2:=by simp[atKey,List.find?_cons,e']
   rw[G0 e,b];exact h2
  ·have e':¬q.1=k:=fun z=>e (h1.trans z)
   have b:atKey (q::qs) k=atKey qs k:=by simp[atKey,List.find?_cons,e']
   rw[G1 e,b];exact ih
def KT.repl{H:Hp}{kvs:List (List bE×V)}{xs:List (List bE×Addr×Value)}(r:KT H kvs xs)(k:List bE){y:V}{u:Value}(ry:RelV y u) :
  KT H (kvs.map fun kv=>if kv.1=k then (kv.1,y) else kv) (xs.map (putAt k u)):=by
 induction r with
 |nil=>exact .nil
 |@cons p q ps qs h t ih=>
  rw[List.map_cons,List.map_cons]
  refine .cons ?_ ih
  obtain⟨h1,h2,h3⟩:=h
  unfold putAt
  by_cases e:p.1=k
  ·rw[if_pos e,if_pos (h1.symm.trans e)];exact⟨h1,h2,ry⟩
  ·rw[if_neg e,if_neg (fun z=>e (h1.trans z))];exact⟨h1,h2,h3⟩
def KT.put{H:Hp}{kvs:List (List bE×V)}{xs:List (List bE×Addr×Value)}(r:KT H kvs xs)(k:List bE){b:Addr}{y:V}{u:Value}(hb:H b=some (.tup (k.map kV)))(ry:RelV y u) :
  KT H (gw kvs k y) (storedH xs k b u):=by
 have e:(kvs.any fun kv=>decide (kv.1=k))=(atKey xs k).isSome:=by
  rw[lm,(r.val k).G2,Option.isSome_map]
 unfold gw storedH
 rw[e]
 by_cases q:(atKey xs k).isSome=true
 ·rw[if_pos q,if_pos q];exact r.repl k ry
 ·rw[if_neg q,if_neg q];exact Paired.snoc r ⟨rfl,hb,ry⟩
def KT.keeps{H H':Hp}{kvs:List (List bE×V)}{xs:List (List bE×Addr×Value)}(r:KT H kvs xs)(ht:∀b ys,H b=some (.tup ys)->H' b=some (.tup ys)):KT H' kvs xs:=
 Paired.K9 r fun _ _ z=>⟨z.1,ht _ _ z.2.1,z.2.2⟩
section
variable {P:Program} {w:World} {H:Hp} {h:Heap} {a:Addr}
def zd{u:HO}(ok:Hv P w H h)(e:Rd H a u):ObjOk P w H h a u:=e.ok ok
def mX{kvs:List (bE×V)}(ok:Hv P w H h)(e:Rd H a (.dK kvs)):kvs.length<=sizeLine/\(a == sysModules)=false/\∃vs,KV kvs vs/\h.DictOf (ba P w) a vs:=
 show ObjOk P w H h a (.dK kvs)from zd ok e
def ze{kvs:List (bE×V)}(ok:Hv P w H h)(e:H a=some (.dK kvs)):kvs.length<=sizeLine/\(a == sysModules)=false/\∃vs,KV kvs vs/\h.DictOf (ba P w) a vs:=mX ok (.inl e)
def eO{ks:List bE}(ok:Hv P w H h)(e:H a=some (.tup (ks.map kV))):(tupleKind (ba P w)).is h ks a:=by
 obtain⟨_,its,r,o,h1,_,h2,n,h3⟩:=(show ObjOk P w H h a (.tup (ks.map kV))from ok a _ e)
 exact⟨o,its.toArray,n,h1,h2,h3,by simpa using mW r⟩
def pF{kvs:List (List bE×V)}(ok:Hv P w H h)(e:Rd H a (.dT kvs)):kvs.length<=sizeLine/\(a == sysModules)=false/\
  ∃xs,KT H kvs xs/\h.DictOfH (tupleKind (ba P w)) a xs:=by
 obtain⟨z,y,xs,r,o,es,ep,h1,h2,h3,h4,h5⟩:=(show ObjOk P w H h a (.dT kvs)from zd ok e)
 refine⟨z,y,xs,r,o,es,ep,h1,h2,h3,h4,fun x hx=>?_,h5⟩
 have all:∀{l:List (List bE×V)} {m:List (List bE×Addr×Value)},KT H l m->∀x∈m,(tupleKind (ba P w)).is h x.1 x.2.1:=by
  intro l m q
  induction q with
  |nil=>intro x hx;exact nomatch hx
  |@cons p q ps qs hq t ih=>
   intro x hx
   rcases List.mem_cons.mp hx with e|hx
   ·subst e
    exact eO ok (by rw[<-hq.1];exact hq.2.1)
   ·exact ih x hx
 exact all r x hx
def Cl{kvs:List (List bE×V)}(ok:Hv P w H h)(e:H a=some (.dT kvs)):kvs.length<=sizeLine/\(a == sysModules)=false/\
  ∃xs,KT H kvs xs/\h.DictOfH (tupleKind (ba P w)) a xs:=pF ok (.inl e)
end
def DGet(H:Hp)(a:Addr)(y:V)(r:Option V):Prop:=
 (∃kvs k,Rd H a (.dK kvs)/\y=kV k/\r=iO kvs k)\/∃kvs k b,Rd H a (.dT kvs)/\y = .ref b/\H b=some (.tup (k.map kV))/\r=iO kvs k
def Ki(H:Hp)(a:Addr)(y v:V)(H':Hp):Prop:=
 (∃kvs k,H a=some (.dK kvs)/\y=kV k/\kvs.length < sizeLine/\H'=upd H a (.dK (gw kvs k v))) \/
 ∃kvs k b,H a=some (.dT kvs)/\y = .ref b/\H b=some (.tup (k.map kV))/\kvs.length < sizeLine/\H'=upd H a (.dT (gw kvs k v))
theorem DGet.k{H:Hp}{a:Addr}{kvs:List (bE×V)}{k:bE}(e:H a=some (.dK kvs)):DGet H a (kV k) (iO kvs k):=.inl ⟨kvs,k,.inl e,rfl,rfl⟩
theorem Ki.k{H:Hp}{a:Addr}{kvs:List (bE×V)}{k:bE}{v:V}(e:H a=some (.dK kvs))(hl:kvs.length < sizeLine):Ki H a (kV k) v (upd H a (.dK (gw kvs k v))):=.inl ⟨kvs,k,e,rfl,hl,rfl⟩
section
variable {X:Cx} {pins:Va} {σ:St} {H:Hp} {s:Shared} {a:Addr} {y v:V} {u r:Value} {o:Option V} {A:Around} {E:Vq}
def Inv.big(I:Inv X pins σ H s):sysModules < s.heap.objs.size:=by
 have h:mainGlobals < s.heap.objs.size:=(I.mod.glob.keeps I.bk).lt
 exact Nat.lt_trans (by decide) h
def tD{Q:Vq}(hu:A.units+1 < cLine)(I:Inv X pins σ H s)(g:DGet H a y (some v))(ry:RelV y u)(h:∀w' s',Inv X pins σ H s'->RelV v w'->Q w' s') :
  wpAny (model X.prog X.w) A (getItem (.ref a) u) Q E s:=by
 rcases g with⟨kvs,k,e,ey,l⟩|⟨kvs,k,b,e,ey,eb,l⟩
 ·subst ey
  obtain⟨z,hd,vs,rel,dd⟩:=mX I.hok e
  obtain⟨w',hw,rw'⟩:=RelO.some_of (v:=v) (o:=valueAt vs k) (by rw[l];exact rel.val k)
  exact wpAny_getItem_of (lp ry) dd.mapOf hw (h w' _ (I.tok _) rw')
 ·subst ey
  cases (show u=Value.ref b from ry)
  obtain⟨z,hd,xs,rel,dd⟩:=pF I.hok e
  obtain⟨w',hw,rw'⟩:=RelO.some_of (v:=v) (o:=(atKey xs k).map (·.2)) (by rw[l];exact rel.val k)
  obtain⟨p,hp,hp2⟩:=Option.map_eq_some_iff.mp hw
  refine wpAny_getItem_heap (tupleKind_room_in1 hu) (eO I.hok eb) dd hp ?_
  rw[hp2]
  exact h w' _ (I.tok _) rw'
def Cm{Q:Vq}(hu:A.units+1 < cLine)(I:Inv X pins σ H s)(g:DGet H a y o)(ry:RelV y u)(h:∀s',Inv X pins σ H s'->Q (.bool o.isSome) s') :
  wpAny (model X.prog X.w) A (compareOp .In u (.ref a)) Q E s:=by
 rcases g with⟨kvs,k,e,ey,l⟩|⟨kvs,k,b,e,ey,eb,l⟩
 ·subst ey
  obtain⟨z,hd,vs,rel,dd⟩:=mX I.hok e
  refine wpAny_in_of (lp ry) hd dd.mapOf ?_
  rw[<-(rel.val k).G2,<-l]
  exact h _ (I.tok _)
 ·subst ey
  cases (show u=Value.ref b from ry)
  obtain⟨z,hd,xs,rel,dd⟩:=pF I.hok e
  refine wpAny_in_heap (tupleKind_room_in1 hu) (eO I.hok eb) hd dd ?_
  have q:=(rel.val k).G2
  rw[Option.isSome_map]at q
  rw[<-q,<-l]
  exact h _ (I.tok _)
def sn{Q:Vq}(hu:A.units+1 < cLine)(I:Inv X pins σ H s)(g:DGet H a y o)(ry:RelV y u)(h:∀s',Inv X pins σ H s'->Q (.bool (!o.isSome)) s') :
  wpAny (model X.prog X.w) A (compareOp .NotIn u (.ref a)) Q E s:=by
 rcases g with⟨kvs,k,e,ey,l⟩|⟨kvs,k,b,e,ey,eb,l⟩
 ·subst ey
  obtain⟨z,hd,vs,rel,dd⟩:=mX I.hok e
  refine wpAny_notIn_of (lp ry) hd dd.mapOf ?_
  rw[<-(rel.val k).G2,<-l]
  exact h _ (I.tok _)
 ·subst ey
  cases (show u=Value.ref b from ry)
  obtain⟨z,hd,xs,rel,dd⟩:=pF I.hok e
  refine wpAny_notIn_heap (tupleKind_room_in1 hu) (eO I.hok eb) hd dd ?_
  have q:=(rel.val k).G2
  rw[Option.isSome_map]at q
  rw[<-q,<-l]
  exact h _ (I.tok _)
def nM{h':Heap}{t':Nat}{ob:HO}(I:Inv X pins σ H s)(mu:BN (H a))(hs:Heap.SameBut a s.heap h')(he:∃q,h'.get? a=some q)(new:ObjOk X.prog X.w (upd H a ob) h' a ob) :
  Inv X pins σ (upd H a ob) { s with heap:=h',toks:=t' }:=
 I.write (x:=a) (e:=a) mu (.inl rfl) (fun b q hb z=>(hs.2 b hb).trans z) he new
def uU{P:Program}{w:World}{H':Hp}{h':Heap}{kvs:List (bE×V)}{vs:List (bE×Value)}(z:kvs.length<=sizeLine)(hd:(a == sysModules)=false)(rel:KV kvs vs)(dd:h'.DictOf (ba P w) a vs) :
  ObjOk P w H' h' a (.dK kvs):=⟨z,hd,vs,rel,dd⟩
def tE{H':Hp}{Q:Unit->Shared->Prop}(hu:A.units+1 < cLine)(I:Inv X pins σ H s)(g:Ki H a y v H')(ry:RelV y u)(rv:RelV v r)(h:∀s',Inv X pins σ H' s'->Q () s') :
  wpAny (model X.prog X.w) A (setItem (.ref a) u r) Q E s:=by
 rcases g with⟨kvs,k,e,ey,l,eH⟩|⟨kvs,k,b,e,ey,eb,l,eH⟩
 ·subst ey eH
  obtain⟨z,hd,vs,rel,dd⟩:=ze I.hok e
  have hz:vs.length<=sizeLine:=by rw[<-rel.length];exact z
  have hl:(gw kvs k v).length<=sizeLine:=by have:=gx kvs k v;omega
  refine wpAny_setItem_pairs (hsz:=hz) (lp ry) dd fun h' Lg hs=>h _ ?_
  have he:∃q,h'.get? a=some q:=let ⟨q,_,_,hq,_⟩:=Lg;⟨q,hq⟩
  exact nM I (by rw[e];exact True.intro) hs he (uU hl hd (rel.put k rv) Lg)
 ·subst ey eH
  cases (show u=Value.ref b from ry)
  obtain⟨z,hd,xs,rel,dd⟩:=Cl I.hok e
  have hz:xs.length<=sizeLine:=by rw[<-Paired.length rel];exact z
  have hl:(gw kvs k v).length<=sizeLine:=by have:=gx kvs k v;omega
  refine wpAny_setItem_heap (hsz:=hz) (tupleKind_room_in1 hu) (eO I.hok eb) dd fun h' Lg hs=>h _ ?_
  obtain⟨q,es,ep,hq,h2,h3,h4,_,h5⟩:=Lg
  refine nM I (by rw[e];exact True.intro) hs ⟨q,hq⟩ ⟨hl,hd,_,(rel.put k eb rv).keeps fun c ys ec=>?_,q,es,ep,hq,h2,h3,h4,h5⟩
  rw[aH (BM ec e (fun z=>nomatch z))]
  exact ec
end
section
variable {X:Cx} {pins:Va} {σ:St} {H:Hp} {s:Shared} {a:Addr} {kvs:List (bE×V)} {k:bE} {u:Value} {A:Around} {E:Vq}
def Cn{Q:Vq}(I:Inv X pins σ H s)(e:Rd H a (.dK kvs))(h:∀t s',Inv X pins σ H s'->Q (.int kvs.length t) s'):wpAny (model X.prog X.w) A (call (.builtin "len") [.ref a]) Q E s:=by
 obtain⟨z,hd,vs,rel,dd⟩:=mX I.hok e
 refine call_len_dict hd dd (by rw[<-rel.length];rw[sizeLine_eq]at z;omega) ?_
 rw[<-rel.length]
 exact h _ _ (I.tok _)
end
def pG{X:Cx}{pins:Va}{σ:St}{H:Hp}{s:Shared}{a:Addr}{y:V}{o:Option V}(I:Inv X pins σ H s)(g:DGet H a y o):s.TypeIs (.ref a) "dict":=by
 rcases g with⟨kvs,k,e,_,_⟩|⟨kvs,k,b,e,_,_,_⟩
 ·obtain⟨_,_,vs,_,dd⟩:=mX I.hok e
  exact dd.typeIs
 ·obtain⟨_,_,xs,_,dd⟩:=pF I.hok e
  exact dd.typeIs
section
variable {X:Cx} {o i e value:Expr} {pos pos' tpos:Pos} {td ty tv:TE}
end
def uV{P:Program}{w:World}{H:Hp}(h:Heap)(hb:sysModules < h.objs.size):ObjOk P w H (h.push { cls:=.type "dict",data:=.dict #[] }) h.objs.size (.dK []):=
 ⟨Nat.zero_le _,beq_eq_false_iff_ne.mpr (Ne.symm (Nat.ne_of_lt hb)),[],.nil,Heap.DictOf.new h⟩
section
variable {X:Cx} {pos:Pos}
end
noncomputable def nN:List (TE×TE)->St->Hp->(List (V×V)->Hp->Prop)->Prop
 |[],_,H,Q=>Q [] H
 |(tk,tv)::r,σ,H,Q=>tk σ H fun x H1=>tv σ H1 fun y H2=>nN r σ H2 fun ps H3=>Q ((x,y)::ps) H3
noncomputable abbrev VV:List (V×V)->List (Value×Value)->Prop:=Paired fun p q=>RelV p.1 q.1/\RelV p.2 q.2
def Co(X:Cx)(pos:Pos)(keys:List (Option Expr))(values:List Expr)(IA:List (TE×TE)):Prop:=
 ∀(pins:Va) (s:Shared) (σ:St) (H:Hp) (Q:List (V×V)->Hp->Prop),Inv X pins σ H s->nN IA σ H Q->
  wpAny (model X.prog X.w) X.A (evalPairs (pairTrees keys values X.env pos)) (fun vs s'=>∃ps H',Inv X pins σ H' s'/\VV ps vs/\Q ps H') X.xe s
def xL{X:Cx}{pos:Pos}:Co X pos [] [] []:=fun pins s σ H Q I h=>pairTrees_nil_walk ⟨[],H,I,.nil,h⟩
def uW{X:Cx}{pos:Pos}{k v:Expr}{ks:List (Option Expr)}{vs:List Expr}{tk tv:TE}{IA:List (TE×TE)}(hk:PE X k tk)(hv:PE X v tv)(hr:Co X pos ks vs IA) :
  Co X pos (some k::ks) (v::vs) ((tk,tv)::IA):=fun pins s σ H Q I h=>
 pairTrees_cons_walk (Fw (hk pins s σ H _ I h) fun u s1 ⟨x,H1,I1,rx,q1⟩=>Fw (hv pins s1 σ H1 _ I1 q1) fun w2 s2 ⟨y,H2,I2,ry,q2⟩=>
  Fw (hr pins s2 σ H2 _ I2 q2) fun ws s3 ⟨ps,H3,I3,rel,q3⟩=>⟨(x,y)::ps,H3,I3,.cons ⟨rx,ry⟩ rel,q3⟩)
noncomputable def jP(kvs more:List (bE×V)):List (bE×V):=more.foldl (fun acc kv=>gw acc kv.1 kv.2) kvs
def KV.merge:∀{more:List (bE×V)} {rs:List (bE×Value)} {kvs:List (bE×V)} {vs:List (bE×Value)},KV more rs->KV kvs vs->KV (jP kvs more) (merged vs rs):=by
 intro more rs kvs vs r
 unfold KV at r
 induction r generalizing kvs vs with
 |nil=>intro q;exact q
 |@cons p q ps qs h t ih=>
  intro r0
  have e:KV (gw kvs p.1 p.2) (stored vs q.1 q.2):=by
   have:=r0.put p.1 h.2
   rw[<-h.1];exact this
  exact ih e
theorem iD:∀(more kvs:List (bE×V)),(jP kvs more).length<=kvs.length+more.length
 |[],kvs=>by show kvs.length<=kvs.length+0;omega
 |p::r,kvs=>by
  have h1:=iD r (gw kvs p.1 p.2)
  have h2:=gx kvs p.1 p.2
  show(jP (gw kvs p.1 p.2) r).length<=_
  rw[List.length_cons];omega
theorem lq{P:Program}{w:World}:∀{kvs:List (bE×V)} {ws:List (Value×Value)},VV (kvs.map fun kv=>(kV kv.1,kv.2)) ws->∃rs,Carries (ba P w) ws rs/\KV kvs rs
 |[],_,r=>by rw[List.map_nil]at r;cases r;exact⟨[],True.intro,.nil⟩
 |p::kvs,_,r=>by
  rw[List.map_cons]at r
  cases r with
  |@cons a b as bs h t=>
   obtain⟨rs,c,q⟩:=lq (P:=P) (w:=w) t
   obtain⟨b1,b2⟩:=b
   exact⟨(p.1,b2)::rs,⟨lp h.1,rfl,c⟩,.cons ⟨rfl,h.2⟩ q⟩
def Cp(IA:List (TE×TE)):TE:=fun σ H Q=>∀p,H p=none->nN IA σ (upd H p (.dK [])) fun ps H2=>H2 p=some (.dK [])/\∃kvs:List (bE×V),ps=kvs.map (fun kv=>(kV kv.1,kv.2))/\kvs.length<=15/\Q (.ref p) (upd H2 p (.dK (jP [] kvs)))
def xM{X:Cx}{pos:Pos}{keys:List (Option Expr)}{values:List Expr}{IA:List (TE×TE)}(h:Co X pos keys values IA)(hall:keys.all (·.isSome)=true)(hl:keys.length=values.length)(h0:keys≠[])
  (ME:keys.length<=15):PE X (.Dict keys values pos) (Cp IA):=by
 intro pins s σ H Q I q
 have hn:=I.hok.fresh (Nat.le_refl s.heap.objs.size)
 have I1:=I.laid (a:=s.heap.objs.size) (o:=.dK []) (h':=s.heap.push { cls:=.type "dict",data:=.dict #[] }) (t':=s.toks) (fun _ _ q=>Heap.get?_push_of_some _ q) (Nat.le_refl _) (uV s.heap I.big)
 refine wpAny_Dict_walk (knd:=ba X.prog X.w) hall hl h0 ME (Fw (h pins _ σ _ _ I1 (q _ hn)) fun ws s2 ⟨ps,H2,I2,rel,e,kvs,ep,lk,q2⟩=>?_)
 subst ep
 obtain⟨rs,c,rk⟩:=lq (P:=X.prog) (w:=X.w) rel
 obtain⟨z,hd,vs0,r0,dd⟩:=ze I2.hok e
 cases r0
 refine⟨rs,c,dd,fun h' Lg hs=>⟨.ref s.heap.objs.size,_,?_,rfl,q2⟩⟩
 have hz:(jP [] kvs).length<=sizeLine:=by
  have h1:=iD kvs []
  rw[List.length_nil]at h1
  rw[sizeLine_eq];omega
 have he:∃q,h'.get? s.heap.objs.size=some q:=let ⟨q,_,_,hq,_⟩:=Lg;⟨q,hq⟩
 exact nM I2 (by rw[e];exact True.intro) hs he (uU hz hd (rk.merge .nil) Lg)
structure M2 (X:Cx) (o:Expr) (m:Str) (apos:Pos) (e f:Expr) (cpos:Pos):Prop where
 base:attributeBase o m X.env (eval o X.env)=eval o X.env
 few:((backTo cpos (starEach [e,f] X.env)).all (fun x=>!x.1)&&(backToKw cpos (keywordEach [] X.env)).all (fun x=>x.1.isSome)
  && decide (([e,f]:List Expr).length+([]:List Keyword).length+(if ([]:List Keyword).isEmpty then 0 else 1) < 30))=true
 line:(apos.endLine == cpos.line)=true
 trees:backTo cpos (starEach [e,f] X.env)=[(false,eval e X.env),(false,eval f X.env)]
section
variable {X:Cx} {pins:Va} {σ:St} {H:Hp} {s:Shared} {a:Addr} {y d:V} {u r:Value} {o:Option V} {A:Around} {E:Vq}
end
section
variable {X:Cx} {o e f:Expr} {apos cpos:Pos} {td ty tx:TE}
end
section
variable {X:Cx} {pins:Va} {σ:St} {H:Hp} {s:Shared} {a:Addr} {kvs:List (bE×V)} {A:Around} {E:Vq}
end
section
variable {X:Cx} {pins:Va} {σ:St} {H:Hp} {s:Shared} {a:Addr} {y:V} {u:Value} {A:Around} {E:Vq}
end
end L2
namespace Att
open PySem PySem.W PySem.Calls PyProof.Rows
def kR{P:Params}{h:Heap}:∀(ns:Vu) (vs:Vv),WellAll P h vs (ns.map WData.int)->IntsAre vs ns:=by
 intro ns
 induction ns with
 |nil=>
  intro vs w
  rw[List.map_nil]at w
  cases w
  exact .nil
 |cons n ns ih=>
  intro vs w
  rw[List.map_cons]at w
  cases w with
  |cons a b=>
   cases a
   exact .cons _ _ (ih _ b)
def tF{l:OpenLaw}{n:Nat}(hn:l.most=some n){P:Params}{h:Heap}{args:List WData}{vals:Vv}
  (hpre:l.row.toRowW.claim.pre args=true) (hwl:WellAll P h vals args) :
  ∃a vs ns,vals=[Value.ref a]/\args=[WData.list (ns.map WData.int)]/\h.get? a=some { cls:=.type "list",data:=.seq vs.toArray }/\IntsAre vs ns/\ns.length<=n:=by
 have hsh:WShape.hasAll [] args [.list .int]=true:=(pre_splitW hpre).1
 have hc:l.pre.holds [] { args:=args }=true:=(pre_splitW hpre).2
 obtain⟨d,r,rfl,h1,h2⟩:=hasAllW_cons hsh
 obtain rfl:=hasAllW_nil h2
 obtain⟨xs,rfl,h3⟩:=hasW_list h1
 obtain⟨ns,rfl⟩:=items_int h3
 have hlen:ns.length<=n:=by
  unfold OpenLaw.pre at hc
  have h4:(WTm.not (.lt (.lit (.int (n:Int))) (.len (.arg 0)))).holds [] { args:=[.list (ns.map .int)] }=true:=by
   have h4:=(holds_andW hc).1
   rw[hn]at h4
   exact h4
  have h5:=condW_of h4 (w_not (w_lt w_lit (w_len_list (w_arg rfl))))
  rw[List.length_map]at h5
  refine Nat.le_of_not_lt fun q=>?_
  have q':(n:Int) < ((ns.length:Nat):Int):=by omega
  first
   |(rw[decide_eq_true q']at h5;exact absurd h5 (by decide))
   |(simp at h5;omega)
 cases hwl with
 |cons w1 w2=>
  cases w2
  cases w1 with
  |list ho hall=>exact⟨_,_,ns,rfl,rfl,ho,kR ns _ hall,hlen⟩
def tG(l:OpenLaw)(args:List WData):l.row.toRowW.claim.post args (.bool true) args=true:=
 postW_of (r:=l.row.toRowW) (X:=(true == true))
  (show WShape.has [] (.bool true) .bool=true by first|rfl|decide|simp[WShape.has,WShape.arms,WShape.armsAll])
  (show(WTm.eq .res (.lit (.bool true))).value [] { args:=args,res:=some (.bool true),after:=args }=some (.bool (true == true))from w_eq_bool (w_res rfl) w_lit) rfl
def pH{l:OpenLaw}{n:Nat}{q:Program}{loose:Vs}{XP:(Vr)->Heap->Prop}{YP:World->Heap->Prop}{d:DefRec}
  (hn:l.most=some n) (hdf:d.params.defaults=[])
  (call:∀(w:World) (s₀ s₁:Shared) (mg mb:Vr) (fa:Addr) (o:Obj) (pm cd doc:Value) (a:Addr) (vs:Vv) (ns:Vu),
   Ground q loose [] XP w s₀ mg mb s₁.heap->YP w s₁.heap->
   s₁.heap.get? fa=some o->o.data = .func (docDef d.name d.params d.body d.scope pm cd doc)->s₁.heap.CodeRec cd d.name->mg d.name=some (.ref fa)->
   s₁.heap.get? a=some { cls:=.type "list",data:=.seq vs.toArray }->IntsAre vs ns->ns.length<=n->s₁.gens=#[]->
   codeAny (model l.prog w) callerA (.call (.ref fa) ⟨[.ref a],[]⟩) (fun r s'=>r = .ok (.ret (.bool true))/\OldK s₁.heap s'.heap/\s'.os=s₁.os/\AllBare s'.gens) s₁) :
  WalkO q loose XP YP l.row.toRowW d [] (fun f vs=>PySem.call f vs):=by
 intro w s₀ s₁ mg mb G Y fa o pm cd doc dV kV ho hd hcd hD hmg hg args vals as hpre hlay hrd hwl hlo
 obtain rfl:dV = .none:=Dflts.none hD hdf
 obtain rfl:kV = .none:=Dflts.noKw hD
 obtain⟨a,vs,ns,rfl,rfl,hobj,hints,hlen⟩:=tF hn hpre hwl
 refine enter_call (codeAny_mono (call w s₀ s₁ mg mb fa o pm cd doc a vs ns G Y ho (fd_plain hd) hcd hmg hobj hints hlen hg) fun r s' hq=>?_)
 obtain⟨rfl,h2,h3,h4⟩:=hq
 exact⟨.inl ⟨.bool true,.bool true,[],rfl,fun _=>rfl,.bool true,tG l _,fun _=>⟨List.Pairwise.nil,fun _ hm=>(nomatch hm)⟩⟩,h2,h3,h4⟩
section
variable {prog:Program} {w:World} {A:Around} {E:Vq} {s:Shared} {K:Frag}
end
end Att
namespace L2
open PySem PySem.Spec PyProof.Rows
theorem mY:∀{vs:Vv} {ns:Vu},IntsAre vs ns->Vals (ns.map V.int) vs
 |_,_,.nil=>.nil
 |_,_,.cons n t h=>.cons ⟨t,rfl⟩ (mY h)
def xN(H:Hp):Prop:=∀b,H b=none\/∃o xs,H b=some (.frz o (.lst xs))
def uX{P:Program}{w:World}{K:Vo}{mg mb:Vr}{CX:uM}{k:Nat}{fa a:Addr}{fd:FuncData}{x:Str}{sp:Sp}{s₁:Shared}{vs:Vv}{ns:Vu}
  (KX:K.In s₁.heap) (hns:s₁.heap.Ns mainGlobals mg) (hb:s₁.heap.Ns builtinsNs mb) (Om:∀x:Str,x ≠ "__name__"->mb x=bootBuiltins x) (hlim:s₁.heap.NoLimit) (hg:s₁.gens=#[])
  (ha:s₁.heap.get? a=some { cls:=.type "list",data:=.seq vs.toArray }) (hi:IntsAre vs ns) (hl:ns.length<=sizeLine) (hr:Room k callerA)
  (F:∀base:Heap,K.In base->base.Ns mainGlobals mg->mn P w K mg base CX k fa fd [x] sp) (hbind:∀(s:Shared) (u:Value),BindsTo s fd ⟨[u],[]⟩ [(x,u)])
  (Kt:∀H:Hp,xN H->SqL K H a (ns.map V.int)->sp [.ref a] H (fun v _=>v = .bl true) fun _ _ _=>False)
  (MF:∀H e s',CX [] H s₁ (fun _ _ _=>False) e s'->False) :
  codeAny (model P w) callerA (.call (.ref fa) ⟨[.ref a],[]⟩) (fun r s'=>r = .ok (.ret (.bool true))/\OldK s₁.heap s'.heap/\s'.os=s₁.os/\AllBare s'.gens) s₁:=by
 have rv:=mY hi
 have MG:=hi.length
 -- from an abstract heap in which nothing but the script may be tracked
 have core:∀H:Hp,xN H->SqL K H a (ns.map V.int)->Hv P w H s₁.heap->(∀b,H b≠none->b=a)->(H a≠none->K.lookup a=none)->
   codeAny (model P w) callerA (.call (.ref fa) ⟨[.ref a],[]⟩) (fun r s'=>r = .ok (.ret (.bool true))/\OldK s₁.heap s'.heap/\s'.os=s₁.os/\AllBare s'.gens) s₁:=by
  intro H hO hS hok hA hK
  have JU:∀{b:Addr} {o:Obj},s₁.heap.get? b=some o->H b=none->(nH s₁.heap H).get? b=some o:=fun e n=>uB e n
  have LQ:∀{b:Addr} {o:Obj} {es:Array DictEntry} {ep:Nat},s₁.heap.get? b=some o->o.data = .dict es ep->H b=none:=fun{b o es ep} e d=>by
   cases q:H b with
   |none=>rfl
   |some u=>
    have e':b=a:=hA b (by rw[q];simp)
    subst e'
    rw[ha]at e;cases e
    have d':Data.seq vs.toArray _=Data.dict es ep:=d
    cases d'
  have Mc:∀{b:Addr} {m:Vr},s₁.heap.Ns b m->(nH s₁.heap H).Ns b m:=fun{b m} ⟨o,es,ep,e,d,r⟩=>⟨o,es,ep,JU e (LQ e d),d,r⟩
  have NA:K.In (nH s₁.heap H):=fun b o e=>JU (KX b o e) (by
   cases q:H b with
   |none=>rfl
   |some u=>
    have e':b=a:=hA b (by rw[q];simp)
    subst e'
    rw[hK (by rw[q];simp)]at e;cases e)
  have hM:Mod K mg (nH s₁.heap H):=⟨NA,Mc hns,⟨mb,Mc hb,Om⟩,let ⟨mc,h1,h2⟩:=hlim;⟨mc,Mc h1,h2⟩⟩
  have e0:xB P w K mg (nH s₁.heap H) callerA [] s₁ H:=⟨rfl,hM,fun b o e=>wZ e,Nat.le_of_eq (sX _ _),trivial,fun b hb=>absurd (show b∈([]:List Addr)from hb) (by simp),hok,.of_eq hg⟩
  refine codeAny_mono ((F _ NA (Mc hns)).run callerA [] s₁ H ⟨[.ref a],[]⟩ [.ref a] [.ref a] _ _ hr e0 (hbind s₁ (.ref a)) (.cons rfl .nil) (Kt H hO hS)) fun r s' h=>?_
  cases r with
  |error e=>exact(MF H e s' h).elim
  |ok fl=>
   cases fl with
   |next=>exact False.elim h
   |brk=>exact False.elim h
   |cont=>exact False.elim h
   |ret u=>
    obtain⟨v,H',os,bare,un,MH,r',q⟩:=h
    have q':v = .bl true:=q
    subst q'
    obtain rfl:u=Value.bool true:=r'
    refine⟨rfl,OldK.of_keep fun b o e=>?_,os,bare⟩
    cases q:H b with
    |none=>exact un.keep b o e q (by intro z;exact absurd (show b∈([]:List Addr)from z) (by simp)) (by simp)
    |some u=>
     rcases hO b with z|⟨ob,xs,z⟩
     ·rw[q]at z;cases z
     ·have z2:=un.IR b ob _ z
      obtain⟨e1,_⟩:=hok b _ z
      obtain⟨e2,_⟩:=MH b _ z2
      rw[e]at e1;cases e1
      exact e2
 cases hk:K.lookup a with
 |some o=>
  -- the script is one of the module's own objects
  have e:=KX a o hk
  rw[ha]at e
  cases e
  refine core (fun _=>none) (fun _=>.inl rfl) (.inr ⟨_,vs.toArray,_,hk,rfl,rfl,rfl,by rw[List.size_toArray,MG];exact hl,by simpa using rv⟩) (fun b u z=>by have z':(none:Option HO)=some u:=z;cases z') (fun b z=>absurd rfl z) fun z=>absurd rfl z
 |none=>
  refine core (fun b=>if b=a then some (.frz { cls:=.type "list",data:=.seq vs.toArray } (.lst (ns.map V.int))) else none) (fun b=>?_) (.inl (.inr ⟨{ cls:=.type "list",data:=.seq vs.toArray },if_pos rfl⟩)) (fun b u z=>?_) (fun b z=>?_) fun _=>hk
  ·by_cases hb:b=a
   ·exact .inr ⟨_,_,if_pos hb⟩
   ·exact .inl (if_neg hb)
  ·by_cases hb:b=a
   ·have z':=(if_pos hb).symm.trans z
    cases z'
    subst hb
    exact⟨ha,by rw[List.length_map];exact hl,vs,_,rv,ha⟩
   ·have z':=(if_neg hb).symm.trans z
    cases z'
  ·by_cases hb:b=a
   ·exact hb
   ·exact absurd (if_neg hb) z
def xO{l:PySem.W.OpenLaw}{n k:Nat}{q:Program}{loose:Vs}{XP:(Vr)->Heap->Prop}{YP:World->Heap->Prop}{d:DefRec}{K:Params->PySem.W.Frag}{CX:World->uM}{sp:World->Sp}{x:Str}
  (hn:l.most=some n) (hn2:n<=sizeLine) (hdf:d.params.defaults=[]) (hr:Room k callerA)
  (hY:∀(w:World) (h:Heap),YP w h->(K w.params).In h)
  (F:∀(w:World) (mg:Vr) (fa:Addr) (h:Heap),(K w.params).In h->h.Ns mainGlobals mg->mg d.name=some (.ref fa)->
   ∃fd:FuncData,(∀(s:Shared) (u:Value),BindsTo s fd ⟨[u],[]⟩ [(x,u)])/\
    ∀base:Heap,(K w.params).In base->base.Ns mainGlobals mg->mn l.prog w (K w.params) mg base (CX w) k fa fd [x] (sp w))
  (Kt:∀(w:World) (H:Hp) (a:Addr) (ns:Vu),ns.length<=n->xN H->SqL (K w.params) H a (ns.map V.int)->sp w [.ref a] H (fun v _=>v = .bl true) fun _ _ _=>False)
  (MF:∀(w:World) (H:Hp) (s:Shared) (e:Value) (s':Shared),CX w [] H s (fun _ _ _=>False) e s'->False) :
  PySem.W.WalkO q loose XP YP l.row.toRowW d [] (fun f vs=>PySem.call f vs):=by
 refine Att.pH hn hdf fun w s₀ s₁ mg mb fa o pm cd doc a vs ns G Y ho hd hcd hmg hobj hints hlen hg=>?_
 have KX:=hY w _ Y
 obtain⟨fd,hb,hF⟩:=F w mg fa _ KX G.T.g hmg
 exact uX KX G.T.g G.T.b G.T.builtins G.T.nolimit hg hobj hints (Nat.le_trans hlen hn2) hr hF hb (fun H hO hS=>Kt w H a ns hlen hO hS) fun H e s'=>MF w H s₁ e s'
noncomputable def bY(s:Stmt):Arguments:=match s with
 | .FunctionDef _ a _ _ _ _ _ _ _ _=>a
 |_=>{ posonlyargs:=[],args:=[],vararg:=none,kwonlyargs:=[],kw_defaults:=[],kwarg:=none,defaults:=[] }
noncomputable def bf(s:Stmt):List Stmt:=match s with
 | .FunctionDef _ _ b _ _ _ _ _ _ _=>b
 |_=>[]
noncomputable def aD(s:Stmt):Scope:=match s with
 | .FunctionDef _ _ _ _ _ _ sc _ _ _=>sc
 |_=>{ kind:=.function,names:=[],isGenerator:=false,isCoroutine:=false }
noncomputable abbrev wX:uM:=fun _ _ _ _ _ _=>False
noncomputable abbrev E0:XK:=fun _ _ _=>False
def zf{X:Cx}:qR wX X E0:=fun _ _ _ _ _ _ _ h=>h.elim
structure KS (K:Vo) (x qual:Str) (st:Stmt) (f:Addr) (fd:FuncData):Prop where
 ex:∃(oc:Value) (od:Option Addr) (kV doc pm:Value) (an:Option Addr) (cdv ct:Value) (osl:Array (Option Value)),
  fd=PySem.W.fnOf x qual (bY st) (bf st) (aD st) .none kV doc pm an cdv ct/\K.lookup f=some ⟨oc,od,.func fd,osl⟩/\PySem.W.codeIn K cdv qual=true
 kp:PySem.W.keepIn K (.ref f)=true
section
variable {P:Program} {w:World} {K:Vo} {mg:Vr} {base:Heap}
def KS.ok{x qual:Str}{st:Stmt}{f:Addr}{fd:FuncData}{N ps:Vs}{k:Nat}{sp:Sp}(F:KS K x qual st f fd)(S:dP N ps (aD st))(len:∀vs H Q E,sp vs H Q E->vs.length=ps.length)
  (hbody:∀(cdv:Value) (A:Around) (outer:List Env) (s:Shared) (H:Hp) (vs:List V) (Q:VK) (E:XK),Room k (A.deeper (envOfC qual (aD st) s.heap.objs.size f cdv))->sp vs H Q E->
   ∃t,Jr (pC wX P w K mg base N qual (aD st) f cdv A outer s H E).Lc (bf st) t/\t { nx:=fun _ H'=>Q .non H',rt:=Q } (gk N vs) H):mn P w K mg base wX (k+1) f fd ps sp:=by
 obtain⟨oc,od,kV,doc,pm,an,cdv,ct,osl,rfl,lk,hcd⟩:=F.ex
 refine zc lk hcd S len fun A outer s H vs Q E hr Kt=>?_
 obtain⟨t,h,q⟩:=hbody cdv A outer s H vs Q E hr Kt
 exact⟨t,h.Lc,q⟩
def KS.binds{x qual:Str}{st:Stmt}{f:Addr}{fd:FuncData}{ps:Vs}(F:KS K x qual st f fd)
  (h:∀(kV doc pm:Value) (an:Option Addr) (cdv ct:Value) (us:Vv),us.length=ps.length->bindArgs (PySem.W.fnOf x qual (bY st) (bf st) (aD st) .none kV doc pm an cdv ct) ⟨us,[]⟩=pure (ps.zip us)):Binds K fd ps []:=by
 obtain⟨oc,od,kV,doc,pm,an,cdv,ct,osl,rfl,lk,hcd⟩:=F.ex
 exact .all (h kV doc pm an cdv ct)
def nO{x qual:Str}{st:Stmt}{f:Addr}{oc:Value}{od an:Option Addr}{osl:Array (Option Value)}{kV doc pm cdv ct:Value}(l:K.lookup f=some ⟨oc,od,.func (PySem.W.fnOf x qual (bY st) (bf st) (aD st) .none kV doc pm an cdv ct),osl⟩)
  (c:PySem.W.codeIn K cdv qual=true) (k:PySem.W.keepIn K (.ref f)=true):KS K x qual st f (PySem.W.fnOf x qual (bY st) (bf st) (aD st) .none kV doc pm an cdv ct):=⟨⟨oc,od,kV,doc,pm,an,cdv,ct,osl,rfl,l,c⟩,k⟩
end
def fc{n:Nat}(h:n<=1000):n < sizeLine:=Nat.lt_of_le_of_lt h (by decide)
section
variable {X:Cx}
def tH:gv X (.builtin "len") (fun xs H Q=>∃a kvs,xs=[V.ref a]/\H a=some (.dK kvs)/\Q (.int kvs.length) H):=by
 intro pins s σ H xs us Q I r h
 obtain⟨a,kvs,rfl,ha,q⟩:=h
 obtain⟨u,rfl,ru⟩:=gj r
 cases ru
 exact Cn I (.inl ha) fun t s' I'=>⟨.int kvs.length,H,I',⟨t,rfl⟩,q⟩
end
section
variable {κ:Type} [DecidableEq κ]
end
end L2
set_option maxHeartbeats 4000000
namespace L2
open PySem PySem.Spec PyProof.Rows
def nP{prog:Program}{w:World}{A:Around}{R:Result->Shared->Prop}{s:Shared}{elt target iter:Expr}{ifs:List Expr}{scope:Scope}{pos:Pos}{it acc:Value}{env:Env}(I:Nat->Shared->Prop)
  (turn:∀n s,I n s->wpAny (model prog w) A (pyNext it) (fun r s₁=>match r with
   |none=>R (.ok .next) s₁
   |some v=>wpAny (model prog w) A (letOwnedTupleGo target it v) (fun _ s₁'=>wpAny (model prog w) A (assign target env v) (fun _ s₂=>
     wpAny (model prog w) A (forIn ifs true fun c r=>if r=true then do let ok <-isTrue c env (eval c env);pure (ForInStep.yield ok) else pure (ForInStep.yield r)) (fun ok s₃=>
      if ok=true then wpAny (model prog w) A (eval elt env) (fun x s₄=>
       wpAny (model prog w) A (call (.builtin "list.append") [acc,x]) (fun _ s₅=>∃m,m < n/\I m s₅) (fun _ _=>False) s₄) (fun _ _=>False) s₃
      else ∃m,m < n/\I m s₃) (fun _ _=>False) s₂) (fun _ _=>False) s₁') (fun _ _=>False) s₁) (fun _ _=>False) s)
  (n:Nat) (h:I n s) :
  codeAny (model prog w) A (.compLoop (.ListComp elt [⟨target,iter,ifs,0⟩] scope pos) 0 it acc env) R s:=by
 refine codeAny_loop rfl I (fun n s hI=>?_) n h
 show wpAny _ A ((compTurn (.ListComp elt [⟨target,iter,ifs,0⟩] scope pos) 0 it acc env).onRaise (fun x=>do noteFrame x env;theTreesLotGoes x)) _ _ s
 refine wpAny_noted ?_
 rw[compTurn_list]
 refine wpAny_bind (wpAny_standAt (wpAny_bind (wpAny_mono (turn n s hI) (fun r s₁ h₁=>?_) fun _ _ h'=>h'.elim)))
 cases r with
 |none=>exact wpAny_pure h₁
 |some v=>
  refine wpAny_bind (wpAny_mono h₁ (fun _ s₁' h₁'=>?_) fun _ _ h'=>h'.elim)
  refine wpAny_bind (wpAny_mono h₁' (fun _ s₂ h₂=>wpAny_bind (wpAny_mono h₂ (fun ok s₃ h₃=>?_) fun _ _ h'=>h'.elim)) fun _ _ h'=>h'.elim)
  cases ok with
  |false=>exact wpAny_pure ⟨rfl,h₃⟩
  |true=>
   exact wpAny_bind (wpAny_bind (wpAny_mono h₃ (fun x s₄ h₄=>wpAny_bind (wpAny_mono h₄ (fun _ s₅ h₅=>wpAny_pure (wpAny_pure ⟨rfl,h₅⟩)) fun _ _ h'=>h'.elim)) fun _ _ h'=>h'.elim))
structure Bk where
 C:Addr
 s:Shared
 H:Hp
 fp:List Addr
 pn:Va
noncomputable def cR(env:Env)(fs:Vs):List (Str×Addr):=fs.map fun x=>(x,(env.cells.lookup x).getD 0)
noncomputable abbrev Cx.Ho(X:Cx)(N:Vs)(scope:Scope)(fs:Vs)(B:Bk):Cx:=
 { X with N:=N,s₀:=B.s,H₀:=B.H,env:=compEnvC scope (cR X.env fs) B.C X.env,outer:=X.stack,ex:=B.fp,fn:=fun _=>false,pn:=B.pn,xe:=fun _ _=>False }
noncomputable def cE(env:Env):List Str->Prop
 |[]=>True
 |x::r=>(∃c,env.cells.lookup x=some c)/\cE env r
theorem kA{env:Env}:∀{fs:Vs},cE env fs->∀{x:Str} {c:Addr},(cR env fs).lookup x=some c->env.cells.lookup x=some c
 |[],_,x,c,h=>by cases h
 |y::r,k,x,c,h=>by
  obtain⟨⟨d,hd⟩,k⟩:=k
  have h':List.lookup x ((y,(env.cells.lookup y).getD 0)::cR env r)=some c:=h
  rw[List.lookup_cons]at h'
  cases e:x == y with
  |true=>
   rw[e]at h'
   have e':x=y:=by simpa using e
   subst e'
   rw[hd]at h'
   rw[hd]
   exact h'
  |false=>
   rw[e]at h'
   exact kA k h'
noncomputable def nQ(names:List (Str×NameKind))(cl:List (Str×Addr)):Bool:=names.all fun y=>(y.2 != .cell&&y.2 != .free) || (cl.lookup y.1).isSome
def uY{names:List (Str×NameKind)}{cl:List (Str×Addr)}{x:Str}{k:NameKind}(h:nQ names cl=true)(e:names.lookup x=some k)(hk:k = .cell\/k = .free):∃c,cl.lookup x=some c:=by
 have hm:(x,k)∈names:=PySem.mem_of_lookup e
 have q:=List.all_eq_true.mp h _ hm
 have z:(cl.lookup x).isSome=true:=by
  rcases hk with rfl|rfl
  ·simpa using q
  ·simpa using q
 exact Option.isSome_iff_exists.mp z
noncomputable def Go(env:Env)(scope:Scope)(cl:List (Str×Addr)):List Str->Prop
 |[]=>True
 |x::r=>((env.scope.names.lookup x=some .cell\/env.scope.names.lookup x=some .free)/\((relabel scope env).names.lookup x=some .cell\/(relabel scope env).names.lookup x=some .free)/\cl.lookup x=env.cells.lookup x)/\Go env scope cl r
theorem Go.mem{env:Env}{scope:Scope}{cl:List (Str×Addr)}:∀{l:Vs},Go env scope cl l->∀x∈l,
  (env.scope.names.lookup x=some .cell\/env.scope.names.lookup x=some .free)/\((relabel scope env).names.lookup x=some .cell\/(relabel scope env).names.lookup x=some .free)/\cl.lookup x=env.cells.lookup x
 |[],_,x,h=>nomatch h
 |y::r,k,x,h=>by
  rcases List.mem_cons.mp h with rfl|h
  ·exact k.1
  ·exact Go.mem k.2 x h
noncomputable def fe(own:Nat)(fr:List Nat)(σ:St):St:=List.replicate own none++fr.map fun j=>(σ[j]?).getD none
noncomputable abbrev jQ(us:Vv):Obj:={ cls:=.type "list",data:=.seq us.toArray us.length }
def tI(us:Vv)(u:Value):({ cls:=.type "list",data:=.seq (us.toArray.push u) (us.length+1) }:Obj)=jQ (us++[u]):=by
 show({ cls:=.type "list",data:=.seq (us.toArray.push u) (us.length+1) }:Obj)={ cls:=.type "list",data:=.seq (us++[u]).toArray (us++[u]).length }
 rw[List.length_append,List.length_singleton,List.push_toArray]
section
variable {X:Cx} {pins:Va} {σ:St} {H:Hp} {s:Shared}
def Inv.LV{D:Addr}{us:Vv}{n:Nat}{ys:List V}(I:Inv X pins σ H s)(f:fB X pins H D)(e:s.heap.get? D=some { cls:=.type "list",data:=.seq us.toArray n })(r:Vals ys us)(hz:ys.length<=sizeLine) :
  Inv X pins σ (upd H D (.lst ys)) s:=by
 obtain⟨f0,f1,f2,f3,f4,f5⟩:=f
 have nD:∀b u,H b=some u->b≠D:=fun b u q=>bm q f0
 have hok:Hv X.prog X.w (upd H D (.lst ys)) s.heap:=fun b u q=>by
  by_cases hb:b=D
  ·subst hb
   rw[aG]at q
   cases q
   exact⟨hz,us,n,r,e⟩
  ·rw[aH hb]at q
   exact(I.hok b u q).stay (fun _ _ _ z=>z) (fun c z=>by rw[aH (nD c _ z)];exact z) fun c xs z=>by rw[aH (nD c _ z)];exact z
 exact I.step (H':=upd H D (.lst ys)) (h':=s.heap) (g':=s.gens) (t':=s.toks) (d':=s.drawn) (ch:=[D])
  (fun b hb=>by
   have z:b=D:=by simpa using hb
   subst z
   exact⟨f3,f1,f4,f5⟩)
  (fun _ _ _ _ _ q _=>q) (fun _ o _ _ _ q _=>⟨o.slots,q⟩)
  (fun b o hb _ n=>by rw[aH (fun z=>hb (by simp[z]))];exact n)
  (fun _ o _ q=>⟨o,q⟩) (fun b xs q=>by rw[aH (nD b _ q)];exact q) (fun b o u q=>by rw[aH (nD b _ q)];exact q)
  (fun b ps q=>⟨#[],by rw[aH (nD b _ q),q];simp⟩) (fun _ q=>q) hok I.bare
def Az{N:Vs}{scope:Scope}{fs:Vs}{C:Addr}{fp:List Addr}(I:Inv X pins σ H s)(hkind:scope.kind = .function)(hC:s.heap.objs.size<=C)(hcl:cE X.env fs)
  (hhas:nQ (relabel scope X.env).names (cR X.env fs)=true) (hf:∀b∈fp,fB X pins H b) (hlt:∀b∈fp,b < s.heap.objs.size):(X.Ho N scope fs ⟨C,s,H,fp,X.pn++pins⟩).Ok where
 mod:=I.ok.mod
 kind:=hkind
 glob:=I.ok.glob
 blt:=I.ok.blt
 above:=hC
 inj:=fun x y c h1 h2=>I.ok.inj x y c (kA hcl h1) (kA hcl h2)
 has:=fun x hx=>by
  rcases hx with e|e
  ·exact uY hhas e (.inl rfl)
  ·exact uY hhas e (.inr rfl)
 Lz:=fun x c h=>by cases h
 hd:=I.ok.hd
 frames:=I.ok.frames
 stk:=.inl rfl
 Mv:=fun b hb=>⟨Nat.ne_of_lt (Nat.lt_of_lt_of_le (hlt b hb) hC),fun x c e=>(hf b hb).2.2.2.2.1 x c (kA hcl e)⟩
 bs:=I.bs
 Kz:=Nat.le_trans I.ok.Kz I.sz
 J5:=fun b o e hb=>(hf b hb).2.2.2.1.elim (fun z=>I.ok.J5 b o e z) fun z=>absurd (Nat.lt_of_lt_of_le (Heap.lt_size e) (Nat.le_trans I.ok.Kz z)) (Nat.lt_irrefl _)
 Ke:=fun b hb z=>(List.mem_cons.mp (I.HY b z)).elim (hf b hb).2.1 (hf b hb).2.2.1
 Iw:=I.stack
 La:=I.JR
def xP{N:Vs}{scope:Scope}{fs:Vs}{C D:Addr}{fp:List Addr}{own:Nat}{fr:List Nat}{h₁:Heap}{m0:Vr}{t':Nat}(I:Inv X pins σ H s)
  (ok:(X.Ho N scope fs ⟨C,s,H,fp,X.pn++pins⟩).Ok) (hC:s.heap.objs.size<=C) (hD:s.heap.objs.size<=D) (hDC:D≠C) (hcl:cE X.env fs)
  (old:∀b o,s.heap.get? b=some o->h₁.get? b=some o) (hns:h₁.Ns C m0) (hacc:h₁.get? D=some (jQ [])) (hlen:N.length=own+fr.length) (hN:(N.drop own).map some=fr.map fun j=>X.N[j]?)
  (hF:Go X.env scope (cR X.env fs) (N.drop own)) :
  Inv (X.Ho N scope fs ⟨C,s,H,fp,X.pn++pins⟩) [(D,jQ [])] (fe own fr σ) H { s with heap:=h₁,toks:=t' }:=by
 refine⟨ok,rfl,I.bare,Un.kept old,⟨m0,hns,fun i x v e1 e2 e3=>?_⟩,fun x c e=>?_,I.hok.fresh hC,fun x c e=>I.Hf x c (kA hcl e),fun p hp=>?_,I.hok.kept old,?_⟩
 ·have e1:N[i]?=some x:=e1
  by_cases hi:i < own
  ·unfold fe at e2
   rw[List.getElem?_append_left (by rw[List.length_replicate];exact hi),List.getElem?_replicate,if_pos hi]at e2
   cases e2
  ·obtain⟨k,rfl⟩:∃k,i=own+k:=⟨i - own,by omega⟩
   have e1':(N.drop own)[k]?=some x:=by rw[List.getElem?_drop];exact e1
   have q:=congrArg (fun l=>l[k]?) hN
   simp only[List.getElem?_map,e1',Option.map_some]at q
   unfold fe at e2
   rw[List.getElem?_append_right (by rw[List.length_replicate];omega),List.length_replicate,Nat.add_sub_cancel_left,List.getElem?_map]at e2
   cases hj:fr[k]? with
   |none=>rw[hj]at e2;cases e2
   |some j=>
    rw[hj]at e2 q
    simp only[Option.map_some,Option.some.injEq]at e2 q
    have hσ:σ[j]?=some (some v):=by
     cases z:σ[j]? with
     |none=>rw[z]at e2;cases e2
     |some w=>rw[z]at e2;simp only[Option.getD_some]at e2;rw[e2]
    obtain⟨k1,k2,k3⟩:=hF.mem x (List.mem_of_getElem? e1')
    obtain⟨m,hn,hl⟩:=I.loc
    have vis:Dn X.env.scope x:=by
     rcases k1 with z|z
     ·exact .inr (.inl z)
     ·exact .inr (.inr z)
    obtain⟨u,ru,l⟩:=hl j x v q.symm hσ vis
    rcases l with⟨hk,_⟩|⟨_,c,hc,o,ho,hd⟩
    ·have hk':X.env.scope.names.lookup x=some .local:=hk
     rcases k1 with z|z
     ·rw[z]at hk';cases hk'
     ·rw[z]at hk';cases hk'
    ·exact⟨u,ru,.inr ⟨k2,c,k3.trans hc,o,old _ _ ho,hd⟩⟩
 ·obtain⟨v,o,ho,hd⟩:=I.cell x c (kA hcl e)
  exact⟨v,o,old _ _ ho,hd⟩
 ·rcases List.mem_append.mp hp with z|z
  ·obtain⟨e,n,ne,nf,d⟩:=I.pin p z
   exact⟨old _ _ e,n,Nat.ne_of_lt (Nat.lt_of_lt_of_le (Heap.lt_size e) hC),fun q=>(List.mem_cons.mp (I.HY _ q)).elim ne nf,d⟩
  ·have z':p=(D,jQ []):=by simpa using z
   subst z'
   exact⟨hacc,I.hok.fresh hD,hDC,fun q=>(List.mem_cons.mp (I.HY _ q)).elim (fun e=>absurd e (Nat.ne_of_gt (Nat.lt_of_lt_of_le I.lt hD))) (I.LK hD),fun v z=>by cases z⟩
 ·show(fe own fr σ).length=N.length
  unfold fe
  rw[List.length_append,List.length_replicate,List.length_map,hlen]
end
def PF(X:Cx)(ifs:List Expr)(t:TT):Prop:=
 ∀(pins:Va) (s:Shared) (σ:St) (H:Hp) (Q:Bool->Hp->Prop),Inv X pins σ H s->t σ H Q->
  wpAny (model X.prog X.w) X.A (forIn ifs true fun c r=>if r=true then do let ok <-isTrue c X.env (eval c X.env);pure (ForInStep.yield ok) else pure (ForInStep.yield r)) (TP X pins σ Q) X.xe s
def D_:TT:=fun _ H Q=>Q true H
def AA{X:Cx}:PF X [] D_:=fun _ _ _ H _ I h=>wpAny_tests_nil ⟨H,I,h⟩
def AB{X:Cx}{c:Expr}{t:TT}(h:PT X c t):PF X [c] t:=fun pins s σ H Q I q=>wpAny_tests_one (h pins s σ H Q I q)
def zg(J:It)(g:TG)(tc:TT)(te:TE)(own:Nat)(σ':St)(fin:List V->Hp->Prop)(H1:Hp):Prop:=
 ∃W:Nat->Nat->List V->Hp->Prop,(∃m,W 0 m [] H1)/\∀i m ys H,W i m ys H->
  (J.stop i H/\ys.length<=sizeLine/\fin ys H) \/
  (J.go i H/\ys.length<=sizeLine/\∃Nx:List V->Hp->Prop,(∀ys' H',Nx ys' H'->∃m',m' < m/\W (i+1) m' ys' H')/\∀x H',J.Mb i H x H'->g x σ' H' fun σ2 H2=>σ2.drop own=σ'.drop own/\tc σ2 H2 fun b H3=>
   if b=true then te σ2 H3 fun y H4=>Nx (ys++[y]) H4 else Nx ys H3)
section
variable {X:Cx} {pins:Va} {σ:St} {H:Hp} {s:Shared}
variable {elt iter tg:Expr} {ifs:List Expr} {scope:Scope} {pos:Pos} {N:Vs} {own:Nat} {fr:List Nat} {fs:Vs} {g:TG} {tc:TT} {te:TE}
def lr{J:It}{fp:List Addr}{it:Addr}{tn:Nat->Heap->Prop}{fin:List V->Hp->Prop}{E:Vq}{RR:Value->Addr->Result->Shared->Prop}
  (hc:X.calm=true) (hcell:∀y∈scope.names,y.2 ≠ .cell) (hkind:scope.kind = .function) (hcl:cE X.env fs) (hhas:nQ (relabel scope X.env).names (cR X.env fs)=true)
  (hlen:N.length=own+fr.length) (hN:(N.drop own).map some=fr.map fun j=>X.N[j]?) (hF:Go X.env scope (cR X.env fs) (N.drop own))
  (hg:∀B,PG (X.Ho N scope fs B) tg g) (hf:∀B,PF (X.Ho N scope fs B) ifs tc) (he:∀B,PE (X.Ho N scope fs B) elt te)
  (I:Inv X pins σ H s) (T:ml X.prog X.w X.K tg J fp it tn) (st:tn 0 s.heap) (f:∀b∈fp,fB X pins H b) (W:zg J g tc te own (fe own fr σ) fin H)
  (hRR:∀D C s' ys H' m',Inv X pins σ (upd H' D (.lst ys)) s'->H' D=none->s'.heap.Ns C m'->fB X pins (upd H' D (.lst ys)) C->fin ys H'->RR (.ref D) C (.ok .next) s') :
  wpAny (model X.prog X.w) X.A (newList []) (fun acc s₃=>wpAny (model X.prog X.w) X.A (newFunctionEnv scope X.env.globals (cR X.env fs) [] X.env.qual none .none (some X.env)) (fun cenv s₄=>
   codeAny (model X.prog X.w) X.A (.compStart (.ListComp elt [⟨tg,iter,ifs,0⟩] scope pos) 0 (.ref it) acc { cenv with scope:=relabel scope X.env }) (RR acc cenv.locals) s₄) E s₃) E s:=by
 refine wpAny_newObj_type (wpAny_newFunctionEnv hcell (by intro y hy;simp at hy) (fun h₁ Lh KC=>?_) hkind)
 dsimp only at Lh KC ⊢
 generalize MI:s.heap.push { cls:=.type "list",dict:=none,data:=.seq ([]:Vv).toArray }=H2 at Lh KC ⊢
 have hC:H2.objs.size=s.heap.objs.size+1:=by rw[<-MI,Heap.size_push]
 have Li:s.heap.objs.size<=H2.objs.size:=by rw[hC];exact Nat.le_succ _
 have hDC:s.heap.objs.size≠H2.objs.size:=by rw[hC];exact Nat.ne_of_lt (Nat.lt_succ_self _)
 have below:∀b,b < s.heap.objs.size->b≠H2.objs.size/\b≠s.heap.objs.size:=fun b hb=>⟨by rw[hC];exact Nat.ne_of_lt (Nat.lt_succ_of_lt hb),Nat.ne_of_lt hb⟩
 have old:∀b o,s.heap.get? b=some o->h₁.get? b=some o:=fun b o e=>KC.extBut b o (below b (Heap.lt_size e)).1 (Heap.get?_push_of_some _ (MI▸Heap.get?_push_of_some _ e))
 have hacc:h₁.get? s.heap.objs.size=some (jQ []):=KC.extBut _ _ hDC (Heap.get?_push_of_some _ (MI▸Heap.get?_push_size _ rfl))
 have hlt:∀b∈fp,b < s.heap.objs.size:=fun b hb=>by
  obtain⟨o,e,_⟩:=T.obj 0 _ st b hb
  exact Heap.lt_size e
 obtain⟨Wv,⟨m0,w0⟩,turn⟩:=W
 have ok:=Az (N:=N) I hkind Li hcl hhas f hlt
 have loop:∀s₃:Shared,s₃={ s with heap:=h₁,toks:=s.toks+([]:List (Str×Value)).length }->
   codeAny (model X.prog X.w) X.A (.compLoop (.ListComp elt [⟨tg,iter,ifs,0⟩] scope pos) 0 (.ref it) (.ref s.heap.objs.size) (compEnvC scope (cR X.env fs) H2.objs.size X.env))
    (RR (.ref s.heap.objs.size) H2.objs.size) s₃:=by
  rintro s₃ rfl
  have I0:=xP (own:=own) (fr:=fr) (t':=s.toks+([]:List (Str×Value)).length) I ok Li (Nat.le_refl _) hDC hcl old Lh hacc hlen hN hF
  have On:tn 0 h₁:=T.keep 0 _ _ st fun b _ o e=>old b o e
  have stat:∀{us:Vv} {H':Hp},(∀b∈fp,H' b=none)->∀b∈fp,fB (X.Ho N scope fs ⟨H2.objs.size,s,H,fp,X.pn++pins⟩) [(s.heap.objs.size,jQ us)] H' b:=fun{us H'} hn b hb=>by
   obtain⟨f0,f1,f2,f3,f4,f5⟩:=f b hb
   refine⟨hn b hb,(below b (hlt b hb)).1,fun z=>(List.mem_cons.mp (I.HY b z)).elim f1 f2,.inl hb,fun x c e=>f4 x c (kA hcl e),fun p hp=>?_⟩
   rcases List.mem_append.mp hp with z|z
   ·exact f5 p z
   ·have z':p=(s.heap.objs.size,jQ us):=by simpa using z
    subst z'
    exact Ne.symm (below b (hlt b hb)).2
  have MJ:∀p∈X.pn++pins,p.1 < s.heap.objs.size:=fun p hp=>Heap.lt_size (I.pin p hp).1
  refine nP (fun k s'=>∃i ys us H',Inv (X.Ho N scope fs ⟨H2.objs.size,s,H,fp,X.pn++pins⟩) [(s.heap.objs.size,jQ us)] (fe own fr σ) H' s'/\Vals ys us/\tn i s'.heap/\(∀b∈fp,H' b=none)/\Wv i k ys H') ?_ m0
   ⟨0,[],[],H,I0,.nil,On,fun b hb=>(f b hb).1,w0⟩
  rintro n s' ⟨i,ys,us,H',I',rv,st',NB,w'⟩
  rcases turn i n ys H' w' with⟨stop,hz,MK⟩|⟨go,hz,Nx,NC,step⟩
  ·refine Fw (T.done (X.Ho N scope fs ⟨H2.objs.size,s,H,fp,X.pn++pins⟩) rfl rfl rfl hc i _ s' _ H' (fun _ _=>False) I' (stat NB) st' stop) (fun r s1 ⟨hr,I1⟩=>?_)
   subst hr
   show RR _ _ (.ok .next) s1
   have IX:Inv X pins σ H' s1:=I.LP I1.os I1.base I1.hok I1.bare fun b hb=>by
    obtain⟨f0,f1,f2,f3,f4,f5⟩:=f b hb
    exact⟨f3,f1,f4,f5⟩
   obtain⟨eD,nD,_⟩:=I1.pin (s.heap.objs.size,jQ us) (by simp)
   have IT:=IX.LV (I.HR (H':=H') (Nat.le_refl _) nD) eD rv hz
   obtain⟨m',hn',_⟩:=I1.loc
   exact hRR _ _ s1 ys H' m' IT nD hn' (I.HR Li (by rw[aH (Ne.symm hDC)];exact I1.free)) MK
  ·refine Fw (T.item (X.Ho N scope fs ⟨H2.objs.size,s,H,fp,X.pn++pins⟩) rfl rfl rfl hc i _ s' _ H' (fun _ _=>False) I' (stat NB) st' go) (fun r s1 ⟨u,hr,h1⟩=>?_)
   subst hr
   show wpAny _ _ (letOwnedTupleGo tg (.ref it) u) _ _ s1
   refine Fw h1 (fun _ s5 ⟨x,H5,I5,r5,y5,KA,Mz⟩=>?_)
   have MA:=I5.pinned (stat Mz) (T.obj _ _ KA)
   refine Fw (hg _ _ s5 _ H5 x u _ MA r5 (step x H5 y5)) (fun _ s6 ⟨σ6,H6,I6,Oo,q6⟩=>?_)
   refine Fw (hf _ _ s6 σ6 H6 _ I6 q6) (fun b s7 ⟨H7,I7,q7⟩=>?_)
   -- Lj the turn's own names
   have forget:∀{H8:Hp} {s8:Shared} {pl:Va},Inv (X.Ho N scope fs ⟨H2.objs.size,s,H,fp,X.pn++pins⟩) pl σ6 H8 s8->Inv (X.Ho N scope fs ⟨H2.objs.size,s,H,fp,X.pn++pins⟩) pl (fe own fr σ) H8 s8:=fun{H8 s8 pl} I8=>by
    refine I8.weak (I0.len.trans I8.len.symm) fun j v e=>?_
    by_cases hj:j < own
    ·unfold fe at e
     rw[List.getElem?_append_left (by rw[List.length_replicate];exact hj),List.getElem?_replicate,if_pos hj]at e
     cases e
    ·obtain⟨k,rfl⟩:∃k,j=own+k:=⟨j - own,by omega⟩
     rw[<-List.getElem?_drop]at e ⊢
     rw[Oo]
     exact e
   have Md:∀{H8:Hp} {s8:Shared},Inv (X.Ho N scope fs ⟨H2.objs.size,s,H,fp,X.pn++pins⟩) ([(s.heap.objs.size,jQ us)]++lh fp s5.heap) σ6 H8 s8->∀b∈fp,∀o,s5.heap.get? b=some o->s8.heap.get? b=some o/\H8 b=none:=fun I8 b hb o e=>
    let z:=I8.pin (b,o) (List.mem_append_right _ (List.mem_append_right _ (iN hb e)))
    ⟨z.1,z.2.1⟩
   cases b with
   |false=>
    show ∃m,m < n/\_
    obtain⟨m',hm,w7⟩:=NC _ _ (show Nx ys H7 from q7)
    refine⟨m',hm,i+1,ys,us,H7,(forget I7).HS,rv,T.keep _ _ _ KA fun b hb o e=>(Md I7 b hb o e).1,fun b hb=>?_,w7⟩
    obtain⟨o,e,_⟩:=T.obj _ _ KA b hb
    exact(Md I7 b hb o e).2
   |true=>
    show wpAny _ _ (eval elt _) _ _ s7
    have Op:te σ6 H7 fun y H4=>Nx (ys++[y]) H4:=q7
    refine Fw (he _ _ s7 σ6 H7 _ I7 Op) (fun v s8 ⟨y,H8,I8,r8,n8⟩=>?_)
    obtain⟨m',hm,w8⟩:=NC _ _ n8
    obtain⟨eD,nD,ND,Oq,_⟩:=I8.pin (s.heap.objs.size,jQ us) (List.mem_append_right _ (List.mem_append_left _ (by simp)))
    refine append_at (hsz:=by show us.toArray.size<=sizeLine;rw[List.size_toArray,<-rv.length];exact hz) eD fun h9 Me Os=>?_
    have J0:Inv (X.Ho N scope fs ⟨H2.objs.size,s,H,fp,X.pn++pins⟩) [] σ6 H8 s8:=I8.Iz fun p hp=>nomatch hp
    have J1:Inv (X.Ho N scope fs ⟨H2.objs.size,s,H,fp,X.pn++pins⟩) [] σ6 H8 { s8 with heap:=h9 }:=J0.turned (t':=s8.toks) (it:=s.heap.objs.size) (fun b o hb e=>(Me.2 b hb).trans e) nD ND (.inr (Nat.le_refl _))
     (fun x c e z=>by
      obtain⟨v',q⟩:=I.cell x c (kA hcl e)
      exact absurd (Nat.lt_of_lt_of_le q.lt (by rw[z];exact Nat.le_refl _)) (Nat.lt_irrefl _))
     (fun p hp=>by
      rw[List.append_nil]at hp
      exact Nat.ne_of_lt (MJ p hp))
    have J2:Inv (X.Ho N scope fs ⟨H2.objs.size,s,H,fp,X.pn++pins⟩) [(s.heap.objs.size,jQ (us++[v]))] σ6 H8 { s8 with heap:=h9 }:=J1.Iz fun p hp=>by
     have z':p=(s.heap.objs.size,jQ (us++[v])):=by simpa using hp
     subst z'
     exact⟨Os.trans (congrArg some (tI us v)),nD,ND,Oq,fun v z=>by cases z⟩
    refine⟨m',hm,i+1,ys++[y],us++[v],H8,forget J2,Vals.append rv (.cons r8 .nil),T.keep _ _ _ KA fun b hb o e=>(Me.2 b (below b (hlt b hb)).2).trans (Md I8 b hb o e).1,fun b hb=>?_,w8⟩
    obtain⟨o,e,_⟩:=T.obj _ _ KA b hb
    exact(Md I8 b hb o e).2
 exact codeAny_compStart_list (loop _ rfl) (T.self _ 0 _ _ _ (T.keep 0 _ _ st fun b _ o e=>old b o e) (loop _ rfl))
def uZ(wi:TI)(g:TG)(tc:TT)(te:TE)(own:Nat)(fr:List Nat):TE:=fun σ H Q=>wi σ H fun J H1=>
 zg J g tc te own (fe own fr σ) (fun ys H2=>∀D,H2 D=none->Q (.ref D) (upd H2 D (.lst ys))) H1
def xQ(fs:Vs)(own:Nat)(fr:List Nat)(N:Vs){wi:TI}(hc:X.calm=true)(hclos:closureFor scope X.env=pure (cR X.env fs))(hcell:∀y∈scope.names,y.2 ≠ .cell)(hkind:scope.kind = .function)
  (hnames:∀x∈scope.names,x.2 = .local->scope.names.lookup x.1=some .local) (hcl:cE X.env fs) (hhas:nQ (relabel scope X.env).names (cR X.env fs)=true)
  (hlen:N.length=own+fr.length) (hN:(N.drop own).map some=fr.map fun j=>X.N[j]?) (hF:Go X.env scope (cR X.env fs) (N.drop own))
  (hi:PI X tg iter wi) (hg:∀B,PG (X.Ho N scope fs B) tg g) (hf:∀B,PF (X.Ho N scope fs B) ifs tc) (he:∀B,PE (X.Ho N scope fs B) elt te)
  (hs:∀x,foldedSetIterable iter X.env x=pure x:=by intro _;rfl):PE X (.ListComp elt [⟨tg,iter,ifs,0⟩] scope pos) (uZ wi g tc te own fr):=by
 intro pins s σ H Q I h
 rw[eval_ListComp]
 refine wpAny_comprehension_free (use:=none) (g:=⟨tg,iter,ifs,0⟩) (gs:=[]) rfl hs hclos hkind hnames (Fw (hi pins s σ H _ I h) fun v s1 h1=>Fw h1 fun itv s2 h2=>?_)
 obtain⟨it,fp,tn,J,H2,e,I2,T,st2,f2,W⟩:=h2
 subst e
 refine lr (RR:=fun acc C=>compPost (model X.prog X.w) X.A X.xe none (EP X pins σ Q) acc C) hc hcell hkind hcl hhas hlen hN hF hg hf he I2 T st2 f2 W ?_
 intro D C s' ys H' m' I' nD hn fC fin
 exact⟨m',hn,fun h' hs'=>⟨.ref D,_,I'.turned (t':=s'.toks) (fun b o hb e=>(hs'.2 b hb).trans e) fC.1 fC.2.1 fC.2.2.2.1 fC.2.2.2.2.1 fC.2.2.2.2.2,rfl,fin D nD⟩⟩
def xR(fs:Vs)(own:Nat)(fr:List Nat)(N:Vs){wi:TI}{i:Nat}{y:Str}{py spos:Pos}(hX:X.N.Nodup)(hix:X.N[i]?=some y)(hy:X.env.scope.names.lookup y=some .local)
  (hsw:swapsWith (.ListComp elt [⟨tg,iter,ifs,0⟩] scope pos) (some (.Name y py)) spos.line X.env=pure true)
  (hc:X.calm=true) (hclos:closureFor scope X.env=pure (cR X.env fs)) (hcell:∀y∈scope.names,y.2 ≠ .cell) (hkind:scope.kind = .function)
  (hnames:∀x∈scope.names,x.2 = .local->scope.names.lookup x.1=some .local) (hcl:cE X.env fs) (hhas:nQ (relabel scope X.env).names (cR X.env fs)=true)
  (hlen:N.length=own+fr.length) (hN:(N.drop own).map some=fr.map fun j=>X.N[j]?) (hF:Go X.env scope (cR X.env fs) (N.drop own))
  (hi:PI X tg iter wi) (hg:∀B,PG (X.Ho N scope fs B) tg g) (hf:∀B,PF (X.Ho N scope fs B) ifs tc) (he:∀B,PE (X.Ho N scope fs B) elt te)
  (hs:∀x,foldedSetIterable iter X.env x=pure x:=by intro _;rfl):PS X (.Assign [.Name y py] (.ListComp elt [⟨tg,iter,ifs,0⟩] scope pos) spos) (xq (uZ wi g tc te own fr) (pB i)):=by
 intro pins s σ H D I h
 rw[exec_Assign_Name_used _ _ _ _ hsw]
 refine wpAny_bind (wpAny_standAt (wpAny_bind ?_))
 show wpAny _ X.A (do let _ <-comprehension (.ListComp elt [⟨tg,iter,ifs,0⟩] scope pos) scope X.env _ (newList []) false (eval iter X.env) (some (assign (.Name y py) X.env))) _ _ s
 refine wpAny_bind (wpAny_mono (wpAny_comprehension_free (use:=some (assign (.Name y py) X.env)) (Q:=fun _ s'=>SP X pins D .next s') (g:=⟨tg,iter,ifs,0⟩) (gs:=[]) rfl hs hclos hkind hnames
  (Fw (hi pins s σ H _ I h) fun v s1 h1=>Fw h1 fun itv s2 h2=>?_)) (fun _ s' hq=>wpAny_pure (wpAny_pure hq)) fun _ _ e=>e)
 obtain⟨it,fp,tn,J,H2,e,I2,T,st2,f2,W⟩:=h2
 subst e
 refine lr (RR:=fun acc C=>compPost (model X.prog X.w) X.A X.xe (some (assign (.Name y py) X.env)) (fun _ s'=>SP X pins D .next s') acc C) hc hcell hkind hcl hhas hlen hN hF hg hf he I2 T st2 f2 W ?_
 intro Da C s' ys H' m' I' nD hn fC fin
 show wpAny _ X.A (assign (.Name y py) X.env (.ref Da)) _ _ s'
 refine wpAny_assign_Name (mP (v:=.ref Da) I' hX hix (.inl hy) rfl (fun s2 I3 ⟨a,sb,ha⟩=>?_) (.inr hy))
 have ca:C≠a:=by
  rcases ha with z|z
  ·rw[z];exact fC.2.1
  ·exact Ne.symm (fC.2.2.2.2.1 _ _ z)
 exact⟨m',hn.sameBut sb ca,fun h' hs'=>⟨_,_,I3.turned (t':=s2.toks) (fun b o hb e=>(hs'.2 b hb).trans e) fC.1 fC.2.1 fC.2.2.2.1 fC.2.2.2.2.1 fC.2.2.2.2.2,fin Da nD⟩⟩
end
end L2
namespace PySem
open Sem (wp)
namespace F
def tJ:typeLookup (.type "list_reverseiterator") "__len__" = pure none:=by rw[typeLookup_type,builtinLookup_eq_fast];kernel_rfl
def u4:typeLookup (.type "list_reverseiterator") "__length_hint__" = pure (some (.builtin "list_reverseiterator.__length_hint__")):=by rw[typeLookup_type,builtinLookup_eq_fast];kernel_rfl
end F
section
variable {prog:Program} {w:World} {A:Around} {s:Shared} {R:Result->Shared->Prop}
variable {I:Addr} {fp wr:List Addr} {G:Array GenState->Array GenState->Prop} {n:Nat} {P:Nat->Value->Prop} {St:Nat->Shared->Prop}
def qX(W:WalksS prog w A.in1 I fp wr G n P St)(hT:∀i s,St i s->s.TypeIs (.ref I) "list_reverseiterator")(S:Addr)(res:Value)(c₀:Nat)(hst:St 0 s)(hSf:S ∉ fp)(hI:I∈fp)
  (hS:s.heap.get? S=some { cls:=.type "list",data:=.seq #[] c₀ })
  (hR:∀s' acc' c',Moved (S::wr) G s s'->s'.heap.get? S=some { cls:=.type "list",dict:=none,data:=.seq acc' c',slots:=#[] }->ItemsOf P acc' n->R (.ok (.ret res)) s') (hn:n<=sizeLine) :
  wpAny (model prog w) A.in1 (Builtin.List.listExtendWith (.ref S) (.ref I) res)
   (fun fin s'=>match fin with | .done f=>R (.ok f) s' | .again c'=>c'.quiet=true/\codeAny (model prog w) A c' R s') (fun e s'=>R (.error e) s') s:=by
 have hSI:S≠I:=fun e=>hSf (e▸hI)
 have h1:Builtin.List.listSameRef (.ref S) (.ref I)=false:=by simp[Builtin.List.listSameRef,hSI]
 unfold Builtin.List.listExtendWith
 refine wpAny_bind (wpAny_typeOf (hT 0 _ hst) ?_)
 rw[if_neg (by rw[h1];decide)]
 refine wpAny_bind (W.self 0 _ _ _ hst ?_)
 refine wpAny_bind (wpAny_holding ?_)
 unfold Builtin.List.listLengthHint
 refine wpAny_bind (wpAny_specialOf (hT 0 _ hst) F.tJ ?_)
 show wpAny _ A.in1 (specialOf (Value.ref I) (Str.ofString "__length_hint__") >>= _) _ _ _
 refine wpAny_bind (wpAny_specialOf (hT 0 _ hst) F.u4 ?_)
 (generalize hid:("list_reverseiterator.__length_hint__":String)=Ot;wp_delta;rw[show splitId Ot=some ("list_reverseiterator","__length_hint__")from by subst hid;decide +kernel];subst hid)
 refine wpAny_bind (wpAny_isInstance (b:=true) (hT 0 _ hst) (by rw[isSubtype_type];kernel_rfl) ?_)
 refine wpAny_pure ?_
 rw[if_neg (by decide)]
 exact wpAny_pure ⟨plainId_quiet F.plain_extend_loop _,codeAny_extend_loopS W hn _ hSf _ n 0 _ _ _ rfl (Nat.zero_le _) hst hS (ItemsOf.nil P) fun s' acc' c' hm hS' hacc=>hR s' acc' c' hm hS' hacc⟩
def mr(W:WalksS prog w A.in1 I fp wr G n P St)(hT:∀i s,St i s->s.TypeIs (.ref I) "list_reverseiterator")(S:Addr)(hst:St 0 s)(hSf:S ∉ fp)(hI:I∈fp)
  (hS:s.heap.get? S=some { cls:=.type "list",data:=.seq #[] })
  (hR:∀s' acc' c',Moved (S::wr) G s s'->s'.heap.get? S=some { cls:=.type "list",dict:=none,data:=.seq acc' c',slots:=#[] }->ItemsOf P acc' n->R (.ok (.ret .none)) s') (hn:n<=sizeLine) :
  wpAny (model prog w) A.in1 (Builtin.«list.__init__» ⟨[.ref S,.ref I],[]⟩)
   (fun fin s'=>match fin with | .done f=>R (.ok f) s' | .again c'=>c'.quiet=true/\codeAny (model prog w) A c' R s') (fun e s'=>R (.error e) s') s:=by
 show wpAny _ A.in1 (do let old <-Builtin.List.listItems (.ref S);Builtin.List.listUpdate (.ref S) (fun _=>#[]);letGo old.toList.reverse;Builtin.List.listExtendWith (.ref S) (.ref I) .none) _ _ s
 refine wpAny_bind ?_
 unfold Builtin.List.listItems
 refine wpAny_bind (wpAny_seqItems hS rfl (wpAny_pure ?_))
 show wpAny _ A.in1 (updateSeq S (fun _=>#[]) >>= fun _=>letGo (#[]:Vw).toList.reverse >>= fun _=>Builtin.List.listExtendWith (.ref S) (.ref I) .none) _ _ s
 refine wpAny_bind (wpAny_updateSeq hS rfl ?_)
 have Ou:=Heap.get?_update_self (Obj.mapSeq (fun _=>(#[]:Vw))) hS rfl
 have Ka:∀b o,b≠S->s.heap.get? b=some o->(s.heap.update S (Obj.mapSeq (fun _=>(#[]:Vw)))).get? b=some o:=
  fun b o hb e=>(Heap.get?_update_other _ _ (Ne.symm hb)).trans e
 refine wpAny_bind (wpAny_letGo ?_)
 refine qX (hn:=hn) W hT S .none _ (W.frame 0 s _ s.toks hst (Nat.le_refl _) fun b hb o e=>Ka b o (fun h=>hSf (h▸hb)) e) hSf hI Ou fun s' acc' c' hm hS' hacc=>?_
 exact hR s' acc' c' (Moved.trans W.gtrans ((Moved.refl W.grefl).then_heap (Nat.le_refl _) fun b o hb e=>Ka b o (fun h=>hb (h▸List.mem_cons_self)) e) hm) hS' hacc
end
section
variable {prog:Program} {w:World} {A:Around} {E:Vq} {s:Shared}
def mw{I l:Addr}{items:Vw}{Q:Vq}(hh:A.handled=none)(hl:s.heap.IsList l items)(hit:s.heap.IsRevIter I l ((items.size:Int) - 1))(hne:l≠I)(hn:items.size<=sizeLine)
  (hQ:∀h' tk acc' c',(∀b o,b≠I->s.heap.get? b=some o->h'.get? b=some o)->h'.get? s.heap.objs.size=some { cls:=.type "list",dict:=none,data:=.seq acc' c',slots:=#[] }->
   acc'.toList=items.toList.reverse->Q (.ref s.heap.objs.size) { s with heap:=h',toks:=tk }) :
  wpAny (model prog w) A (call (.type "list") [.ref I]) Q E s:=by
 have W:=(Walks.listRev (prog:=prog) (w:=w) (A:=A.in1.in1) hh I l hne items).toS
 have ML:I < s.heap.objs.size:=by obtain⟨o,ho,_⟩:=hit;exact Heap.lt_size ho
 have MM:l < s.heap.objs.size:=by obtain⟨o,ho,_⟩:=hl;exact Heap.lt_size ho
 have hfp:∀b∈[I,l],b < s.heap.objs.size:=fun b hb=>by
  rcases List.mem_cons.mp hb with rfl|hb
  ·exact ML
  ·rw[List.mem_singleton.mp hb];exact MM
 have hSf:s.heap.objs.size ∉ [I,l]:=fun hm=>Nat.lt_irrefl _ (hfp _ hm)
 have hst:(fun i (s:Shared)=>i<=items.size/\s.heap.IsRevIter I l ((items.size:Int) - 1 - (i:Int))/\s.heap.IsList l items) 0 s:=⟨Nat.zero_le _,by simpa using hit,hl⟩
 refine callType_codes (Q₁:=fun obj s₁=>obj = .ref s.heap.objs.size/\s₁={ s with heap:=s.heap.push { cls:=.type "list",data:=.seq #[] } }) F.called_list (F.typeCall_list_1 _) F.entry_list_init
  (code_list_new _ ⟨rfl,rfl⟩) fun obj s₁ h₁=>?_
 obtain⟨rfl,rfl⟩:=h₁
 have hS:(s.heap.push { cls:=.type "list",data:=.seq #[] }).get? s.heap.objs.size=some { cls:=.type "list",data:=.seq #[] }:=Heap.get?_push_size _ rfl
 refine⟨⟨_,hS,rfl⟩,F.args_list_init_2 _ _,mr (hn:=hn) W (fun i s st=>st.2.1.typeIs) _ (W.frame 0 s _ s.toks hst (Nat.le_refl _) fun b _ o e=>Heap.get?_push_of_some _ e) hSf (List.mem_cons_self ..) hS fun s' acc' c' hm hS' hacc=>?_⟩
 refine⟨rfl,?_⟩
 rw[hm.eq_with]
 refine hQ s'.heap s'.toks acc' c' (fun b o hb e=>hm.heap b o (fun z=>?_) (Heap.get?_push_of_some _ e)) hS' ?_
 ·rcases List.mem_cons.mp z with z|z
  ·exact absurd (Heap.lt_size e) (by rw[z];exact Nat.lt_irrefl _)
  ·exact hb (List.mem_singleton.mp z)
 ·obtain⟨hsz,hP⟩:=hacc
  apply List.ext_getElem?
  intro j
  by_cases hj:j < items.size
  ·have hj':j < acc'.size:=by rw[hsz];exact hj
   have q:=hP j acc'[j] (by simp[hj'])
   have e1:acc'.toList[j]?=some acc'[j]:=by simp[hj']
   rw[e1,List.getElem?_reverse (by simpa using hj)]
   simpa using q.symm
  ·rw[List.getElem?_eq_none (by simpa [hsz]using hj),List.getElem?_eq_none (by simpa using hj)]
end
end PySem
namespace L2
open PySem PySem.Spec PyProof.Rows
section
variable {X:Cx}
def u5(K:Vo)(te:TE):TE:=fun σ H Q=>te σ H fun x H1=>∃a xs,x = .ref a/\SqL K H1 a xs/\∀q,H1 q=none->Q (.ref q) (upd H1 q (.lst xs.reverse))
def qY{e:Expr}{te:TE}{p1 p2 q1 q2:Pos}(hc:X.calm=true)(he:PE X e te)(MN:Gl X "list")(hm1:X.mg "list" = none)(LW:Gl X "reversed")(hm2:X.mg "reversed" = none)
  (hs:starEach [e] X.env=[(false,eval e X.env)]:=by rfl) (hs2:starEach [.Call (.Name "reversed" p2) [e] [] q2] X.env=[(false,eval (.Call (.Name "reversed" p2) [e] [] q2) X.env)]:=by rfl) :
  PE X (.Call (.Name "list" p1) [.Call (.Name "reversed" p2) [e] [] q2] [] q1) (u5 X.K te):=by
 intro pins s σ H Q I h
 refine wpAny_Call_Name_kw (fA I MN hm1 (u:=.type "list") (by decide +kernel) ?_)
 refine PyProof.Rows.callWith_type1 ?_ hs2 rfl
 rw[hs2]
 show wpAny _ _ (spliced ((false,eval (.Call (.Name "reversed" p2) [e] [] q2) X.env)::backTo q1 [])) _ _ s
 refine Calls.spliced_cons ?_
 refine wpAny_Call_Name_kw (fA I LW hm2 (u:=.type "reversed") boot_reversed ?_)
 refine PyProof.Rows.callWith_type1 ?_ hs rfl
 rw[hs]
 show wpAny _ _ (spliced ((false,eval e X.env)::backTo q2 [])) _ _ s
 refine Calls.spliced_cons (Fw (he pins s σ H _ I h) fun u s1 ⟨x,H1,I1,r1,a,xs,ex,hx,q⟩=>?_)
 subst ex
 cases r1
 obtain⟨its,rv,p,hz⟩:=I1.list hx
 have hl:=rv.length
 have hal:a < s1.heap.objs.size:=by obtain⟨o,ho,_⟩:=p.isList;exact Heap.lt_size ho
 refine Calls.spliced_nil (call_reversed_list p.isList ?_)
 refine Calls.spliced_nil ?_
 refine mw (I.ok.hd hc) (p.isList.push _) ⟨_,Heap.get?_push_size _ rfl,rfl,rfl⟩ (Nat.ne_of_lt hal) (by rw[List.size_toArray,<-hl];exact hz) fun h' tk acc c hk hS ha=>?_
 have hsz:(s1.heap.push (revObj a ((its.toArray.size:Int) - 1))).objs.size=s1.heap.objs.size+1:=Heap.size_push _ _
 have hle:s1.heap.objs.size<=(s1.heap.push (revObj a ((its.toArray.size:Int) - 1))).objs.size:=by rw[hsz];exact Nat.le_succ _
 refine⟨.ref _,_,I1.laid (a:=(s1.heap.push (revObj a ((its.toArray.size:Int) - 1))).objs.size) (o:=.lst xs.reverse) (h':=h') (t':=tk) (fun b u e=>hk b u (Nat.ne_of_lt (Heap.lt_size e)) (Heap.get?_push_of_some _ e)) hle ?_,rfl,q _ (I1.hok.fresh hle)⟩
 refine⟨by rw[List.length_reverse];exact hz,its.reverse,c,Vals.reverse rv,?_⟩
 rw[hS]
 have e:acc=its.reverse.toArray:=by
  apply Array.toList_inj.mp
  rw[ha]
 rw[e]
end
section
variable {X:Cx}
end
section
variable {X:Cx}
noncomputable abbrev nR(c:Nat):Str:=⟨#[c]⟩
noncomputable def Ea(z:Str):It:=⟨fun i _=>i < z.cps.size,fun i H x H'=>H'=H/\∃c,z.cps[i]?=some c/\x = .str (nR c),fun i _=>z.cps.size<=i⟩
def u6{P:Program}{w:World}{K:Vo}{tg:Expr}{ty:String}(hty:ty = "str_ascii_iterator" \/ ty = "str_iterator")(it:Addr)(z:Str)(t:Tok):ml P w K tg (Ea z) [it] it (fun i h=>i<=z.cps.size/\h.IsStrIter it ty z t i):=by
 have W:∀A':Around,A'.handled=none->Walks P w A' it [it] [it] z.cps.size (SignAt z) (fun i h=>h.IsStrIter it ty z t i):=fun A' hA=>by
  rcases hty with rfl|rfl
  ·exact Walks.strAscii hA it z t
  ·exact Walks.strWide hA it z t
 have nt:(["enumerate","zip","dict_itemiterator","dict_reverseitemiterator","odict_iterator","itertools.zip_longest","itertools.pairwise"].contains ty)=false:=by
  rcases hty with rfl|rfl<;>decide
 refine⟨by simp,fun i h st b hb=>?_,fun i h h' st k=>?_,?_,?_,?_⟩
 ·have e:b=it:=by simpa using hb
  subst e
  obtain⟨_,o,e,c,d⟩:=st
  exact⟨o,e,fun v q=>by rw[d]at q;cases q⟩
 ·obtain⟨hi,o,e,r⟩:=st
  exact⟨hi,o,k it (by simp) o e,r⟩
 ·intro X hP hw hK hc i pins s σ H E I hf st hg
  subst hP hw hK
  obtain⟨f0,f1,f2,f3,f4,f5⟩:=hf it (by simp)
  refine(W X.A (I.ok.hd hc)).item i s _ _ hg st.2 fun v h' tk hv st' kk=>?_
  obtain⟨c,u,hcp,rfl⟩:=hv
  have I1:Inv X pins σ H { s with heap:=h',toks:=tk }:=I.turned (fun b o hb e=>kk b o (by simpa using hb) e) f0 f1 f3 f4 f5
  obtain⟨o,e,co,d⟩:=id st'
  exact⟨_,rfl,cO (s:={ s with heap:=h',toks:=tk }) e co d nt ⟨.str (nR c),H,I1,⟨u,rfl⟩,⟨rfl,c,hcp,rfl⟩,⟨hg,st'⟩,fun b hb=>(hf b hb).1⟩⟩
 ·intro X hP hw hK hc i pins s σ H E I hf st hg
  subst hP hw hK
  obtain⟨f0,f1,f2,f3,f4,f5⟩:=hf it (by simp)
  have e:i=z.cps.size:=Nat.le_antisymm st.1 hg
  subst e
  exact(W X.A (I.ok.hd hc)).done s _ _ st.2 fun h' tk kk=>⟨rfl,I.turned (fun b o hb e=>kk b o (by simpa using hb) e) f0 f1 f3 f4 f5⟩
 ·intro A i s Q E st h
  rcases hty with rfl|rfl
  ·exact wpAny_pyIter_striter_ascii st.2 h
  ·exact wpAny_pyIter_striter_wide st.2 h
def xS{ys:Vs}:∀{us:Vv},Vals (ys.map V.str) us->StrsAre us ys:=by
 induction ys with
 |nil=>intro us r;rw[List.map_nil]at r;cases r;exact .nil
 |cons n ns ih=>
  intro us r
  rw[List.map_cons]at r
  cases r with
  |cons r1 r2=>
   obtain⟨t,e⟩:=r1
   subst e
   exact .cons n t (ih r2)
noncomputable def Cq(K:Vo):V->List V->Hp->VK->Prop:=fun x vs H Q=>∃sep p ys,x = .str sep/\vs=[.ref p]/\SqL K H p (ys.map V.str)/\(ys.map (·.length)).sum+ys.length * sep.length<=1000000/\Q (.str (Txt.join sep ys)) H
def xT:Ar X "str.join" (Cq X.K):=by
 intro pins s σ H x vs v us Q I rx rv h
 obtain⟨sep,p,ys,rfl,rfl,hp,hz,q⟩:=h
 obtain⟨t,rfl⟩:=rx
 obtain⟨u,rfl,ru⟩:=gj rv
 cases ru
 obtain⟨its,r,pl,_⟩:=I.list hp
 exact join_list pl.isList (by simpa using xS r) (by omega) fun t' k=>⟨.str _,H,I.tok k,⟨t',rfl⟩,q⟩
def tK(hc:X.calm=true):gv X (.builtin "all") (fun xs H Q=>∃(p:Addr) (bs:List Bool),xs=[.ref p]/\SqL X.K H p (bs.map V.bl)/\Q (.bl (bs.all id)) H):=by
 intro pins s σ H xs us Q I r h
 obtain⟨p,bs,rfl,hp,q⟩:=h
 obtain⟨u,rfl,rx⟩:=gj r
 cases rx
 obtain⟨its,rv,pl,hz⟩:=I.list hp
 have hl:=rv.length
 rw[List.length_map]at hl
 have hlt:p < s.heap.objs.size:=by obtain⟨o,ho,_⟩:=pl.isList;exact Heap.lt_size ho
 refine call_all_walk (wpAny_pyIter_list pl.isList ?_)
 have up:∀b o,s.heap.get? b=some o->(s.heap.push { cls:=.type "list_iterator",data:=.fields #[.ref p,.int 0 0] }).get? b=some o:=fun b o e=>Heap.get?_push_of_some _ e
 refine⟨s.heap.objs.size,_,_,_,_,_,fun i=>(bs[i]?).getD true,rfl,Walks.list (A:=X.A.in1) (I.ok.hd hc) s.heap.objs.size p (Nat.ne_of_lt hlt) its.toArray,⟨⟨_,Heap.get?_push_size _ rfl,rfl,rfl⟩,pl.isList.push _⟩,?_,fun h' tk hk=>?_⟩
 ·intro i v s' Q' E' hv hq
  have hi:i < its.length:=by
   by_cases z:i < its.length
   ·exact z
   ·rw[Array.getElem?_eq_none (by simpa using z)]at hv;cases hv
  obtain⟨u',e1,r1⟩:=rv.get (i:=i) (x:=.bl bs[i]) (by rw[List.getElem?_map,List.getElem?_eq_getElem (by omega)];rfl)
  have e2:v=u':=by
   have z:its[i]?=some v:=by simpa using hv
   rw[z]at e1;exact Option.some.inj e1
  subst e2
  cases (show v=Value.bool bs[i] from r1)
  refine wpAny_truthy_bool ?_
  have hq':Q' ((bs[i]?).getD true) s':=hq
  rw[List.getElem?_eq_getElem (show i < bs.length by omega)]at hq'
  exact hq'
 ·have e:(List.range its.toArray.size).all (fun i=>(bs[i]?).getD true)=bs.all id:=by
   rw[List.size_toArray,<-hl,Bool.eq_iff_iff,List.all_eq_true,List.all_eq_true]
   constructor
   ·intro h1 x hx
    obtain⟨j,hj,e⟩:=List.getElem_of_mem hx
    have q1:=h1 j (List.mem_range.mpr hj)
    rw[List.getElem?_eq_getElem hj]at q1
    rw[<-e];exact q1
   ·intro h1 j hj
    have hj':=List.mem_range.mp hj
    rw[List.getElem?_eq_getElem hj']
    exact h1 _ (List.getElem_mem hj')
  rw[e]
  exact⟨.bl _,H,(I.kept (t':=tk) (h':=h') fun b o eo=>hk b o (by
   intro hm
   have hb:b=s.heap.objs.size:=by simpa using hm
   exact absurd (Heap.lt_size eo) (by rw[hb];exact Nat.lt_irrefl _)) (up b o eo)),rfl,q⟩
end
section
variable {X:Cx}
noncomputable def Eb:V->Option Int->Option Int->Hp->VK->Prop:=fun x lo hi H Q=>∃z,x = .str z/\z.length<=sizeLine/\Q (.str (Txt.slice z lo hi)) H
def AC:BE X Eb:=by
 intro pins s σ H x v vl vu lo hi sl Q I rx hs pl pu h
 obtain⟨z,rfl,hz,q⟩:=h
 obtain⟨t,rfl⟩:=rx
 refine⟨"str",_,F.slot_str_getitem.lookup,typeIs_str _ _ _,?_⟩
 obtain⟨o,e,c,d⟩:=hs
 have fin:∀l u:Option (Int×Tok),(vl=partValue l/\lo=l.map (·.1))->(vu=partValue u/\hi=u.map (·.1))->wpAny (model X.prog X.w) X.A (getItem (.str z t) (.ref sl)) (EP X pins σ Q) X.xe s:=by
  rintro l u ⟨rfl,rfl⟩ ⟨rfl,rfl⟩
  exact wpAny_getItem_str_slice (l:=l) (u:=u) (st:=none) ⟨o,e,c,d⟩ rfl (post_val_or_str ⟨Nat.le_trans (Txt.slice_le z _ _) hz,fun t' k=>⟨.str _,H,I.tok k,⟨t',rfl⟩,q⟩⟩)
 cases pl with
 |none=>
  cases pu with
  |none=>exact fin none none ⟨rfl,rfl⟩ ⟨rfl,rfl⟩
  |int j uj=>exact fin none (some (j,uj)) ⟨rfl,rfl⟩ ⟨rfl,rfl⟩
 |int i ui=>
  cases pu with
  |none=>exact fin (some (i,ui)) none ⟨rfl,rfl⟩ ⟨rfl,rfl⟩
  |int j uj=>exact fin (some (i,ui)) (some (j,uj)) ⟨rfl,rfl⟩ ⟨rfl,rfl⟩
noncomputable def AD:V->List V->Hp->VK->Prop:=fun x vs H Q=>∃a b i rest,x = .str a/\vs=[.str b]/\Builtin.Str.occurrences a b 0 a.length 1=i::rest/\Q (.int i) H
def u7:Ar X "str.index" AD:=by
 intro pins s σ H x vs v us Q I rx rv h
 obtain⟨a,b,i,rest,rfl,rfl,ho,q⟩:=h
 obtain⟨t,rfl⟩:=rx
 obtain⟨w,rfl,u,rfl⟩:=gj rv
 exact call_gives F.slot_str_index (typeIs_str _ _ _) F.entry_str_index (F.args_str_index_2 _ _) (gives_str_index a b t u i rest ho) ⟨.int i,H,I.tok _,⟨_,rfl⟩,q⟩
def AE(K:Vo)(i j k:Nat)(te:TE):TS:=fun D σ H=>te σ H fun x H1=>∃p v w u,x = .ref p/\SqT K H1 p [v,w,u]/\D.nx (((σ.set k (some u)).set j (some w)).set i (some v)) H1
def u8{i j k:Nat}{x y z:Str}{e:Expr}{te:TE}{px py pz pt:Pos}{kt:Nat}{pos:Pos}(hc:X.calm=true)(hN:X.N.Nodup)(hi:X.N[i]?=some x)(hj:X.N[j]?=some y)(hk:X.N[k]?=some z)
  (hx:X.env.scope.names.lookup x=some .local) (hy:X.env.scope.names.lookup y=some .local) (hz:X.env.scope.names.lookup z=some .local) (he:PE X e te)
  (hw:swappedStores [.Tuple [.Name x px,.Name y py,.Name z pz] kt pt] e X.env=pure (some [x,y,z]))
  (hs:swapsWithSole [.Tuple [.Name x px,.Name y py,.Name z pz] kt pt] e pos.line X.env=pure false) :
  PS X (.Assign [.Tuple [.Name x px,.Name y py,.Name z pz] kt pt] e pos) (AE X.K i j k te):=by
 intro pins s σ H D I h
 refine Assign_Tuple_swapped (names:=[x,y,z]) (Fw (he pins s σ H _ I h) fun r s1 ⟨xr,H1,I1,r1,p,v,w,u,ex,hp,q⟩=>?_) hs hw
 subst ex
 cases r1
 obtain⟨its,rv,tp,_⟩:=I1.tuple hp
 obtain⟨u1,u2,u3,ei,a1,a2,a3⟩:∃u1 u2 u3,its=[u1,u2,u3]/\RelV v u1/\RelV w u2/\RelV u u3:=by
  cases rv with
  |cons a1 rv=>
   cases rv with
   |cons a2 rv=>
    cases rv with
    |cons a3 rv=>
     cases rv
     exact⟨_,_,_,rfl,a1,a2,a3⟩
 subst ei
 refine unpackItems_tuple (items:=#[u1,u2,u3]) (I.ok.hd hc) tp fun h' kp=>?_
 have I2:=I1.kept (h':=h') (t':=s1.toks) fun b o eb=>kp b o (Nat.ne_of_lt (Heap.lt_size eb)) eb
 refine assignInOrder_cons (wpAny_bindName (d0 I2 hN hk (.inl hz) a3 (fun s2 I3=>?_) (.inr hz)))
 refine assignInOrder_cons (wpAny_bindName (d0 I3 hN hj (.inl hy) a2 (fun s3 I4=>?_) (.inr hy)))
 exact assignInOrder_cons (wpAny_bindName (d0 I4 hN hi (.inl hx) a1 (fun s4 I5=>assignInOrder_nil ⟨_,H1,I5,q⟩) (.inr hx)))
end
end L2
namespace Zt
open PySem
open Sem (wp)
def Si(kd:Bool)(h:Heap)(a t:Addr)(i:Nat):Prop:=cond kd (h.IsListIter a t i) (h.IsTupleIter a t i)
def Sq(kd:Bool)(h:Heap)(a:Addr)(xs:Vw):Prop:=cond kd (h.IsList a xs) (h.IsTuple a xs)
theorem Si.at{kd:Bool}{h h':Heap}{a t:Addr}{i:Nat}(x:Si kd h a t i)(e:∀o,h.get? a=some o->h'.get? a=some o):Si kd h' a t i:=match kd,x with|true,x=>Heap.IsListIter.at x e|false,x=>Heap.IsTupleIter.at x e
theorem Sq.at{kd:Bool}{h h':Heap}{a:Addr}{xs:Vw}(x:Sq kd h a xs)(e:∀o,h.get? a=some o->h'.get? a=some o):Sq kd h' a xs:=match kd,x with|true,x=>Heap.IsList.at x e|false,x=>Heap.IsTuple.at x e
def Sq.lt{kd:Bool}{h:Heap}{a:Addr}{xs:Vw}(x:Sq kd h a xs):a < h.objs.size:=match kd,x with|true,⟨_,e,_⟩=>Heap.lt_size e|false,⟨_,e,_⟩=>Heap.lt_size e
def Si.ob{kd:Bool}{h:Heap}{a t:Addr}{i:Nat}(x:Si kd h a t i):∃o f,h.get? a=some o/\o.data = .fields f:=match kd,x with|true,⟨o,e,_,d⟩=>⟨o,_,e,d⟩|false,⟨o,e,_,d⟩=>⟨o,_,e,d⟩
def Si.extBut{kd:Bool}{h h':Heap}{a c t:Addr}{i:Nat}(x:Si kd h a t i)(e:Heap.ExtBut c h h')(n:a≠c):Si kd h' a t i:=x.at fun _ q=>e _ _ n q
def Sq.extBut{kd:Bool}{h h':Heap}{a c:Addr}{xs:Vw}(x:Sq kd h a xs)(e:Heap.ExtBut c h h')(n:a≠c):Sq kd h' a xs:=x.at fun _ q=>e _ _ n q
section
variable {prog:Program} {w:World} {A:Around} {E:Vq} {s:Shared}
def nx{j t:Addr}{i:Nat}{its:Vw}{x:Value}{Q:Vq}(hj:s.heap.IsTupleIter j t i)(ht:s.heap.IsTuple t its)(hx:its[i]?=some x)
  (k:∀g:Heap,g.IsTupleIter j t (i+1)->Heap.SameBut j s.heap g->Q x { s with heap:=g }):wpAny (model prog w) A (Builtin.SmallTypes.nextOf (.ref j)) Q E s:=by
 obtain⟨ob,eb,kb,db⟩:=id hj
 obtain⟨oc,ec,_,nc,dc⟩:=ht
 unfold Builtin.SmallTypes.nextOf
 refine wpAny_bind (wpAny_callSpecial?_slot (name:=Str.ofString "__next__") hj.typeIs F.slot_tuple_iterator_next (wpAny_call_entry F.slot_tuple_iterator_next hj.typeIs F.entry_tuple_iterator_next ?_ (F.args_tuple_iterator_next_1 _)))
 show wpAny _ _ (field (.ref j) 0 >>= _) _ _ s;refine wpAny_bind (wpAny_field eb db (x:=.ref t) rfl ?_)
 show wpAny _ _ (if (Value.ref t == Value.none)=true then _ else _) _ _ s;rw[if_neg (show ¬((Value.ref t == Value.none)=true)from Bool.false_ne_true)]
 show wpAny _ _ (field (.ref j) 1 >>= _) _ _ s;refine wpAny_bind (wpAny_field eb db (x:=.int i 0) rfl ?_)
 show wpAny _ _ (seqItems? (.ref t) >>= _) _ _ s;refine wpAny_bind (wpAny_seqItems ec dc ?_)
 simp only[Int.toNat_natCast,hx];refine wpAny_bind (wpAny_setField eb db (by simp) (wpAny_pure ⟨x,rfl,wpAny_pure (k _ ?_ (Heap.SameBut.update ..))⟩))
 exact⟨_,Heap.get?_update_self _ eb (Obj.isFreed_of_fields (Obj.data_mapFields db _)),(Obj.cls_mapFields ..).trans kb,by rw[Obj.data_mapFields db];simp[rawInt]⟩
def EJ{j t:Addr}{i:Nat}{its:Vw}{Q:Vq}(hh:A.handled=none)(hj:s.heap.IsTupleIter j t i)(ht:s.heap.IsTuple t its)(hx:its[i]?=none)
  (k:∀(g:Heap) (e:Addr),Heap.ExtBut j s.heap g->(∃o,g.get? e=some o/\o.cls = .type "StopIteration")->E (.ref e) { s with heap:=g }):wpAny (model prog w) A (Builtin.SmallTypes.nextOf (.ref j)) Q E s:=by
 obtain⟨ob,eb,kb,db⟩:=id hj
 obtain⟨oc,ec,_,nc,dc⟩:=ht
 unfold Builtin.SmallTypes.nextOf
 refine wpAny_bind (wpAny_callSpecial?_slot (name:=Str.ofString "__next__") hj.typeIs F.slot_tuple_iterator_next (wpAny_call_entry F.slot_tuple_iterator_next hj.typeIs F.entry_tuple_iterator_next ?_ (F.args_tuple_iterator_next_1 _)))
 show wpAny _ _ (field (.ref j) 0 >>= _) _ _ s;refine wpAny_bind (wpAny_field eb db (x:=.ref t) rfl ?_)
 show wpAny _ _ (if (Value.ref t == Value.none)=true then _ else _) _ _ s;rw[if_neg (show ¬((Value.ref t == Value.none)=true)from Bool.false_ne_true)]
 show wpAny _ _ (field (.ref j) 1 >>= _) _ _ s;refine wpAny_bind (wpAny_field eb db (x:=.int i 0) rfl ?_)
 show wpAny _ _ (seqItems? (.ref t) >>= _) _ _ s;refine wpAny_bind (wpAny_seqItems ec dc ?_)
 simp only[Int.toNat_natCast,hx];refine wpAny_bind (wpAny_rule (wpAny_bind (wpAny_setField eb db (by simp) ?_)))
 show wpAny _ _ (newExc (.type "StopIteration") [] >>= _) _ _ _;refine wpAny_bind ?_
 simp only[newExc,newTuple];refine wpAny_bind (wpAny_newObj_type ?_ (by size_fits))
 refine wpAny_bind (m:=firstArgMember _ _) (wpAny_of_eq (a:=Value.none) (by first|rfl|(simp only[firstArgMember];rfl)) ?_);refine wpAny_newObj_type ?_ (by size_fits)
 simp only[raiseNew];refine wpAny_bind (wpAny_handled ?_)
 first|(rw[hh])|(rw[show A.in1.handled=none from hh])
 exact wpAny_bind (wpAny_pure (wpAny_throw (k _ _ (((Heap.SameBut.update ..).extBut.push _).push _) ⟨_,Heap.get?_push_size _ rfl,rfl⟩)))
def BG{kd:Bool}{j t:Addr}{i:Nat}{its:Vw}{x:Value}{Q:Vq}(hj:Si kd s.heap j t i)(ht:Sq kd s.heap t its)(hx:its[i]?=some x)
  (k:∀g:Heap,Si kd g j t (i+1)->Heap.SameBut j s.heap g->Q x { s with heap:=g }):wpAny (model prog w) A (Builtin.SmallTypes.nextOf (.ref j)) Q E s:=by
 cases kd with
 |true=>exact wpAny_nextOf_list_item hj ht hx k
 |false=>exact nx hj ht hx k
def AF{kd:Bool}{j t:Addr}{i:Nat}{its:Vw}{Q:Vq}(hh:A.handled=none)(hj:Si kd s.heap j t i)(ht:Sq kd s.heap t its)(hx:its[i]?=none)
  (k:∀(g:Heap) (e:Addr),Heap.ExtBut j s.heap g->(∃o,g.get? e=some o/\o.cls = .type "StopIteration")->E (.ref e) { s with heap:=g }):wpAny (model prog w) A (Builtin.SmallTypes.nextOf (.ref j)) Q E s:=by
 cases kd with
 |true=>exact wpAny_nextOf_list_end hh hj ht hx k
 |false=>exact EJ hh hj ht hx k
variable {ka kb:Bool} {z TI TO i1 i2 l1 l2:Addr} {k1 k2:Nat} {xs ys:Vw} {x y a b:Value}
def nS{Q:Vq}(D:ZipApart z TI TO i1 i2 l1 l2)(gz:IsZip s.heap z TI TO .none)(gI:IsPair s.heap TI (.ref i1) (.ref i2))(gO:IsPair s.heap TO a b)
  (g1:Si ka s.heap i1 l1 k1) (g2:Si kb s.heap i2 l2 k2) (t1:Sq ka s.heap l1 xs) (t2:Sq kb s.heap l2 ys) (hx:xs[k1]?=some x) (hy:ys[k2]?=some y)
  (k:∀g,IsZip g z TI TO (rawInt s.heap.objs.size)->IsPair g TO x y->Si ka g i1 l1 (k1+1)->Si kb g i2 l2 (k2+1)->IsPair g s.heap.objs.size x y->
   (∀c o,c≠z->c≠TO->c≠i1->c≠i2->s.heap.get? c=some o->g.get? c=some o)->Q (.ref s.heap.objs.size) { s with heap:=g }) :
  wpAny (model prog w) A (Builtin.«zip.__next__» ⟨[.ref z],[]⟩) (fun fin s'=>∃v,fin = .done (.ret v)/\Q v s') E s:=by
 show wpAny _ _ (field (.ref z) 2 >>= _) _ _ _;refine wpAny_bind (wpAny_field gz rfl (x:=.bool false) rfl ?_)
 show wpAny _ _ (field (.ref z) 3 >>= _) _ _ _;refine wpAny_bind (wpAny_field gz rfl (x:=.ref TI) rfl (wpAny_bind (wpAny_seqItems gI rfl ?_)))
 show wpAny _ _ (Builtin.SmallTypes.ownedTupleIsFree (.ref z) >>= _) _ _ _;refine wpAny_bind ?_;unfold Builtin.SmallTypes.ownedTupleIsFree
 refine wpAny_bind (wpAny_field gz rfl (x:=.none) rfl (wpAny_pure ?_));simp only[if_true]
 refine wpAny_bind (wpAny_rule (wpAny_bind (wpAny_field gz rfl (x:=.ref TO) rfl (wpAny_bind (wpAny_setField_rec gz (by simp) fun h₁ z1 q1=>?_)))))
 replace z1:IsZip h₁ z TI TO .ellipsis:=z1
 refine wpAny_bind ?_;simp only[List.zipIdx_cons,List.zipIdx_nil,List.forIn_cons,List.forIn_nil]
 refine wpAny_bind (wpAny_bind (wpAny_onRaise ?_));show wpAny _ _ (Builtin.SmallTypes.nextOf (.ref i1) >>= _) _ _ _
 refine wpAny_bind (BG (g1.extBut q1.extBut D.i1z) (t1.extBut q1.extBut D.l1z) hx fun h₂ n1 q2=>wpAny_pure ?_)
 have o2:IsPair h₂ TO a b:=q2.extBut _ _ D.TOi1 (q1.extBut _ _ D.TOz gO)
 refine wpAny_bind (wpAny_seqItems o2 rfl (wpAny_bind (wpAny_updateSeq_pair o2 fun h₃ o3 q3=>?_)))
 replace o3:IsPair h₃ TO x b:=o3
 refine wpAny_bind (wpAny_letGo (wpAny_pure ?_));refine wpAny_bind (wpAny_bind (wpAny_onRaise ?_));show wpAny _ _ (Builtin.SmallTypes.nextOf (.ref i2) >>= _) _ _ _
 refine wpAny_bind (BG (((g2.extBut q1.extBut D.i2z).extBut q2.extBut D.i12.symm).extBut q3.extBut D.TOi2.symm) (((t2.extBut q1.extBut D.l2z).extBut q2.extBut D.l2i1).extBut q3.extBut D.l2TO) hy fun h₄ n2 q4=>wpAny_pure ?_)
 have o4:IsPair h₄ TO x b:=q4.extBut _ _ D.TOi2 o3
 refine wpAny_bind (wpAny_seqItems o4 rfl (wpAny_bind (wpAny_updateSeq_pair o4 fun h₅ o5 q5=>?_)))
 replace o5:IsPair h₅ TO x y:=o5
 refine wpAny_bind (wpAny_letGo (wpAny_pure (wpAny_pure ?_)));refine wpAny_bind (wpAny_seqItems o5 rfl (wpAny_bind (wpAny_newTuple ?_)))
 have sz:h₅.objs.size=s.heap.objs.size:=by rw[q5.1,q4.1,q3.1,q2.1,q1.1]
 have z5:IsZip h₅ z TI TO .ellipsis:=q5.extBut _ _ D.TOz.symm (q4.extBut _ _ D.i2z.symm (q3.extBut _ _ D.TOz.symm (q2.extBut _ _ D.i1z.symm z1)))
 have kk:∀c o,c≠z->c≠TO->c≠i1->c≠i2->s.heap.get? c=some o->h₅.get? c=some o:=fun c o c1 c2 c3 c4 e=>q5.extBut _ _ c2 (q4.extBut _ _ c4 (q3.extBut _ _ c2 (q2.extBut _ _ c3 (q1.extBut _ _ c1 e))))
 have m1:Si ka h₅ i1 l1 (k1+1):=((n1.extBut q3.extBut D.TOi1.symm).extBut q4.extBut D.i12).extBut q5.extBut D.TOi1.symm
 have m2:Si kb h₅ i2 l2 (k2+1):=n2.extBut q5.extBut D.TOi2.symm
 have zl:z < h₅.objs.size:=Heap.lt_size z5
 show wpAny _ _ (Builtin.SmallTypes.ownedTupleHandOut (.ref z) (.ref h₅.objs.size) >>= _) _ _ _;refine wpAny_bind ?_;unfold Builtin.SmallTypes.ownedTupleHandOut
 have z6:IsZip (h₅.push { cls:=.type "tuple",data:=.seq #[x,y] }) z TI TO .ellipsis:=Heap.get?_push_of_some _ z5
 refine wpAny_bind (wpAny_setField_rec z6 (by simp) fun h₇ z7 q7=>?_)
 replace z7:IsZip h₇ z TI TO (rawInt h₅.objs.size):=z7
 refine wpAny_setField_rec z7 (by simp) fun h₈ z8 q8=>?_
 replace z8:IsZip h₈ z TI TO (rawInt h₅.objs.size):=z8
 have up:∀c o,c≠z->h₅.get? c=some o->h₈.get? c=some o:=fun c o c1 e=>q8.extBut _ _ c1 (q7.extBut _ _ c1 (Heap.get?_push_of_some _ e))
 have T8:IsPair h₈ h₅.objs.size x y:=q8.extBut _ _ (Nat.ne_of_gt zl) (q7.extBut _ _ (Nat.ne_of_gt zl) (Heap.get?_push_size _ rfl))
 rw[sz]at z8 T8
 refine wpAny_pure ⟨_,rfl,?_⟩
 show Q (.ref h₅.objs.size) _
 rw[sz]
 exact k h₈ z8 (up _ _ D.TOz o5) (m1.at fun o e=>up _ o D.i1z e) (m2.at fun o e=>up _ o D.i2z e) T8 fun c o c1 c2 c3 c4 e=>up c o c1 (kk c o c1 c2 c3 c4 e)
def qZ{Q:Fin->Shared->Prop}(hh:A.handled=none)(D:ZipApart z TI TO i1 i2 l1 l2)(gz:IsZip s.heap z TI TO .none)(gI:IsPair s.heap TI (.ref i1) (.ref i2))(gO:IsPair s.heap TO a b)
  (g1:Si ka s.heap i1 l1 k1) (g2:Si kb s.heap i2 l2 k2) (t1:Sq ka s.heap l1 xs) (t2:Sq kb s.heap l2 ys) (he:xs[k1]?=none\/ys[k2]?=none)
  (k:∀(g:Heap) (e:Addr),(∀c o,c≠z->c≠TO->c≠i1->c≠i2->s.heap.get? c=some o->g.get? c=some o)->(∃o,g.get? e=some o/\o.cls = .type "StopIteration")->E (.ref e) { s with heap:=g }) :
  wpAny (model prog w) A (Builtin.«zip.__next__» ⟨[.ref z],[]⟩) Q E s:=by
 show wpAny _ _ (field (.ref z) 2 >>= _) _ _ _;refine wpAny_bind (wpAny_field gz rfl (x:=.bool false) rfl ?_)
 show wpAny _ _ (field (.ref z) 3 >>= _) _ _ _;refine wpAny_bind (wpAny_field gz rfl (x:=.ref TI) rfl (wpAny_bind (wpAny_seqItems gI rfl ?_)))
 show wpAny _ _ (Builtin.SmallTypes.ownedTupleIsFree (.ref z) >>= _) _ _ _;refine wpAny_bind ?_;unfold Builtin.SmallTypes.ownedTupleIsFree
 refine wpAny_bind (wpAny_field gz rfl (x:=.none) rfl (wpAny_pure ?_));simp only[if_true]
 refine wpAny_bind (wpAny_rule (wpAny_bind (wpAny_field gz rfl (x:=.ref TO) rfl (wpAny_bind (wpAny_setField_rec gz (by simp) fun h₁ z1 q1=>?_)))))
 replace z1:IsZip h₁ z TI TO .ellipsis:=z1
 refine wpAny_bind ?_;simp only[List.zipIdx_cons,List.zipIdx_nil,List.forIn_cons,List.forIn_nil]
 refine wpAny_bind (wpAny_bind (wpAny_onRaise ?_));show wpAny _ _ (Builtin.SmallTypes.nextOf (.ref i1) >>= _) _ _ _
 cases hx:xs[k1]? with
 |none=>
  refine wpAny_bind (AF hh (g1.extBut q1.extBut D.i1z) (t1.extBut q1.extBut D.l1z) hx fun h₂ e q2 ⟨oe,ge,ce⟩=>?_)
  have z2:IsZip h₂ z TI TO .ellipsis:=q2 _ _ D.i1z.symm z1
  have ez:e≠z:=fun u=>by subst u;rw[z2]at ge;cases ge;simp at ce
  exact wpAny_setField_rec z2 (by simp) fun h₃ _ q3=>k h₃ e (fun c o c1 _ c3 _ u=>q3.extBut _ _ c1 (q2 _ _ c3 (q1.extBut _ _ c1 u))) ⟨oe,q3.extBut _ _ ez ge,ce⟩
 |some x=>
  have hy:ys[k2]?=none:=he.elim (fun q=>by rw[hx]at q;cases q) id
  refine wpAny_bind (BG (g1.extBut q1.extBut D.i1z) (t1.extBut q1.extBut D.l1z) hx fun h₂ n1 q2=>wpAny_pure ?_)
  have o2:IsPair h₂ TO a b:=q2.extBut _ _ D.TOi1 (q1.extBut _ _ D.TOz gO)
  refine wpAny_bind (wpAny_seqItems o2 rfl (wpAny_bind (wpAny_updateSeq_pair o2 fun h₃ o3 q3=>?_)))
  refine wpAny_bind (wpAny_letGo (wpAny_pure ?_));refine wpAny_bind (wpAny_bind (wpAny_onRaise ?_));show wpAny _ _ (Builtin.SmallTypes.nextOf (.ref i2) >>= _) _ _ _
  refine wpAny_bind (AF hh (((g2.extBut q1.extBut D.i2z).extBut q2.extBut D.i12.symm).extBut q3.extBut D.TOi2.symm) (((t2.extBut q1.extBut D.l2z).extBut q2.extBut D.l2i1).extBut q3.extBut D.l2TO) hy fun h₄ e q4 ⟨oe,ge,ce⟩=>?_)
  have z4:IsZip h₄ z TI TO .ellipsis:=q4 _ _ D.i2z.symm (q3.extBut _ _ D.TOz.symm (q2.extBut _ _ D.i1z.symm z1))
  have ez:e≠z:=fun u=>by subst u;rw[z4]at ge;cases ge;simp at ce
  exact wpAny_setField_rec z4 (by simp) fun h₅ _ q5=>k h₅ e (fun c o c1 c2 c3 c4 u=>q5.extBut _ _ c1 (q4 _ _ c4 (q3.extBut _ _ c2 (q2.extBut _ _ c3 (q1.extBut _ _ c1 u))))) ⟨oe,q5.extBut _ _ ez ge,ce⟩
def jR{Q:Option Value->Shared->Prop}(D:ZipApart z TI TO i1 i2 l1 l2)(gz:IsZip s.heap z TI TO .none)(gI:IsPair s.heap TI (.ref i1) (.ref i2))(gO:IsPair s.heap TO a b)
  (g1:Si ka s.heap i1 l1 k1) (g2:Si kb s.heap i2 l2 k2) (t1:Sq ka s.heap l1 xs) (t2:Sq kb s.heap l2 ys) (hx:xs[k1]?=some x) (hy:ys[k2]?=some y)
  (k:∀g,IsZip g z TI TO (rawInt s.heap.objs.size)->IsPair g TO x y->Si ka g i1 l1 (k1+1)->Si kb g i2 l2 (k2+1)->IsPair g s.heap.objs.size x y->
   (∀c o,c≠z->c≠TO->c≠i1->c≠i2->s.heap.get? c=some o->g.get? c=some o)->Q (some (.ref s.heap.objs.size)) { s with heap:=g }):wpAny (model prog w) A (pyNext (.ref z)) Q E s:=by
 have ty:s.TypeIs (.ref z) "zip":=⟨_,gz,rfl⟩
 unfold pyNext
 exact wpAny_bind (wpAny_attempt (wpAny_callSpecial?_slot (name:=Str.ofString "__next__") ty F.slot_zip_next (wpAny_call_entry F.slot_zip_next ty F.entry_zip_next
  (nS D gz gI gO g1 g2 t1 t2 hx hy fun g a1 a2 a3 a4 a5 a6=>wpAny_pure (k g a1 a2 a3 a4 a5 a6)) (F.args_zip_next_1 _))))
def ls{Q:Option Value->Shared->Prop}(hh:A.handled=none)(D:ZipApart z TI TO i1 i2 l1 l2)(gz:IsZip s.heap z TI TO .none)(gI:IsPair s.heap TI (.ref i1) (.ref i2))(gO:IsPair s.heap TO a b)
  (g1:Si ka s.heap i1 l1 k1) (g2:Si kb s.heap i2 l2 k2) (t1:Sq ka s.heap l1 xs) (t2:Sq kb s.heap l2 ys) (he:xs[k1]?=none\/ys[k2]?=none)
  (k:∀g:Heap,(∀c o,c≠z->c≠TO->c≠i1->c≠i2->s.heap.get? c=some o->g.get? c=some o)->Q none { s with heap:=g }):wpAny (model prog w) A (pyNext (.ref z)) Q E s:=by
 have ty:s.TypeIs (.ref z) "zip":=⟨_,gz,rfl⟩
 unfold pyNext
 refine wpAny_bind (wpAny_attempt (wpAny_callSpecial?_slot (name:=Str.ofString "__next__") ty F.slot_zip_next (wpAny_call_entry F.slot_zip_next ty F.entry_zip_next (qZ hh D gz gI gO g1 g2 t1 t2 he fun g e kk ⟨o,ho,hc⟩=>?_) (F.args_zip_next_1 _))))
 exact wpAny_bind (wpAny_isInstance (T:="StopIteration") (b:=true) ⟨o,ho,hc⟩ isSubtype_stop (wpAny_pure (k _ kk)))
end
noncomputable abbrev it(kd:Bool)(l:Addr):Obj:={ cls:=.type (cond kd "list_iterator" "tuple_iterator"),data:=.fields #[.ref l,.int 0 0] }
def Si.mk{kd:Bool}{h:Heap}{a l:Addr}(e:h.get? a=some (it kd l)):Si kd h a l 0:=match kd,e with|true,e=>⟨_,e,rfl,rfl⟩|false,e=>⟨_,e,rfl,rfl⟩
noncomputable abbrev H1(ka:Bool)(h:Heap)(l1:Addr):Heap:=h.push (it ka l1)
noncomputable abbrev H2(ka kb:Bool)(h:Heap)(l1 l2:Addr):Heap:=(H1 ka h l1).push (it kb l2)
noncomputable abbrev H3(ka kb:Bool)(h:Heap)(l1 l2:Addr):Heap:=(H2 ka kb h l1 l2).push { cls:=.type "tuple",data:=.seq #[.ref h.objs.size,.ref (H1 ka h l1).objs.size] }
noncomputable abbrev H4(ka kb:Bool)(h:Heap)(l1 l2:Addr):Heap:=(H3 ka kb h l1 l2).push { cls:=.type "tuple",data:=.seq #[.none,.none] }
noncomputable abbrev H5(ka kb:Bool)(h:Heap)(l1 l2:Addr):Heap:=(H4 ka kb h l1 l2).push { cls:=.type "zip",data:=.fields #[.none,.bool false,.bool false,.ref (H2 ka kb h l1 l2).objs.size,.ref (H3 ka kb h l1 l2).objs.size] }
def fg(ka kb:Bool)(l1 l2:Addr)(xs ys:Vw) :
  Meets (Builtin.«zip.__new__» ⟨[.type "zip",.ref l1,.ref l2],[]⟩) (fun _ R s=>Sq ka s.heap l1 xs/\Sq kb s.heap l2 ys/\R (.ok (.ret (.ref (H4 ka kb s.heap l1 l2).objs.size))) { s with heap:=H5 ka kb s.heap l1 l2 }):=
 .of_wp fun prog w A R s h=>by
  obtain⟨hp,g,d,tk,os⟩:=s;obtain⟨e1,e2,h⟩:=h
  have hsub:=sub_zip
  match ka,kb,e1,e2,h with
  |false,false,e1,e2,h=>
   have L1:Heap.IsTuple (Shared.heap ⟨hp,g,d,tk,os⟩) l1 xs:=e1
   have L2:Heap.IsTuple (Shared.heap ⟨hp.push { cls:=.type "tuple_iterator",data:=.fields #[.ref l1,.int 0 0] },g,d,tk,os⟩) l2 ys:=Heap.IsTuple.push e2 _
   wp_walk using wpAny_pyIter_tuple L1,wpAny_pyIter_tuple L2
   exact⟨_,rfl,h⟩
  |false,true,e1,e2,h=>
   have L1:Heap.IsTuple (Shared.heap ⟨hp,g,d,tk,os⟩) l1 xs:=e1
   have L2:Heap.IsList (Shared.heap ⟨hp.push { cls:=.type "tuple_iterator",data:=.fields #[.ref l1,.int 0 0] },g,d,tk,os⟩) l2 ys:=Heap.IsList.push e2 _
   wp_walk using wpAny_pyIter_tuple L1,wpAny_pyIter_list L2
   exact⟨_,rfl,h⟩
  |true,false,e1,e2,h=>
   have L1:Heap.IsList (Shared.heap ⟨hp,g,d,tk,os⟩) l1 xs:=e1
   have L2:Heap.IsTuple (Shared.heap ⟨hp.push { cls:=.type "list_iterator",data:=.fields #[.ref l1,.int 0 0] },g,d,tk,os⟩) l2 ys:=Heap.IsTuple.push e2 _
   wp_walk using wpAny_pyIter_list L1,wpAny_pyIter_tuple L2
   exact⟨_,rfl,h⟩
  |true,true,e1,e2,h=>
   have L1:Heap.IsList (Shared.heap ⟨hp,g,d,tk,os⟩) l1 xs:=e1
   have L2:Heap.IsList (Shared.heap ⟨hp.push { cls:=.type "list_iterator",data:=.fields #[.ref l1,.int 0 0] },g,d,tk,os⟩) l2 ys:=Heap.IsList.push e2 _
   wp_walk using wpAny_pyIter_list L1,wpAny_pyIter_list L2
   exact⟨_,rfl,h⟩
section
variable {ka kb:Bool} {prog:Program} {w:World} {A:Around} {E:Vq} {s:Shared}
def gy{l1 l2:Addr}{xs ys:Vw}{Q:Vq}(e1:Sq ka s.heap l1 xs)(e2:Sq kb s.heap l2 ys)
  (k:∀g,IsZip g (s.heap.objs.size+4) (s.heap.objs.size+2) (s.heap.objs.size+3) .none->IsPair g (s.heap.objs.size+2) (.ref s.heap.objs.size) (.ref (s.heap.objs.size+1))->
   IsPair g (s.heap.objs.size+3) .none .none->Si ka g s.heap.objs.size l1 0->Si kb g (s.heap.objs.size+1) l2 0->
   (∀c o,s.heap.get? c=some o->g.get? c=some o)->Q (.ref (s.heap.objs.size+4)) { s with heap:=g }) :
  wpAny (model prog w) A (call (.type "zip") [.ref l1,.ref l2]) Q E s:=by
 refine callType_new F.called_zip (by decide) (F.typeCall_zip_2 _ _) (F.newCall_zip_2 _ _) (fun obj=>F.args_object_init_3 obj _ _) F.entry_zip_new (fg ka kb l1 l2 xs ys) ⟨e1,e2,?_⟩
 have z1:(H1 ka s.heap l1).objs.size=s.heap.objs.size+1:=Heap.size_push ..
 have z2:(H2 ka kb s.heap l1 l2).objs.size=s.heap.objs.size+2:=by rw[Heap.size_push,z1]
 have z3:(H3 ka kb s.heap l1 l2).objs.size=s.heap.objs.size+3:=by rw[Heap.size_push,z2]
 have z4:(H4 ka kb s.heap l1 l2).objs.size=s.heap.objs.size+4:=by rw[Heap.size_push,z3]
 have g5:(H5 ka kb s.heap l1 l2).get? (H4 ka kb s.heap l1 l2).objs.size=some _:=Heap.get?_push_size _ rfl
 have g4:(H5 ka kb s.heap l1 l2).get? (H3 ka kb s.heap l1 l2).objs.size=some _:=Heap.get?_push_of_some _ (Heap.get?_push_size _ rfl)
 have g3:(H5 ka kb s.heap l1 l2).get? (H2 ka kb s.heap l1 l2).objs.size=some _:=Heap.get?_push_of_some _ (Heap.get?_push_of_some _ (Heap.get?_push_size _ rfl))
 have g2:(H5 ka kb s.heap l1 l2).get? (H1 ka s.heap l1).objs.size=some _:=Heap.get?_push_of_some _ (Heap.get?_push_of_some _ (Heap.get?_push_of_some _ (Heap.get?_push_size _ rfl)))
 have g1:(H5 ka kb s.heap l1 l2).get? s.heap.objs.size=some _:=Heap.get?_push_of_some _ (Heap.get?_push_of_some _ (Heap.get?_push_of_some _ (Heap.get?_push_of_some _ (Heap.get?_push_size _ rfl))))
 show _/\_
 rw[z2,z3,z4]at g5
 rw[z1,z2]at g3
 rw[z3]at g4
 rw[z1]at g2
 rw[z4]
 exact⟨⟨_,g5,rfl⟩,k _ g5 g3 g4 (.mk g1) (.mk g2) fun c o e=>Heap.get?_push_of_some _ (Heap.get?_push_of_some _ (Heap.get?_push_of_some _ (Heap.get?_push_of_some _ (Heap.get?_push_of_some _ e))))⟩
end
end Zt
namespace L2
open PySem PySem.Spec PyProof.Rows
section
variable {X:Cx} {pins:Va} {σ:St} {H:Hp} {s:Shared} {h':Heap}
def Inv.GM{t':Nat}{fp:List Addr}(I:Inv X pins σ H s)(k:∀b o,b ∉ fp->s.heap.get? b=some o->h'.get? b=some o)(hf:∀b∈fp,fB X pins H b):Inv X pins σ H { s with heap:=h',toks:=t' }:=by
 have LN:∀b u,H b=some u->b ∉ fp:=fun b u e z=>by rw[(hf b z).1]at e;cases e
 refine I.step (g':=s.gens) (d':=s.drawn) (ch:=fp) (fun b hb=>?_) (fun b o _ _ hc e _=>k b o hc e) (fun b o _ _ hc e _=>⟨o.slots,k b o hc e⟩) (fun _ _ _ _ n=>n)
  (fun b o hc e=>⟨o,k b o hc e⟩) (fun _ _ e=>e) (fun _ _ _ e=>e) (fun b ps e=>⟨#[],by rw[e];simp⟩) (fun m hm=>?_) (fun b u e=>?_) I.bare
 ·obtain⟨f0,f1,f2,f3,f4,f5⟩:=hf b hb
  exact⟨f3,f1,f4,f5⟩
 ·obtain⟨o,es,ep,ho,r⟩:=hm
  exact⟨o,es,ep,k _ o (fun z=>(hf _ z).2.1 rfl) ho,r⟩
 ·refine(I.hok b u e).stay (fun c v hc q=>k c v ?_ q) (fun _ q=>q) fun _ _ q=>q
  rcases hc with z|z
  ·rw[z];exact LN b u e
  ·exact LN c _ z
def Inv.IV{D:Addr}{us:Vv}{ys:List V}(I:Inv X pins σ H s)(f:fB X pins H D)(e:F7 s.heap D us.toArray)(r:Vals ys us)(hz:ys.length<=sizeLine) :
  Inv X pins σ (upd H D (.tup ys)) s:=by
 obtain⟨f0,f1,f2,f3,f4,f5⟩:=f
 have nD:∀b u,H b=some u->b≠D:=fun b u q=>bm q f0
 have hok:Hv X.prog X.w (upd H D (.tup ys)) s.heap:=fun b u q=>by
  by_cases hb:b=D
  ·subst hb
   rw[aG]at q
   cases q
   exact⟨hz,us,r,e⟩
  ·rw[aH hb]at q
   exact(I.hok b u q).stay (fun _ _ _ z=>z) (fun c z=>by rw[aH (nD c _ z)];exact z) fun c xs z=>by rw[aH (nD c _ z)];exact z
 exact I.step (H':=upd H D (.tup ys)) (h':=s.heap) (g':=s.gens) (t':=s.toks) (d':=s.drawn) (ch:=[D])
  (fun b hb=>by
   have z:b=D:=by simpa using hb
   subst z
   exact⟨f3,f1,f4,f5⟩)
  (fun _ _ _ _ _ q _=>q) (fun _ o _ _ _ q _=>⟨o.slots,q⟩)
  (fun b o hb _ n=>by rw[aH (fun z=>hb (by simp[z]))];exact n)
  (fun _ o _ q=>⟨o,q⟩) (fun b xs q=>by rw[aH (nD b _ q)];exact q) (fun b o u q=>by rw[aH (nD b _ q)];exact q)
  (fun b ps q=>⟨#[],by rw[aH (nD b _ q),q];simp⟩) (fun _ q=>q) hok I.bare
end
def lv(kd:Bool)(K:Vo)(H:Hp)(a:Addr)(xs:List V):Prop:=cond kd (SqL K H a xs) (SqT K H a xs)
def Inv.H_{X:Cx}{pins:Va}{σ:St}{H:Hp}{s:Shared}{kd:Bool}{a:Addr}{xs:List V}(I:Inv X pins σ H s)(h:lv kd X.K H a xs):∃its:List Value,Vals xs its/\Zt.Sq kd s.heap a its.toArray:=by
 cases kd with
 |true=>obtain⟨i,r,p,z⟩:=I.list h;exact⟨i,r,p.isList⟩
 |false=>obtain⟨i,r,p,z⟩:=I.tuple h;exact⟨i,r,p⟩
def Inv.Hh{X:Cx}{pins:Va}{σ:St}{H:Hp}{s:Shared}{kd:Bool}{a:Addr}{xs ys:List V}(I:Inv X pins σ H s)(h:lv kd X.K H a xs)(g:lv kd X.K H a ys):xs=ys:=by
 cases kd with
 |true=>exact I.IB h g
 |false=>exact I.HZ h g
noncomputable def Ec(ka kb:Bool)(K:Vo)(a b:Addr):It:=
  ⟨fun i H=>∃xs ys x y,lv ka K H a xs/\lv kb K H b ys/\xs[i]?=some x/\ys[i]?=some y,
   fun i H v H'=>∃p x y,v = .ref p/\H p=none/\H'=upd H p (.tup [x,y])/\∀xs ys,lv ka K H a xs->lv kb K H b ys->xs[i]?=some x/\ys[i]?=some y,
   fun i H=>∃xs ys,lv ka K H a xs/\lv kb K H b ys/\(xs.length<=i\/ys.length<=i)⟩
def u9{ka kb:Bool}{P:Program}{w:World}{K:Vo}{elts:List Expr}{k0:Nat}{GO:Pos}{z TI TO i1 i2 a b:Addr}(D:ZipApart z TI TO i1 i2 a b) :
  ml P w K (.Tuple elts k0 GO) (Ec ka kb K a b) [z,TI,TO,i1,i2] z (fun i h=>IsZip h z TI TO .none/\IsPair h TI (.ref i1) (.ref i2)/\(∃x y,IsPair h TO x y)/\Zt.Si ka h i1 a i/\Zt.Si kb h i2 b i) where
 mem:=by simp
 obj:=fun i h st c hc=>by
  obtain⟨gz,gI,⟨x,y,gO⟩,g1,g2⟩:=st
  obtain⟨o1,_,e1,d1⟩:=g1.ob;obtain⟨o2,_,e2,d2⟩:=g2.ob
  simp only[List.mem_cons,List.not_mem_nil,or_false]at hc
  rcases hc with rfl|rfl|rfl|rfl|rfl
  ·exact⟨_,gz,fun v q=>by cases q⟩
  ·exact⟨_,gI,fun v q=>by cases q⟩
  ·exact⟨_,gO,fun v q=>by cases q⟩
  ·exact⟨_,e1,fun v q=>by rw[d1]at q;cases q⟩
  ·exact⟨_,e2,fun v q=>by rw[d2]at q;cases q⟩
 keep:=fun i h h' st k=>by
  obtain⟨gz,gI,⟨x,y,gO⟩,g1,g2⟩:=st
  exact⟨k z (by simp) _ gz,k TI (by simp) _ gI,⟨x,y,k TO (by simp) _ gO⟩,g1.at fun o e=>k i1 (by simp) o e,g2.at fun o e=>k i2 (by simp) o e⟩
 item:=by
  intro X hP hw hK hc i pins s σ H E I hf st hg
  subst hP hw hK
  obtain⟨gz,gI,⟨ta,tb,gO⟩,g1,g2⟩:=st
  obtain⟨xs,ys,x,y,IW,Lk,hx,hy⟩:=hg
  obtain⟨ia,ra,pa⟩:=I.H_ IW
  obtain⟨ib,rb,pb⟩:=I.H_ Lk
  obtain⟨u,hu,ru⟩:=ra.get hx
  obtain⟨v,hv,rv⟩:=rb.get hy
  refine Zt.jR D gz gI gO g1 g2 pa pb (x:=u) (y:=v) (by simpa using hu) (by simpa using hv) fun g a1 a2 a3 a4 a5 a6=>?_
  refine⟨_,rfl,wpAny_letOwnedTupleGo_zip (s:={ s with heap:=g }) a1 fun g' z' q'=>?_⟩
  have kk:∀c o,c ∉ [z,TI,TO,i1,i2]->s.heap.get? c=some o->g'.get? c=some o:=fun c o hc e=>by
   simp only[List.mem_cons,List.not_mem_nil,or_false,not_or]at hc
   exact q'.extBut _ _ hc.1 (a6 c o hc.1 hc.2.2.1 hc.2.2.2.1 hc.2.2.2.2 e)
  have I1:Inv X pins σ H { s with heap:=g' }:=I.GM (t':=s.toks) kk hf
  have f0:fB X pins H s.heap.objs.size:=I.HR (Nat.le_refl _) (I.hok.fresh (Nat.le_refl _))
  have eT:F7 g' s.heap.objs.size [u,v].toArray:=⟨_,q'.extBut _ _ (Nat.ne_of_gt (Heap.lt_size gz)) a5,rfl,rfl,_,rfl⟩
  have I2:=I1.IV f0 eT (.cons ru (.cons rv .nil)) (by show 2<=sizeLine;decide)
  refine⟨.ref s.heap.objs.size,_,I2,rfl,⟨s.heap.objs.size,x,y,rfl,f0.1,rfl,fun xs' ys' h1 h2=>by rw[I.Hh h1 IW,I.Hh h2 Lk];exact⟨hx,hy⟩⟩,
   ⟨z',q'.extBut _ _ D.TIz (a6 TI _ D.TIz D.TITO D.TIi1 D.TIi2 gI),⟨_,_,q'.extBut _ _ D.TOz a2⟩,a3.extBut q'.extBut D.i1z,a4.extBut q'.extBut D.i2z⟩,fun c hc=>?_⟩
  have hlt:c < s.heap.objs.size:=by
   obtain⟨_,_,e1,_⟩:=g1.ob
   obtain⟨_,_,e2,_⟩:=g2.ob
   simp only[List.mem_cons,List.not_mem_nil,or_false]at hc
   rcases hc with rfl|rfl|rfl|rfl|rfl
   ·exact Heap.lt_size gz
   ·exact Heap.lt_size gI
   ·exact Heap.lt_size gO
   ·exact Heap.lt_size e1
   ·exact Heap.lt_size e2
  rw[aH (Nat.ne_of_lt hlt)]
  exact(hf c hc).1
 done:=by
  intro X hP hw hK hc i pins s σ H E I hf st hg
  subst hP hw hK
  obtain⟨gz,gI,⟨ta,tb,gO⟩,g1,g2⟩:=st
  obtain⟨xs,ys,IW,Lk,hl⟩:=hg
  obtain⟨ia,ra,pa⟩:=I.H_ IW
  obtain⟨ib,rb,pb⟩:=I.H_ Lk
  have la:=ra.length
  have lb:=rb.length
  refine Zt.ls (I.ok.hd hc) D gz gI gO g1 g2 pa pb ?_ fun g kk=>⟨rfl,I.GM (t':=s.toks) (fun c o hc e=>?_) hf⟩
  ·rcases hl with q|q
   ·exact .inl (by simp;omega)
   ·exact .inr (by simp;omega)
  ·simp only[List.mem_cons,List.not_mem_nil,or_false,not_or]at hc
   exact kk c o hc.1 hc.2.2.1 hc.2.2.2.1 hc.2.2.2.2 e
 self:=fun _ _ _ _ _ st h=>wpAny_pyIter_zip st.1 h
section
variable {X:Cx}
def Ed(K:Vo)(ta:TA):TI:=fun σ H R=>ta σ H fun vs H1=>∃ka kb a b,vs=[.ref a,.ref b]/\(∃xs,lv ka K H1 a xs)/\(∃ys,lv kb K H1 b ys)/\R (Ec ka kb K a b) H1
def u_{elts:List Expr}{k0:Nat}{GO:Pos}{a b:Expr}{ta:TA}{p pos:Pos}(hg:Gl X "zip")(hm:X.mg "zip" = none)(hv:bootBuiltins "zip" = some (.type "zip"))(ha:PA X [a,b] ta)
  (hs:starEach [a,b] X.env=[(false,eval a X.env),(false,eval b X.env)]:=by rfl) (hs2:starEach [b] X.env=[(false,eval b X.env)]:=by rfl):PI X (.Tuple elts k0 GO) (.Call (.Name "zip" p) [a,b] [] pos) (Ed X.K ta):=by
 intro pins s σ H R I h
 refine Call_ (fA I hg hm hv (PyProof.Rows.callWith_type1 (Fw (ha pos pins s σ H _ I h) fun us s1 ⟨vs,H1,I1,r1,q1⟩=>?_) (by rw[hs,hs2]) (by rw[hs2];rfl)))
 obtain⟨ka,kb,a,b,e,⟨xs,qa⟩,⟨ys,qb⟩,q⟩:=q1
 subst e
 obtain⟨u,v,rfl,ru,rv⟩:=uK r1
 cases ru
 cases rv
 obtain⟨ia,ra,pa⟩:=I1.H_ qa
 obtain⟨ib,rb,pb⟩:=I1.H_ qb
 have la:a < s1.heap.objs.size:=pa.lt
 have lb:b < s1.heap.objs.size:=pb.lt
 refine Zt.gy pa pb fun g gz gI gO g1 g2 kk=>?_
 refine wpAny_pyIter_zip (s:={ s1 with heap:=g }) gz ?_
 refine⟨_,[s1.heap.objs.size+4,s1.heap.objs.size+2,s1.heap.objs.size+3,s1.heap.objs.size,s1.heap.objs.size+1],_,_,H1,rfl,I1.kept (t':=s1.toks) kk,u9 (zipApart_new la lb),⟨gz,gI,⟨_,_,gO⟩,g1,g2⟩,fun c hc=>?_,q⟩
 have hle:s1.heap.objs.size<=c:=by
  simp only[List.mem_cons,List.not_mem_nil,or_false]at hc
  rcases hc with rfl|rfl|rfl|rfl|rfl
  ·exact Nat.le_add_right _ _
  ·exact Nat.le_add_right _ _
  ·exact Nat.le_add_right _ _
  ·exact Nat.le_refl _
  ·exact Nat.le_add_right _ _
 exact I1.HR hle (I1.hok.fresh hle)
def KD(P:Program)(w:World)(K:Vo)(a:Addr)(kvs:List (bE×V)):Prop:=(a == sysModules)=false/\∃o vs,K.lookup a=some o/\KV kvs vs/\Obj.IsDictOf (ba P w) o vs
def Cr(a:Addr)(kvs:List (bE×V))(ty tx:TE):TE:=fun σ H Q=>ty σ H fun y H2=>tx σ H2 fun z H3=>∃k,y=kV k/\Q ((iO kvs k).getD z) H3
def xU{x:Str}{e f:Expr}{px apos cpos:Pos}{ty tx:TE}{a:Addr}{kvs:List (bE×V)}(hu:X.A.units+1 < cLine)(hg:Gl X x)(hm:X.mg x=some (.ref a))(hD:KD X.prog X.w X.K a kvs)(he:PE X e ty)(hf:PE X f tx)(m:M2 X (.Name x px) "get" apos e f cpos)
  (hd:(x == ("__debug__":Str))=false:=by decide):PE X (.Call (.Attribute (.Name x px) "get" apos) [e,f] [] cpos) (Cr a kvs ty tx):=by
 intro pins s σ H Q I h
 obtain⟨hsys,o,vs,hk,rel,ii⟩:=hD
 have dd:∀{s1:Shared} {H1:Hp},Inv X pins σ H1 s1->s1.heap.DictOf (ba X.prog X.w) a vs:=fun I1=>Heap.dictOf_iff.mpr ⟨o,I1.Kf a o hk,ii⟩
 refine wpAny_Call_method m.base m.few m.line PySem.F.plainAttrs_dict PySem.F.slot_dict_get PySem.F.type_dict_get (r_ I hg hm ?_ hd)
 refine⟨(dd I).typeIs,fun b q=>?_,?_⟩
 ·cases q
  obtain⟨ob,_,_,h1,h2,_⟩:=dd I
  exact⟨ob,h1,h2.2.1⟩
 rw[m.trees]
 refine Calls.callWith_builtin rfl (Calls.evalArgs_plain (Calls.spliced_cons (Fw (he pins s σ H _ I h) fun iv s2 ⟨y,H2,I2,ry,q2⟩=>
  Calls.spliced_cons (Fw (hf pins s2 σ H2 _ I2 q2) fun fv s3 ⟨z,H3,I3,rz,k,ey,q3⟩=>Calls.spliced_nil ?_))))
 subst ey
 refine call_meetsIn PySem.F.slot_dict_get (dd I3).typeIs PySem.F.entry_dict_get (PySem.F.args_dict_get_3 _ _ _) (meets_dict_get_default (ba X.prog X.w) a (lp ry) hsys fv) ⟨_,(dd I3).mapOf,⟨_,H3,I3.tok _,?_,q3⟩⟩
 exact(rel.val k).getD rz
end
section
variable {env:Env} {rest:List Expr} {pos:Pos}
def tL{a:Expr}{gs:List Comprehension}{sc:Scope}:starEach (.ListComp a gs sc pos::rest) env=(false,eval (.ListComp a gs sc pos) env)::starEach rest env:=rfl
end
section
variable {X:Cx} {pos:Pos} {es:List Expr} {te:TE} {t:TA}
end
section
variable {X:Cx} {pos:Pos} {e:Expr} {es:List Expr} {te:TE} {t:TA}
end
section
variable {X:Cx} {pos:Pos} {a b e tg iter:Expr} {es:List Expr} {ta tb' te:TE} {t:TA} {st:Stmt} {sts:List Stmt} {u v tb:TS}
end
noncomputable def Ee(K:Vo)(a:Addr):It:=
  ⟨fun i H=>∃xs x,SqL K H a xs/\xs[i]?=some x,
   fun i H v H'=>∃p x,v = .ref p/\H p=none/\H'=upd H p (.tup [.int (i:Nat),x])/\∀xs,SqL K H a xs->xs[i]?=some x,
   fun i H=>∃xs,SqL K H a xs/\xs.length<=i⟩
def tM{P:Program}{w:World}{K:Vo}{elts:List Expr}{k0:Nat}{GO:Pos}{e it a:Addr}(hei:e≠it) :
  ml P w K (.Tuple elts k0 GO) (Ee K a) [e,it] e (fun i h=>(∃old,IsEnum h e it i old)/\h.IsListIter it a i) where
 mem:=by simp
 obj:=fun i h st c hc=>by
  obtain⟨⟨old,ge⟩,⟨o1,e1,_,d1⟩⟩:=st
  simp only[List.mem_cons,List.not_mem_nil,or_false]at hc
  rcases hc with rfl|rfl
  ·exact⟨_,ge,fun v q=>by cases q⟩
  ·exact⟨_,e1,fun v q=>by rw[d1]at q;cases q⟩
 keep:=fun i h h' st k=>by
  obtain⟨⟨old,ge⟩,g1⟩:=st
  exact⟨⟨old,k e (by simp) _ ge⟩,g1.at fun o q=>k it (by simp) o q⟩
 item:=by
  intro X hP hw hK hc i pins s σ H E I hf st hg
  subst hP hw hK
  obtain⟨⟨old,ge⟩,g1⟩:=st
  obtain⟨xs,x,IW,hx⟩:=hg
  obtain⟨ia,ra,pa,za⟩:=I.list IW
  obtain⟨u,hu,ru⟩:=ra.get hx
  refine wpAny_pyNext_enum_item ge g1 pa.isList (x:=u) (by simpa using hu) hei fun g a1 a2 a3 a4 a5=>?_
  refine⟨_,rfl,wpAny_letOwnedTupleGo_enum (s:={ s with heap:=g,toks:=s.toks+1 }) a1 fun g' z' q'=>?_⟩
  have kk:∀c o,c ∉ [e,it]->s.heap.get? c=some o->g'.get? c=some o:=fun c o hc q=>by
   simp only[List.mem_cons,List.not_mem_nil,or_false,not_or]at hc
   exact(q'.2 c hc.1).trans (a5 c o hc.1 hc.2 q)
  have I1:Inv X pins σ H { s with heap:=g',toks:=s.toks+1 }:=I.GM kk hf
  have f0:fB X pins H s.heap.objs.size:=I.HR (Nat.le_refl _) (I.hok.fresh (Nat.le_refl _))
  have MO:s.heap.objs.size≠e:=Nat.ne_of_gt (Heap.lt_size ge)
  have eT:F7 g' s.heap.objs.size [Value.int i s.toks,u].toArray:=⟨_,(q'.2 _ MO).trans a3,rfl,rfl,_,rfl⟩
  have I2:=I1.IV (ys:=[.int i,x]) f0 eT (.cons ⟨_,rfl⟩ (.cons ru .nil)) (by show 2<=sizeLine;decide)
  refine⟨.ref s.heap.objs.size,_,I2,rfl,⟨s.heap.objs.size,x,rfl,f0.1,rfl,fun xs' h1=>by rw[I.IB h1 IW];exact hx⟩,⟨⟨u,by simpa using z'⟩,a2.at fun o q=>(q'.2 it hei.symm).trans q⟩,fun c hc=>?_⟩
  have hlt:c < s.heap.objs.size:=by
   obtain⟨o1,e1,_⟩:=g1
   simp only[List.mem_cons,List.not_mem_nil,or_false]at hc
   rcases hc with rfl|rfl
   ·exact Heap.lt_size ge
   ·exact Heap.lt_size e1
  rw[aH (Nat.ne_of_lt hlt)]
  exact(hf c hc).1
 done:=by
  intro X hP hw hK hc i pins s σ H E I hf st hg
  subst hP hw hK
  obtain⟨⟨old,ge⟩,g1⟩:=st
  obtain⟨xs,IW,hl⟩:=hg
  obtain⟨ia,ra,pa,za⟩:=I.list IW
  have la:=ra.length
  refine wpAny_pyNext_enum_end (I.ok.hd hc) ge g1 pa.isList (by simp;omega) fun g kk=>⟨rfl,I.GM (t':=s.toks) (fun c o hc q=>?_) hf⟩
  simp only[List.mem_cons,List.not_mem_nil,or_false,not_or]at hc
  exact kk c o hc.2 q
 self:=fun _ _ _ _ _ st h=>by
  obtain⟨⟨old,ge⟩,_⟩:=st
  exact wpAny_pyIter_enum ge h
section
variable {X:Cx}
end
end L2
namespace Et
open PySem
open Sem (wp)
open AutoSeq1 (wpAny_loadPart')
def zh{P:Program}{w:World}{A:Around}(hh:A.handled=none)(it t:Addr)(hne:t≠it)(its:Vw) :
  Draws P w A it [it,t] its.size (fun i v=>its[i]?=some v) (fun i h=>h.IsTupleIter it t i/\h.IsTuple t its) where
 live:=fun i h st=>let ⟨⟨o,e,_⟩,_⟩:=st;⟨o,e⟩
 frame:=fun i h h' st k=>⟨st.1.at fun o e=>k it (by simp) o e,let ⟨o,e,r⟩:=st.2;⟨o,k t (by simp) o e,r⟩⟩
 item:=fun i s Q E hi st hQ=>Zt.nx st.1 st.2 (Array.getElem?_eq_getElem hi) fun g a b=>hQ _ g s.toks (Array.getElem?_eq_getElem hi) ⟨a,st.2.extBut b.extBut hne⟩ b
 done:=fun s Q E st hE=>Zt.EJ hh st.1 st.2 (Array.getElem?_eq_none (Nat.le_refl _)) hE
noncomputable abbrev E1(h:Heap)(l:Addr):Heap:=h.push { cls:=.type "tuple_iterator",data:=.fields #[.ref l,.int 0 0] }
noncomputable abbrev E2(h:Heap)(l:Addr):Heap:=(E1 h l).push { cls:=.type "enumerate",data:=.fields #[.none,.bool false,.ref h.objs.size,rawInt 0,.none,.none] }
def fg(l:Addr)(its:Vw)(n:Nat)(dct:Option Addr)(sl:Array (Option Value)) :
  Meets (Builtin.«enumerate.__new__» ⟨[.type "enumerate",.ref l],[]⟩) (fun _ R s=>s.heap.get? l=some { cls:=.type "tuple",dict:=dct,data:=.seq its n,slots:=sl }/\R (.ok (.ret (.ref (E1 s.heap l).objs.size))) { s with heap:=E2 s.heap l }):=
 .of_wp fun prog w A R s h=>by
  obtain⟨hp,g,d,tk,os⟩:=s;obtain⟨hl,h⟩:=h
  have hsub:=sub_enumerate
  have T:Heap.IsTuple (Shared.heap ⟨hp,g,d,tk,os⟩) l its:=⟨_,hl,rfl,n,rfl⟩
  wp_walk using wpAny_loadPart' hl
  refine wpAny_stack_any fun st=>wpAny_pure ?_
  split
  ·rename_i c _ _ _ _ _
   cases (c == Value.type "enumerate")
   ·wp_walk using wpAny_loadPart' hl,wpAny_pyIter_tuple T
    exact⟨_,rfl,h⟩
   ·wp_walk using wpAny_loadPart' hl,wpAny_pyIter_tuple T
    exact⟨_,rfl,h⟩
  ·wp_walk using wpAny_loadPart' hl,wpAny_pyIter_tuple T
   exact⟨_,rfl,h⟩
def gy{P:Program}{w:World}{A:Around}{E:Vq}{s:Shared}{l:Addr}{its:Vw}{Q:Vq}(hT:s.heap.IsTuple l its)
  (k:∀g,IsEnum g (s.heap.objs.size+1) s.heap.objs.size 0 .none->g.IsTupleIter s.heap.objs.size l 0->(∀b o,s.heap.get? b=some o->g.get? b=some o)->Q (.ref (s.heap.objs.size+1)) { s with heap:=g }) :
  wpAny (model P w) A (call (.type "enumerate") [.ref l]) Q E s:=by
 obtain⟨⟨c,dct,dt,sl⟩,hl,hc,n,hd⟩:=hT
 replace hc:c = .type "tuple":=hc
 replace hd:dt = .seq its n:=hd
 subst hc hd
 refine callType_new F.called_enumerate (by decide) (F.typeCall_enumerate_1 _) (F.newCall_enumerate_1 _) (fun obj=>F.args_object_init_2 obj _) F.entry_enumerate_new (fg l its n dct sl) ⟨hl,?_⟩
 have hz:(E1 s.heap l).objs.size=s.heap.objs.size+1:=Heap.size_push ..
 show _/\_
 rw[hz]
 have he:IsEnum (E2 s.heap l) (s.heap.objs.size+1) s.heap.objs.size 0 .none:=by
  have q:=Heap.get?_push_size (E1 s.heap l) (o:={ cls:=.type "enumerate",data:=.fields #[.none,.bool false,.ref s.heap.objs.size,rawInt 0,.none,.none] }) rfl
  rw[hz]at q
  exact q
 exact⟨⟨_,he,rfl⟩,k _ he ⟨_,Heap.get?_push_of_some _ (Heap.get?_push_size _ rfl),rfl,rfl⟩ fun b o x=>Heap.get?_push_of_some _ (Heap.get?_push_of_some _ x)⟩
end Et
namespace L2
open PySem PySem.Spec PyProof.Rows
noncomputable def Ef(K:Vo)(a:Addr):It:=
  ⟨fun i H=>∃xs x,SqT K H a xs/\xs[i]?=some x,
   fun i H v H'=>∃p x,v = .ref p/\H p=none/\H'=upd H p (.tup [.int (i:Nat),x])/\∀xs,SqT K H a xs->xs[i]?=some x,
   fun i H=>∃xs,SqT K H a xs/\xs.length=i⟩
def q_{P:Program}{w:World}{K:Vo}{elts:List Expr}{k0:Nat}{GO:Pos}{e it a:Addr}(hei:e≠it)(Ov:a≠e)(hai:a≠it) :
  ml P w K (.Tuple elts k0 GO) (Ef K a) [e,it] e (fun i h=>(∃old,IsEnum h e it i old)/\h.IsTupleIter it a i) where
 mem:=by simp
 obj:=fun i h st c hc=>by
  obtain⟨⟨old,ge⟩,⟨o1,e1,_,d1⟩⟩:=st
  simp only[List.mem_cons,List.not_mem_nil,or_false]at hc
  rcases hc with rfl|rfl
  ·exact⟨_,ge,fun v q=>by cases q⟩
  ·exact⟨_,e1,fun v q=>by rw[d1]at q;cases q⟩
 keep:=fun i h h' st k=>by
  obtain⟨⟨old,ge⟩,g1⟩:=st
  exact⟨⟨old,k e (by simp) _ ge⟩,g1.at fun o q=>k it (by simp) o q⟩
 item:=by
  intro X hP hw hK hc i pins s σ H E I hf st hg
  subst hP hw hK
  obtain⟨⟨old,ge⟩,g1⟩:=st
  obtain⟨xs,x,IW,hx⟩:=hg
  obtain⟨ia,ra,pa,za⟩:=I.tuple IW
  obtain⟨u,hu,ru⟩:=ra.get hx
  have hil:i < ia.toArray.size:=by
   rcases Nat.lt_or_ge i ia.length with q|q
   ·simpa using q
   ·rw[List.getElem?_eq_none q]at hu;cases hu
  refine wpAny_pyNext_enum_itemD (Et.zh (P:=X.prog) (w:=X.w) (A:=X.A.in1) (I.ok.hd hc) it a hai ia.toArray) ge ⟨g1,(show s.heap.IsTuple a ia.toArray from pa)⟩ hil hei (by simp[hei,Ne.symm Ov]) fun v g tk hv a1 a2 a3 a4 a5=>?_
  have ev:v=u:=by
   have q:ia[i]?=some v:=by simpa using hv
   rw[q]at hu
   exact Option.some.inj hu
  subst ev
  refine⟨_,rfl,wpAny_letOwnedTupleGo_enum (s:={ s with heap:=g,toks:=tk+1 }) a1 fun g' z' q'=>?_⟩
  have kk:∀c o,c ∉ [e,it]->s.heap.get? c=some o->g'.get? c=some o:=fun c o hc q=>by
   simp only[List.mem_cons,List.not_mem_nil,or_false,not_or]at hc
   exact(q'.2 c hc.1).trans (a5 c o hc.1 hc.2 q)
  have I1:Inv X pins σ H { s with heap:=g',toks:=tk+1 }:=I.GM kk hf
  have f0:fB X pins H s.heap.objs.size:=I.HR (Nat.le_refl _) (I.hok.fresh (Nat.le_refl _))
  have MO:s.heap.objs.size≠e:=Nat.ne_of_gt (Heap.lt_size ge)
  have eT:F7 g' s.heap.objs.size [Value.int i tk,v].toArray:=⟨_,(q'.2 _ MO).trans a3,rfl,rfl,_,rfl⟩
  have I2:=I1.IV (ys:=[.int i,x]) f0 eT (.cons ⟨_,rfl⟩ (.cons ru .nil)) (by show 2<=sizeLine;decide)
  refine⟨.ref s.heap.objs.size,_,I2,rfl,⟨s.heap.objs.size,x,rfl,f0.1,rfl,fun xs' h1=>by rw[I.HZ h1 IW];exact hx⟩,⟨⟨v,by simpa using z'⟩,a2.1.at fun o q=>(q'.2 it hei.symm).trans q⟩,fun c hc=>?_⟩
  have hlt:c < s.heap.objs.size:=by
   obtain⟨o1,e1,_⟩:=g1
   simp only[List.mem_cons,List.not_mem_nil,or_false]at hc
   rcases hc with rfl|rfl
   ·exact Heap.lt_size ge
   ·exact Heap.lt_size e1
  rw[aH (Nat.ne_of_lt hlt)]
  exact(hf c hc).1
 done:=by
  intro X hP hw hK hc i pins s σ H E I hf st hg
  subst hP hw hK
  obtain⟨⟨old,ge⟩,g1⟩:=st
  obtain⟨xs,IW,hl⟩:=hg
  obtain⟨ia,ra,pa,za⟩:=I.tuple IW
  have la:=ra.length
  have ei:i=ia.toArray.size:=by simp;omega
  subst ei
  refine wpAny_pyNext_enum_endD (Et.zh (P:=X.prog) (w:=X.w) (A:=X.A.in1) (I.ok.hd hc) it a hai ia.toArray) ge ⟨g1,(show s.heap.IsTuple a ia.toArray from pa)⟩ fun g kk=>⟨rfl,I.GM (t':=s.toks) (fun c o hc q=>?_) hf⟩
  simp only[List.mem_cons,List.not_mem_nil,or_false,not_or]at hc
  exact kk c o hc.2 q
 self:=fun _ _ _ _ _ st h=>by
  obtain⟨⟨old,ge⟩,_⟩:=st
  exact wpAny_pyIter_enum ge h
section
variable {X:Cx}
def AG:iB X (compareOp .Is) (fun x y H Q=>x = .bl true/\y = .bl true/\Q (.bl true) H):=by
 intro pins s σ H x y v u Q I rx ry h
 obtain⟨rfl,rfl,q⟩:=h
 cases (show v=Value.bool true from rx)
 cases (show u=Value.bool true from ry)
 exact wpAny_is_self rfl ⟨.bl true,H,I,rfl,q⟩
def tN:iB X (compareOp .IsNot) (fun x y H Q=>x = .bl true/\y = .bl true/\Q (.bl false) H):=by
 intro pins s σ H x y v u Q I rx ry h
 obtain⟨rfl,rfl,q⟩:=h
 cases (show v=Value.bool true from rx)
 cases (show u=Value.bool true from ry)
 exact wpAny_isNot_self rfl ⟨.bl false,H,I,rfl,q⟩
end
def va(w:World)(x:Str):PyData.keyHash w.params x=hashStr w x:=rfl
noncomputable abbrev Dt(w:World)(x:Str×Int×Tok×Tok):DictEntry:=⟨PyData.keyHash w.params x.1,.str x.1 x.2.2.1,.int x.2.1 x.2.2.2⟩
def AH(P:Program)(w:World)(xs:List (Str×Int×Tok×Tok))(ep:Nat)(nd:(xs.map (·.1)).Nodup) :
  ∃vs,KV (xs.map fun x=>((Sum.inr x.1:bE),V.int x.2.1)) vs/\Obj.IsDictOf (ba P w) { cls:=.type "dict",data:=.dict (xs.map (Dt w)).toArray ep } vs:=by
 refine⟨xs.map fun x=>((Sum.inr x.1:bE),Value.int x.2.1 x.2.2.2),?_,(xs.map (Dt w)).toArray,ep,⟨rfl,rfl,rfl⟩,rfl,?_,?_,?_⟩
 ·induction xs with
  |nil=>exact .nil
  |cons x xs ih=>exact .cons ⟨rfl,_,rfl⟩ (ih (by simpa using(List.nodup_cons.mp (by simpa using nd)).2))
 ·intro e he
  have he':e∈xs.map (Dt w):=by simpa using he
  obtain⟨x,_,rfl⟩:=List.mem_map.mp he'
  exact⟨Sum.inr x.1,jM x.1 x.2.2.1,va w x.1⟩
 ·have key:∀ys:List (Str×Int×Tok×Tok),Pairs (ba P w) (ys.map (Dt w)) (ys.map fun x=>((Sum.inr x.1:bE),Value.int x.2.1 x.2.2.2)):=by
   intro ys
   induction ys with
   |nil=>exact .nil
   |cons y ys ih=>exact .cons (jM y.1 y.2.2.1) rfl ih
  exact key xs
 ·rw[List.map_map]
  have e:((fun x:bE×Value=>x.1) ∘ fun x:Str×Int×Tok×Tok=>((Sum.inr x.1:bE),Value.int x.2.1 x.2.2.2))=fun x=>Sum.inr x.1:=rfl
  have key:∀ys:List (Str×Int×Tok×Tok),(ys.map (·.1)).Nodup->(ys.map fun x=>(Sum.inr x.1:bE)).Nodup:=by
   intro ys
   induction ys with
   |nil=>intro _;exact List.nodup_nil
   |cons y ys ih=>
    intro h
    rw[List.map_cons,List.nodup_cons]at h ⊢
    refine⟨fun hm=>h.1 ?_,ih h.2⟩
    obtain⟨z,hz,e⟩:=List.mem_map.mp hm
    have e':z.1=y.1:=Sum.inr.inj e
    exact List.mem_map.mpr ⟨z,hz,e'⟩
  exact key xs nd
end L2
namespace Wd
open PySem L2 PyProof.Rows
noncomputable def abc:Str:="abcdefghijklmnopqrstuvwxyz"
noncomputable def Gy:List Str:=["jars","deed","rest","pay","put","then","either","take","often","use"]
def AI:∀i,i < 26->abc.cps.toList[i]?=some (97+i):=by decide +kernel
def k5:abc.length<=sizeLine/\abc.cps.toList.length=26:=by decide +kernel
def vb:∀i,i < 26->Builtin.Str.occurrences abc (nR (97+i)) 0 abc.length 1=[i]:=by decide +kernel
theorem sr{α:Type} [BEq α] [LawfulBEq α]:∀{xs ys:List α},xs.Nodup->(∀x∈xs,x∈ys)->xs.length<=ys.length
 |[],ys,_,_=>Nat.zero_le _
 |x::xs,ys,nd,h=>by
  have hx:=h x (List.mem_cons_self ..)
  have q:=sr (xs:=xs) (ys:=ys.erase x) (List.nodup_cons.mp nd).2 fun y hy=>by
   have ne:y≠x:=fun e=>(List.nodup_cons.mp nd).1 (e▸hy)
   exact(List.mem_erase_of_ne ne).mpr (h y (List.mem_cons_of_mem _ hy))
  rw[List.length_erase_of_mem hx]at q
  have:=List.length_pos_of_mem hx
  rw[List.length_cons]
  omega
noncomputable def cand(r:List Nat)(i:Nat):Str:=⟨((97+i % 26)::r).toArray⟩
def vc{r:List Nat}{i j:Nat}(h:cand r i=cand r j):i % 26=j % 26:=by
 have e:(((97+i % 26)::r).toArray).toList=(((97+j % 26)::r).toArray).toList:=congrArg (fun z:Str=>z.cps.toList) h
 simp only[List.cons.injEq]at e
 omega
def re(r:List Nat)(c:Nat):((List.range 26).map fun i=>cand r (c+i)).Nodup:=by
 refine List.pairwise_map.mpr (List.Pairwise.imp_of_mem (R:=(·≠·)) ?_ List.nodup_range)
 intro a b ha hb ne e
 have h1:=List.mem_range.mp ha
 have h2:=List.mem_range.mp hb
 have h3:=vc e
 omega
def tO(r:List Nat)(c:Nat)(bad:Vs)(h:bad.length < 26):∃j,j < 26/\cand r (c+j) ∉ bad:=by
 refine Classical.byContradiction fun no=>?_
 have q:=sr (re r c) (ys:=bad) fun x hx=>by
  obtain⟨j,hj,rfl⟩:=List.mem_map.mp hx
  exact Classical.byContradiction fun z=>no ⟨j,List.mem_range.mp hj,z⟩
 rw[List.length_map,List.length_range]at q
 omega
structure IsW (z:Str):Prop where
 ne:z.cps.toList≠[]
 le:z.cps.toList.length<=6
 sm:∀c∈z.cps.toList,97<=c/\c<=122
theorem IsW.cand{z:Str}(h:IsW z):∃i r,z=Wd.cand r i/\i < 26/\r.length<=5/\∀c∈r,97<=c/\c<=122:=by
 obtain⟨⟨⟨l⟩⟩,ne,le,sm⟩:∃z',_/\_/\_:=⟨z,h.ne,h.le,h.sm⟩
 obtain⟨⟨l⟩⟩:=z
 cases l with
 |nil=>exact absurd rfl h.ne
 |cons c r=>
  have q:=h.sm c (List.mem_cons_self ..)
  refine⟨c - 97,r,?_,by omega,by have:=h.le;simp at this;omega,fun d hd=>h.sm d (List.mem_cons_of_mem _ hd)⟩
  unfold Wd.cand
  rw[show 97+(c - 97) % 26=c by omega]
def vd{r:List Nat}(h:r.length<=5)(hs:∀c∈r,97<=c/\c<=122)(i:Nat):IsW (cand r i):=by
 refine⟨by simp[cand],by simp[cand];omega,fun c hc=>?_⟩
 have hc':c∈(97+i % 26)::r:=hc
 rcases List.mem_cons.mp hc' with e|e
 ·omega
 ·exact hs c e
def IsW.len{z:Str}(h:IsW z):z.length<=6:=by have q:=h.le;rw[Array.length_toList]at q;exact q
def IsW.line{z:Str}(h:IsW z):z.length<=sizeLine:=Nat.le_trans h.len (by decide)
def mZ(r:List Nat)(i:Nat):Gw (cand r i).cps.toList 0=some (97+i % 26):=bX (j:=0) rfl
def ie(r:List Nat)(i:Nat):Txt.slice (cand r i) (some 1) none=⟨r.toArray⟩:=by
 have e:Txt.slice (cand r i) (some 1) none=StrLaws.sliceText (cand r i) (some 1) none:=rfl
 rw[e,StrLaws.sliceText_from ⟨by decide,by simp[cand];omega⟩]
 simp[cand]
def m4(r:List Nat)(i:Nat):(nR (97+(i+1) % 26):Str)++(⟨r.toArray⟩:Str)=cand r (i+1):=by
 refine Str.ext' ?_
 show #[97+(i+1) % 26]++r.toArray=_
 simp[cand]
def nU(i:Nat):Gw abc.cps.toList ((i % 26:Nat):Int)=some (97+i % 26):=bX (AI _ (Nat.mod_lt _ (by decide)))
def lw(cs:List Nat):Txt.join "" (cs.map nR)=⟨cs.toArray⟩:=by
 have q:=join_nil_signs ⟨cs.toArray⟩
 have e:Txt.join "" (cs.map nR)=Str.join ⟨#[]⟩ (cs.map nR):=StrLaws.glued_eq_join _ _
 rw[e]
 exact q
def xV(cs:List Nat):((cs.map nR).map (·.length)).sum=cs.length:=by
 induction cs with
 |nil=>rfl
 |cons c r ih=>rw[List.map_cons,List.map_cons,List.sum_cons,ih,List.length_cons];show 1+r.length=_;omega
def xW{cs:List Nat}{a i:Nat}(h:cs.length<=5)(hs:∀c∈cs,97<=c/\c<=122)(ha:a<=cs.length)(hi:i < 26) :
  IsW (Txt.slice ⟨cs.toArray⟩ none (some (a:Int))++(nR (97+i):Str)++Txt.slice ⟨cs.toArray⟩ (some (a:Int)) none)/\(Txt.slice ⟨cs.toArray⟩ none (some (a:Int))).length<=5/\(Txt.slice ⟨cs.toArray⟩ (some (a:Int)) none).length<=5:=by
 have e1:Txt.slice ⟨cs.toArray⟩ none (some (a:Int))=⟨(cs.take a).toArray⟩:=by
  have e:Txt.slice ⟨cs.toArray⟩ none (some (a:Int))=StrLaws.sliceText ⟨cs.toArray⟩ none (some (a:Int)):=rfl
  rw[e,StrLaws.sliceText_to ⟨by omega,by simp;omega⟩]
  simp
 have e2:Txt.slice ⟨cs.toArray⟩ (some (a:Int)) none=⟨(cs.drop a).toArray⟩:=by
  have e:Txt.slice ⟨cs.toArray⟩ (some (a:Int)) none=StrLaws.sliceText ⟨cs.toArray⟩ (some (a:Int)) none:=rfl
  rw[e,StrLaws.sliceText_from ⟨by omega,by simp;omega⟩]
  refine Str.ext' ?_
  show((cs.drop (a:Int).toNat).take ((cs.length:Int) - a).toNat).toArray=(cs.drop a).toArray
  rw[Int.toNat_natCast,List.take_of_length_le (by rw[List.length_drop];omega)]
 rw[e1,e2]
 have e3:((⟨(cs.take a).toArray⟩:Str)++(nR (97+i):Str)++(⟨(cs.drop a).toArray⟩:Str)).cps.toList=cs.take a++[97+i]++cs.drop a:=by
  show((cs.take a).toArray++#[97+i]++(cs.drop a).toArray).toList=_
  simp
 refine⟨⟨by rw[e3];simp,by rw[e3];simp;omega,fun c hc=>?_⟩,?_,?_⟩
 ·rw[e3]at hc
  rcases List.mem_append.mp hc with hc|hc
  ·rcases List.mem_append.mp hc with hc|hc
   ·exact hs c (List.mem_of_mem_take hc)
   ·rw[List.mem_singleton.mp hc];omega
  ·exact hs c (List.mem_of_mem_drop hc)
 ·show(cs.take a).toArray.size<=5
  rw[List.size_toArray,List.length_take];omega
 ·show(cs.drop a).toArray.size<=5
  rw[List.size_toArray,List.length_drop];omega
end Wd
namespace M3
noncomputable def bP(t b:Int):Int:=(if b < 0 then -t else t) / (Int.gcd t b:Int)
noncomputable def bq(t b:Int):Int:=(if b < 0 then -b else b) / (Int.gcd t b:Int)
def ig{t b:Int}(h:b≠0):0 < Int.gcd t b:=Nat.gcd_pos_of_pos_right _ (by omega)
def ve{t b:Int}(h:b≠0):(Int.gcd t b:Int)<=b.natAbs:=by
 have q:Nat.gcd t.natAbs b.natAbs<=b.natAbs:=Nat.gcd_le_right _ (by omega)
 have e:Int.gcd t b=Nat.gcd t.natAbs b.natAbs:=rfl
 omega
def vf(t b:Int):Int.gcd (-t) (-b)=Int.gcd t b:=by rw[Int.gcd_neg,Int.neg_gcd]
def parts(t b:Int):∃x y:Int,t=(Int.gcd t b:Int) * x/\b=(Int.gcd t b:Int) * y:=by
 obtain⟨x,hx⟩:=Int.gcd_dvd_left t b
 obtain⟨y,hy⟩:=Int.gcd_dvd_right t b
 exact⟨x,y,hx,hy⟩
def rf{t b x y g:Int}(hg:g=(Int.gcd t b:Int))(h:b≠0)(ht:t=g * x)(hb:b=g * y):bP t b=(if y < 0 then -x else x)/\bq t b=(if y < 0 then -y else y):=by
 have gp:0 < g:=by rw[hg];exact Int.natCast_pos.mpr (ig h)
 have hy:b < 0↔y < 0:=by
  rw[hb]
  constructor
  ·intro q
   by_cases z:y < 0
   ·exact z
   ·have:=Int.mul_nonneg (Int.le_of_lt gp) (Int.not_lt.mp z)
    omega
  ·intro q
   exact Int.mul_neg_of_pos_of_neg gp q
 unfold bP bq
 rw[<-hg]
 by_cases z:y < 0
 ·rw[if_pos (hy.mpr z),if_pos (hy.mpr z),if_pos z,if_pos z]
  constructor
  ·rw[ht,<-Int.mul_neg,Int.mul_ediv_cancel_left _ (by omega)]
  ·rw[hb,<-Int.mul_neg,Int.mul_ediv_cancel_left _ (by omega)]
 ·rw[if_neg (fun q=>z (hy.mp q)),if_neg (fun q=>z (hy.mp q)),if_neg z,if_neg z]
  constructor
  ·rw[ht,Int.mul_ediv_cancel_left _ (by omega)]
  ·rw[hb,Int.mul_ediv_cancel_left _ (by omega)]
def xX{t b x y:Int}(h:b≠0)(ht:t=(Int.gcd t b:Int) * x)(hb:b=(Int.gcd t b:Int) * y):Int.gcd x y=1:=by
 have gp:=ig (t:=t) h
 have q:Int.gcd ((Int.gcd t b:Int) * x) ((Int.gcd t b:Int) * y)=(Int.gcd t b:Int).natAbs * Int.gcd x y:=Int.gcd_mul_left _ _ _
 rw[<-ht,<-hb,Int.natAbs_natCast]at q
 have q2:Int.gcd t b * 1=Int.gcd t b * Int.gcd x y:=by omega
 exact(Nat.eq_of_mul_eq_mul_left gp q2).symm
structure Du (a b:Int):Prop where
 pos:0 < b
 one:Int.gcd a b=1
def nV{t b:Int}(h:b≠0):Du (bP t b) (bq t b):=by
 obtain⟨x,y,ht,hb⟩:=parts t b
 have c:=xX h ht hb
 obtain⟨e1,e2⟩:=rf rfl h ht hb
 have y0:y≠0:=fun z=>h (by rw[hb,z,Int.mul_zero])
 rw[e1,e2]
 by_cases z:y < 0
 ·rw[if_pos z,if_pos z]
  exact⟨by omega,by rw[vf];exact c⟩
 ·rw[if_neg z,if_neg z]
  exact⟨by omega,c⟩
def iP{a b x y:Int}(L:Du a b)(hy:0 < y)(e:x * b=a * y):bP x y=a/\bq x y=b:=by
 have b0:=L.pos
 have d1:b.natAbs ∣ a.natAbs * y.natAbs:=by
  rw[<-Int.natAbs_mul,<-e,Int.natAbs_mul]
  exact Nat.dvd_mul_left _ _
 have c:Nat.Coprime b.natAbs a.natAbs:=by
  show Nat.gcd b.natAbs a.natAbs=1
  rw[Nat.gcd_comm]
  exact L.one
 obtain⟨k,hk⟩:=Int.natAbs_dvd_natAbs.mp (c.dvd_of_dvd_mul_left d1)
 have k0:0 < k:=by
  by_cases z:0 < k
  ·exact z
  ·have:=Int.mul_nonneg (Int.le_of_lt b0) (show 0 <= -k by omega)
   rw[Int.mul_neg]at this
   omega
 have hx:x=a * k:=by
  have q:x * b=a * k * b:=by rw[e,hk,Int.mul_assoc,Int.mul_comm k b]
  exact Int.eq_of_mul_eq_mul_right (by omega) q
 have g:(Int.gcd x y:Int)=k:=by
  rw[hx,hk,Int.gcd_mul_right,L.one,Nat.one_mul]
  omega
 have q:=rf (g:=k) (x:=a) (y:=b) (t:=x) (b:=y) g.symm (by omega) (by rw[hx,Int.mul_comm]) (by rw[hk,Int.mul_comm])
 rw[if_neg (by omega),if_neg (by omega)]at q
 exact q
def tP{t b:Int}(h:b≠0):bP t b * b=t * bq t b:=by
 obtain⟨x,y,ht,hb⟩:=parts t b
 obtain⟨e1,e2⟩:=rf rfl h ht hb
 rw[e1,e2]
 have q:x * b=t * y:=by
  have e3:x * ((Int.gcd t b:Int) * y)=(Int.gcd t b:Int) * x * y:=by rw[<-Int.mul_assoc,Int.mul_comm x]
  rw[<-ht,<-hb]at e3
  exact e3
 by_cases z:y < 0
 ·rw[if_pos z,if_pos z,Int.neg_mul,Int.mul_neg,q]
 ·rw[if_neg z,if_neg z]
  exact q
def pI{t b:Int}(h:b≠0):t.fdiv (if b < 0 then -(Int.gcd t b:Int) else (Int.gcd t b:Int))=bP t b/\b.fdiv (if b < 0 then -(Int.gcd t b:Int) else (Int.gcd t b:Int))=bq t b:=by
 have gp:(0:Int) < (Int.gcd t b:Int):=Int.natCast_pos.mpr (ig h)
 have d1:=Int.gcd_dvd_left t b
 have d2:=Int.gcd_dvd_right t b
 unfold bP bq
 by_cases z:b < 0
 ·rw[if_pos z,if_pos z,if_pos z,Int.fdiv_neg (by omega),if_pos d1,Int.fdiv_neg (by omega),if_pos d2,Int.fdiv_eq_ediv_of_dvd d1,Int.fdiv_eq_ediv_of_dvd d2,Int.neg_ediv_of_dvd d1,Int.neg_ediv_of_dvd d2]
  exact⟨rfl,rfl⟩
 ·rw[if_neg z,if_neg z,if_neg z,Int.fdiv_eq_ediv_of_dvd d1,Int.fdiv_eq_ediv_of_dvd d2]
  exact⟨rfl,rfl⟩
def pJ(x y:Int):Int.gcd y (x.fmod y)=Int.gcd x y:=by
 have q:=Int.mul_fdiv_add_fmod x y
 have e:Int.gcd y (x.fmod y+x.fdiv y * y)=Int.gcd y (x.fmod y):=Int.gcd_add_mul_right_right _ _ _
 rw[<-e,Int.mul_comm (x.fdiv y) y,Int.add_comm,q,Int.gcd_comm]
def vg{t b T B:Int}(h:b≠0)(h1:-T<=t)(h2:t<=T)(h3:-B<=b)(h4:b<=B)(hT:0<=T)(hB:0<=B):-T<=bP t b/\bP t b<=T/\0 < bq t b/\bq t b<=B:=by
 have gp:(0:Int) < (Int.gcd t b:Int):=Int.natCast_pos.mpr (ig h)
 have L:=(nV (t:=t) h).pos
 have key:∀z M:Int,0<=M->-M<=z->z<=M->-M<=z / (Int.gcd t b:Int)/\z / (Int.gcd t b:Int)<=M:=fun z M hM z1 z2=>by
  generalize (Int.gcd t b:Int)=g at gp
  have m2:M * 1<=M * g:=Int.mul_le_mul_of_nonneg_left (by omega) hM
  have m3:-M * g = -(M * g):=Int.neg_mul M g
  exact⟨Int.le_ediv_of_mul_le gp (by omega),Int.ediv_le_of_le_mul gp (by omega)⟩
 have k1:=key (if b < 0 then -t else t) T hT (by split<;>omega) (by split<;>omega)
 have k2:=key (if b < 0 then -b else b) B hB (by split<;>omega) (by split<;>omega)
 exact⟨k1.1,k1.2,L,k2.2⟩
end M3
namespace Xc
open PySem PySem.W PySem.Calls PyProof.Rows Builtin Builtin.ObjectAttr
section
variable {prog:Program} {w:World} {A:Around} {K:Frag} {C f:Addr} {R:Result->Shared->Prop} {h:Heap} {g:Array GenState} {d:Drawn} {t:Nat} {os:OsState}
end
structure Eg (h:Heap) (e:Addr) (oe:Obj) (vs:Vw):Prop where
 at_:h.get? e=some oe
 dat:oe.data = .fields vs
 tb:vs[1]?=some .none\/∃T oT ts,vs[1]?=some (.ref T)/\T≠e/\h.get? T=some oT/\oT.data = .fields ts/\ts[3]?=some .none
section
variable {M:Model} {A:Around} {E:Vq} {s:Shared}
end
section
variable {M:Model} {A:Around} {E:Vq} {env:Env} {K:Frag} {C:Addr}
end
section
variable {prog:Program} {w:World} {A:Around} {E:Vq} {s:Shared} {K:Frag} {x C:Addr} {ox:Obj} {od:Option Obj} {name:Str} {expr:Bool} {Q:Vq}
end
section
variable {prog:Program} {w:World} {A:Around} {E:Vq} {s:Shared} {K:Frag} {x C:Addr} {ox:Obj} {od:Option Obj} {name:Str} {v:Value} {R:Result->Shared->Prop}
end
end Xc
namespace L2
open PySem PySem.Spec PyProof.Rows Xc
def E5(X:Cx)(pins:Va)(H:Hp)(h:Heap)(a C dx:Addr):Prop:=
 ∃oe vs,Eg h a oe vs/\oe.cls = .ref C/\oe.dict=some dx/\fB X pins H a/\∀T,vs[1]?=some (.ref T)->fB X pins H T
section
variable {X:Cx} {pins:Va} {σ:St} {H H':Hp} {s s':Shared} {a C dx:Addr}
end
section
variable {X:Cx} {k:Nat} {f C:Addr} {fd:FuncData} {ps:Vs} {sp:Sp} {x m:Str} {p pos apos:Pos} {e o:Expr} {es:List Expr} {ta:TE} {t:TA}
end
def XD(dx:Addr)(fs:List (Str×V))(h:Heap):Prop:=∃mA,h.Ns1 dx mA/\(∀f,RelO (fs.lookup f) (mA f))/\PySem.Within mA (fs.map (·.1))
section
variable {X:Cx} {pins:Va} {σ:St} {H:Hp} {s:Shared}
end
section
variable {X:Cx} {o value:Expr} {f:Str} {pos pos':Pos} {ta tv:TE}
end
section
variable {P:Program} {w:World} {K:Vo} {mg:Vr} {base:Heap}
end
section
variable {X:Cx} {f C:Addr} {fd:FuncData} {ps ks:Vs} {x:Str} {p cpos pos:Pos} {e:Expr} {es:List Expr} {t:TA}
end
section
variable {X:Cx} {pins JS:Va} {σ:St} {H H':Hp} {s s':Shared} {E:Vq}
end
section
variable {X:Cx} {pins JS:Va} {σ:St} {H:Hp} {s':Shared} {E:Vq} {a C dx Dc:Addr} {i:Nat} {n x:Str} {np hpos:Pos} {b₀:Stmt} {suite:List Stmt} {th:Addr->TS} {D:qN}
end
end L2
namespace L3
open PySem L2
inductive PV where
 |non|bl (b:Bool)|int (i:Int)|str (x:Str)|tup (xs:List PV)|cl (xs:List PV)|ref (a:Addr)|ty (n:String)|exc (c:Str) (ks:Vs) (ps:List PV)|cls (c:Str)
def LA(K:Vo)(H:Hp)(a:Addr)(xs:List V):Prop:=
 (∃o,H a=some (.frz o (.lst xs))) \/
  ∃(o:Obj) (its:Vw) (n:Nat),K.lookup a=some o/\o.cls = .type "list"/\o.dict=none/\o.data = .seq its n/\its.size<=sizeLine/\Vals xs its.toList
def LA.sq{K:Vo}{H:Hp}{a:Addr}{xs:List V}(h:LA K H a xs):SqL K H a xs:=h.elim (fun z=>.inl (.inr z)) .inr
def Mf(H:Hp)(a C:Addr)(ks:Vs)(vs:List V):Prop:=
 ∃oe dx od,H a=some (.frz oe (.ext fun _=>True))/\oe.cls = .ref C/\oe.dict=some dx/\(∀c,oe.data ≠ .cls c)/\H dx=some (.frz od (.ext (XD dx (ks.zip vs))))
def xY(K:Vo)(c:Str)(C:Addr):Prop:=PySem.W.nsIn K mainGlobals c=some (some (.ref C))
mutual
inductive Rep (K:Vo) (H:Hp):V->PV->Prop
 |non:Rep K H .non .non
 |bl (b:Bool):Rep K H (.bl b) (.bl b)
 |int (i:Int):Rep K H (.int i) (.int i)
 |str (x:Str):Rep K H (.str x) (.str x)
 |ty (n:String):Rep K H (.ty n) (.ty n)
 |ref (a:Addr):Rep K H (.ref a) (.ref a)
 |tup {a:Addr} {vs:List V} {ps:List PV}:SqT K H a vs->Reps K H vs ps->Rep K H (.ref a) (.tup ps)
 |cl {a:Addr} {vs:List V} {ps:List PV}:LA K H a vs->Reps K H vs ps->Rep K H (.ref a) (.cl ps)
 |exc {a C:Addr} {c:Str} {ks:Vs} {vs:List V} {ps:List PV}:xY K c C->Mf H a C ks vs->Reps K H vs ps->Rep K H (.ref a) (.exc c ks ps)
 |cls {C:Addr} {c:Str}:xY K c C->Rep K H (.ref C) (.cls c)
inductive Reps (K:Vo) (H:Hp):List V->List PV->Prop
 |nil:Reps K H [] []
 |cons {v:V} {p:PV} {vs:List V} {ps:List PV}:Rep K H v p->Reps K H vs ps->Reps K H (v::vs) (p::ps)
end
structure Grow (K:Vo) (H H':Hp):Prop where
 t:∀a vs,SqT K H a vs->SqT K H' a vs
 c:∀a vs,LA K H a vs->LA K H' a vs
 x:∀a o u,H a=some (.frz o u)->H' a=some (.frz o u)
def Grow.refl{K:Vo}{H:Hp}:Grow K H H:=⟨fun _ _ h=>h,fun _ _ h=>h,fun _ _ _ h=>h⟩
def Grow.trans{K:Vo}{H H1 H2:Hp}(a:Grow K H H1)(b:Grow K H1 H2):Grow K H H2:=⟨fun x vs h=>b.t x vs (a.t x vs h),fun x vs h=>b.c x vs (a.c x vs h),fun x o u h=>b.x x o u (a.x x o u h)⟩
def Mf.mono{K:Vo}{H H':Hp}(g:Grow K H H'){a C:Addr}{ks:Vs}{vs:List V}(h:Mf H a C ks vs):Mf H' a C ks vs:=let ⟨oe,dx,od,h1,h2,h3,h4,h5⟩:=h;⟨oe,dx,od,g.x _ _ _ h1,h2,h3,h4,g.x _ _ _ h5⟩
def Grow.of{K:Vo}{H H':Hp}(h:∀a xs,H a=some (.tup xs)->H' a=some (.tup xs))(h2:∀a o u,H a=some (.frz o u)->H' a=some (.frz o u)):Grow K H H':=by
 refine⟨fun a vs q=>?_,fun a vs q=>?_,h2⟩
 ·rcases q with(q|⟨o,q⟩)|q
  ·exact .inl (.inl (h a vs q))
  ·exact .inl (.inr ⟨o,h2 a o _ q⟩)
  ·exact .inr q
 ·rcases q with⟨o,q⟩|q
  ·exact .inl ⟨o,h2 a o _ q⟩
  ·exact .inr q
def Grow.same{K:Vo}{H H':Hp}(h:∀c o,H c=some o->H' c=some o):Grow K H H':=.of (fun a _ q=>h a _ q) (fun a _ _ q=>h a _ q)
def Grow.new{K:Vo}{H:Hp}{p:Addr}{o:HO}(h:H p=none):Grow K H (upd H p o):=.same fun c u q=>by rw[aH (bm q h)];exact q
noncomputable def Mu:HO->Prop
 | .tup _=>False
 | .frz _ _=>False
 |_=>True
def Grow.mut{K:Vo}{H:Hp}{p:Addr}{o u:HO}(h:H p=some u)(m:Mu u):Grow K H (upd H p o):=
 .of (fun a xs q=>by rw[aH (fun e=>by subst e;rw[h]at q;cases q;exact m)];exact q) (fun a _ _ q=>by rw[aH (fun e=>by subst e;rw[h]at q;cases q;exact m)];exact q)
mutual
theorem Rep.mono{K:Vo}{H H':Hp}(g:Grow K H H'):∀{v:V} {p:PV},Rep K H v p->Rep K H' v p
 |_,_,.non=>.non
 |_,_,.bl b=>.bl b
 |_,_,.int i=>.int i
 |_,_,.str x=>.str x
 |_,_,.ty n=>.ty n
 |_,_,.ref a=>.ref a
 |_,_,.tup h r=>.tup (g.t _ _ h) (Reps.mono g r)
 |_,_,.cl h r=>.cl (g.c _ _ h) (Reps.mono g r)
 |_,_,.exc n h r=>.exc n (h.mono g) (Reps.mono g r)
 |_,_,.cls n=>.cls n
theorem Reps.mono{K:Vo}{H H':Hp}(g:Grow K H H'):∀{vs:List V} {ps:List PV},Reps K H vs ps->Reps K H' vs ps
 |_,_,.nil=>.nil
 |_,_,.cons a r=>.cons (Rep.mono g a) (Reps.mono g r)
end
theorem Reps.length{K:Vo}{H:Hp}:∀{vs:List V} {ps:List PV},Reps K H vs ps->vs.length=ps.length
 |_,_,.nil=>rfl
 |_,_,.cons _ r=>by rw[List.length_cons,List.length_cons,Reps.length r]
theorem Reps.append{K:Vo}{H:Hp}:∀{vs us:List V} {ps qs:List PV},Reps K H vs ps->Reps K H us qs->Reps K H (vs++us) (ps++qs)
 |_,_,_,_,.nil,s=>s
 |_,_,_,_,.cons a r,s=>.cons a (Reps.append r s)
theorem Reps.get{K:Vo}{H:Hp}:∀{vs:List V} {ps:List PV} {i:Nat} {p:PV},Reps K H vs ps->ps[i]?=some p->∃v,vs[i]?=some v/\Rep K H v p
 |_,_,_,_,.nil,e=>by simp at e
 |_,_,0,_,.cons a r,e=>by simp at e;subst e;exact⟨_,rfl,a⟩
 |_,_,i+1,p,.cons a r,e=>by
  obtain⟨v,h1,h2⟩:=Reps.get (i:=i) (p:=p) r (by simpa using e)
  exact⟨v,by simpa using h1,h2⟩
theorem Reps.take{K:Vo}{H:Hp}:∀{vs:List V} {ps:List PV} (n:Nat),Reps K H vs ps->Reps K H (vs.take n) (ps.take n)
 |_,_,0,_=>.nil
 |_,_,_+1,.nil=>.nil
 |_,_,n+1,.cons a r=>.cons a (Reps.take n r)
theorem Reps.drop{K:Vo}{H:Hp}:∀{vs:List V} {ps:List PV} (n:Nat),Reps K H vs ps->Reps K H (vs.drop n) (ps.drop n)
 |_,_,0,r=>r
 |_,_,_+1,.nil=>.nil
 |_,_,n+1,.cons _ r=>Reps.drop n r
theorem Reps.set{K:Vo}{H:Hp}{v:V}{p:PV}(q:Rep K H v p):∀{vs:List V} {ps:List PV} (n:Nat),Reps K H vs ps->Reps K H (vs.set n v) (ps.set n p)
 |_,_,_,.nil=>.nil
 |_,_,0,.cons _ r=>.cons q r
 |_,_,n+1,.cons a r=>.cons a (Reps.set q n r)
theorem Reps.eraseIdx{K:Vo}{H:Hp}:∀{vs:List V} {ps:List PV} (n:Nat),Reps K H vs ps->Reps K H (vs.eraseIdx n) (ps.eraseIdx n)
 |_,_,_,.nil=>.nil
 |_,_,0,.cons _ r=>r
 |_,_,n+1,.cons a r=>.cons a (Reps.eraseIdx n r)
theorem Reps.reverse{K:Vo}{H:Hp}:∀{vs:List V} {ps:List PV},Reps K H vs ps->Reps K H vs.reverse ps.reverse
 |_,_,.nil=>.nil
 |_,_,.cons a r=>by rw[List.reverse_cons,List.reverse_cons];exact(Reps.reverse r).append (.cons a .nil)
theorem Reps.dropLast{K:Vo}{H:Hp}{vs:List V}{ps:List PV}(r:Reps K H vs ps):Reps K H vs.dropLast ps.dropLast:=by
 rw[List.dropLast_eq_take,List.dropLast_eq_take,r.length]
 exact r.take _
inductive SO where
 |lst (xs:List PV)
 |dct (kvs:List (bE×PV))
 |ins (c:Str) (fs:List (Str×PV))
abbrev ay:=Addr->Option SO
noncomputable def Fr(S:ay)(a:Addr)(o:SO):ay:=fun b=>if b=a then some o else S b
def aa{S:ay}{a:Addr}{o:SO}:Fr S a o a=some o:=by unfold Fr;rw[if_pos rfl]
def ap{S:ay}{a b:Addr}{o:SO}(h:b≠a):Fr S a o b=S b:=by unfold Fr;rw[if_neg h]
inductive FW (K:Vo) (H:Hp) {κ:Type}:List (κ×V)->List (κ×PV)->Prop
 |nil:FW K H [] []
 |cons {k:κ} {v:V} {p:PV} {vs:List (κ×V)} {ps:List (κ×PV)}:Rep K H v p->FW K H vs ps->FW K H ((k,v)::vs) ((k,p)::ps)
theorem FW.mono{K:Vo}{H H':Hp}(g:Grow K H H'){κ:Type}:∀{vs:List (κ×V)} {ps:List (κ×PV)},FW K H vs ps->FW K H' vs ps
 |_,_,.nil=>.nil
 |_,_,.cons a r=>.cons (a.mono g) (FW.mono g r)
theorem FW.length{K:Vo}{H:Hp}{κ:Type}:∀{vs:List (κ×V)} {ps:List (κ×PV)},FW K H vs ps->vs.length=ps.length
 |_,_,.nil=>rfl
 |_,_,.cons _ r=>by rw[List.length_cons,List.length_cons,FW.length r]
noncomputable def Js(K:Vo)(H:Hp)(a:Addr):SO->Prop
 | .lst xs=>∃vs,H a=some (.lst vs)/\Reps K H vs xs
 | .dct kvs=>∃kv,H a=some (.dK kv)/\FW K H kv kvs
 | .ins c fs=>∃C dx f',xY K c C/\H a=some (.ins C dx f')/\FW K H f' fs
theorem Js.stay{K:Vo}{H H':Hp}(g:Grow K H H'){a:Addr}(e:H' a=H a):∀{o:SO},Js K H a o->Js K H' a o
 | .lst _,⟨vs,h,r⟩=>⟨vs,e.trans h,r.mono g⟩
 | .dct _,⟨vs,h,r⟩=>⟨vs,e.trans h,r.mono g⟩
 | .ins _ _,⟨C,dx,vs,n,h,r⟩=>⟨C,dx,vs,n,e.trans h,r.mono g⟩
theorem Js.some{K:Vo}{H:Hp}{a:Addr}:∀{o:SO},Js K H a o->∃u,H a=Option.some u/\Mu u
 | .lst _,⟨_,h,_⟩=>⟨_,h,trivial⟩
 | .dct _,⟨_,h,_⟩=>⟨_,h,trivial⟩
 | .ins _ _,⟨_,_,_,_,h,_⟩=>⟨_,h,trivial⟩
def FA(K:Vo)(H:Hp)(S:ay):Prop:=∀a o,S a=some o->Js K H a o
def FA.free{K:Vo}{H:Hp}{S:ay}(r:FA K H S){p:Addr}(h:H p=none):S p=none:=by
 cases e:S p with
 |none=>rfl
 |some o=>
  obtain⟨u,q,_⟩:=(r p o e).some
  rw[h]at q;cases q
def FA.grow{K:Vo}{H H':Hp}{S:ay}(r:FA K H S)(h:∀c o,H c=some o->H' c=some o):FA K H' S:=fun a o e=>by
 obtain⟨u,q,_⟩:=(r a o e).some
 exact(r a o e).stay (.same h) ((h a u q).trans q.symm)
def FA.other{K:Vo}{H:Hp}{S:ay}(r:FA K H S){p:Addr}{o:HO}(h:H p=none):FA K (upd H p o) S:=r.grow fun c u q=>by rw[aH (bm q h)];exact q
theorem FA.new{K:Vo}{H:Hp}{S:ay}(r:FA K H S){p:Addr}{u:HO}{o:SO}(h:H p=none)(q:Js K (upd H p u) p o):FA K (upd H p u) (Fr S p o):=fun a x e=>by
 by_cases z:a=p
 ·subst z;rw[aa]at e;cases e;exact q
 ·rw[ap z]at e;exact(r a x e).stay (.new h) (aH z)
def FA.put{K:Vo}{H:Hp}{S:ay}(r:FA K H S){p:Addr}{u0 u:HO}{o:SO}(h:H p=some u0)(m:Mu u0)(q:Js K (upd H p u) p o):FA K (upd H p u) (Fr S p o):=fun a x e=>by
 by_cases z:a=p
 ·subst z;rw[aa]at e;cases e;exact q
 ·rw[ap z]at e;exact(r a x e).stay (.mut h m) (aH z)
abbrev cC:=List (Option PV)
noncomputable def lk:cC->Nat->Option PV
 |[],_=>none
 |x::_,0=>x
 |_::r,i+1=>lk r i
def vh{σ:cC}{i:Nat}{p:PV}(h:lk σ i=some p):σ[i]?=some (some p):=by
 induction σ generalizing i with
 |nil=>cases h
 |cons x r ih=>
  cases i with
  |zero=>exact congrArg some h
  |succ i=>exact ih h
structure FF (K:Vo) (H:Hp) (σ:St) (σ3:cC):Prop where
 len:σ.length=σ3.length
 at':∀(i:Nat) (p:PV),σ3[i]?=some (some p)->∃v,σ[i]?=some (some v)/\Rep K H v p
theorem FF.mono{K:Vo}{H H':Hp}{σ:St}{σ3:cC}(r:FF K H σ σ3)(g:Grow K H H'):FF K H' σ σ3:=⟨r.len,fun i p e=>let ⟨v,h,q⟩:=r.at' i p e;⟨v,h,q.mono g⟩⟩
theorem FF.set{K:Vo}{H:Hp}{σ:St}{σ3:cC}(r:FF K H σ σ3){v:V}{p:PV}(q:Rep K H v p)(i:Nat):FF K H (σ.set i (some v)) (σ3.set i (some p)):=by
 refine⟨by rw[List.length_set,List.length_set,r.len],fun j x e=>?_⟩
 rw[List.getElem?_set]at e ⊢
 split at e
 ·rename_i hij
  rw[if_pos hij]
  subst hij
  split at e
  ·rename_i hl
   cases e
   rw[if_pos (by rw[r.len];exact hl)]
   exact⟨v,rfl,q⟩
  ·cases e
 ·rename_i hij
  rw[if_neg hij]
  exact r.at' j x e
abbrev bA:=PV->ay->Prop
abbrev bZ:=PV->cC->ay->Prop
abbrev aW:=cC->ay->bA->bZ->Prop
abbrev jS:=cC->ay->(Bool->ay->Prop)->bZ->Prop
abbrev E_:=cC->ay->(List PV->ay->Prop)->bZ->Prop
structure m5 where
 nx:cC->ay->Prop
 rt:bA
 ex:bZ
 bk:cC->ay->Prop:=fun _ _=>False
 ct:cC->ay->Prop:=fun _ _=>False
abbrev bB:=m5->cC->ay->Prop
def Kb(X:Cx)(H:Hp)(E:bZ):Prop:=∀(c:Str) (ks:Vs) (ps:List PV) (σ3:cC) (S':ay) (H':Hp) (pins:Va) (σ:St) (s':Shared) (a C dx:Addr) (od:Obj) (vs:List V),E (.exc c ks ps) σ3 S'->xY X.K c C->vs.length=ks.length->
 H' dx=some (.frz od (.ext (XD dx (ks.zip vs))))->Reps X.K H' vs ps->FA X.K H' S'->FF X.K H' σ σ3->Grow X.K H H'->Inv X pins σ H' s'->E5 X pins H' s'.heap a C dx->X.xe (.ref a) s'
def Kb.mono{X:Cx}{H H':Hp}{E:bZ}(x:Kb X H E)(g:Grow X.K H H'):Kb X H' E:=fun c ks ps σ3 S' H2 pins σ s' a C dx od vs h1 h2 h3 h4 h5 h6 h7 h8 h9 Ow=>x c ks ps σ3 S' H2 pins σ s' a C dx od vs h1 h2 h3 h4 h5 h6 h7 (g.trans h8) h9 Ow
def Kc(K:Vo)(H:Hp)(Q3:bA)(Q:VK):Prop:=∀p S' v H',Q3 p S'->Rep K H' v p->FA K H' S'->Grow K H H'->Q v H'
def Kc.mono{K:Vo}{H H':Hp}{Q3:bA}{Q:VK}(r:Kc K H Q3 Q)(g:Grow K H H'):Kc K H' Q3 Q:=fun p S' v H2 h1 h2 h3 h4=>r p S' v H2 h1 h2 h3 (g.trans h4)
def LB(K:Vo)(H:Hp)(N3:cC->ay->Prop)(N:St->Hp->Prop):Prop:=∀σ3 S' σ H',N3 σ3 S'->FF K H' σ σ3->FA K H' S'->Grow K H H'->N σ H'
def LB.mono{K:Vo}{H H':Hp}{Q3:cC->ay->Prop}{Q:St->Hp->Prop}(r:LB K H Q3 Q)(g:Grow K H H'):LB K H' Q3 Q:=fun p S' v H2 h1 h2 h3 h4=>r p S' v H2 h1 h2 h3 (g.trans h4)
def LE(X:Cx)(t:aW):TE:=fun σ H Q=>∃σ3 S Q3 E3,FF X.K H σ σ3/\FA X.K H S/\t σ3 S Q3 E3/\Kb X H E3/\Kc X.K H Q3 Q
def LT(X:Cx)(t:jS):TT:=fun σ H Q=>∃σ3 S Q3 E3,FF X.K H σ σ3/\FA X.K H S/\t σ3 S Q3 E3/\Kb X H E3/\∀b S' H',Q3 b S'->FA X.K H' S'->Grow X.K H H'->Q b H'
def LS(X:Cx)(t:bB):TS:=fun D σ H=>∃σ3 S D3,FF X.K H σ σ3/\FA X.K H S/\t D3 σ3 S/\Kb X H D3.ex/\LB X.K H D3.nx D.nx/\Kc X.K H D3.rt D.rt/\LB X.K H D3.bk D.bk/\LB X.K H D3.ct D.ct
structure br (X:Cx) (e:Expr) (t:aW):Prop where
 ok:PE X e (LE X t)
structure rg (X:Cx) (e:Expr) (t:jS):Prop where
 ok:PT X e (LT X t)
structure AJ (X:Cx) (e:Expr) (t:jS):Prop where
 ok:PW X e (LT X t)
structure ss (X:Cx) (st:Stmt) (t:bB):Prop where
 ok:PS X st (LS X t)
structure jT (X:Cx) (st:List Stmt) (t:bB):Prop where
 ok:Jr X st (LS X t)
def aX{X:Cx}{e:Expr}{t t':TE}(h:PE X e t)(k:∀σ H Q,t' σ H Q->t σ H Q):PE X e t':=fun pins s σ H Q I q=>h pins s σ H Q I (k σ H Q q)
def rh{X:Cx}{e:Expr}{t t':TT}(h:PT X e t)(k:∀σ H Q,t' σ H Q->t σ H Q):PT X e t':=fun pins s σ H Q I q=>h pins s σ H Q I (k σ H Q q)
def vi{X:Cx}{e:Expr}{t t':TT}(h:PW X e t)(k:∀σ H Q,t' σ H Q->t σ H Q):PW X e t':=fun wh pins s σ H Q I q=>h wh pins s σ H Q I (k σ H Q q)
def eP{X:Cx}{e:Stmt}{t t':TS}(h:PS X e t)(k:∀D σ H,t' D σ H->t D σ H):PS X e t':=fun pins s σ H D I q=>h pins s σ H D I (k D σ H q)
def su{X:Cx}{e:List Stmt}{t t':TS}(h:Jr X e t)(k:∀D σ H,t' D σ H->t D σ H):Jr X e t':=fun pins s σ H D I q=>h pins s σ H D I (k D σ H q)
section
variable {X:Cx} {a b c e o:Expr} {es:List Expr} {ta tb tc te:aW} {pos:Pos}
def v3(i:Nat):aW:=fun σ S Q _=>match lk σ i with|some p=>Q p S|none=>False
def ad(i:Nat){x:Str}(hN:X.N[i]?=some x:=by rfl)(hv:Dn X.env.scope x:=by first|exact Or.inl rfl|exact Or.inr (Or.inl rfl)|exact Or.inr (Or.inr rfl))(hd:(x == ("__debug__":Str))=false:=by decide)
  (hcd:(x == ("__classdict__":Str))=false:=by decide):br X (.Name x pos) (v3 i):=
 ⟨aX (zJ hN hv hd hcd) fun σ H Q ⟨σ3,S,Q3,E3,rσ,rS,h,xo,k⟩=>by
  unfold v3 at h
  split at h
  ·rename_i p e
   obtain⟨v,ev,rv⟩:=rσ.at' i p (vh e)
   exact⟨v,ev,k p S v H h rv rS .refl⟩
  ·exact h.elim⟩
def c3(p:PV):aW:=fun _ S Q _=>Q p S
def ah{i:Int}{j:Nat}:br X (.Constant (.int i) j pos) (c3 (.int i)):=⟨aX zK fun σ H Q ⟨σ3,S,Q3,E3,rσ,rS,h,xo,k⟩=>k _ S _ H h (.int i) rS .refl⟩
def lx{i:Bool}{j:Nat}:br X (.Constant (.bool i) j pos) (c3 (.bl i)):=⟨aX BO fun σ H Q ⟨σ3,S,Q3,E3,rσ,rS,h,xo,k⟩=>k _ S _ H h (.bl i) rS .refl⟩
def ar{i:Str}{j:Nat}:br X (.Constant (.str i) j pos) (c3 (.str i)):=⟨aX zM fun σ H Q ⟨σ3,S,Q3,E3,rσ,rS,h,xo,k⟩=>k _ S _ H h (.str i) rS .refl⟩
def ly{j:Nat}:br X (.Constant .none j pos) (c3 .non):=⟨aX zL fun σ H Q ⟨σ3,S,Q3,E3,rσ,rS,h,xo,k⟩=>k _ S _ H h .non rS .refl⟩
def Eh{x:Str}{n:String}(hg:Gl X x)(hm:X.mg x=none)(hv:bootBuiltins x=some (.type n))(hn:x ≠ "__name__":=by decide)(hd:(x == ("__debug__":Str))=false:=by decide):br X (.Name x pos) (c3 (.ty n)):=
 ⟨aX (w4 (v:=.ty n) hg hm hv rfl hn hd) fun σ H Q ⟨σ3,S,Q3,E3,rσ,rS,h,xo,k⟩=>k _ S _ H h (.ty n) rS .refl⟩
noncomputable def ao:List aW->E_
 |[],_,S,Q,_=>Q [] S
 |t::ts,σ,S,Q,E=>t σ S (fun x S1=>ao ts σ S1 (fun xs S2=>Q (x::xs) S2) E) E
noncomputable def Dv:List TE->TA
 |[]=>Cd
 |t::ts=>zb t (Dv ts)
structure kB (X:Cx) (es:List Expr) (ts:List aW):Prop where
 ok:PA X es (Dv (ts.map (LE X)))
def bQ:kB X [] []:=⟨Al⟩
def vj{ts:List aW}(hs:starEach (e::es) X.env=(false,eval e X.env)::starEach es X.env)(ha:br X e te)(hr:kB X es ts):kB X (e::es) (te::ts):=⟨xA ha.ok hr.ok hs⟩
theorem cy:∀{ts:List aW} {σ:L2.St} {H:Hp} {Q:List V->Hp->Prop} {σ3:cC} {S:ay} {Q3:List PV->ay->Prop} {E3:bZ},FF X.K H σ σ3->FA X.K H S->ao ts σ3 S Q3 E3->Kb X H E3->
  (∀ps S' vs H',ps.length=ts.length->Q3 ps S'->Reps X.K H' vs ps->FA X.K H' S'->Grow X.K H H'->Q vs H')->Dv (ts.map (LE X)) σ H Q
 |[],σ,H,Q,σ3,S,Q3,E3,rσ,rS,h,xo,k=>k [] S [] H rfl h .nil rS .refl
 |t::ts,σ,H,Q,σ3,S,Q3,E3,rσ,rS,h,xo,k=>
  ⟨σ3,S,_,E3,rσ,rS,h,xo,fun p S1 v H1 h1 rv FI g1=>cy (rσ.mono g1) FI h1 (xo.mono g1) fun ps S2 vs H2 hl h2 MP Hi g2=>k (p::ps) S2 (v::vs) H2 (by rw[List.length_cons,List.length_cons,hl]) h2 (.cons (rv.mono g2) MP) Hi (g1.trans g2)⟩
def az(ts:List aW):aW:=fun σ S Q E=>ao ts σ S (fun xs S1=>Q (.tup xs) S1) E
def aB{ts:List aW}{x1:Nat}(h:kB X es ts)(hn:ts.length<=1000:=by exact Nat.le_of_ble_eq_true rfl):br X (.Tuple es x1 pos) (az ts):=
 ⟨aX (Am h.ok) fun σ H Q ⟨σ3,S,Q3,E3,rσ,rS,hq,xo,k⟩=>cy rσ rS hq xo fun ps S' vs H' hl q rv Hx g=>
  ⟨Nat.le_of_lt (fc (by rw[rv.length,hl];exact hn)),fun p hp=>k _ S' _ _ q (.tup (SqT.of aG) (rv.mono (.new hp))) (Hx.other hp) (g.trans (.new hp))⟩⟩
def bc(ts:List aW):aW:=fun σ S Q E=>ao ts σ S (fun xs S1=>∀p,S1 p=none->Q (.ref p) (Fr S1 p (.lst xs))) E
def bg{ts:List aW}(h:kB X es ts)(hn:ts.length<=1000:=by exact Nat.le_of_ble_eq_true rfl):br X (.List es pos) (bc ts):=
 ⟨aX (An h.ok) fun σ H Q ⟨σ3,S,Q3,E3,rσ,rS,hq,xo,k⟩=>cy rσ rS hq xo fun ps S' vs H' hl q rv Hx g=>
  ⟨Nat.le_of_lt (fc (by rw[rv.length,hl];exact hn)),fun p hp=>k _ _ _ _ (q p (Hx.free hp)) (.ref p) (Hx.new hp ⟨vs,aG,rv.mono (.new hp)⟩) (g.trans (.new hp))⟩⟩
abbrev R3:=PV->PV->ay->bA->Prop
def LR(X:Cx)(r:R3):R2:=fun x y H Q=>∃px py S Q3,Rep X.K H x px/\Rep X.K H y py/\FA X.K H S/\r px py S Q3/\Kc X.K H Q3 Q
structure jf (X:Cx) (f:Value->Value->Sem Value) (r:R3):Prop where
 ok:iB X f (LR X r)
def af(r:R3)(ta tb:aW):aW:=fun σ S Q E=>ta σ S (fun x S1=>tb σ S1 (fun y S2=>r x y S2 Q) E) E
def k6{r:R3}{σ:L2.St}{H:Hp}{Q:VK}:LE X (af r ta tb) σ H Q->B2 (LR X r) (LE X ta) (LE X tb) σ H Q:=fun⟨σ3,S,Q3,E3,rσ,rS,h,xo,k⟩=>
 ⟨σ3,S,_,E3,rσ,rS,h,xo,fun x S1 v H1 h1 rx FI g1=>⟨σ3,S1,_,E3,rσ.mono g1,FI,h1,xo.mono g1,fun y S2 u H2 h2 ry Hi g2=>⟨x,y,S2,Q3,rx.mono g2,ry,Hi,h2,k.mono (g1.trans g2)⟩⟩⟩
def aC{op:Operator}{r:R3}(ho:jf X (binaryOp op) r)(ha:br X a ta)(hb:br X b tb):br X (.BinOp a op b pos) (af r ta tb):=⟨aX (B4 ho.ok ha.ok hb.ok) fun _ _ _=>k6⟩
def fh{op:CmpOp}{r:R3}(ho:jf X (compareOp op) r)(ha:br X a ta)(hb:br X b tb)(hm:behindInMarks op b=false):br X (.Compare a [op] [b] pos) (af r ta tb):=⟨aX (xy ho.ok ha.ok hb.ok hm) fun _ _ _=>k6⟩
def aJ(t:aW):jS:=fun σ S Q E=>t σ S (fun v S'=>match v with | .bl k=>Q k S'|_=>False) E
def vk{σ:L2.St}{H:Hp}{Q:Bool->Hp->Prop}:LT X (aJ te) σ H Q->LE X te σ H (fun x H'=>∃k,x = .bl k/\Q k H'):=fun⟨σ3,S,Q3,E3,rσ,rS,h,xo,k⟩=>
 ⟨σ3,S,_,E3,rσ,rS,h,xo,fun p S' v H' h1 rv Hx g=>by
  cases p with
  |bl z=>cases rv;exact⟨z,rfl,k z S' H' h1 Hx g⟩
  |_=>exact h1.elim⟩
def bd{op:CmpOp}{r:R3}(ho:jf X (compareOp op) r)(ha:br X a ta)(hb:br X b tb)(hm:behindInMarks op b=false):rg X (.Compare a [op] [b] pos) (aJ (af r ta tb)):=
 ⟨rh (xz ho.ok ha.ok hb.ok hm) fun σ H Q ⟨σ3,S,Q3,E3,rσ,rS,h,xo,k⟩=>k6 ⟨σ3,S,_,E3,rσ,rS,h,xo,fun p S' v H' h1 rv Hx g=>by
  cases p with
  |bl z=>cases rv;exact⟨z,rfl,k z S' H' h1 Hx g⟩
  |_=>exact h1.elim⟩⟩
def iE(h:br X e te)(he:∀whole,isTrue e X.env whole=(do let v <-whole;standAt e.pos;holding [v] (truthy v)):=by intro _;rfl):rg X e (aJ te):=
 ⟨rh (zN h.ok he) fun σ H Q q=>vk q⟩
end
section
variable {X:Cx} {a b c:Expr} {rest:List Expr} {ta tb te:aW} {tA tB:jS} {pos:Pos}
def fi(t u:jS):jS:=fun σ S Q E=>t σ S (fun c S1=>if c=true then u σ S1 Q E else Q false S1) E
def jb(t u:jS):jS:=fun σ S Q E=>t σ S (fun c S1=>if c=true then Q true S1 else u σ S1 Q E) E
def iQ(t:jS):jS:=fun σ S Q E=>t σ S (fun c S1=>Q (!c) S1) E
def iR(ha:rg X a tA):AJ X (.BoolOp .And [a] pos) tA:=⟨w5 ha.ok⟩
def gm(ha:rg X a tA):AJ X (.BoolOp .Or [a] pos) tA:=⟨zO ha.ok⟩
def jg(ha:rg X a tA)(hb:AJ X (.BoolOp .And (b::rest) pos) tB):AJ X (.BoolOp .And (a::b::rest) pos) (fi tA tB):=
 ⟨vi (zP ha.ok hb.ok) fun σ H Q ⟨σ3,S,Q3,E3,rσ,rS,h,xo,k⟩=>⟨σ3,S,_,E3,rσ,rS,h,xo,fun c S1 H1 h1 FI g1=>by
  cases c with
  |true=>rw[if_pos rfl]at h1 ⊢;exact⟨σ3,S1,Q3,E3,rσ.mono g1,FI,h1,xo.mono g1,fun b S2 H2 h2 Hi g2=>k b S2 H2 h2 Hi (g1.trans g2)⟩
  |false=>rw[if_neg (by decide)]at h1 ⊢;exact k false S1 H1 h1 FI g1⟩⟩
def iz(ha:rg X a tA)(hb:AJ X (.BoolOp .Or (b::rest) pos) tB):AJ X (.BoolOp .Or (a::b::rest) pos) (jb tA tB):=
 ⟨vi (BP ha.ok hb.ok) fun σ H Q ⟨σ3,S,Q3,E3,rσ,rS,h,xo,k⟩=>⟨σ3,S,_,E3,rσ,rS,h,xo,fun c S1 H1 h1 FI g1=>by
  cases c with
  |true=>rw[if_pos rfl]at h1 ⊢;exact k true S1 H1 h1 FI g1
  |false=>rw[if_neg (by decide)]at h1 ⊢;exact⟨σ3,S1,Q3,E3,rσ.mono g1,FI,h1,xo.mono g1,fun b S2 H2 h2 Hi g2=>k b S2 H2 h2 Hi (g1.trans g2)⟩⟩⟩
def nW(h:AJ X a tA):rg X a tA:=⟨h.ok.pt⟩
def m6(ha:rg X a tA):rg X (.UnaryOp .Not a pos) (iQ tA):=
 ⟨rh (zQ ha.ok) fun σ H Q ⟨σ3,S,Q3,E3,rσ,rS,h,xo,k⟩=>⟨σ3,S,_,E3,rσ,rS,h,xo,fun c S1 H1 h1 FI g1=>k (!c) S1 H1 h1 FI g1⟩⟩
def bH(t u:aW):aW:=fun σ S Q E=>t σ S (fun v S1=>match v with | .bl c=>if c=true then u σ S1 Q E else Q (.bl false) S1|_=>False) E
def mx(t u:aW):aW:=fun σ S Q E=>t σ S (fun v S1=>match v with | .bl c=>if c=true then Q (.bl true) S1 else u σ S1 Q E|_=>False) E
def kC(t:aW):aW:=fun σ S Q E=>t σ S (fun v S1=>match v with | .bl c=>Q (.bl (!c)) S1|_=>False) E
def kD{op:BoolOp}(h:br X a ta):br X (.BoolOp op [a] pos) ta:=⟨zR h.ok⟩
def kE(ha:br X a ta)(hb:br X (.BoolOp .And (b::rest) pos) tb):br X (.BoolOp .And (a::b::rest) pos) (bH ta tb):=
 ⟨aX (zS ha.ok hb.ok) fun σ H Q ⟨σ3,S,Q3,E3,rσ,rS,h,xo,k⟩=>⟨σ3,S,_,E3,rσ,rS,h,xo,fun p S1 v H1 h1 rv FI g1=>by
  cases p with
  |bl z=>
   cases rv
   refine⟨z,rfl,?_⟩
   cases z with
   |true=>rw[if_pos rfl];exact⟨σ3,S1,Q3,E3,rσ.mono g1,FI,h1,xo.mono g1,k.mono g1⟩
   |false=>rw[if_neg (by decide)];exact k _ S1 _ H1 h1 (.bl false) FI g1
  |_=>exact h1.elim⟩⟩
def Ei(ha:br X a ta)(hb:br X (.BoolOp .Or (b::rest) pos) tb):br X (.BoolOp .Or (a::b::rest) pos) (mx ta tb):=
 ⟨aX (BS ha.ok hb.ok) fun σ H Q ⟨σ3,S,Q3,E3,rσ,rS,h,xo,k⟩=>⟨σ3,S,_,E3,rσ,rS,h,xo,fun p S1 v H1 h1 rv FI g1=>by
  cases p with
  |bl z=>
   cases rv
   refine⟨z,rfl,?_⟩
   cases z with
   |true=>rw[if_pos rfl];exact k _ S1 _ H1 h1 (.bl true) FI g1
   |false=>rw[if_neg (by decide)];exact⟨σ3,S1,Q3,E3,rσ.mono g1,FI,h1,xo.mono g1,k.mono g1⟩
  |_=>exact h1.elim⟩⟩
def zi(ha:br X a ta):br X (.UnaryOp .Not a pos) (kC ta):=
 ⟨aX (zT ha.ok) fun σ H Q ⟨σ3,S,Q3,E3,rσ,rS,h,xo,k⟩=>⟨σ3,S,_,E3,rσ,rS,h,xo,fun p S1 v H1 h1 rv FI g1=>by
  cases p with
  |bl z=>cases rv;exact⟨z,rfl,k _ S1 _ H1 h1 (.bl _) FI g1⟩
  |_=>exact h1.elim⟩⟩
def rj(t:jS)(ta tb:aW):aW:=fun σ S Q E=>t σ S (fun c S1=>if c=true then ta σ S1 Q E else tb σ S1 Q E) E
def vm(hc:rg X c tA)(ha:br X a ta)(hb:br X b tb):br X (.IfExp c a b pos) (rj tA ta tb):=
 ⟨aX (uC hc.ok ha.ok hb.ok) fun σ H Q ⟨σ3,S,Q3,E3,rσ,rS,h,xo,k⟩=>⟨σ3,S,_,E3,rσ,rS,h,xo,fun c S1 H1 h1 FI g1=>by
  cases c with
  |true=>rw[if_pos rfl]at h1 ⊢;exact⟨σ3,S1,Q3,E3,rσ.mono g1,FI,h1,xo.mono g1,k.mono g1⟩
  |false=>rw[if_neg (by decide)]at h1 ⊢;exact⟨σ3,S1,Q3,E3,rσ.mono g1,FI,h1,xo.mono g1,k.mono g1⟩⟩⟩
abbrev Cs:=PV->ay->bA->Prop
noncomputable def Fa(X:Cx)(r:Cs):V->Hp->VK->Prop:=fun x H Q=>∃px S Q3,Rep X.K H x px/\FA X.K H S/\r px S Q3/\Kc X.K H Q3 Q
structure EK (X:Cx) (f:Value->Sem Value) (r:Cs):Prop where
 ok:Dq X f (Fa X r)
def ik(r:Cs)(ta:aW):aW:=fun σ S Q E=>ta σ S (fun x S1=>r x S1 Q) E
def gA{op:UnaryOp}{r:Cs}(ho:EK X (unaryOp op) r)(ha:br X a ta):br X (.UnaryOp op a pos) (ik r ta):=
 ⟨aX (B6 ho.ok ha.ok) fun σ H Q ⟨σ3,S,Q3,E3,rσ,rS,h,xo,k⟩=>⟨σ3,S,_,E3,rσ,rS,h,xo,fun p S1 v H1 h1 rv FI g1=>⟨p,S1,Q3,rv,FI,h1,k.mono g1⟩⟩⟩
noncomputable def b3:Cs:=fun x S Q=>match x with | .int i=>Q (.int (-i)) S|_=>False
def bR:EK X (unaryOp .USub) b3:=⟨fun pins s σ H x v Q I rx ⟨px,S,Q3,r1,rS,h,k⟩=>by
 cases px with
 |int i=>cases r1;exact Ai pins s σ H _ v Q I rx ⟨i,rfl,k _ S _ H h (.int _) rS .refl⟩
 |_=>exact h.elim⟩
end
section
variable {X:Cx}
def dz(g:Int->Int->PV):R3:=fun x y S Q=>match x,y with | .int i,.int j=>Q (g i j) S|_,_=>False
def iF(C:Int->Int->Prop)(g:Int->Int->PV):R3:=fun x y S Q=>match x,y with | .int i,.int j=>C i j/\Q (g i j) S|_,_=>False
def AK{f:Value->Value->Sem Value}{g:Int->Int->Int}(h:iB X f (xu fun i j=>.int (g i j))):jf X f (dz fun i j=>.int (g i j)):=⟨fun pins s σ H x y v u Q I rx ry ⟨px,py,S,Q3,r1,r2,rS,q,k⟩=>by
 cases px with
 |int i=>
  cases py with
  |int j=>cases r1;cases r2;exact h pins s σ H _ _ v u Q I rx ry ⟨i,j,rfl,rfl,k _ S _ H q (.int _) rS .refl⟩
  |_=>exact q.elim
 |_=>exact q.elim⟩
def nX{f:Value->Value->Sem Value}{g:Int->Int->Bool}(h:iB X f (xu fun i j=>.bl (g i j))):jf X f (dz fun i j=>.bl (g i j)):=⟨fun pins s σ H x y v u Q I rx ry ⟨px,py,S,Q3,r1,r2,rS,q,k⟩=>by
 cases px with
 |int i=>
  cases py with
  |int j=>cases r1;cases r2;exact h pins s σ H _ _ v u Q I rx ry ⟨i,j,rfl,rfl,k _ S _ H q (.bl _) rS .refl⟩
  |_=>exact q.elim
 |_=>exact q.elim⟩
def nY{f:Value->Value->Sem Value}{C:Int->Int->Prop}{g:Int->Int->Int}(h:iB X f (rI C fun i j=>.int (g i j))):jf X f (iF C fun i j=>.int (g i j)):=⟨fun pins s σ H x y v u Q I rx ry ⟨px,py,S,Q3,r1,r2,rS,q,k⟩=>by
 cases px with
 |int i=>
  cases py with
  |int j=>cases r1;cases r2;exact h pins s σ H _ _ v u Q I rx ry ⟨i,j,rfl,rfl,q.1,k _ S _ H q.2 (.int _) rS .refl⟩
  |_=>exact q.elim
 |_=>exact q.elim⟩
def m7(i j:Int):Prop:=j≠0/\j.natAbs < 2 ^ 8000
def rm{n:Nat}(h:n < 2 ^ 8000):n.log2 < 9000:=by
 by_cases z:n=0
 ·rw[z];decide +kernel
 ·exact Nat.lt_trans ((Nat.log2_lt z).mpr h) (by decide)
def AL:jf X (binaryOp .Sub) (dz fun i j=>.int (i - j)):=AK Ag
def AM:jf X (binaryOp .Mod) (iF (fun _ j=>j≠0) fun i j=>.int (i.fmod j)):=nY xv
def xZ:jf X (binaryOp .FloorDiv) (iF m7 fun i j=>.int (i.fdiv j)):=nY (Dr fun _ _ _ _ _ _ _ hc q=>PyProof.Rows.floordiv_int hc.1 q (.inl (PyProof.noPylong_of_log2 (rm hc.2))))
def AN:jf X (binaryOp .Pow) (iF Ae fun i j=>.int (i ^ j.toNat)):=nY Ah
def Ct:jf X (compareOp .Lt) (dz fun i j=>.bl (decide (i < j))):=nX B_
def Cu:jf X (compareOp .Gt) (dz fun i j=>.bl (decide (j < i))):=nX Ca
def Cv:jf X (compareOp .GtE) (dz fun i j=>.bl (decide (j<=i))):=nX Cb
end
end L3
namespace L2
open PySem PySem.Spec PyProof.Rows
section
variable {X:Cx}
def Cw(K:Vo):R2:=fun x y H Q=>∃a b xs ys,x = .ref a/\y = .ref b/\SqT K H a xs/\SqT K H b ys/\xs.length+ys.length<=sizeLine/\∀r H',(∀c o,H c=some o->H' c=some o)->SqT K H' r (xs++ys)->Q (.ref r) H'
def x_:iB X (binaryOp .Add) (Cw X.K):=by
 intro pins s σ H x y v u Q I rx ry h
 obtain⟨a,b,xs,ys,rfl,rfl,ha,hb,hz,q⟩:=h
 by_cases hx:xs=[]
 ·subst hx
  cases rx
  cases ry
  obtain⟨its,r1,p1,_⟩:=I.tuple ha
  obtain⟨its2,r2,p2,_⟩:=I.tuple hb
  cases r1
  obtain⟨⟨cls,dd,data,sl⟩,ho,hc,n,hd⟩:=id p1
  obtain⟨⟨MC,dd2,data2,sl2⟩,ho2,hc2,n2,hd2⟩:=id p2
  simp only at hc hd hc2 hd2
  subst hc hd hc2 hd2
  exact concat_meets ⟨_,ho,rfl⟩ ⟨_,ho2,rfl⟩ noFill_tuple_add seq_tuple_add PySem.F.slot_tuple_add PySem.F.entry_tuple_add (PySem.F.args_tuple_add_2 _ _)
   (tuple_addW0 a b _ its2.toArray n n2 dd dd2 sl sl2 rfl) ⟨ho,ho2,⟨.ref b,H,I,rfl,q b H (fun _ _ e=>e) hb⟩⟩
 ·exact xH pins s σ H _ _ v u Q I rx ry ⟨a,b,xs,ys,rfl,rfl,ha,hb,hx,hz,fun e=>q a H (fun _ _ e=>e) (by rw[e,List.append_nil];exact ha),
   fun _ p hp=>q p _ (fun c o e=>by rw[aH (bm e hp)];exact e) (SqT.of aG)⟩
end
end L2
namespace L3
open PySem L2
section
variable {X:Cx}
def aT:R3:=fun x y S Q=>match x,y with
 | .int i,.int j=>Q (.int (i+j)) S
 | .str i,.str j=>i.length+j.length<=sizeLine/\Q (.str (i++j)) S
 | .tup i,.tup j=>i.length+j.length<=sizeLine/\Q (.tup (i++j)) S
 | .ref i,.ref j=>match S i,S j with
  |some (.lst xs),some (.lst ys)=>xs.length+ys.length<=sizeLine/\∀p,S p=none->Q (.ref p) (Fr S p (.lst (xs++ys)))
  |_,_=>False
 |_,_=>False
def aI:jf X (binaryOp .Add) aT:=⟨fun pins s σ H x y v u Q I rx ry ⟨px,py,S,Q3,r1,r2,rS,q,k⟩=>by
 unfold aT at q
 split at q
 ·cases r1;cases r2
  exact Af pins s σ H _ _ v u Q I rx ry ⟨_,_,rfl,rfl,k _ S _ H q (.int _) rS .refl⟩
 ·cases r1;cases r2
  exact qQ pins s σ H _ _ v u Q I rx ry ⟨_,_,rfl,rfl,q.1,k _ S _ H q.2 (.str _) rS .refl⟩
 ·cases r1 with
  |tup h1 s1=>
   cases r2 with
   |tup h2 s2=>
    refine x_ pins s σ H _ _ v u Q I rx ry ⟨_,_,_,_,rfl,rfl,h1,h2,by rw[s1.length,s2.length];exact q.1,fun r H' hs hr=>?_⟩
    exact k _ S _ H' q.2 (.tup hr ((s1.mono (.same hs)).append (s2.mono (.same hs)))) (rS.grow hs) (.same hs)
 ·cases r1;cases r2
  split at q
  ·rename_i i j xs ys e1 e2
   obtain⟨vs,h1,s1⟩:=rS _ _ e1
   obtain⟨us,h2,s2⟩:=rS _ _ e2
   exact Ax pins s σ H _ _ v u Q I rx ry ⟨_,_,_,_,rfl,rfl,h1,h2,by rw[s1.length,s2.length];exact q.1,fun p hp=>k _ _ _ _ (q.2 p (rS.free hp)) (.ref p) (rS.new hp ⟨_,aG,(s1.append s2).mono (.new hp)⟩) (.new hp)⟩
  ·exact q.elim
 ·exact q.elim⟩
end
mutual
inductive Dat (S:ay):PV->PyData->Prop
 |non:Dat S .non .none
 |bl (b:Bool):Dat S (.bl b) (.bool b)
 |int (i:Int):Dat S (.int i) (.int i)
 |str (x:Str):Dat S (.str x) (.str x)
 |tup {ps:List PV} {ds:List PyData}:Dats S ps ds->Dat S (.tup ps) (.tuple ds)
 |cl {ps:List PV} {ds:List PyData}:Dats S ps ds->Dat S (.cl ps) (.list ds)
 |ref {a:Addr} {ps:List PV} {ds:List PyData}:S a=some (.lst ps)->Dats S ps ds->Dat S (.ref a) (.list ds)
inductive Dats (S:ay):List PV->List PyData->Prop
 |nil:Dats S [] []
 |cons {p:PV} {d:PyData} {ps:List PV} {ds:List PyData}:Dat S p d->Dats S ps ds->Dats S (p::ps) (d::ds)
end
section
variable {X:Cx} {pins:Va} {σ:L2.St} {H:Hp} {s:Shared} {S:ay}
def rq(I:Inv X pins σ H s)(rS:FA X.K H S):(∀{p:PV} {d:PyData},Dat S p d->∀{v:V} {u:Value},Rep X.K H v p->RelV v u->∃as,Reads s.heap u d as)/\∀{ps:List PV} {ds:List PyData},Dats S ps ds->∀{vs:List V} {us:Vv},Reps X.K H vs ps->Vals vs us->∃as,ReadsAll s.heap us ds as:=by
 have one:=@Dat.rec S (motive_1:=fun p d _=>∀{v:V} {u:Value},Rep X.K H v p->RelV v u->∃as,Reads s.heap u d as) (motive_2:=fun ps ds _=>∀{vs:List V} {us:Vv},Reps X.K H vs ps->Vals vs us->∃as,ReadsAll s.heap us ds as)
 have two:=@Dats.rec S (motive_1:=fun p d _=>∀{v:V} {u:Value},Rep X.K H v p->RelV v u->∃as,Reads s.heap u d as) (motive_2:=fun ps ds _=>∀{vs:List V} {us:Vv},Reps X.K H vs ps->Vals vs us->∃as,ReadsAll s.heap us ds as)
 have c1:∀{v:V} {u:Value},Rep X.K H v .non->RelV v u->∃as,Reads s.heap u .none as:=fun h r=>by cases h;cases r;exact⟨_,.none⟩
 have c2:∀(b:Bool) {v:V} {u:Value},Rep X.K H v (.bl b)->RelV v u->∃as,Reads s.heap u (.bool b) as:=fun b _ _ h r=>by cases h;cases r;exact⟨_,.bool b⟩
 have c3:∀(i:Int) {v:V} {u:Value},Rep X.K H v (.int i)->RelV v u->∃as,Reads s.heap u (.int i) as:=fun i _ _ h r=>by cases h;obtain⟨t,rfl⟩:=r;exact⟨_,.int i t⟩
 have c4:∀(x:Str) {v:V} {u:Value},Rep X.K H v (.str x)->RelV v u->∃as,Reads s.heap u (.str x) as:=fun x _ _ h r=>by cases h;obtain⟨t,rfl⟩:=r;exact⟨_,.str x t⟩
 have c5:∀{ps:List PV} {ds:List PyData},Dats S ps ds->(∀{vs:List V} {us:Vv},Reps X.K H vs ps->Vals vs us->∃as,ReadsAll s.heap us ds as)->∀{v:V} {u:Value},Rep X.K H v (.tup ps)->RelV v u->∃as,Reads s.heap u (.tuple ds) as:=fun _ ih _ _ h r=>by
  cases h with
  |tup h rs=>
   cases r
   obtain⟨its,rv,⟨o,ho,hc,n,hd⟩,hz⟩:=I.tuple h
   obtain⟨as,q⟩:=ih rs rv
   exact⟨as,.tuple ho hc hd (by simpa using q)⟩
 have c6:∀{ps:List PV} {ds:List PyData},Dats S ps ds->(∀{vs:List V} {us:Vv},Reps X.K H vs ps->Vals vs us->∃as,ReadsAll s.heap us ds as)->∀{v:V} {u:Value},Rep X.K H v (.cl ps)->RelV v u->∃as,Reads s.heap u (.list ds) as:=fun _ ih _ _ h r=>by
  cases h with
  |cl h rs=>
   cases r
   obtain⟨its,rv,⟨o,n,ho,hc,_,hd⟩,hz⟩:=I.list h.sq
   obtain⟨as,q⟩:=ih rs rv
   exact⟨_,.list ho hc hd (by simpa using q)⟩
 have c7:∀{a:Addr} {ps:List PV} {ds:List PyData},S a=some (.lst ps)->Dats S ps ds->(∀{vs:List V} {us:Vv},Reps X.K H vs ps->Vals vs us->∃as,ReadsAll s.heap us ds as)->∀{v:V} {u:Value},Rep X.K H v (.ref a)->RelV v u->∃as,Reads s.heap u (.list ds) as:=fun e _ ih _ _ h r=>by
  cases h
  cases r
  obtain⟨vs,hv,rs⟩:=rS _ _ e
  obtain⟨its,rv,⟨o,n,ho,hc,_,hd⟩,hz⟩:=I.list (SqL.of hv)
  obtain⟨as,q⟩:=ih rs rv
  exact⟨_,.list ho hc hd (by simpa using q)⟩
 have c8:∀{vs:List V} {us:Vv},Reps X.K H vs []->Vals vs us->∃as,ReadsAll s.heap us [] as:=fun h r=>by cases h;cases r;exact⟨_,.nil⟩
 have c9:∀{p:PV} {d:PyData} {ps:List PV} {ds:List PyData},Dat S p d->Dats S ps ds->(∀{v:V} {u:Value},Rep X.K H v p->RelV v u->∃as,Reads s.heap u d as)->(∀{vs:List V} {us:Vv},Reps X.K H vs ps->Vals vs us->∃as,ReadsAll s.heap us ds as)->∀{vs:List V} {us:Vv},Reps X.K H vs (p::ps)->Vals vs us->∃as,ReadsAll s.heap us (d::ds) as:=fun _ _ i1 i2 _ _ h r=>by
  cases h with
  |cons a rs=>
   cases r with
   |cons r1 r2=>
    obtain⟨as,q⟩:=i1 a r1
    obtain⟨bs,q2⟩:=i2 rs r2
    exact⟨_,.cons q q2⟩
 exact⟨fun h=>one c1 c2 c3 c4 c5 c6 c7 c8 c9 h,fun h=>two c1 c2 c3 c4 c5 c6 c7 c8 c9 h⟩
def Dat.reads(I:Inv X pins σ H s)(rS:FA X.K H S){p:PV}{d:PyData}{v:V}{u:Value}(h:Dat S p d)(r:Rep X.K H v p)(r2:RelV v u):∃as,Reads s.heap u d as:=(rq I rS).1 h r r2
end
section
variable {X:Cx}
def aV(neg:Bool):R3:=fun x y S Q=>match x,y with
 | .int i,.int j=>Q (.bl (neg != decide (i=j))) S
 | .str i,.str j=>Q (.bl (neg != decide (i=j))) S
 | .bl i,.bl j=>Q (.bl (neg != decide (i=j))) S
 |x,y=>∃d d',Dat S x d/\Dat S y d'/\d.canLay0=true/\d'.canLay0=true/\min d.depth d'.depth<=150/\Q (.bl (neg != PyData.eqv d d')) S
def gB(hu:X.A.units+150 < cLine):jf X (compareOp .Eq) (aV false):=⟨fun pins s σ H x y v u Q I rx ry ⟨px,py,S,Q3,r1,r2,rS,q,k⟩=>by
 unfold aV at q
 split at q
 ·cases r1;cases r2
  exact uI pins s σ H _ _ v u Q I rx ry ⟨rfl,k _ S _ H (by simpa using q) (.bl _) rS .refl⟩
 ·cases r1;cases r2
  exact uI pins s σ H _ _ v u Q I rx ry ⟨rfl,k _ S _ H (by simpa using q) (.bl _) rS .refl⟩
 ·cases r1;cases r2
  exact uI pins s σ H _ _ v u Q I rx ry ⟨rfl,k _ S _ H (by simpa using q) (.bl _) rS .refl⟩
 ·obtain⟨d,d',h1,h2,c1,c2,hd,q⟩:=q
  obtain⟨as,a1⟩:=h1.reads I rS r1 rx
  obtain⟨bs,a2⟩:=h2.reads I rS r2 ry
  exact SeqAt.compareEq_reads a1 a2 c1 c2 (by omega) ⟨.bl _,H,I,rfl,k _ S _ H (by simpa using q) (.bl _) rS .refl⟩⟩
def zj(hu:X.A.units+150 < cLine):jf X (compareOp .NotEq) (aV true):=⟨fun pins s σ H x y v u Q I rx ry ⟨px,py,S,Q3,r1,r2,rS,q,k⟩=>by
 unfold aV at q
 split at q
 ·cases r1;cases r2
  exact uJ pins s σ H _ _ v u Q I rx ry ⟨rfl,k _ S _ H (by simpa using q) (.bl _) rS .refl⟩
 ·cases r1;cases r2
  exact uJ pins s σ H _ _ v u Q I rx ry ⟨rfl,k _ S _ H (by simpa using q) (.bl _) rS .refl⟩
 ·cases r1;cases r2
  exact uJ pins s σ H _ _ v u Q I rx ry ⟨rfl,k _ S _ H (by simpa using q) (.bl _) rS .refl⟩
 ·obtain⟨d,d',h1,h2,c1,c2,hd,q⟩:=q
  obtain⟨as,a1⟩:=h1.reads I rS r1 rx
  obtain⟨bs,a2⟩:=h2.reads I rS r2 ry
  exact SeqAt.compareNe_reads a1 a2 c1 c2 (by omega) ⟨.bl _,H,I,rfl,k _ S _ H (by simpa using q) (.bl _) rS .refl⟩⟩
def ux(neg:Bool):R3:=fun x y S Q=>match y with
 | .non=>Q (.bl (neg != match x with | .non=>true|_=>false)) S
 | .bl true=>match x with | .bl true=>Q (.bl (neg != true)) S|_=>False
 |_=>False
def Cy:jf X (compareOp .Is) (ux false):=⟨fun pins s σ H x y v u Q I rx ry ⟨px,py,S,Q3,r1,r2,rS,q,k⟩=>by
 unfold ux at q
 split at q
 ·cases r2
  refine Aj pins s σ H _ _ v u Q I rx ry ⟨rfl,?_⟩
  cases r1<;>exact k _ S _ H (by simpa using q) (.bl _) rS .refl
 ·cases r2
  split at q
  ·cases r1
   exact AG pins s σ H _ _ v u Q I rx ry ⟨rfl,rfl,k _ S _ H (by simpa using q) (.bl _) rS .refl⟩
  ·exact q.elim
 ·exact q.elim⟩
def vn:jf X (compareOp .IsNot) (ux true):=⟨fun pins s σ H x y v u Q I rx ry ⟨px,py,S,Q3,r1,r2,rS,q,k⟩=>by
 unfold ux at q
 split at q
 ·cases r2
  refine xx pins s σ H _ _ v u Q I rx ry ⟨rfl,?_⟩
  cases r1<;>exact k _ S _ H (by simpa using q) (.bl _) rS .refl
 ·cases r2
  split at q
  ·cases r1
   exact tN pins s σ H _ _ v u Q I rx ry ⟨rfl,rfl,k _ S _ H (by simpa using q) (.bl _) rS .refl⟩
  ·exact q.elim
 ·exact q.elim⟩
noncomputable def pK(S:ay):PV->Option (List PV)
 | .tup xs=>some xs
 | .cl xs=>some xs
 | .ref a=>match S a with|some (.lst xs)=>some xs|_=>none
 |_=>none
def AO{H:Hp}{S:ay}{v:V}{p:PV}{xs:List PV}(rS:FA X.K H S)(r:Rep X.K H v p)(h:pK S p=some xs):∃a vs,v = .ref a/\(SqL X.K H a vs\/SqT X.K H a vs)/\Reps X.K H vs xs:=by
 unfold pK at h
 split at h
 ·cases h;cases r with|tup h1 rs=>exact⟨_,_,rfl,.inr h1,rs⟩
 ·cases h;cases r with|cl h1 rs=>exact⟨_,_,rfl,.inl h1.sq,rs⟩
 ·cases r
  split at h
  ·rename_i e
   cases h
   obtain⟨vs,hv,rs⟩:=rS _ _ e
   exact⟨_,vs,rfl,.inl (SqL.of hv),rs⟩
  ·cases h
 ·cases h
noncomputable def kF(x:PyData)(xs:List PyData):Bool:=xs.any fun y=>PyData.eqv y x
def jU(neg:Bool):R3:=fun x y S Q=>match x,y with
 | .str i,.str j=>Q (.bl (neg != !(Builtin.Str.occurrences j i 0 j.length 1).isEmpty)) S
 |x,y=>match y with
  | .ref a=>match S a with
   |some (.lst xs)=>∃d ds,Dat S x d/\Dats S xs ds/\d.canLay0=true/\PyData.canLayAll0 ds=true/\d.depth<=150/\Q (.bl (neg != kF d ds)) S
   |some (.dct kvs)=>match x with
    | .str z=>Q (.bl (neg != (kvs.any fun kv=>decide (kv.1=Sum.inr z)))) S
    | .int z=>Q (.bl (neg != (kvs.any fun kv=>decide (kv.1=Sum.inl z)))) S
    |_=>False
   |_=>False
  | .tup xs=>∃d ds,Dat S x d/\Dats S xs ds/\d.canLay0=true/\PyData.canLayAll0 ds=true/\d.depth<=150/\Q (.bl (neg != kF d ds)) S
  |_=>False
theorem FW.any{K:Vo}{H:Hp}{κ:Type} [DecidableEq κ](k:κ):∀{vs:List (κ×V)} {ps:List (κ×PV)},FW K H vs ps->(iO vs k).isSome=ps.any fun kv=>decide (kv.1=k)
 |_,_,.nil=>rfl
 |_,_,.cons (k:=k') a r=>by
  rw[List.any_cons,<-FW.any k r]
  by_cases e:k'=k
  ·rw[G0 e];simp[e]
  ·rw[G1 e];simp[e]
def kG(hu:X.A.units+160 < cLine):jf X (compareOp .In) (jU false):=⟨fun pins s σ H x y v u Q I rx ry ⟨px,py,S,Q3,r1,r2,rS,q,k⟩=>by
 unfold jU at q
 split at q
 ·cases r1;cases r2
  exact s_ pins s σ H _ _ v u Q I rx ry ⟨_,_,rfl,rfl,k _ S _ H (by simpa using q) (.bl _) rS .refl⟩
 ·split at q
  ·cases r2
   cases ry
   split at q
   ·rename_i xs e
    obtain⟨d,ds,h1,h2,c1,c2,hd,q⟩:=q
    obtain⟨as,a1⟩:=h1.reads I rS r1 rx
    obtain⟨bs,a2⟩:=(Dat.ref e h2).reads I rS (.ref _) (rfl:RelV (.ref _) (.ref _))
    exact SeqAt.in_list_reads a2 a1 c2 c1 (by omega) ⟨.bl _,H,I,rfl,k _ S _ H (by simpa [kF]using q) (.bl _) rS .refl⟩
   ·rename_i kvs e
    obtain⟨kv,hv,rk⟩:=rS _ _ e
    split at q
    ·cases r1
     exact Cm (by omega) I (DGet.k (k:=Sum.inr _) hv) rx fun s3 I3=>⟨.bl _,H,I3,rfl,k _ S _ H (by rw[rk.any];simpa using q) (.bl _) rS .refl⟩
    ·cases r1
     exact Cm (by omega) I (DGet.k (k:=Sum.inl _) hv) rx fun s3 I3=>⟨.bl _,H,I3,rfl,k _ S _ H (by rw[rk.any];simpa using q) (.bl _) rS .refl⟩
    ·exact q.elim
   ·exact q.elim
  ·rename_i xs
   obtain⟨d,ds,h1,h2,c1,c2,hd,q⟩:=q
   obtain⟨as,a1⟩:=h1.reads I rS r1 rx
   obtain⟨bs,a2⟩:=(Dat.tup h2).reads I rS r2 ry
   exact SeqAt.in_tuple_reads a2 a1 c2 c1 (by omega) ⟨.bl _,H,I,rfl,k _ S _ H (by simpa [kF]using q) (.bl _) rS .refl⟩
  ·exact q.elim⟩
def fj(hu:X.A.units+160 < cLine):jf X (compareOp .NotIn) (jU true):=⟨fun pins s σ H x y v u Q I rx ry ⟨px,py,S,Q3,r1,r2,rS,q,k⟩=>by
 unfold jU at q
 split at q
 ·cases r1;cases r2
  exact nK pins s σ H _ _ v u Q I rx ry ⟨_,_,rfl,rfl,k _ S _ H (by simpa using q) (.bl _) rS .refl⟩
 ·split at q
  ·cases r2
   cases ry
   split at q
   ·rename_i xs e
    obtain⟨d,ds,h1,h2,c1,c2,hd,q⟩:=q
    obtain⟨as,a1⟩:=h1.reads I rS r1 rx
    obtain⟨bs,a2⟩:=(Dat.ref e h2).reads I rS (.ref _) (rfl:RelV (.ref _) (.ref _))
    exact SeqAt.notIn_list_reads a2 a1 c2 c1 (by omega) ⟨.bl _,H,I,rfl,k _ S _ H (by simpa [kF]using q) (.bl _) rS .refl⟩
   ·rename_i kvs e
    obtain⟨kv,hv,rk⟩:=rS _ _ e
    split at q
    ·cases r1
     exact sn (by omega) I (DGet.k (k:=Sum.inr _) hv) rx fun s3 I3=>⟨.bl _,H,I3,rfl,k _ S _ H (by rw[rk.any];simpa using q) (.bl _) rS .refl⟩
    ·cases r1
     exact sn (by omega) I (DGet.k (k:=Sum.inl _) hv) rx fun s3 I3=>⟨.bl _,H,I3,rfl,k _ S _ H (by rw[rk.any];simpa using q) (.bl _) rS .refl⟩
    ·exact q.elim
   ·exact q.elim
  ·rename_i xs
   obtain⟨d,ds,h1,h2,c1,c2,hd,q⟩:=q
   obtain⟨as,a1⟩:=h1.reads I rS r1 rx
   obtain⟨bs,a2⟩:=(Dat.tup h2).reads I rS r2 ry
   exact SeqAt.notIn_tuple_reads a2 a1 c2 c1 (by omega) ⟨.bl _,H,I,rfl,k _ S _ H (by simpa [kF]using q) (.bl _) rS .refl⟩
  ·exact q.elim⟩
end
end L3
namespace HT
open PySem PySem.Spec PyProof.Rows
section
variable {prog:Program} {w:World} {A:Around} {E:Vq} {s:Shared}
def jh{t sl:Addr}{items:Vw}{vl vu:Value}{lo hi:Option Int}{Q:Vq}(ht:IsTup s.heap t items)(hs:s.heap.IsSliceOf sl vl vu .none)(pl:IsPart vl lo)(pu:IsPart vu hi)
  (hw:FV items.size 0 lo=0/\FV items.size items.size hi=items.size)
  (h:Q (.ref t) s):wpAny (model prog w) A (getItem (.ref t) (.ref sl)) Q E s:=by
 obtain⟨os,hos,hcs,hds⟩:=id hs
 have MD:s.TypeIs (.ref sl) "slice":=⟨os,hos,hcs⟩
 unfold getItem
 try with_reducible refine wpAny_holding ?_
 first|refine wpAny_bind (wpAny_pure ?_)|skip
 refine wpAny_bind (wpAny_sequenceKey ht.typeIs (by decide) ?_)
 refine wpAny_bind (wpAny_callSpecial?_slot (name:=Str.ofString "__getitem__") ht.typeIs PyProof.Rows.slot_tuple_getitem
  (wpAny_call_entry PyProof.Rows.slot_tuple_getitem ht.typeIs entry_tuple_getitem ?_ (args_tuple_getitem _ _)))
 show wpAny _ _ (Builtin.Tuple.tupleItemsOf (.ref t) >>= _) _ _ s
 refine wpAny_bind (tupleItemsOf_ ht ?_)
 refine wpAny_bind (wpAny_typeOf MD ?_)
 rw[if_pos (by decide)]
 refine wpAny_bind (e_ hs pl pu ?_)
 have hyes:(((FV items.size 0 lo:Nat):Int) == 0&&(1:Int) == 1&&(FV items.size items.size hi - FV items.size 0 lo) == items.size)=true:=by
  rw[hw.1,hw.2];simp
 show wpAny _ _ (if (((FV items.size 0 lo:Nat):Int) == 0&&(1:Int) == 1&&(FV items.size items.size hi - FV items.size 0 lo) == items.size)=true then _ else _) _ _ s
 rw[if_pos hyes]
 unfold Builtin.Tuple.tupleIsExact
 refine wpAny_bind (wpAny_bind (wpAny_typeOf ht.typeIs (wpAny_pure ?_)))
 rw[if_pos (by decide)]
 first
  |exact wpAny_bind (wpAny_rule (wpAny_pure ⟨_,rfl,wpAny_pure h⟩))
  |exact wpAny_bind (wpAny_rule (wpAny_bind (wpAny_pure (wpAny_pure ⟨_,rfl,wpAny_pure h⟩))))
  |exact wpAny_bind (wpAny_rule (wpAny_bind (wpAny_pure ⟨_,rfl,wpAny_pure h⟩)))
end
end HT
namespace L2
open PySem PySem.Spec PyProof.Rows
section
variable {X:Cx}
noncomputable def Cz(K:Vo):V->Option Int->Option Int->Hp->VK->Prop:=fun x lo hi H Q=>∃a xs,x = .ref a/\SqT K H a xs/\∀r H',(∀c o,H c=some o->H' c=some o)->SqT K H' r (ll xs lo hi)->Q (.ref r) H'
def ya:BE X (Cz X.K):=by
 intro pins s σ H x v vl vu lo hi sl Q I rx hs pl pu h
 obtain⟨a,xs,rfl,hx,q⟩:=h
 by_cases hw:HT.FV xs.length 0 lo=0/\HT.FV xs.length xs.length hi=xs.length
 ·cases rx
  obtain⟨its,r,ht,hz⟩:=I.tuple hx
  have hlen:its.toArray.size=xs.length:=by rw[List.size_toArray];exact r.length.symm
  refine⟨"tuple",_,PyProof.Rows.slot_tuple_getitem.lookup,ht.typeIs,HT.jh ht hs pl pu (by rw[hlen];exact hw) ⟨.ref a,H,I,rfl,q a H (fun _ _ e=>e) ?_⟩⟩
  have e:ll xs lo hi=xs:=by unfold ll;rw[hw.1,hw.2];simp
  rw[e];exact hx
 ·exact Aq pins s σ H _ v vl vu lo hi sl Q I rx hs pl pu ⟨a,xs,rfl,hx,hw,fun p hp=>q p _ (fun c o e=>by rw[aH (bm e hp)];exact e) (SqT.of aG)⟩
def yb(hu:X.A.units+1 < cLine):BF X (fun x y H Q=>∃a v,x = .ref a/\DGet H a y (some v)/\Q v H):=by
 intro value slice pins s σ H x y v u Q I rx ry h hs
 obtain⟨a,z,rfl,g,q⟩:=h
 cases rx
 exact tail_any (pG I g) PySem.F.slot_dict_getitem.lookup (tD hu I g ry fun w' s3 I3 rw'=>⟨z,H,I3,rw',q⟩) hs
def vo(hu:X.A.units+1 < cLine):xh X (fun o i v H Q=>∃a H',o = .ref a/\Ki H a i v H'/\Q H'):=by
 intro pins s σ H o i v ov iv u Q I ro ri rv h
 obtain⟨a,H',rfl,g,q⟩:=h
 cases ro
 exact tE hu I g ri rv fun s' I'=>⟨H',I',q⟩
end
end L2
namespace L3
open PySem L2
theorem Reps.Gw{K:Vo}{H:Hp}{vs:List V}{ps:List PV}{i:Int}{p:PV}(r:Reps K H vs ps)(h:L2.Gw ps i=some p):∃v,L2.Gw vs i=some v/\Rep K H v p:=by
 unfold L2.Gw at h ⊢
 rw[r.length]
 cases e:qU ps.length i with
 |none=>rw[e]at h;cases h
 |some j=>
  rw[e]at h
  obtain⟨v,h1,h2⟩:=r.get h
  exact⟨v,h1,h2⟩
noncomputable def nZ:PV->Option bE
 | .int i=>some (.inl i)
 | .str x=>some (.inr x)
 |_=>none
def eO{K:Vo}{H:Hp}{v:V}{p:PV}{k:bE}(r:Rep K H v p)(h:nZ p=some k):v=kV k:=by
 cases p with
 |int i=>cases h;cases r;rfl
 |str i=>cases h;cases r;rfl
 |_=>cases h
noncomputable def my{κ:Type} [DecidableEq κ]:List (κ×PV)->κ->Option PV
 |[],_=>none
 |(k',v)::r,k=>if k'=k then some v else my r k
theorem FW.val{K:Vo}{H:Hp}{κ:Type} [DecidableEq κ]{k:κ}{p:PV}:∀{vs:List (κ×V)} {ps:List (κ×PV)},FW K H vs ps->my ps k=some p->∃v,iO vs k=some v/\Rep K H v p
 |_,_,.nil,h=>by cases h
 |_,_,.cons (k:=k') a r,h=>by
  unfold my at h
  split at h
  ·rename_i e;cases h;exact⟨_,G0 e,a⟩
  ·rename_i e;rw[G1 e];exact FW.val r h
section
variable {X:Cx} {a b e lo hi:Expr} {ta tb te:aW} {pos p2:Pos}
structure EL (X:Cx) (r:R3):Prop where
 ok:BF X (LR X r)
def CA{r:R3}(hr:EL X r)(ha:br X a ta)(hb:br X b tb)(hs:k4 b):br X (.Subscript a b pos) (af r ta tb):=⟨aX (Ch hr.ok ha.ok hb.ok hs) fun _ _ _=>k6⟩
def ac:R3:=fun x y S Q=>match x with
 | .tup xs=>match y with | .int i=>(match Gw xs i with|some v=>Q v S|none=>False)|_=>False
 | .cl xs=>match y with | .int i=>(match Gw xs i with|some v=>Q v S|none=>False)|_=>False
 | .str z=>match y with | .int i=>z.length<=sizeLine/\(match Gw z.cps.toList i with|some c=>Q (.str ⟨#[c]⟩) S|none=>False)|_=>False
 | .ref a=>match S a with
  |some (.lst xs)=>(match y with | .int i=>(match Gw xs i with|some v=>Q v S|none=>False)|_=>False)
  |some (.dct kvs)=>(match nZ y with|some k=>(match my kvs k with|some v=>Q v S|none=>False)|none=>False)
  |_=>False
 |_=>False
def EM(hu:X.A.units+1 < cLine):EL X ac:=⟨fun value slice pins s σ H x y v u Q I rx ry ⟨px,py,S,Q3,r1,r2,rS,q,k⟩ hs=>by
 unfold ac at q
 split at q
 ·split at q
  ·split at q
   ·rename_i e
    cases r2
    cases r1 with
    |tup h1 rs=>
     obtain⟨w,hw,rw'⟩:=rs.Gw e
     exact As value slice pins s σ H _ _ v u Q I rx ry ⟨_,_,_,w,rfl,rfl,h1,hw,k _ S _ H q rw' rS .refl⟩ hs
   ·exact q.elim
  ·exact q.elim
 ·split at q
  ·split at q
   ·rename_i e
    cases r2
    cases r1 with
    |cl h1 rs=>
     obtain⟨w,hw,rw'⟩:=rs.Gw e
     exact sj value slice pins s σ H _ _ v u Q I rx ry ⟨_,_,_,w,rfl,rfl,h1.sq,hw,k _ S _ H q rw' rS .refl⟩ hs
   ·exact q.elim
  ·exact q.elim
 ·split at q
  ·obtain⟨hz,q⟩:=q
   split at q
   ·rename_i e
    cases r1;cases r2
    exact At value slice pins s σ H _ _ v u Q I rx ry ⟨_,_,_,rfl,rfl,hz,e,k _ S _ H q (.str _) rS .refl⟩ hs
   ·exact q.elim
  ·exact q.elim
 ·split at q
  ·rename_i e0
   split at q
   ·split at q
    ·rename_i e
     cases r1;cases r2
     obtain⟨vs,hv,rs⟩:=rS _ _ e0
     obtain⟨w,hw,rw'⟩:=rs.Gw e
     exact sj value slice pins s σ H _ _ v u Q I rx ry ⟨_,_,_,w,rfl,rfl,SqL.of hv,hw,k _ S _ H q rw' rS .refl⟩ hs
    ·exact q.elim
   ·exact q.elim
  ·rename_i e0
   split at q
   ·rename_i ek
    split at q
    ·rename_i ev
     cases r1
     have e1:=eO r2 ek
     subst e1
     obtain⟨kv,hv,rk⟩:=rS _ _ e0
     obtain⟨w,hw,rw'⟩:=rk.val ev
     refine yb hu value slice pins s σ H _ _ v u Q I rx ry ⟨_,w,rfl,?_,k _ S _ H q rw' rS .refl⟩ hs
     rw[<-hw]
     exact DGet.k hv
    ·exact q.elim
   ·exact q.elim
  ·exact q.elim
 ·exact q.elim⟩
abbrev BH:=cC->ay->(Option Int->ay->Prop)->bZ->Prop
noncomputable def LO(X:Cx)(t:BH):TO:=fun σ H Q=>∃σ3 S Q3 E3,FF X.K H σ σ3/\FA X.K H S/\t σ3 S Q3 E3/\Kb X H E3/\∀o S' H',Q3 o S'->FA X.K H' S'->Grow X.K H H'->Q o H'
structure Dw (X:Cx) (e:Option Expr) (t:BH):Prop where
 ok:PO X e (LO X t)
noncomputable def rA:BH:=fun _ S Q _=>Q none S
noncomputable def pL(t:aW):BH:=fun σ S Q E=>t σ S (fun v S'=>match v with | .int i=>Q (some i) S'|_=>False) E
def vp{e:Option Expr}{t t':TO}(h:PO X e t)(k:∀σ H Q,t' σ H Q->t σ H Q):PO X e t':=fun pins s σ H Q I q=>h pins s σ H Q I (k σ H Q q)
def gC:Dw X none rA:=⟨vp xF fun σ H Q ⟨σ3,S,Q3,E3,rσ,rS,h,xo,k⟩=>k none S H h rS .refl⟩
def eQ(h:br X e te):Dw X (some e) (pL te):=⟨vp (xG h.ok) fun σ H Q ⟨σ3,S,Q3,E3,rσ,rS,h,xo,k⟩=>⟨σ3,S,_,E3,rσ,rS,h,xo,fun p S' v H' h1 rv Hx g=>by
 cases p with
 |int i=>cases rv;exact⟨i,rfl,k _ S' H' h1 Hx g⟩
 |_=>exact h1.elim⟩⟩
noncomputable def He{α:Type}(xs:List α)(lo hi:Option Int):List α:=(xs.drop (HT.FV xs.length 0 lo)).take (HT.FV xs.length xs.length hi - HT.FV xs.length 0 lo)
def Reps.cut{K:Vo}{H:Hp}{vs:List V}{ps:List PV}(r:Reps K H vs ps)(lo hi:Option Int):Reps K H (ll vs lo hi) (He ps lo hi):=by
 unfold ll He
 rw[r.length]
 exact(r.drop _).take _
def pM(x:PV)(lo hi:Option Int)(S:ay)(Q:bA):Prop:=match x with
 | .tup xs=>Q (.tup (He xs lo hi)) S
 | .cl xs=>∀p,S p=none->Q (.ref p) (Fr S p (.lst (He xs lo hi)))
 | .str z=>z.length<=sizeLine/\Q (.str (Txt.slice z lo hi)) S
 | .ref a=>match S a with|some (.lst xs)=>∀p,S p=none->Q (.ref p) (Fr S p (.lst (He xs lo hi)))|_=>False
 |_=>False
noncomputable def Fb(X:Cx):V->Option Int->Option Int->Hp->VK->Prop:=fun x lo hi H Q=>∃px S Q3,Rep X.K H x px/\FA X.K H S/\pM px lo hi S Q3/\Kc X.K H Q3 Q
def Fc:BE X (Fb X):=by
 intro pins s σ H x v vl vu lo hi sl Q I rx hs pl pu ⟨px,S,Q3,r1,rS,q,k⟩
 unfold pM at q
 split at q
 ·cases r1 with
  |tup h1 rs=>exact ya pins s σ H _ v vl vu lo hi sl Q I rx hs pl pu ⟨_,_,rfl,h1,fun r H' hh hr=>k _ S _ H' q (.tup hr ((rs.cut lo hi).mono (.same hh))) (rS.grow hh) (.same hh)⟩
 ·cases r1 with
  |cl h1 rs=>exact sk pins s σ H _ v vl vu lo hi sl Q I rx hs pl pu ⟨_,_,rfl,h1.sq,fun p hp=>k _ _ _ _ (q p (rS.free hp)) (.ref p) (rS.new hp ⟨_,aG,(rs.cut lo hi).mono (.new hp)⟩) (.new hp)⟩
 ·cases r1
  exact AC pins s σ H _ v vl vu lo hi sl Q I rx hs pl pu ⟨_,rfl,q.1,k _ S _ H q.2 (.str _) rS .refl⟩
 ·split at q
  ·rename_i e
   cases r1
   obtain⟨vs,hv,rs⟩:=rS _ _ e
   exact sk pins s σ H _ v vl vu lo hi sl Q I rx hs pl pu ⟨_,_,rfl,SqL.of hv,fun p hp=>k _ _ _ _ (q p (rS.free hp)) (.ref p) (rS.new hp ⟨_,aG,(rs.cut lo hi).mono (.new hp)⟩) (.new hp)⟩
  ·exact q.elim
 ·exact q.elim
def cg(te:aW)(tl th:BH):aW:=fun σ S Q E=>te σ S (fun x S1=>tl σ S1 (fun l S2=>th σ S2 (fun u S3=>pM x l u S3 Q) E) E) E
def dQ{lo hi:Option Expr}{tl th:BH}(he:br X e te)(hl:Dw X lo tl)(hu:Dw X hi th):br X (.Subscript e (.Slice lo hi none p2) pos) (cg te tl th):=
 ⟨aX (uQ Fc he.ok hl.ok hu.ok) fun σ H Q ⟨σ3,S,Q3,E3,rσ,rS,h,xo,k⟩=>⟨σ3,S,_,E3,rσ,rS,h,xo,fun x S1 v H1 h1 rx FI g1=>⟨σ3,S1,_,E3,rσ.mono g1,FI,h1,xo.mono g1,fun l S2 H2 h2 Hi g2=>
  ⟨σ3,S2,_,E3,rσ.mono (g1.trans g2),Hi,h2,xo.mono (g1.trans g2),fun u S3 H3 h3 KE g3=>⟨x,S3,Q3,rx.mono (g2.trans g3),KE,h3,k.mono (g1.trans (g2.trans g3))⟩⟩⟩⟩⟩
def yc:iB X (binaryOp .Mult) (rI IntMulOk fun i j=>.int (i * j)):=Dr fun _ _ _ _ _ _ _ hc q=>PyProof.Rows.mul_int q hc
def bS:R3:=fun x y S Q=>match x,y with
 | .int i,.int j=>IntMulOk i j/\Q (.int (i * j)) S
 | .ref a,.int j=>(match S a with|some (.lst xs)=>-(2 ^ 63)<=j/\j < 2 ^ 63/\xs.length * j.toNat<=sizeLine/\∀p,S p=none->Q (.ref p) (Fr S p (.lst (List.replicate j.toNat xs).flatten))|_=>False)
 |_,_=>False
theorem Reps.rep{K:Vo}{H:Hp}{vs:List V}{ps:List PV}(r:Reps K H vs ps):∀n:Nat,Reps K H (List.replicate n vs).flatten (List.replicate n ps).flatten
 |0=>.nil
 |n+1=>by
  rw[List.replicate_succ,List.replicate_succ,List.flatten_cons,List.flatten_cons]
  exact r.append (Reps.rep r n)
def bn:jf X (binaryOp .Mult) bS:=⟨fun pins s σ H x y v u Q I rx ry ⟨px,py,S,Q3,r1,r2,rS,q,k⟩=>by
 unfold bS at q
 split at q
 ·cases r1;cases r2
  exact yc pins s σ H _ _ v u Q I rx ry ⟨_,_,rfl,rfl,q.1,k _ S _ H q.2 (.int _) rS .refl⟩
 ·split at q
  ·rename_i e
   cases r1;cases r2
   obtain⟨vs,hv,rs⟩:=rS _ _ e
   exact Ay pins s σ H _ _ v u Q I rx ry ⟨_,_,_,rfl,rfl,hv,q.1,q.2.1,by rw[rs.length];exact q.2.2.1,fun p hp=>k _ _ _ _ (q.2.2.2 p (rS.free hp)) (.ref p) (rS.new hp ⟨_,aG,(rs.rep _).mono (.new hp)⟩) (.new hp)⟩
  ·exact q.elim
 ·exact q.elim⟩
end
end L3
namespace L2
open PySem PySem.Spec PyProof.Rows
section
variable {X:Cx}
def rB{pins:Va}{σ:St}{H:Hp}{s:Shared}{x:Value}{t:Value}{p:Heap->Prop}{vs:List V}{tp:Addr}{b:Bool}{Q:Vq}{E:Vq}(I:Inv X pins σ H s)(Z:PySem.W.KitX X.K x t p)(hp:p s.heap)(hx:x ≠ .builtin "__main__.__loader__#opaque")
  (ht:SqT X.K H tp vs) (e:∀its,Vals vs its->PySem.W.kitAny X.K t its=some b) (h:∀tk,Q (.bool b) { s with toks:=tk }):wpAny (model X.prog X.w) X.A (call (.builtin "isinstance") [x,.ref tp]) Q E s:=by
 obtain⟨its,rv,⟨⟨cls,dd,data,sl⟩,ho,hc,n,hd⟩,hz⟩:=I.tuple ht
 simp only at hc hd
 subst hc hd
 exact PySem.W.kia_tup Z I.Kf hp ho (e its rv) hx h
end
end L2
namespace L3
open PySem L2
abbrev rC:=List PV->ay->bA->Prop
section
variable {X:Cx} {e o:Expr} {es:List Expr} {te to:aW} {ts:List aW} {x:Str} {p pos apos cpos:Pos}
noncomputable def LC(X:Cx)(r:rC):List V->Hp->VK->Prop:=fun xs H Q=>∃ps S Q3,Reps X.K H xs ps/\FA X.K H S/\r ps S Q3/\Kc X.K H Q3 Q
structure gD (X:Cx) (f:Value) (r:rC):Prop where
 ok:gv X f (LC X r)
def ak(r:rC)(ts:List aW):aW:=fun σ S Q E=>ao ts σ S (fun ps S1=>r ps S1 Q) E
def sv{r:rC}{σ:L2.St}{H:Hp}{Q:VK}:LE X (ak r ts) σ H Q->Dv (ts.map (LE X)) σ H fun vs H1=>LC X r vs H1 Q:=fun⟨σ3,S,Q3,E3,rσ,rS,h,xo,k⟩=>
 cy rσ rS h xo fun ps S' vs H' hl q rv Hx g=>⟨ps,S',Q3,rv,Hx,q,k.mono g⟩
def yd{id:String}{r:rC}(hc:gD X (.builtin id) r)(hg:Gl X x)(hm:X.mg x=none)(hv:bootBuiltins x=some (.builtin id))(he:starEach (e::es) X.env=(false,eval e X.env)::starEach es X.env)(ha:kB X (e::es) ts)
  (hn:x ≠ "__name__":=by decide) (hdb:(x == ("__debug__":Str))=false:=by decide) (hpl:(backTo pos (starEach es X.env)).any (·.1)=false:=by rfl):br X (.Call (.Name x p) (e::es) [] pos) (ak r ts):=
 ⟨aX (uN hc.ok hg hm hv ha.ok hn hdb he hpl) fun _ _ _=>sv⟩
def ye{id:String}{r:rC}(hc:gD X (.type id) r)(hg:Gl X x)(hm:X.mg x=none)(hv:bootBuiltins x=some (.type id))(he:starEach (e::es) X.env=(false,eval e X.env)::starEach es X.env)(ha:kB X (e::es) ts)
  (hn:x ≠ "__name__":=by decide) (hdb:(x == ("__debug__":Str))=false:=by decide) (hpl:(backTo pos (starEach es X.env)).any (·.1)=false:=by rfl):br X (.Call (.Name x p) (e::es) [] pos) (ak r ts):=
 ⟨aX (tq hc.ok hg hm hv ha.ok hn hdb he hpl) fun _ _ _=>sv⟩
def bx:rC:=fun ps S Q=>match ps with
 |[.tup xs]=>Q (.int xs.length) S
 |[.cl xs]=>Q (.int xs.length) S
 |[.str z]=>z.length<=sizeLine/\Q (.int z.length) S
 |[.ref a]=>(match S a with|some (.lst xs)=>Q (.int xs.length) S|some (.dct kvs)=>Q (.int kvs.length) S|_=>False)
 |_=>False
def bL:gD X (.builtin "len") bx:=⟨fun pins s σ H xs us Q I r ⟨ps,S,Q3,rp,rS,q,k⟩=>by
 unfold bx at q
 split at q
 ·cases rp with|cons a rr=>cases rr;cases a with|tup h rs=>exact fD pins s σ H _ us Q I r ⟨_,_,rfl,.inr h,by rw[rs.length];exact k _ S _ H q (.int _) rS .refl⟩
 ·cases rp with|cons a rr=>cases rr;cases a with|cl h rs=>exact fD pins s σ H _ us Q I r ⟨_,_,rfl,.inl h.sq,by rw[rs.length];exact k _ S _ H q (.int _) rS .refl⟩
 ·cases rp with|cons a rr=>cases rr;cases a;exact nL pins s σ H _ us Q I r ⟨_,rfl,q.1,k _ S _ H q.2 (.int _) rS .refl⟩
 ·cases rp with
  |cons a rr=>
   cases rr;cases a
   split at q
   ·rename_i e
    obtain⟨vs,hv,rs⟩:=rS _ _ e
    exact fD pins s σ H _ us Q I r ⟨_,_,rfl,.inl (SqL.of hv),by rw[rs.length];exact k _ S _ H q (.int _) rS .refl⟩
   ·rename_i e
    obtain⟨vs,hv,rs⟩:=rS _ _ e
    exact tH pins s σ H _ us Q I r ⟨_,_,rfl,hv,by rw[rs.length];exact k _ S _ H q (.int _) rS .refl⟩
   ·exact q.elim
 ·exact q.elim⟩
def tQ:rC:=fun ps S Q=>match ps with|[.int i]=>Q (.int (if i < 0 then -i else i)) S|_=>False
def CC:gD X (.builtin "abs") tQ:=⟨fun pins s σ H xs us Q I r ⟨ps,S,Q3,rp,rS,q,k⟩=>by
 unfold tQ at q
 split at q
 ·cases rp with|cons a rr=>cases rr;cases a;exact uL pins s σ H _ us Q I r ⟨_,rfl,k _ S _ H q (.int _) rS .refl⟩
 ·exact q.elim⟩
def ji:rC:=fun ps S Q=>match ps with|[.int i,.int j]=>Q (.int (if j > i then j else i)) S|_=>False
def n4(hc:X.calm=true):gD X (.builtin "max") ji:=⟨fun pins s σ H xs us Q I r ⟨ps,S,Q3,rp,rS,q,k⟩=>by
 unfold ji at q
 split at q
 ·cases rp with|cons a rr=>cases rr with|cons b r3=>cases r3;cases a;cases b;exact tj hc pins s σ H _ us Q I r ⟨_,_,rfl,k _ S _ H q (.int _) rS .refl⟩
 ·exact q.elim⟩
def gE:rC:=fun ps S Q=>match ps with|[.int i]=>Q (.int i) S|[.bl b]=>Q (.int (if b then 1 else 0)) S|_=>False
def vq:gD X (.type "int") gE:=⟨fun pins s σ H xs us Q I r ⟨ps,S,Q3,rp,rS,q,k⟩=>by
 unfold gE at q
 split at q
 ·cases rp with|cons a rr=>cases rr;cases a;exact mQ pins s σ H _ us Q I r (.inl ⟨_,rfl,k _ S _ H q (.int _) rS .refl⟩)
 ·cases rp with|cons a rr=>cases rr;cases a;exact mQ pins s σ H _ us Q I r (.inr ⟨_,rfl,k _ S _ H q (.int _) rS .refl⟩)
 ·exact q.elim⟩
def bo:rC:=fun ps S Q=>match ps with
 |[v]=>(match pK S v with|some xs=>Q (.tup xs) S|none=>False)
 |_=>False
def cq:gD X (.type "tuple") bo:=⟨fun pins s σ H xs us Q I r ⟨ps,S,Q3,rp,rS,q,k⟩=>by
 unfold bo at q
 split at q
 ·cases rp with
  |cons a rr=>
   cases rr
   split at q
   ·rename_i e
    obtain⟨b,vs,rfl,hs,rs⟩:=AO rS a e
    rcases hs with hs|hs
    ·exact iC pins s σ H _ us Q I r ⟨_,_,rfl,.inl ⟨hs,fun p hp=>k _ S _ _ q (.tup (SqT.of aG) (rs.mono (.new hp))) (rS.other hp) (.new hp)⟩⟩
    ·exact iC pins s σ H _ us Q I r ⟨_,_,rfl,.inr ⟨hs,k _ S _ _ q (.tup hs rs) rS .refl⟩⟩
   ·exact q.elim
 ·exact q.elim⟩
noncomputable def lz:List PV->Option (List Bool)
 |[]=>some []
 | .bl b::r=>(lz r).map (b::·)
 |_::_=>none
theorem lA{K:Vo}{H:Hp}:∀{vs:List V} {ps:List PV} {bs:List Bool},Reps K H vs ps->lz ps=some bs->vs=bs.map V.bl
 |_,_,_,.nil,h=>by cases h;rfl
 |_,_,bs,.cons (p:=p) a r,h=>by
  cases p with
  |bl b=>
   cases a
   unfold lz at h
   cases e:lz _ with
   |none=>rw[e]at h;cases h
   |some l=>rw[e]at h;cases h;rw[lA r e];rfl
  |_=>cases h
def vt:rC:=fun ps S Q=>match ps with
 |[.ref a]=>(match S a with|some (.lst xs)=>(match lz xs with|some bs=>Q (.bl (bs.all id)) S|none=>False)|_=>False)
 |_=>False
def CD(hc:X.calm=true):gD X (.builtin "all") vt:=⟨fun pins s σ H xs us Q I r ⟨ps,S,Q3,rp,rS,q,k⟩=>by
 unfold vt at q
 split at q
 ·cases rp with
  |cons a rr=>
   cases rr;cases a
   split at q
   ·rename_i e
    split at q
    ·rename_i eb
     obtain⟨vs,hv,rs⟩:=rS _ _ e
     have e2:=lA rs eb
     subst e2
     exact tK hc pins s σ H _ us Q I r ⟨_,_,rfl,SqL.of hv,k _ S _ H q (.bl _) rS .refl⟩
    ·exact q.elim
   ·exact q.elim
 ·exact q.elim⟩
end
noncomputable def fE(t c:String):Bool:=t == c || (t == "bool" && c == "int")
noncomputable def o8(S:ay):PV->Option String
 | .non=>some "NoneType"
 | .bl _=>some "bool"
 | .int _=>some "int"
 | .str _=>some "str"
 | .tup _=>some "tuple"
 | .cl _=>some "list"
 | .ref a=>(match S a with|some (.lst _)=>some "list" | some (.dct _)=>some "dict" | _=>none)
 | .ty _=>none
 | .exc _ _ _=>none
 | .cls _=>none
noncomputable def cN(c:String):Bool:=["int","str","bool","tuple","list","dict"].contains c
def vv(K:Vo)(t c:String):PySem.W.kitCls K (.type t) (.type c)=(if PySem.W.kitMeta c=true then (PySem.fastBuiltinMro t).map (·.contains (Value.type c)) else none):=rfl
def sw{K:Vo}{t c:String}(ht:t∈["NoneType","bool","int","str","tuple","list","dict"])(hc:cN c=true):PySem.W.kitOne K (.type t) (.type c)=some (fE t c):=by
 have hc':c∈["int","str","bool","tuple","list","dict"]:=by
  have:=hc
  unfold cN at this
  simpa using this
 simp only[List.mem_cons,List.not_mem_nil,or_false]at ht hc'
 rcases ht with rfl|rfl|rfl|rfl|rfl|rfl|rfl<;>rcases hc' with rfl|rfl|rfl|rfl|rfl|rfl <;>
  first
   |(unfold PySem.W.kitOne;rw[if_pos (by decide)];rfl)
   |(unfold PySem.W.kitOne;rw[if_neg (by decide),vv];decide +kernel)
def vx{S:ay}{p:PV}{t:String}(h:o8 S p=some t):t∈["NoneType","bool","int","str","tuple","list","dict"]:=by
 unfold o8 at h
 split at h<;>first|(cases h;decide)|(split at h<;>first|(cases h;decide)|cases h)|cases h
section
variable {X:Cx}
noncomputable def AQ:List PV->Option (List String)
 |[]=>some []
 | .ty c::r=>if cN c then (AQ r).map (c::·) else none
 |_::_=>none
def eR:rC:=fun ps S Q=>match ps with
 |[x,.ty c]=>(match o8 S x with|some t=>cN c=true/\Q (.bl (fE t c)) S|none=>False)
 |[x,.tup cs]=>(match o8 S x,AQ cs with|some t,some l=>Q (.bl (l.any (fE t))) S|_,_=>False)
 |_=>False
def yf{K:Vo}{H:Hp}{t:String}(ht:t∈["NoneType","bool","int","str","tuple","list","dict"]):∀(cs:List PV) {l:List String} {vs:List V} {its:Vv},AQ cs=some l->Reps K H vs cs->Vals vs its->PySem.W.kitAny K (.type t) its=some (l.any (fE t)):=by
 intro cs
 induction cs with
 |nil=>intro l vs its h rs r;cases h;cases rs;cases r;rfl
 |cons p cs ih=>
  intro l vs its h rs r
  cases p with
  |ty c=>
   unfold AQ at h
   split at h
   ·rename_i hc
    cases e:AQ cs with
    |none=>rw[e]at h;cases h
    |some l'=>
     rw[e]at h
     cases h
     cases rs with
     |cons a rs=>
      cases a
      cases r with
      |@cons _ u _ us r1 r2=>
       cases (show u=Value.type c from r1)
       show(match PySem.W.kitOne K (.type t) (.type c)with|some true=>some true|some false=>PySem.W.kitAny K (.type t) us|none=>none)=_
       rw[sw ht hc,List.any_cons]
       cases fE t c with
       |true=>rfl
       |false=>exact ih e rs r2
   ·cases h
  |_=>cases h
def gF:gD X (.builtin "isinstance") eR:=⟨fun pins s σ H xs us Q I r ⟨ps,S,Q3,rp,rS,q,k⟩=>by
 have main:∀{v:PV} {x:V} {u:Value} {t:String},Rep X.K H x v->RelV x u->o8 S v=some t->∃(h:Heap->Prop),PySem.W.KitX X.K u (.type t) h/\h s.heap/\u ≠ .builtin "__main__.__loader__#opaque":=by
  intro v x u t rv rx ht
  cases rv with
  |non=>cases ht;cases rx;exact⟨_,PySem.W.kitx_none,True.intro,fun z=>nomatch z⟩
  |bl b=>cases ht;cases rx;exact⟨_,PySem.W.kitx_bool,True.intro,fun z=>nomatch z⟩
  |int b=>cases ht;obtain⟨t,rfl⟩:=rx;exact⟨_,PySem.W.kitx_int,True.intro,fun z=>nomatch z⟩
  |str b=>cases ht;obtain⟨t,rfl⟩:=rx;exact⟨_,PySem.W.kitx_str,True.intro,fun z=>nomatch z⟩
  |ty b=>cases ht
  |exc _ _ _=>cases ht
  |cls _=>cases ht
  |tup h rs=>
   cases ht;cases rx
   obtain⟨its,_,⟨o,ho,hc,_⟩,_⟩:=I.tuple h
   exact⟨_,PySem.W.kitx_tuple,⟨o,ho,hc⟩,fun z=>nomatch z⟩
  |cl h rs=>
   cases ht;cases rx
   obtain⟨its,_,⟨o,n,ho,hc,_⟩,_⟩:=I.list h.sq
   exact⟨_,PySem.W.kitx_list,⟨o,ho,hc⟩,fun z=>nomatch z⟩
  |ref a=>
   cases rx
   unfold o8 at ht
   simp only at ht
   split at ht
   ·rename_i e
    cases ht
    obtain⟨vs,hv,_⟩:=rS _ _ e
    obtain⟨its,_,⟨o,n,ho,hc,_⟩,_⟩:=I.list (SqL.of hv)
    exact⟨_,PySem.W.kitx_list,⟨o,ho,hc⟩,fun z=>nomatch z⟩
   ·rename_i e
    cases ht
    obtain⟨vs,hv,_⟩:=rS _ _ e
    obtain⟨_,_,vs',_,p⟩:=(show ObjOk X.prog X.w H s.heap _ (.dK vs)from I.hok _ _ hv)
    obtain⟨o,es,ep,h1,h2,_⟩:=p
    exact⟨_,PySem.W.kitx_dict,⟨o,h1,h2.1⟩,fun z=>nomatch z⟩
   ·cases ht
 unfold eR at q
 split at q
 ·split at q
  ·rename_i ht
   cases rp with
   |cons a rr=>
    cases rr with
    |cons b r3=>
     cases r3;cases b
     cases r with
     |cons r1 r2=>
      cases r2 with
      |cons r4 r5=>
       cases r5
       cases (show _=Value.type _ from r4)
       obtain⟨h,Z,hp,hx⟩:=main a r1 ht
       exact PySem.W.kia_one Z I.Kf hp (sw (vx ht) q.1) hx fun tk=>⟨.bl _,H,I.tok _,rfl,k _ S _ H q.2 (.bl _) rS .refl⟩
  ·exact q.elim
 ·split at q
  ·rename_i ht hl
   cases rp with
   |cons a rr=>
    cases rr with
    |cons b r3=>
     cases r3
     cases b with
     |tup h1 rs=>
      cases r with
      |cons r1 r2=>
       cases r2 with
       |cons r4 r5=>
        cases r5
        cases r4
        obtain⟨h,Z,hp,hx⟩:=main a r1 ht
        exact rB I Z hp hx h1 (fun its rv=>yf (vx ht) _ hl rs rv) fun tk=>⟨.bl _,H,I.tok _,rfl,k _ S _ H q (.bl _) rS .refl⟩
  ·exact q.elim
 ·exact q.elim⟩
end
abbrev rD:=PV->List PV->ay->bA->Prop
section
variable {X:Cx} {e o:Expr} {es:List Expr} {te to:aW} {ts:List aW} {name:Str} {p pos apos cpos:Pos} {T id:String}
noncomputable def LM(X:Cx)(r:rD):V->List V->Hp->VK->Prop:=fun x xs H Q=>∃px ps S Q3,Rep X.K H x px/\Reps X.K H xs ps/\FA X.K H S/\r px ps S Q3/\Kc X.K H Q3 Q
structure uy (X:Cx) (id:String) (r:rD):Prop where
 ok:Ar X id (LM X r)
def n5(T:String)(x:PV)(S:ay):Prop:=match x with
 | .str _=>T = "str"
 | .ref a=>(match S a with|some (.lst _)=>T = "list" | some (.dct _)=>T = "dict" | _=>False)
 | .cl _=>T = "list"
 |_=>False
def vy{H:Hp}{S:ay}{v:V}{p:PV}(rS:FA X.K H S)(r:Rep X.K H v p)(h:n5 T p S):Ds X.K T v H:=by
 cases r with
 |str x=>exact h
 |ref a=>
  unfold n5 at h
  simp only at h
  split at h
  ·rename_i e
   obtain⟨vs,hv,_⟩:=rS _ _ e
   exact .inl ⟨h,_,SqL.of hv⟩
  ·rename_i e
   obtain⟨vs,hv,_⟩:=rS _ _ e
   exact .inr (.inr (.inl ⟨h,.inl ⟨_,hv⟩⟩))
  ·exact h.elim
 |cl h1 _=>exact .inl ⟨h,_,h1.sq⟩
 |_=>exact h.elim
def d4(T:String)(r:rD)(to:aW)(ts:List aW):aW:=fun σ S Q E=>to σ S (fun x S1=>n5 T x S1/\ao ts σ S1 (fun ps S2=>r x ps S2 Q) E) E
def Ej{r:rD}(pa:PlainAttrs T)(slot:Slot T name id)(hty:typeOf (.builtin id)=pure (.type "method_descriptor"))(hm:uy X id r)(hs:starEach (e::es) X.env=(false,eval e X.env)::starEach es X.env)(ho:br X o to)(ha:kB X (e::es) ts)
  (hbase:attributeBase o name X.env (eval o X.env)=eval o X.env:=by rfl)
  (hfew:((backTo cpos (starEach (e::es) X.env)).all (fun x=>!x.1)&&(backToKw cpos (keywordEach [] X.env)).all (fun x=>x.1.isSome)
   && decide ((e::es).length+([]:List Keyword).length+(if ([]:List Keyword).isEmpty then 0 else 1) < 30))=true:=by rfl)
  (hline:(apos.endLine == cpos.line)=true:=by rfl) (hplain:(backTo cpos (starEach es X.env)).any (·.1)=false:=by rfl):br X (.Call (.Attribute o name apos) (e::es) [] cpos) (d4 T r to ts):=
 ⟨aX (Cj pa slot hty hm.ok ho.ok ha.ok hbase hfew hline hs hplain) fun σ H Q ⟨σ3,S,Q3,E3,rσ,rS,h,xo,k⟩=>⟨σ3,S,_,E3,rσ,rS,h,xo,fun x S1 v H1 h1 rx FI g1=>
  ⟨vy FI rx h1.1,cy (rσ.mono g1) FI h1.2 (xo.mono g1) fun ps S2 vs H2 hl q rv Hi g2=>⟨x,ps,S2,Q3,rx.mono g2,rv,Hi,q,k.mono (g1.trans g2)⟩⟩⟩⟩
def CF{r:rD}(pa:PlainAttrs T)(slot:Slot T name id)(hty:typeOf (.builtin id)=pure (.type "method_descriptor"))(hm:uy X id r)(ho:br X o to)
  (hbase:attributeBase o name X.env (eval o X.env)=eval o X.env:=by rfl) (hline:(apos.endLine == cpos.line)=true:=by rfl):br X (.Call (.Attribute o name apos) [] [] cpos) (d4 T r to []):=
 ⟨aX (Au pa slot hty hm.ok ho.ok hbase hline) fun σ H Q ⟨σ3,S,Q3,E3,rσ,rS,h,xo,k⟩=>⟨σ3,S,_,E3,rσ,rS,h,xo,fun x S1 v H1 h1 rx FI g1=>
  ⟨vy FI rx h1.1,⟨x,[],S1,Q3,rx,.nil,FI,h1.2,k.mono g1⟩⟩⟩⟩
def bh:rD:=fun x ps S Q=>match x,ps with
 | .ref a,[y]=>(match S a with|some (.lst xs)=>xs.length < sizeLine/\Q .non (Fr S a (.lst (xs++[y])))|_=>False)
 |_,_=>False
def cF:uy X "list.append" bh:=⟨fun pins s σ H x xs v us Q I rx rs ⟨px,ps,S,Q3,r1,rp,rS,q,k⟩=>by
 unfold bh at q
 split at q
 ·split at q
  ·rename_i e
   cases r1
   cases rp with
   |cons b rr=>
    cases rr
    obtain⟨vs,hv,rl⟩:=rS _ _ e
    exact tt pins s σ H _ _ v us Q I rx rs ⟨_,_,_,rfl,rfl,hv,by rw[rl.length];exact q.1,k _ _ _ _ q.2 .non (rS.put hv trivial ⟨_,aG,(rl.append (.cons b .nil)).mono (.mut hv trivial)⟩) (.mut hv trivial)⟩
  ·exact q.elim
 ·exact q.elim⟩
def aZ:rD:=fun x ps S Q=>match x,ps with
 | .ref a,[.ref b]=>(match S a,S b with|some (.lst xs),some (.lst ys)=>xs.length+ys.length<=sizeLine/\Q .non (Fr S a (.lst (xs++ys)))|_,_=>False)
 |_,_=>False
def d5:uy X "list.extend" aZ:=⟨fun pins s σ H x xs v us Q I rx rs ⟨px,ps,S,Q3,r1,rp,rS,q,k⟩=>by
 unfold aZ at q
 split at q
 ·split at q
  ·rename_i e e2
   cases r1
   cases rp with
   |cons b rr=>
    cases rr
    cases b
    obtain⟨vs,hv,rl⟩:=rS _ _ e
    obtain⟨us',hu,ru⟩:=rS _ _ e2
    exact tw pins s σ H _ _ v us Q I rx rs ⟨_,_,_,_,rfl,rfl,hv,hu,by rw[rl.length,ru.length];exact q.1,k _ _ _ _ q.2 .non (rS.put hv trivial ⟨_,aG,(rl.append ru).mono (.mut hv trivial)⟩) (.mut hv trivial)⟩
  ·exact q.elim
 ·exact q.elim⟩
def pN:rD:=fun x ps S Q=>match x,ps with
 | .ref a,[]=>(match S a with|some (.lst xs)=>(match xs[xs.length - 1]? with|some y=>Q y (Fr S a (.lst xs.dropLast))|none=>False)|_=>False)
 | .ref a,[.int i]=>(match S a with|some (.lst xs)=>-(2 ^ 63)<=i/\i < 2 ^ 63/\(match seqIndex? i xs.length with|some j=>(match xs[j]? with|some y=>Q y (Fr S a (.lst (xs.eraseIdx j)))|none=>False)|none=>False)|_=>False)
 |_,_=>False
def zk:uy X "list.pop" pN:=⟨fun pins s σ H x xs v us Q I rx rs ⟨px,ps,S,Q3,r1,rp,rS,q,k⟩=>by
 unfold pN at q
 split at q
 ·split at q
  ·rename_i e
   split at q
   ·rename_i ey
    cases r1
    cases rp
    obtain⟨vs,hv,rl⟩:=rS _ _ e
    rw[<-rl.length]at ey
    obtain⟨y',MQ,ry⟩:=rl.get ey
    exact Av pins s σ H _ _ v us Q I rx rs ⟨_,_,_,rfl,rfl,hv,MQ,k _ _ _ _ q (ry.mono (.mut hv trivial)) (rS.put hv trivial ⟨_,aG,rl.dropLast.mono (.mut hv trivial)⟩) (.mut hv trivial)⟩
   ·exact q.elim
  ·exact q.elim
 ·split at q
  ·rename_i e
   obtain⟨h1,h2,q⟩:=q
   split at q
   ·rename_i ej
    split at q
    ·rename_i ey
     cases r1
     cases rp with
     |cons b rr=>
      cases rr;cases b
      obtain⟨vs,hv,rl⟩:=rS _ _ e
      obtain⟨y',MQ,ry⟩:=rl.get ey
      rw[<-rl.length]at ej
      exact uT pins s σ H _ _ v us Q I rx rs ⟨_,_,_,_,_,rfl,rfl,hv,h1,h2,ej,MQ,k _ _ _ _ q (ry.mono (.mut hv trivial)) (rS.put hv trivial ⟨_,aG,(rl.eraseIdx _).mono (.mut hv trivial)⟩) (.mut hv trivial)⟩
    ·exact q.elim
   ·exact q.elim
  ·exact q.elim
 ·exact q.elim⟩
noncomputable def texts:List PV->Option (List Str)
 |[]=>some []
 | .str b::r=>(texts r).map (b::·)
 |_::_=>none
theorem lB{K:Vo}{H:Hp}:∀{vs:List V} {ps:List PV} {bs:Vs},Reps K H vs ps->texts ps=some bs->vs=bs.map V.str
 |_,_,_,.nil,h=>by cases h;rfl
 |_,_,bs,.cons (p:=p) a r,h=>by
  cases p with
  |str b=>
   cases a
   unfold texts at h
   cases e:texts _ with
   |none=>rw[e]at h;cases h
   |some l=>rw[e]at h;cases h;rw[lB r e];rfl
  |_=>cases h
def m8:rD:=fun x ps S Q=>match x,ps with
 | .str z,[.ref a]=>(match S a with|some (.lst xs)=>(match texts xs with|some ys=>(ys.map (·.length)).sum+ys.length * z.length<=1000000/\Q (.str (Txt.join z ys)) S|none=>False)|_=>False)
 |_,_=>False
def vz:uy X "str.join" m8:=⟨fun pins s σ H x xs v us Q I rx rs ⟨px,ps,S,Q3,r1,rp,rS,q,k⟩=>by
 unfold m8 at q
 split at q
 ·split at q
  ·rename_i e
   split at q
   ·rename_i et
    cases r1
    cases rp with
    |cons b rr=>
     cases rr;cases b
     obtain⟨vs,hv,rl⟩:=rS _ _ e
     have e2:=lB rl et
     subst e2
     exact xT pins s σ H _ _ v us Q I rx rs ⟨_,_,_,rfl,rfl,SqL.of hv,q.1,k _ S _ H q.2 (.str _) rS .refl⟩
   ·exact q.elim
  ·exact q.elim
 ·exact q.elim⟩
def jV:rD:=fun x ps S Q=>match x,ps with
 | .str a,[.str b]=>(match Builtin.Str.occurrences a b 0 a.length 1 with|i::_=>Q (.int i) S|[]=>False)
 |_,_=>False
def yg:uy X "str.index" jV:=⟨fun pins s σ H x xs v us Q I rx rs ⟨px,ps,S,Q3,r1,rp,rS,q,k⟩=>by
 unfold jV at q
 split at q
 ·split at q
  ·rename_i e
   cases r1
   cases rp with
   |cons b rr=>
    cases rr;cases b
    exact u7 pins s σ H _ _ v us Q I rx rs ⟨_,_,_,_,rfl,rfl,e,k _ S _ H q (.int _) rS .refl⟩
  ·exact q.elim
 ·exact q.elim⟩
end
section
variable {X:Cx} {e c:Expr} {te:aW} {st:Stmt} {rest a b:List Stmt} {t u:bB} {tc:jS} {pos:Pos}
def aL:bB:=fun D σ S=>D.nx σ S
def ai(t u:bB):bB:=fun D σ S=>t { D with nx:=u D } σ S
def aE:jT X [] aL:=⟨su w9 fun D σ H ⟨σ3,S,D3,rσ,rS,h,xo,n,r,bk,ct⟩=>n σ3 S σ H h rσ rS .refl⟩
def ae(h1:ss X st t)(h2:jT X rest u):jT X (st::rest) (ai t u):=
 ⟨su (uD h1.ok h2.ok) fun D σ H ⟨σ3,S,D3,rσ,rS,h,xo,n,r,bk,ct⟩=>⟨σ3,S,{ D3 with nx:=u D3 },rσ,rS,h,xo,fun σ4 S' σ' H' h' Ku Hx g=>⟨σ4,S',D3,Ku,Hx,h',xo.mono g,n.mono g,r.mono g,bk.mono g,ct.mono g⟩,r,bk,ct⟩⟩
def aj(h1:ss X st t):jT X [st] t:=⟨w_ h1.ok⟩
def aN(te:aW):bB:=fun D σ S=>te σ S (fun _ S1=>D.nx σ S1) D.ex
def bz(he:br X e te)(hs:swapsWith e none pos.line X.env=pure false:=by rfl):ss X (.Expr e pos) (aN te):=
 ⟨eP (xg he.ok hs) fun D σ H ⟨σ3,S,D3,rσ,rS,h,xo,n,r,bk,ct⟩=>⟨σ3,S,_,D3.ex,rσ,rS,h,xo,fun p S1 v H1 h1 rv FI g1=>n σ3 S1 σ H1 h1 (rσ.mono g1) FI g1⟩⟩
def au(te:aW):bB:=fun D σ S=>te σ S D.rt D.ex
def aq(he:br X e te):ss X (.Return (some e) pos) (au te):=
 ⟨eP (zU he.ok) fun D σ H ⟨σ3,S,D3,rσ,rS,h,xo,n,r,bk,ct⟩=>⟨σ3,S,D3.rt,D3.ex,rσ,rS,h,xo,r⟩⟩
def bt(c:jS)(t u:bB):bB:=fun D σ S=>c σ S (fun b S1=>if b=true then t D σ S1 else u D σ S1) D.ex
def aY(hc:rg X c tc)(ha:jT X a t)(hb:jT X b u):ss X (.If c a b pos) (bt tc t u):=
 ⟨eP (BW hc.ok ha.ok hb.ok) fun D σ H ⟨σ3,S,D3,rσ,rS,h,xo,n,r,bk,ct⟩=>⟨σ3,S,_,D3.ex,rσ,rS,h,xo,fun z S1 H1 h1 FI g1=>by
  cases z with
  |true=>rw[if_pos rfl]at h1 ⊢;exact⟨σ3,S1,D3,rσ.mono g1,FI,h1,xo.mono g1,n.mono g1,r.mono g1,bk.mono g1,ct.mono g1⟩
  |false=>rw[if_neg (by decide)]at h1 ⊢;exact⟨σ3,S1,D3,rσ.mono g1,FI,h1,xo.mono g1,n.mono g1,r.mono g1,bk.mono g1,ct.mono g1⟩⟩⟩
def av(i:Nat)(te:aW):bB:=fun D σ S=>te σ S (fun v S1=>D.nx (σ.set i (some v)) S1) D.ex
def vA{i:Nat}{D:qN}{σ:L2.St}{H:Hp}:LS X (av i te) D σ H->xq (LE X te) (pB i) D σ H:=fun⟨σ3,S,D3,rσ,rS,h,xo,n,r,bk,ct⟩=>
 ⟨σ3,S,_,D3.ex,rσ,rS,h,xo,fun p S1 v H1 h1 rv FI g1=>n _ S1 _ H1 h1 ((rσ.mono g1).set rv i) FI g1⟩
def CG{i:Nat}{x:Str}{pos':Pos}(hN:X.N.Nodup)(hi:X.N[i]?=some x)(hx:y8 X.env.scope x)(he:br X e te)(hs:swapsWith e (some (.Name x pos')) pos.line X.env=pure false:=by rfl)
  (hf:X.fn x=true\/X.env.scope.names.lookup x=some .local:=by first|exact .inl rfl|exact .inr rfl|assumption):ss X (.Assign [.Name x pos'] e pos) (av i te):=⟨eP (zZ hN hi hx he.ok hs hf) fun _ _ _=>vA⟩
def pO(i j:Nat)(ta tb:aW):bB:=fun D σ S=>ta σ S (fun v S1=>tb σ S1 (fun w S2=>D.nx ((σ.set i (some v)).set j (some w)) S2) D.ex) D.ex
def vB{i j:Nat}{x y:Str}{a b:Expr}{ta tb:aW}{px py pt:Pos}{kt k2 Ld}(hc:X.calm=true)(hN:X.N.Nodup)(hi:X.N[i]?=some x)(hj:X.N[j]?=some y)(hij:i≠j)
  (hx:X.env.scope.names.lookup x=some .local) (hy:X.env.scope.names.lookup y=some .local) (ha:kB X [a,b] [ta,tb])
  (hw:swappedStores [.Tuple [.Name x px,.Name y py] kt pt] (.Tuple [a,b] k2 Ld) X.env=pure (some [x,y]):=by rfl)
  (hs:swapsWithSole [.Tuple [.Name x px,.Name y py] kt pt] (.Tuple [a,b] k2 Ld) pos.line X.env=pure false:=by rfl) :
  ss X (.Assign [.Tuple [.Name x px,.Name y py] kt pt] (.Tuple [a,b] k2 Ld) pos) (pO i j ta tb):=
 ⟨eP (z_ hc hN hi hj hij hx hy ha.ok hw hs) fun D σ H ⟨σ3,S,D3,rσ,rS,h,xo,n,r,bk,ct⟩=>
  ⟨σ3,S,_,D3.ex,rσ,rS,h,xo,fun v S1 v' H1 h1 rv FI g1=>⟨σ3,S1,_,D3.ex,rσ.mono g1,FI,h1,xo.mono g1,fun w S2 w' H2 h2 rw' Hi g2=>
   ⟨v',w',rfl,n _ S2 _ H2 h2 (((rσ.mono (g1.trans g2)).set (rv.mono g2) i).set rw' j) Hi (g1.trans g2)⟩⟩⟩⟩
def lC(i j k:Nat)(te:aW):bB:=fun D σ S=>te σ S (fun p S1=>match p with | .tup [v,w,u]=>D.nx (((σ.set k (some u)).set j (some w)).set i (some v)) S1|_=>False) D.ex
def yh{i j k:Nat}{x y z:Str}{px py pz pt:Pos}{kt:Nat}(hc:X.calm=true)(hN:X.N.Nodup)(hi:X.N[i]?=some x)(hj:X.N[j]?=some y)(hk:X.N[k]?=some z)
  (hx:X.env.scope.names.lookup x=some .local) (hy:X.env.scope.names.lookup y=some .local) (hz:X.env.scope.names.lookup z=some .local) (he:br X e te)
  (hw:swappedStores [.Tuple [.Name x px,.Name y py,.Name z pz] kt pt] e X.env=pure (some [x,y,z]):=by rfl)
  (hs:swapsWithSole [.Tuple [.Name x px,.Name y py,.Name z pz] kt pt] e pos.line X.env=pure false:=by rfl):ss X (.Assign [.Tuple [.Name x px,.Name y py,.Name z pz] kt pt] e pos) (lC i j k te):=
 ⟨eP (u8 hc hN hi hj hk hx hy hz he.ok hw hs) fun D σ H ⟨σ3,S,D3,rσ,rS,h,xo,n,r,bk,ct⟩=>⟨σ3,S,_,D3.ex,rσ,rS,h,xo,fun p S1 v H1 h1 rv FI g1=>by
  dsimp only at h1
  split at h1
  ·cases rv with
   |tup hq rs=>
    cases rs with
    |cons r1 rs=>
     cases rs with
     |cons r2 rs=>
      cases rs with
      |cons r3 rs=>
       cases rs
       exact⟨_,_,_,_,rfl,hq,n _ S1 _ H1 h1 ((((rσ.mono g1).set r3 k).set r2 j).set r1 i) FI g1⟩
  ·exact h1.elim⟩⟩
inductive Tg where
 |n (i:Nat)|tp (l:Tg)|nil|cons (a r:Tg)
mutual
noncomputable def Tg.put:Tg->PV->cC->Option cC
 | .n i,p,σ=>some (σ.set i (some p))
 | .tp l,.tup xs,σ=>l.Fx xs σ
 |_,_,_=>none
noncomputable def Tg.Fx:Tg->List PV->cC->Option cC
 | .nil,[],σ=>some σ
 | .cons a r,x::xs,σ=>(match a.put x σ with|some σ'=>r.Fx xs σ'|none=>none)
 |_,_,_=>none
end
noncomputable def Tg.len:Tg->Nat
 | .cons _ r=>r.len+1
 |_=>0
mutual
noncomputable def Tg.g2(K:Vo):Tg->TG
 | .n i=>pB i
 | .tp l=>BZ K l.len (l.KU K)
 |_=>fun _ _ _ _=>False
noncomputable def Tg.KU(K:Vo):Tg->y9
 | .nil=>BY
 | .cons a r=>y_ (a.g2 K) (r.KU K)
 |_=>fun _ _ _ _=>False
end
noncomputable def Tg.under(own:Nat):Tg->Bool
 | .n i=>decide (i < own)
 | .tp l=>l.under own
 | .nil=>true
 | .cons a r=>a.under own&&r.under own
theorem Tg.FK:∀(g:Tg) {ps:List PV} {σ3 σ4:cC},g.Fx ps σ3=some σ4->ps.length=g.len
 | .nil,ps,σ3,σ4,h=>by
  cases ps with
  |nil=>rfl
  |cons _ _=>unfold Tg.Fx at h;cases h
 | .cons a r,ps,σ3,σ4,h=>by
  cases ps with
  |nil=>unfold Tg.Fx at h;cases h
  |cons x xs=>
   unfold Tg.Fx at h
   split at h
   ·rw[List.length_cons,Tg.FK r h];rfl
   ·cases h
 | .n _,ps,σ3,σ4,h=>by unfold Tg.Fx at h;cases h
 | .tp _,ps,σ3,σ4,h=>by unfold Tg.Fx at h;cases h
mutual
theorem Tg.JG{K:Vo}{H:Hp}{own:Nat}:∀(g:Tg) {v:V} {p:PV} {σ:L2.St} {σ3 σ4:cC} {Q:L2.St->Hp->Prop},Rep K H v p->FF K H σ σ3->g.put p σ3=some σ4->(∀σ',FF K H σ' σ4->(g.under own=true->σ'.drop own=σ.drop own)->Q σ' H)->g.g2 K v σ H Q
 | .n i,v,p,σ,σ3,σ4,Q,r,rσ,h,k=>by
  unfold Tg.put at h
  cases h
  unfold Tg.g2
  refine k _ (rσ.set r i) fun hb=>?_
  have hi:i < own:=of_decide_eq_true hb
  rw[List.drop_set]
  rw[if_pos hi]
 | .tp l,v,p,σ,σ3,σ4,Q,r,rσ,h,k=>by
  cases p with
  |tup xs=>
   unfold Tg.put at h
   cases r with
   |tup hq rs=>
    have hg:=Tg.JV (own:=own) l rs rσ h k
    unfold Tg.g2
    exact⟨_,_,rfl,hq,rs.length.trans (Tg.FK l h),hg⟩
  |_=>unfold Tg.put at h;cases h
 | .nil,v,p,σ,σ3,σ4,Q,r,rσ,h,k=>by unfold Tg.put at h;cases h
 | .cons _ _,v,p,σ,σ3,σ4,Q,r,rσ,h,k=>by unfold Tg.put at h;cases h
theorem Tg.JV{K:Vo}{H:Hp}{own:Nat}:∀(g:Tg) {vs:List V} {ps:List PV} {σ:L2.St} {σ3 σ4:cC} {Q:L2.St->Hp->Prop},Reps K H vs ps->FF K H σ σ3->g.Fx ps σ3=some σ4->(∀σ',FF K H σ' σ4->(g.under own=true->σ'.drop own=σ.drop own)->Q σ' H)->g.KU K vs σ H Q
 | .nil,vs,ps,σ,σ3,σ4,Q,r,rσ,h,k=>by
  cases ps with
  |nil=>
   unfold Tg.Fx at h
   cases h
   cases r
   unfold Tg.KU
   exact⟨rfl,k _ rσ fun _=>rfl⟩
  |cons _ _=>unfold Tg.Fx at h;cases h
 | .cons a r',vs,ps,σ,σ3,σ4,Q,r,rσ,h,k=>by
  cases ps with
  |nil=>unfold Tg.Fx at h;cases h
  |cons x xs=>
   unfold Tg.Fx at h
   split at h
   ·rename_i σ5 e5
    cases r with
    |cons r1 r2=>
     unfold Tg.KU
     refine⟨_,_,rfl,Tg.JG (own:=own) a r1 rσ e5 fun σ' Ku d1=>Tg.JV (own:=own) r' r2 Ku h fun Ox MR d2=>k Ox MR fun hb=>?_⟩
     have hb':a.under own=true/\r'.under own=true:=by simpa [Tg.under]using hb
     rw[d2 hb'.2,d1 hb'.1]
   ·cases h
 | .n _,vs,ps,σ,σ3,σ4,Q,r,rσ,h,k=>by unfold Tg.Fx at h;cases h
 | .tp _,vs,ps,σ,σ3,σ4,Q,r,rσ,h,k=>by unfold Tg.Fx at h;cases h
end
structure yi (X:Cx) (e:Expr) (g:Tg):Prop where
 ok:PG X e (g.g2 X.K)
structure yj (X:Cx) (es:List Expr) (g:Tg):Prop where
 ok:BX X es (g.KU X.K)
 len:(assignEach es X.env).length=g.len
def Fd(i:Nat){x:Str}(hN:X.N.Nodup)(hi:X.N[i]?=some x)(hx:y8 X.env.scope x)(hf:X.fn x=true\/X.env.scope.names.lookup x=some .local:=by first|exact .inl rfl|exact .inr rfl|assumption):yi X (.Name x pos) (.n i):=⟨by
 have h:=xi (pos:=pos) hN hi hx hf
 unfold Tg.g2
 exact h⟩
def dA:yj X [] .nil:=⟨by unfold Tg.KU;exact xj,rfl⟩
def aM{es:List Expr}{a r:Tg}(h1:yi X e a)(h2:yj X es r)(hs:(assignEach (e::es) X.env).map (·.2)=assign e X.env::(assignEach es X.env).map (·.2):=by rfl)(hl:(assignEach (e::es) X.env).length=(assignEach es X.env).length+1:=by rfl):yj X (e::es) (.cons a r):=
 ⟨by unfold Tg.KU;exact uE h1.ok h2.ok hs,by rw[hl,h2.len];rfl⟩
def pP{es:List Expr}{k:Nat}{l:Tg}(hc:X.calm=true)(h:yj X es l)(hst:(assignEach es X.env).findIdx? (·.1)=none:=by rfl):yi X (.Tuple es k pos) (.tp l):=⟨by
 have h:=zW (pos:=pos) (k:=k) hc h.ok h.len hst
 unfold Tg.g2
 exact h⟩
end
noncomputable def n_{κ:Type} [DecidableEq κ](kvs:List (κ×PV))(k:κ)(v:PV):List (κ×PV):=
 if (kvs.any fun kv=>decide (kv.1=k))=true then kvs.map (fun kv=>if kv.1=k then (kv.1,v) else kv) else kvs++[(k,v)]
theorem FW.append{K:Vo}{H:Hp}{κ:Type}:∀{vs us:List (κ×V)} {ps qs:List (κ×PV)},FW K H vs ps->FW K H us qs->FW K H (vs++us) (ps++qs)
 |_,_,_,_,.nil,s=>s
 |_,_,_,_,.cons a r,s=>.cons a (FW.append r s)
def FW.put{K:Vo}{H:Hp}{κ:Type} [DecidableEq κ]{k:κ}{v:V}{p:PV}(q:Rep K H v p){vs:List (κ×V)}{ps:List (κ×PV)}(r:FW K H vs ps):FW K H (gw vs k v) (n_ ps k p):=by
 have e:(vs.any fun kv=>decide (kv.1=k))=(ps.any fun kv=>decide (kv.1=k)):=by rw[lm,r.any]
 unfold gw n_
 rw[e]
 split
 ·clear e
  rename_i h
  clear h
  induction r with
  |nil=>exact .nil
  |@cons k' v' p' vs' ps' a r ih=>
   rw[List.map_cons,List.map_cons]
   by_cases z:k'=k
   ·rw[if_pos z,if_pos z];exact .cons q ih
   ·rw[if_neg z,if_neg z];exact .cons a ih
 ·exact r.append (.cons q .nil)
def jW(o i v:PV)(S:ay)(Q:ay->Prop):Prop:=match o with
 | .ref a=>(match S a with
  |some (.lst xs)=>(match i with | .int k=>(match qU xs.length k with|some j=>Q (Fr S a (.lst (xs.set j v)))|none=>False)|_=>False)
  |some (.dct kvs)=>(match nZ i with|some k=>kvs.length < sizeLine/\Q (Fr S a (.dct (n_ kvs k v)))|none=>False)
  |_=>False)
 |_=>False
section
variable {X:Cx} {e o i:Expr} {te to ti:aW} {pos pos':Pos}
noncomputable def Ek(X:Cx):V->V->V->Hp->(Hp->Prop)->Prop:=fun o i v H Q=>∃po pi pv S Q3,Rep X.K H o po/\Rep X.K H i pi/\Rep X.K H v pv/\FA X.K H S/\jW po pi pv S Q3/\∀S' H',Q3 S'->FA X.K H' S'->Grow X.K H H'->Q H'
def AR(hu:X.A.units+1 < cLine):xh X (Ek X):=by
 intro pins s σ H o i v ov iv u Q I ro ri rv ⟨po,pi,pv,S,Q3,r1,r2,r3,rS,q,k⟩
 unfold jW at q
 split at q
 ·split at q
  ·rename_i e
   split at q
   ·split at q
    ·rename_i ej
     cases r1;cases r2
     obtain⟨vs,hv,rl⟩:=rS _ _ e
     rw[<-rl.length]at ej
     exact uR pins s σ H _ _ _ ov iv u Q I ro ri rv ⟨_,_,_,_,rfl,rfl,hv,ej,k _ _ q (rS.put hv trivial ⟨_,aG,((rl.set r3 _).mono (.mut hv trivial))⟩) (.mut hv trivial)⟩
    ·exact q.elim
   ·exact q.elim
  ·rename_i e
   split at q
   ·rename_i ek
    cases r1
    have e1:=eO r2 ek
    subst e1
    obtain⟨kv,hv,rk⟩:=rS _ _ e
    exact vo hu pins s σ H _ _ _ ov iv u Q I ro ri rv ⟨_,_,rfl,Ki.k hv (by rw[rk.length];exact q.1),k _ _ q.2 (rS.put hv trivial ⟨_,aG,(rk.put r3).mono (.mut hv trivial)⟩) (.mut hv trivial)⟩
   ·exact q.elim
  ·exact q.elim
 ·exact q.elim
def mz(te to ti:aW):bB:=fun D σ S=>te σ S (fun v S1=>to σ S1 (fun o S2=>ti σ S2 (fun i S3=>jW o i v S3 (fun S4=>D.nx σ S4)) D.ex) D.ex) D.ex
def m9(hu:X.A.units+1 < cLine)(he:br X e te)(ho:br X o to)(hi:br X i ti)
  (ha:∀v,assign (.Subscript o i pos') X.env v=(do
   let ov <-holding [v] (eval o X.env)
   let iv <-holding [v,ov] (eval i X.env)
   standAt pos'
   holding [v,ov,iv] (setItem ov iv v)
   release [v,ov,iv] []):=by intro _;rfl)
  (hs:swapsWithSole [.Subscript o i pos'] e pos.line X.env=pure false:=by rfl) (hw:swappedStores [.Subscript o i pos'] e X.env=pure none:=by rfl)
  (h1:(assignEach [.Subscript o i pos'] X.env).map (·.2)=[assign (.Subscript o i pos') X.env]:=by rfl):ss X (.Assign [.Subscript o i pos'] e pos) (mz te to ti):=
 ⟨eP (zY he.ok (zX ho.ok hi.ok (AR hu) ha) hs hw h1) fun D σ H ⟨σ3,S,D3,rσ,rS,h,xo,n,r,bk,ct⟩=>⟨σ3,S,_,D3.ex,rσ,rS,h,xo,fun v S1 v' H1 h1 rv FI g1=>
  ⟨σ3,S1,_,D3.ex,rσ.mono g1,FI,h1,xo.mono g1,fun o S2 o' H2 h2 ro Hi g2=>⟨σ3,S2,_,D3.ex,rσ.mono (g1.trans g2),Hi,h2,xo.mono (g1.trans g2),fun i S3 i' H3 h3 ri KE g3=>
   ⟨o,i,v,S3,_,ro.mono g3,ri,rv.mono (g2.trans g3),KE,h3,fun S4 H4 h4 Oy g4=>n _ S4 _ H4 h4 (rσ.mono (g1.trans (g2.trans (g3.trans g4)))) Oy (g1.trans (g2.trans (g3.trans g4)))⟩⟩⟩⟩⟩
end
end L3
namespace L2
open PySem PySem.Spec PyProof.Rows
section
variable {X:Cx} {tg:Expr}
def El(K:Vo)(tl:TE):TI:=fun σ H R=>tl σ H fun x H1=>(∃a,x = .ref a/\(∃xs,SqL K H1 a xs)/\R (Do K a) H1)\/(∃a,x = .ref a/\(∃xs,SqT K H1 a xs)/\R (DP K a) H1)\/∃z,x = .str z/\R (Ea z) H1
def AS{l:Expr}{tl:TE}(hl:PE X l tl):PI X tg l (El X.K tl):=by
 intro pins s σ H R I h
 refine Fw (hl pins s σ H _ I h) fun v s1 ⟨x,H1,I1,r1,q1⟩=>?_
 rcases q1 with⟨a,e,⟨xs,hq⟩,q⟩|⟨a,e,⟨xs,hq⟩,q⟩|⟨z,e,q⟩
 ·subst e
  cases r1
  obtain⟨its,rv,p,hz⟩:=I1.list hq
  refine wpAny_pyIter_list p.isList ?_
  refine⟨s1.heap.objs.size,[s1.heap.objs.size],_,_,H1,rfl,I1.kept (t':=s1.toks) fun b o e=>Heap.get?_push_of_some _ e,sY a _,⟨_,Heap.get?_push_size _ rfl,rfl,rfl⟩,fun b hb=>?_,q⟩
  have e:b=s1.heap.objs.size:=by simpa using hb
  subst e
  exact I1.HR (Nat.le_refl _) (I1.hok.fresh (Nat.le_refl _))
 ·subst e
  cases r1
  obtain⟨its,rv,p,hz⟩:=I1.tuple hq
  refine wpAny_pyIter_tuple (show s1.heap.IsTuple a its.toArray from p) ?_
  refine⟨s1.heap.objs.size,[s1.heap.objs.size],_,_,H1,rfl,I1.kept (t':=s1.toks) fun b o e=>Heap.get?_push_of_some _ e,qO a _,⟨_,Heap.get?_push_size _ rfl,rfl,rfl⟩,fun b hb=>?_,q⟩
  have e:b=s1.heap.objs.size:=by simpa using hb
  subst e
  exact I1.HR (Nat.le_refl _) (I1.hok.fresh (Nat.le_refl _))
 ·subst e
  obtain⟨t,rfl⟩:=r1
  have fin:∀ty,(ty = "str_ascii_iterator" \/ ty = "str_iterator")->DO X pins σ tg R (.ref s1.heap.objs.size) { s1 with heap:=s1.heap.push { cls:=.type ty,data:=.fields #[.str z t,.int 0 0] } }:=fun ty hty=>by
   refine⟨s1.heap.objs.size,[s1.heap.objs.size],_,_,H1,rfl,I1.kept (t':=s1.toks) fun b o e=>Heap.get?_push_of_some _ e,u6 hty _ z t,⟨Nat.zero_le _,_,Heap.get?_push_size _ rfl,rfl,rfl⟩,fun b hb=>?_,q⟩
   have e:b=s1.heap.objs.size:=by simpa using hb
   subst e
   exact I1.HR (Nat.le_refl _) (I1.hok.fresh (Nat.le_refl _))
  cases ha:z.cps.all (· < 128)
  ·exact wpAny_pyIter_wide ha (fin _ (.inr rfl))
  ·exact wpAny_pyIter_ascii ha (fin _ (.inl rfl))
def AT(K:Vo)(ta:TA):TI:=fun σ H R=>ta σ H fun vs H1=>∃a,vs=[.ref a]/\(((∃xs,SqL K H1 a xs)/\R (Ee K a) H1)\/((∃xs,SqT K H1 a xs)/\R (Ef K a) H1))
def vC{elts:List Expr}{k0:Nat}{GO:Pos}{a:Expr}{ta:TA}{p pos:Pos}(hg:Gl X "enumerate")(hm:X.mg "enumerate" = none)(hv:bootBuiltins "enumerate" = some (.type "enumerate"))(ha:PA X [a] ta)
  (hs:starEach [a] X.env=[(false,eval a X.env)]:=by rfl):PI X (.Tuple elts k0 GO) (.Call (.Name "enumerate" p) [a] [] pos) (AT X.K ta):=by
 intro pins s σ H R I h
 refine Call_ (fA I hg hm hv (PyProof.Rows.callWith_type1 (Fw (ha pos pins s σ H _ I h) fun us s1 ⟨vs,H1,I1,r1,q1⟩=>?_) hs rfl))
 obtain⟨a,e,q⟩:=q1
 subst e
 obtain⟨u,rfl,ru⟩:=gj r1
 cases ru
 rcases q with⟨⟨xs,qa⟩,q⟩|⟨⟨xs,qa⟩,q⟩
 ·obtain⟨ia,ra,pa,za⟩:=I1.list qa
  refine call_enumerate_list pa.isList fun g ge g1 gz kk=>?_
  refine wpAny_pyIter_enum (s:={ s1 with heap:=g }) ge ?_
  refine⟨_,[s1.heap.objs.size+1,s1.heap.objs.size],_,_,H1,rfl,I1.kept (t':=s1.toks) kk,tM (Nat.succ_ne_self _),⟨⟨_,ge⟩,g1⟩,fun c hc=>?_,q⟩
  have hle:s1.heap.objs.size<=c:=by
   simp only[List.mem_cons,List.not_mem_nil,or_false]at hc
   rcases hc with rfl|rfl
   ·exact Nat.le_add_right _ _
   ·exact Nat.le_refl _
  exact I1.HR hle (I1.hok.fresh hle)
 ·obtain⟨ia,ra,pa,za⟩:=I1.tuple qa
  have la:a < s1.heap.objs.size:=by obtain⟨o,e,_⟩:=pa;exact Heap.lt_size e
  refine Et.gy (show s1.heap.IsTuple a ia.toArray from pa) fun g ge g1 kk=>?_
  refine wpAny_pyIter_enum (s:={ s1 with heap:=g }) ge ?_
  refine⟨_,[s1.heap.objs.size+1,s1.heap.objs.size],_,_,H1,rfl,I1.kept (t':=s1.toks) kk,q_ (Nat.succ_ne_self _) (Nat.ne_of_lt (Nat.lt_succ_of_lt la)) (Nat.ne_of_lt la),⟨⟨_,ge⟩,g1⟩,fun c hc=>?_,q⟩
  have hle:s1.heap.objs.size<=c:=by
   simp only[List.mem_cons,List.not_mem_nil,or_false]at hc
   rcases hc with rfl|rfl
   ·exact Nat.le_add_right _ _
   ·exact Nat.le_refl _
  exact I1.HR hle (I1.hok.fresh hle)
end
end L2
namespace L3
open PySem L2
structure Dx where
 items:List PV
 keep:ay->Prop
def iG(K:Vo)(H0:Hp)(J:It)(src:Dx):Prop:=∀(i:Nat) (S:ay) (H:Hp),Grow K H0 H->FA K H S->src.keep S->
 (∀p,src.items[i]?=some p->J.go i H/\∀x H',J.Mb i H x H'->Rep K H' x p/\FA K H' S/\Grow K H H')/\(i=src.items.length->J.stop i H)
abbrev tR:=cC->ay->(Dx->ay->Prop)->bZ->Prop
def LI(X:Cx)(t:tR):TI:=fun σ H R=>∃σ3 S R3 E3,FF X.K H σ σ3/\FA X.K H S/\t σ3 S R3 E3/\Kb X H E3/\∀src S' J H',R3 src S'->iG X.K H' J src->FA X.K H' S'->Grow X.K H H'->R J H'
structure vD (X:Cx) (tg iter:Expr) (t:tR):Prop where
 ok:PI X tg iter (LI X t)
def jX{X:Cx}{tg iter:Expr}{t t':TI}(h:PI X tg iter t)(k:∀σ H R,t' σ H R->t σ H R):PI X tg iter t':=fun pins s σ H R I q=>h pins s σ H R I (k σ H R q)
section
variable {X:Cx} {e tg:Expr} {es:List Expr} {te:aW} {ts:List aW} {p pos:Pos}
noncomputable def bT(S:ay):PV->Option Dx
 | .tup xs=>some ⟨xs,fun _=>True⟩
 | .cl xs=>some ⟨xs,fun _=>True⟩
 | .str z=>some ⟨z.cps.toList.map fun c=>.str (nR c),fun _=>True⟩
 | .ref a=>(match S a with|some (.lst xs)=>some ⟨xs,fun S'=>S' a=some (.lst xs)⟩|_=>none)
 |_=>none
def aO(te:aW):tR:=fun σ S R E=>te σ S (fun v S1=>match bT S1 v with|some src=>R src S1|none=>False) E
end
section
variable {X:Cx} {e tg a b:Expr} {es:List Expr} {te ta tb:aW} {ts:List aW} {p pos:Pos}
def vE{K:Vo}{H0:Hp}{a:Addr}{xs:List PV}:iG K H0 (Do K a) ⟨xs,fun S'=>S' a=some (.lst xs)⟩:=by
 intro i S H g rS hk
 obtain⟨vs,hv,rs⟩:=rS a _ hk
 refine⟨fun p hp=>?_,fun hi=>⟨vs,SqL.of hv,by rw[rs.length,hi];exact Nat.le_refl _⟩⟩
 obtain⟨v,hx,rv⟩:=rs.get hp
 refine⟨⟨vs,v,SqL.of hv,hx⟩,fun x H' ⟨e,h⟩=>?_⟩
 subst e
 have:=h vs (SqL.of hv)
 rw[hx]at this
 cases this
 exact⟨rv,rS,.refl⟩
def yk{K:Vo}{H0:Hp}{a:Addr}{vs:List V}{xs:List PV}(h:SqT K H0 a vs)(rs:Reps K H0 vs xs):iG K H0 (DP K a) ⟨xs,fun _=>True⟩:=by
 intro i S H g rS _
 have hv:=g.t _ _ h
 refine⟨fun p hp=>?_,fun hi=>⟨vs,hv,by rw[rs.length,hi];exact Nat.le_refl _⟩⟩
 obtain⟨v,hx,rv⟩:=rs.get hp
 refine⟨⟨vs,v,hv,hx⟩,fun x H' ⟨e,h⟩=>?_⟩
 subst e
 have:=h vs hv
 rw[hx]at this
 cases this
 exact⟨rv.mono g,rS,.refl⟩
def AU{K:Vo}{H0:Hp}{a:Addr}{vs:List V}{xs:List PV}(h:LA K H0 a vs)(rs:Reps K H0 vs xs):iG K H0 (Do K a) ⟨xs,fun _=>True⟩:=by
 intro i S H g rS _
 have hv:=(g.c _ _ h).sq
 refine⟨fun p hp=>?_,fun hi=>⟨vs,hv,by rw[rs.length,hi];exact Nat.le_refl _⟩⟩
 obtain⟨v,hx,rv⟩:=rs.get hp
 refine⟨⟨vs,v,hv,hx⟩,fun x H' ⟨e,h⟩=>?_⟩
 subst e
 have:=h vs hv
 rw[hx]at this
 cases this
 exact⟨rv.mono g,rS,.refl⟩
def ym{K:Vo}{H0:Hp}{z:Str}:iG K H0 (Ea z) ⟨z.cps.toList.map fun c=>.str (nR c),fun _=>True⟩:=by
 intro i S H g rS _
 refine⟨fun p hp=>?_,fun hi=>by show z.cps.size<=i;rw[hi,List.length_map,Array.length_toList];exact Nat.le_refl _⟩
 rw[List.getElem?_map]at hp
 cases hc:z.cps.toList[i]? with
 |none=>rw[hc]at hp;cases hp
 |some c=>
  rw[hc]at hp
  cases hp
  have hc':z.cps[i]?=some c:=by simpa using hc
  refine⟨?_,fun x H' ⟨e,c',h1,h2⟩=>?_⟩
  ·show i < z.cps.size
   by_cases hi:i < z.cps.size
   ·exact hi
   ·rw[Array.getElem?_eq_none (by omega)]at hc';cases hc'
  ·subst e
   rw[hc']at h1
   cases h1
   subst h2
   exact⟨.str _,rS,.refl⟩
def bU(he:br X e te):vD X tg e (aO te):=⟨jX (AS he.ok) fun σ H R ⟨σ3,S,R3,E3,rσ,rS,h,xo,k⟩=>⟨σ3,S,_,E3,rσ,rS,h,xo,fun v S1 v' H1 h1 rv FI g1=>by
 dsimp only at h1
 split at h1
 ·rename_i src hs
  unfold bT at hs
  split at hs
  ·cases hs
   cases rv with
   |tup hq rs=>exact .inr (.inl ⟨_,rfl,⟨_,hq⟩,k _ S1 _ H1 h1 (yk hq rs) FI g1⟩)
  ·cases hs
   cases rv with
   |cl hq rs=>exact .inl ⟨_,rfl,⟨_,hq.sq⟩,k _ S1 _ H1 h1 (AU hq rs) FI g1⟩
  ·cases hs
   cases rv
   exact .inr (.inr ⟨_,rfl,k _ S1 _ H1 h1 ym FI g1⟩)
  ·cases rv
   split at hs
   ·rename_i ea
    cases hs
    obtain⟨vs,hv,rs⟩:=FI _ _ ea
    exact .inl ⟨_,rfl,⟨_,SqL.of hv⟩,k _ S1 _ H1 h1 vE FI g1⟩
   ·cases hs
  ·cases hs
 ·exact h1.elim⟩⟩
noncomputable def bV(lo:Int)(n:Nat):List PV:=(List.range n).map fun(i:Nat)=>PV.int (lo+i)
def tS{K:Vo}{H0:Hp}{lo:Int}{n:Nat}:iG K H0 (Dp lo n) ⟨bV lo n,fun _=>True⟩:=by
 intro i S H g rS _
 refine⟨fun p hp=>?_,fun hi=>by show n<=i;rw[hi];simp[bV]⟩
 unfold bV at hp
 rw[List.getElem?_map]at hp
 by_cases hi:i < n
 ·rw[List.getElem?_range hi]at hp
  cases hp
  refine⟨hi,fun x H' ⟨e,h⟩=>?_⟩
  subst e h
  exact⟨.int _,rS,.refl⟩
 ·rw[List.getElem?_eq_none (by simpa using hi)]at hp
  cases hp
def jY(ta:aW):tR:=fun σ S R E=>ta σ S (fun v S1=>match v with | .int j=>-(2 ^ 62)<=j/\j < 2 ^ 62/\R ⟨bV 0 j.toNat,fun _=>True⟩ S1|_=>False) E
def fk(hs:starEach [a] X.env=[(false,eval a X.env)])(hg:Gl X "range")(hm:X.mg "range" = none)(ha:kB X [a] [ta]):vD X tg (.Call (.Name "range" p) [a] [] pos) (jY ta):=
 ⟨jX (sZ hg hm ha.ok hs) fun σ H R ⟨σ3,S,R3,E3,rσ,rS,h,xo,k⟩=>⟨σ3,S,_,E3,rσ,rS,h,xo,fun v S1 v' H1 h1 rv FI g1=>by
  dsimp only at h1
  split at h1
  ·cases rv
   exact⟨_,rfl,h1.1,h1.2.1,k _ S1 _ H1 h1.2.2 tS FI g1⟩
  ·exact h1.elim⟩⟩
noncomputable def aK(xs:List PV):List PV:=xs.mapIdx fun i x=>.tup [.int i,x]
def tT{K:Vo}{H0:Hp}{a:Addr}{xs:List PV}:iG K H0 (Ee K a) ⟨aK xs,fun S'=>S' a=some (.lst xs)⟩:=by
 intro i S H g rS hk
 obtain⟨vs,hv,rs⟩:=rS a _ hk
 refine⟨fun p hp=>?_,fun hi=>⟨vs,SqL.of hv,by rw[rs.length,hi];simp[aK]⟩⟩
 unfold aK at hp
 rw[List.getElem?_mapIdx]at hp
 cases hx:xs[i]? with
 |none=>rw[hx]at hp;cases hp
 |some y=>
  rw[hx]at hp
  cases hp
  obtain⟨v,hx',rv⟩:=rs.get hx
  refine⟨⟨vs,v,SqL.of hv,hx'⟩,fun x H' ⟨q,x2,e1,hq,e2,h⟩=>?_⟩
  subst e1 e2
  have:=h vs (SqL.of hv)
  rw[hx']at this
  cases this
  exact⟨.tup (SqT.of aG) (.cons (.int _) (.cons (rv.mono (.new hq)) .nil)),rS.other hq,.new hq⟩
def tU{K:Vo}{H0:Hp}{a:Addr}{vs:List V}{xs:List PV}(h0:SqT K H0 a vs)(rs:Reps K H0 vs xs):iG K H0 (Ef K a) ⟨aK xs,fun _=>True⟩:=by
 intro i S H g rS _
 have hv:=g.t _ _ h0
 refine⟨fun p hp=>?_,fun hi=>⟨vs,hv,by rw[rs.length,hi];simp[aK]⟩⟩
 unfold aK at hp
 rw[List.getElem?_mapIdx]at hp
 cases hx:xs[i]? with
 |none=>rw[hx]at hp;cases hp
 |some y=>
  rw[hx]at hp
  cases hp
  obtain⟨v,hx',rv⟩:=rs.get hx
  refine⟨⟨vs,v,hv,hx'⟩,fun x H' ⟨q,x2,e1,hq,e2,h⟩=>?_⟩
  subst e1 e2
  have:=h vs hv
  rw[hx']at this
  cases this
  exact⟨.tup (SqT.of aG) (.cons (.int _) (.cons ((rv.mono g).mono (.new hq)) .nil)),rS.other hq,.new hq⟩
def dB(ta:aW):tR:=fun σ S R E=>ta σ S (fun v S1=>match v with
 | .tup xs=>R ⟨aK xs,fun _=>True⟩ S1
 | .ref a=>(match S1 a with|some (.lst xs)=>R ⟨aK xs,fun S'=>S' a=some (.lst xs)⟩ S1|_=>False)
 |_=>False) E
def iS{elts:List Expr}{k0:Nat}{GO:Pos}(hs:starEach [a] X.env=[(false,eval a X.env)])(hg:Gl X "enumerate")(hm:X.mg "enumerate" = none)(hv:bootBuiltins "enumerate" = some (.type "enumerate"))(ha:kB X [a] [ta]):vD X (.Tuple elts k0 GO) (.Call (.Name "enumerate" p) [a] [] pos) (dB ta):=
 ⟨jX (vC hg hm hv ha.ok hs) fun σ H R ⟨σ3,S,R3,E3,rσ,rS,h,xo,k⟩=>⟨σ3,S,_,E3,rσ,rS,h,xo,fun v S1 v' H1 h1 rv FI g1=>by
  dsimp only at h1
  split at h1
  ·cases rv with
   |tup hq rs=>exact⟨_,rfl,.inr ⟨⟨_,hq⟩,k _ S1 _ H1 h1 (tU hq rs) FI g1⟩⟩
  ·cases rv
   split at h1
   ·rename_i ea
    obtain⟨vs,hv,rs⟩:=FI _ _ ea
    exact⟨_,rfl,.inl ⟨⟨_,SqL.of hv⟩,k _ S1 _ H1 h1 tT FI g1⟩⟩
   ·exact h1.elim
  ·exact h1.elim⟩⟩
noncomputable def bu(xs ys:List PV):List PV:=(xs.zip ys).map fun z=>.tup [z.1,z.2]
def J6(K:Vo)(H0:Hp)(ka:Bool)(a:Addr)(xs:List PV)(keep:ay->Prop):Prop:=∀S H,Grow K H0 H->FA K H S->keep S->∃vs,lv ka K H a vs/\Reps K H vs xs
def J6.tup{K:Vo}{H0:Hp}{a:Addr}{vs:List V}{xs:List PV}{keep:ay->Prop}(h:SqT K H0 a vs)(r:Reps K H0 vs xs):J6 K H0 false a xs keep:=fun _ _ g _ _=>⟨vs,g.t _ _ h,r.mono g⟩
theorem J6.lst{K:Vo}{H0:Hp}{a:Addr}{xs:List PV}{keep:ay->Prop}(h:∀S,keep S->S a=some (.lst xs)):J6 K H0 true a xs keep:=fun S _ _ rS k=>let ⟨vs,hv,r⟩:=rS _ _ (h S k);⟨vs,SqL.of hv,r⟩
def jj{K:Vo}{H0:Hp}{ka kb:Bool}{a b:Addr}{xs ys:List PV}{keep:ay->Prop}(h1:J6 K H0 ka a xs keep)(h2:J6 K H0 kb b ys keep):iG K H0 (Ec ka kb K a b) ⟨bu xs ys,keep⟩:=by
 intro i S H g rS kp
 obtain⟨vs,hv,r1⟩:=h1 S H g rS kp
 obtain⟨us,hu,r2⟩:=h2 S H g rS kp
 have l1:=r1.length
 have l2:=r2.length
 refine⟨fun p hp=>?_,fun hi=>⟨vs,us,hv,hu,?_⟩⟩
 ·unfold bu at hp
  rw[List.getElem?_map]at hp
  cases hz:(xs.zip ys)[i]? with
  |none=>rw[hz]at hp;cases hp
  |some z=>
   rw[hz]at hp
   cases hp
   obtain⟨e1,e2⟩:=List.getElem?_zip_eq_some.mp hz
   obtain⟨v,hx',rv⟩:=r1.get e1
   obtain⟨u,hy',ru⟩:=r2.get e2
   refine⟨⟨vs,us,v,u,hv,hu,hx',hy'⟩,fun x H' ⟨q,x2,y2,e3,hq,e4,h⟩=>?_⟩
   subst e3 e4
   obtain⟨k1,k2⟩:=h vs us hv hu
   rw[hx']at k1
   rw[hy']at k2
   cases k1;cases k2
   exact⟨.tup (SqT.of aG) (.cons (rv.mono (.new hq)) (.cons (ru.mono (.new hq)) .nil)),rS.other hq,.new hq⟩
 ·have e:(bu xs ys).length=min xs.length ys.length:=by simp[bu]
  rw[e]at hi
  by_cases hle:xs.length<=ys.length
  ·exact .inl (by omega)
  ·exact .inr (by omega)
def tV(ta tb:aW):tR:=fun σ S R E=>ta σ S (fun v S1=>tb σ S1 (fun w S2=>match v,w with
 | .tup xs,.tup ys=>R ⟨bu xs ys,fun _=>True⟩ S2
 |_,_=>False) E) E
def zm{elts:List Expr}{k0:Nat}{GO:Pos}(hs:starEach [a,b] X.env=[(false,eval a X.env),(false,eval b X.env)])(hs2:starEach [b] X.env=[(false,eval b X.env)])(hg:Gl X "zip")(hm:X.mg "zip" = none)(hv:bootBuiltins "zip" = some (.type "zip"))(ha:kB X [a,b] [ta,tb]) :
  vD X (.Tuple elts k0 GO) (.Call (.Name "zip" p) [a,b] [] pos) (tV ta tb):=
 ⟨jX (u_ hg hm hv ha.ok hs hs2) fun σ H R ⟨σ3,S,R3,E3,rσ,rS,h,xo,k⟩=>⟨σ3,S,_,E3,rσ,rS,h,xo,fun v S1 v' H1 h1 rv FI g1=>⟨σ3,S1,_,E3,rσ.mono g1,FI,h1,xo.mono g1,fun w S2 w' H2 h2 rw' Hi g2=>by
  dsimp only at h2
  split at h2
  ·cases rv with
   |tup hq rs=>
    cases rw' with
    |tup hq2 Ll=>exact⟨false,false,_,_,rfl,⟨_,g2.t _ _ hq⟩,⟨_,hq2⟩,k _ S2 _ H2 h2 (jj (.tup (g2.t _ _ hq) (rs.mono g2)) (.tup hq2 Ll)) Hi (g1.trans g2)⟩
  ·exact h2.elim⟩⟩⟩
end
section
variable {X:Cx} {iter tg c:Expr} {body:List Stmt} {ti:tR} {g:Tg} {tb:bB} {tc:jS} {pos:Pos}
noncomputable def oa(g:Tg)(tb:bB)(D:m5)(keep:ay->Prop):List PV->cC->ay->Prop
 |[],σ,S=>keep S/\D.nx σ S
 |x::r,σ,S=>keep S/\match g.put x σ with|some σ'=>tb { D with nx:=oa g tb D keep r,ct:=oa g tb D keep r,bk:=D.nx } σ' S|none=>False
def bO(ti:tR)(g:Tg)(tb:bB):bB:=fun D σ S=>ti σ S (fun src S1=>oa g tb D src.keep src.items σ S1) D.ex
def cP(hp:PassesOwn (model X.prog X.w) X.A X.env X.xe)(hc:X.calm=true)(hi:vD X tg iter ti)(hg:yi X tg g)(hb:jT X body tb)(hs:∀x,foldedSetIterable iter X.env x=pure x:=by intro _;rfl):ss X (.For tg iter body [] pos) (bO ti g tb):=
 ⟨eP (Ab hp hc hi.ok hg.ok hb.ok hs) fun D σ H ⟨σ3,S,D3,rσ,rS,h,xo,n,r,bk,ct⟩=>⟨σ3,S,_,D3.ex,rσ,rS,h,xo,fun src S1 J H1 h1 sim FI g1=>by
  refine⟨fun i m σ' H'=>i+m=src.items.length/\∃σ4 S',FF X.K H' σ' σ4/\FA X.K H' S'/\Grow X.K H1 H'/\oa g tb D3 src.keep (src.items.drop i) σ4 S',⟨src.items.length,Nat.zero_add _,σ3,S1,rσ.mono g1,FI,.refl,by simpa using h1⟩,?_⟩
  rintro i m σ' H' ⟨hm,σ4,S',Ku,Hx,g',hw⟩
  cases hd:src.items.drop i with
  |nil=>
   rw[hd]at hw
   have hi:i=src.items.length:=by
    have:=congrArg List.length hd
    rw[List.length_drop,List.length_nil]at this
    omega
   exact .inl ⟨(sim i S' H' g' Hx hw.1).2 hi,n _ S' _ H' hw.2 Ku Hx (g1.trans g')⟩
  |cons x rest=>
   rw[hd]at hw
   have hx:src.items[i]?=some x:=by
    have:=congrArg (fun l=>l[0]?) hd
    simpa using this
   have hrest:src.items.drop (i+1)=rest:=by
    have:=congrArg List.tail hd
    simpa [List.tail_drop]using this
   have hlt:i < src.items.length:=by
    by_cases z:i < src.items.length
    ·exact z
    ·rw[List.getElem?_eq_none (by omega)]at hx;cases hx
   obtain⟨go,yl⟩:=(sim i S' H' g' Hx hw.1).1 x hx
   refine .inr ⟨go,fun σ5 H5=>∃σ6 S6,FF X.K H5 σ5 σ6/\FA X.K H5 S6/\Grow X.K H1 H5/\oa g tb D3 src.keep rest σ6 S6,?_,fun v H5 hv=>?_⟩
   ·rintro σ5 H5 ⟨σ6,S6,q1,q2,q3,q4⟩
    exact⟨m - 1,by omega,by omega,σ6,S6,q1,q2,q3,by rw[hrest];exact q4⟩
   ·obtain⟨rv,MS,g5⟩:=yl v H5 hv
    obtain⟨_,hw⟩:=hw
    split at hw
    ·rename_i σ6 e6
     refine Tg.JG (own:=0) g rv (Ku.mono g5) e6 fun σ7 Mg _=>?_
     exact⟨σ6,S',_,Mg,MS,hw,xo.mono (g1.trans (g'.trans g5)),fun σ8 S8 σ9 H9 q1 q2 q3 q4=>⟨σ8,S8,q2,q3,g'.trans (g5.trans q4),q1⟩,r.mono (g1.trans (g'.trans g5)),n.mono (g1.trans (g'.trans g5)),
      fun σ8 S8 σ9 H9 q1 q2 q3 q4=>⟨σ8,S8,q2,q3,g'.trans (g5.trans q4),q1⟩⟩
    ·exact hw.elim⟩⟩
def iT(tc:jS)(tb:bB):bB:=fun D σ S=>∃W:Nat->cC->ay->Prop,(∃m,W m σ S)/\∀m σ S,W m σ S->
 tc σ S (fun b S1=>if b=true then ∃N:cC->ay->Prop,(∀σ' S',N σ' S'->∃m',m' < m/\W m' σ' S')/\tb { D with nx:=N,ct:=N,bk:=D.nx } σ S1 else D.nx σ S1) D.ex
def jk(hp:PassesOwn (model X.prog X.w) X.A X.env X.xe)(hc:rg X c tc)(hb:jT X body tb):ss X (.While c body [] pos) (iT tc tb):=
 ⟨eP (uF hp hc.ok hb.ok) fun D σ H ⟨σ3,S,D3,rσ,rS,⟨W,⟨m0,w0⟩,turn⟩,xo,n,r,bk,ct⟩=>by
  refine⟨fun m σ' H'=>∃σ4 S',FF X.K H' σ' σ4/\FA X.K H' S'/\Grow X.K H H'/\W m σ4 S',⟨m0,σ3,S,rσ,rS,.refl,w0⟩,?_⟩
  rintro m σ' H' ⟨σ4,S',Ku,Hx,g',w'⟩
  refine⟨σ4,S',_,D3.ex,Ku,Hx,turn m σ4 S' w',xo.mono g',fun b S1 H1 h1 FI g1=>?_⟩
  cases b with
  |true=>
   rw[if_pos rfl]at h1 ⊢
   obtain⟨N,hN,h1⟩:=h1
   refine⟨fun σ5 H5=>∃σ6 S6,FF X.K H5 σ5 σ6/\FA X.K H5 S6/\Grow X.K H H5/\N σ6 S6,?_,?_⟩
   ·rintro σ5 H5 ⟨σ6,S6,q1,q2,q3,q4⟩
    obtain⟨m',hm,w6⟩:=hN σ6 S6 q4
    exact⟨m',hm,σ6,S6,q1,q2,q3,w6⟩
   ·exact⟨σ4,S1,_,Ku.mono g1,FI,h1,xo.mono (g'.trans g1),fun σ8 S8 σ9 H9 q1 q2 q3 q4=>⟨σ8,S8,q2,q3,g'.trans (g1.trans q4),q1⟩,r.mono (g'.trans g1),n.mono (g'.trans g1),
     fun σ8 S8 σ9 H9 q1 q2 q3 q4=>⟨σ8,S8,q2,q3,g'.trans (g1.trans q4),q1⟩⟩
  |false=>
   rw[if_neg (by decide)]at h1 ⊢
   exact n _ S1 _ H1 h1 (Ku.mono g1) FI (g'.trans g1)⟩
end
noncomputable def dO:bZ:=fun _ _ _=>False
def Kb.no{X:Cx}{H:Hp}:Kb X H dO:=fun _ _ _ _ _ _ _ _ _ _ _ _ _ _ h=>h.elim
section
variable {X:Cx} {elt iter tg c:Expr} {ifs:List Expr} {scope:Scope} {pos:Pos} {ti:tR} {g:Tg} {tc:jS} {te:aW} {fs N:Vs} {own:Nat} {fr:List Nat}
noncomputable def dC(g:Tg)(tc:jS)(te:aW)(σ':cC)(keep:ay->Prop)(fin:List PV->ay->Prop):List PV->List PV->ay->Prop
 |[],ys,S=>keep S/\ys.length<=sizeLine/\fin ys S
 |x::r,ys,S=>keep S/\ys.length<=sizeLine/\match g.put x σ' with
  |some σ2=>tc σ2 S (fun b S3=>if b=true then te σ2 S3 (fun y S4=>dC g tc te σ' keep fin r (ys++[y]) S4) dO else dC g tc te σ' keep fin r ys S3) dO
  |none=>False
def ci:jS:=fun _ S Q _=>Q true S
structure BI (X:Cx) (ifs:List Expr) (t:jS):Prop where
 ok:PF X ifs (LT X t)
def rE{t t':TT}(h:PF X ifs t)(k:∀σ H Q,t' σ H Q->t σ H Q):PF X ifs t':=fun pins s σ H Q I q=>h pins s σ H Q I (k σ H Q q)
def dD:BI X [] ci:=⟨rE AA fun σ H Q ⟨σ3,S,Q3,E3,rσ,rS,h,xo,k⟩=>k true S H h rS .refl⟩
def m_(h:rg X c tc):BI X [c] tc:=⟨AB h.ok⟩
noncomputable def dE(own:Nat)(fr:List Nat)(σ:cC):cC:=List.replicate own none++fr.map fun j=>lk σ j
def yn{K:Vo}{H:Hp}{σ:L2.St}{σ3:cC}(r:FF K H σ σ3)(own:Nat)(fr:List Nat):FF K H (fe own fr σ) (dE own fr σ3):=by
 refine⟨by unfold fe dE;simp,fun i p e=>?_⟩
 unfold dE at e
 unfold fe
 by_cases hi:i < own
 ·rw[List.getElem?_append_left (by simpa using hi),List.getElem?_replicate,if_pos hi]at e
  cases e
 ·rw[List.getElem?_append_right (by simpa using hi),List.length_replicate,List.getElem?_map]at e ⊢
  cases hj:fr[i - own]? with
  |none=>rw[hj]at e;cases e
  |some j=>
   rw[hj]at e
   simp only[Option.map_some,Option.some.injEq]at e ⊢
   obtain⟨v,hv,rv⟩:=r.at' j p (vh e)
   exact⟨v,by rw[hv];rfl,rv⟩
def aQ(ti:tR)(g:Tg)(tc:jS)(te:aW)(own:Nat)(fr:List Nat):aW:=fun σ S Q E=>ti σ S (fun src S1=>dC g tc te (dE own fr σ) src.keep (fun ys S2=>∀p,S2 p=none->Q (.ref p) (Fr S2 p (.lst ys))) src.items [] S1) E
def ng{σ:L2.St}{H:Hp}{Q:VK}(Kv:g.under own=true)(B0:Bk):LE X (aQ ti g tc te own fr) σ H Q->uZ (LI X ti) (g.g2 X.K) (fun σ H Q=>∃σ3 S Q3,FF X.K H σ σ3/\FA X.K H S/\tc σ3 S Q3 dO/\∀b S' H',Q3 b S'->FA X.K H' S'->Grow X.K H H'->Q b H')
  (fun σ H Q=>∃σ3 S Q3,FF X.K H σ σ3/\FA X.K H S/\te σ3 S Q3 dO/\Kc X.K H Q3 Q) own fr σ H Q:=fun⟨σ3,S,Q3,E3,rσ,rS,h,xo,k⟩=>by
 refine⟨σ3,S,_,E3,rσ,rS,h,xo,fun src S1 J H1 h1 sim FI g1=>?_⟩
 refine⟨fun i m ys H'=>i+m=src.items.length/\∃zs S',Reps X.K H' ys zs/\FA X.K H' S'/\Grow X.K H1 H'/\dC g tc te (dE own fr σ3) src.keep (fun ys S2=>∀p,S2 p=none->Q3 (.ref p) (Fr S2 p (.lst ys))) (src.items.drop i) zs S',⟨src.items.length,Nat.zero_add _,[],S1,.nil,FI,.refl,by simpa using h1⟩,?_⟩
 rintro i m ys H' ⟨hm,zs,S',rz,Hx,g',hw⟩
 cases hd:src.items.drop i with
 |nil=>
  rw[hd]at hw
  have hi:i=src.items.length:=by
   have:=congrArg List.length hd
   rw[List.length_drop,List.length_nil]at this
   omega
  refine .inl ⟨(sim i S' H' g' Hx hw.1).2 hi,by rw[rz.length];exact hw.2.1,fun D hD=>?_⟩
  exact k _ _ _ _ (hw.2.2 D (Hx.free hD)) (.ref D) (Hx.new hD ⟨_,aG,rz.mono (.new hD)⟩) (g1.trans (g'.trans (.new hD)))
 |cons x rest=>
  rw[hd]at hw
  have hx:src.items[i]?=some x:=by
   have:=congrArg (fun l=>l[0]?) hd
   simpa using this
  have hrest:src.items.drop (i+1)=rest:=by
   have:=congrArg List.tail hd
   simpa [List.tail_drop]using this
  have hlt:i < src.items.length:=by
   by_cases z:i < src.items.length
   ·exact z
   ·rw[List.getElem?_eq_none (by omega)]at hx;cases hx
  obtain⟨go,yl⟩:=(sim i S' H' g' Hx hw.1).1 x hx
  refine .inr ⟨go,by rw[rz.length];exact hw.2.1,fun ys' H5=>∃zs' S6,Reps X.K H5 ys' zs'/\FA X.K H5 S6/\Grow X.K H1 H5/\dC g tc te (dE own fr σ3) src.keep (fun ys S2=>∀p,S2 p=none->Q3 (.ref p) (Fr S2 p (.lst ys))) rest zs' S6,?_,fun v H5 hv=>?_⟩
  ·rintro ys' H5 ⟨zs',S6,q1,q2,q3,q4⟩
   exact⟨m - 1,by omega,by omega,zs',S6,q1,q2,q3,by rw[hrest];exact q4⟩
  ·obtain⟨rv,MS,g5⟩:=yl v H5 hv
   obtain⟨_,_,hw⟩:=hw
   split at hw
   ·rename_i σ6 e6
    refine Tg.JG (own:=own) g rv ((yn rσ own fr).mono (g1.trans (g'.trans g5))) e6 fun σ7 Mg d7=>⟨d7 Kv,?_⟩
    refine⟨σ6,S',_,Mg,MS,hw,fun b S8 H8 h8 NE g8=>?_⟩
    cases b with
    |true=>
     rw[if_pos rfl]at h8 ⊢
     exact⟨σ6,S8,_,Mg.mono g8,NE,h8,fun y S9 y' H9 h9 ry Oz g9=>⟨zs++[y],S9,(rz.mono (g5.trans (g8.trans g9))).append (.cons ry .nil),Oz,g'.trans (g5.trans (g8.trans g9)),h9⟩⟩
    |false=>
     rw[if_neg (by decide)]at h8 ⊢
     exact⟨zs,S8,rz.mono (g5.trans g8),NE,g'.trans (g5.trans g8),h8⟩
   ·exact hw.elim
def AV(fs:Vs)(own:Nat)(fr:List Nat)(N:Vs)(Kv:g.under own=true)(hc:X.calm=true)(hclos:closureFor scope X.env=pure (cR X.env fs))(hcell:∀y∈scope.names,y.2 ≠ .cell)(hkind:scope.kind = .function)
  (hnames:∀x∈scope.names,x.2 = .local->scope.names.lookup x.1=some .local) (hcl:cE X.env fs) (hhas:nQ (relabel scope X.env).names (cR X.env fs)=true)
  (hlen:N.length=own+fr.length) (hN:(N.drop own).map some=fr.map fun j=>X.N[j]?) (hF:Go X.env scope (cR X.env fs) (N.drop own))
  (hi:vD X tg iter ti) (hg:∀B,yi (X.Ho N scope fs B) tg g) (hf:∀B,BI (X.Ho N scope fs B) ifs tc) (he:∀B,br (X.Ho N scope fs B) elt te)
  (hs:∀x,foldedSetIterable iter X.env x=pure x:=by intro _;rfl):br X (.ListComp elt [⟨tg,iter,ifs,0⟩] scope pos) (aQ ti g tc te own fr):=
 ⟨aX (xQ fs own fr N hc hclos hcell hkind hnames hcl hhas hlen hN hF hi.ok (fun B=>(hg B).ok)
  (fun B=>rE (hf B).ok fun σ H Q ⟨σ3,S,Q3,rσ,rS,h,k⟩=>⟨σ3,S,Q3,dO,rσ,rS,h,.no,k⟩) (fun B=>aX (he B).ok fun σ H Q ⟨σ3,S,Q3,rσ,rS,h,k⟩=>⟨σ3,S,Q3,dO,rσ,rS,h,.no,k⟩) hs) fun _ _ _=>ng Kv ⟨0,X.s₀,X.H₀,[],[]⟩⟩
def AW(fs:Vs)(own:Nat)(fr:List Nat)(N:Vs){i:Nat}{y:Str}{py spos:Pos}(hX:X.N.Nodup)(hix:X.N[i]?=some y)(hy:X.env.scope.names.lookup y=some .local)
  (hsw:swapsWith (.ListComp elt [⟨tg,iter,ifs,0⟩] scope pos) (some (.Name y py)) spos.line X.env=pure true)
  (Kv:g.under own=true) (hc:X.calm=true) (hclos:closureFor scope X.env=pure (cR X.env fs)) (hcell:∀y∈scope.names,y.2 ≠ .cell) (hkind:scope.kind = .function)
  (hnames:∀x∈scope.names,x.2 = .local->scope.names.lookup x.1=some .local) (hcl:cE X.env fs) (hhas:nQ (relabel scope X.env).names (cR X.env fs)=true)
  (hlen:N.length=own+fr.length) (hN:(N.drop own).map some=fr.map fun j=>X.N[j]?) (hF:Go X.env scope (cR X.env fs) (N.drop own))
  (hi:vD X tg iter ti) (hg:∀B,yi (X.Ho N scope fs B) tg g) (hf:∀B,BI (X.Ho N scope fs B) ifs tc) (he:∀B,br (X.Ho N scope fs B) elt te)
  (hs:∀x,foldedSetIterable iter X.env x=pure x:=by intro _;rfl):ss X (.Assign [.Name y py] (.ListComp elt [⟨tg,iter,ifs,0⟩] scope pos) spos) (av i (aQ ti g tc te own fr)):=
 ⟨eP (xR fs own fr N hX hix hy hsw hc hclos hcell hkind hnames hcl hhas hlen hN hF hi.ok (fun B=>(hg B).ok)
  (fun B=>rE (hf B).ok fun σ H Q ⟨σ3,S,Q3,rσ,rS,h,k⟩=>⟨σ3,S,Q3,dO,rσ,rS,h,.no,k⟩) (fun B=>aX (he B).ok fun σ H Q ⟨σ3,S,Q3,rσ,rS,h,k⟩=>⟨σ3,S,Q3,dO,rσ,rS,h,.no,k⟩) hs)
  fun D σ H ⟨σ3,S,D3,rσ,rS,h,xo,n,r,bk,ct⟩=>ng Kv ⟨0,X.s₀,X.H₀,[],[]⟩ ⟨σ3,S,_,D3.ex,rσ,rS,h,xo,fun p S1 v H1 h1 rv FI g1=>n _ S1 _ H1 h1 ((rσ.mono g1).set rv i) FI g1⟩⟩
end
abbrev ax:=List PV->ay->bA->bZ->Prop
noncomputable def CH(K:Vo)(n:Nat)(sp:ax):Sp:=fun vs H Q _=>vs.length=n/\∃ps S Q3 E3,Reps K H vs ps/\FA K H S/\sp ps S Q3 E3/\Kc K H Q3 Q
structure Kw (P:Program) (w:World) (K:Vo) (mg:Vr) (base:Heap) (k:Nat) (f:Addr) (fd:FuncData) (ps:Vs) (sp:ax):Prop where
 ok:mn P w K mg base wX k f fd ps (CH K ps.length sp)
section
variable {X:Cx} {e o:Expr} {es:List Expr} {te to:aW} {ts:List aW} {x:Str} {p pos apos cpos:Pos} {k:Nat} {f:Addr} {fd:FuncData} {ps:Vs} {sp:ax}
def ab(sp:ax)(ts:List aW):aW:=fun σ S Q E=>ao ts σ S (fun ps S1=>sp ps S1 Q E) E
def vF(F:Kw X.prog X.w X.K X.mg X.base k f fd ps sp)(hr:Room k X.A)(hg:Gl X x)(hm:X.mg x=some (.ref f))(hk:PySem.W.keepIn X.K (.ref f)=true)(hb:Binds X.K fd ps [])(he:starEach (e::es) X.env=(false,eval e X.env)::starEach es X.env)(ha:kB X (e::es) ts)
  (hl:ts.length=ps.length:=by rfl) (hdb:(x == ("__debug__":Str))=false:=by decide) (hpl:(backTo pos (starEach es X.env)).any (·.1)=false:=by rfl):br X (.Call (.Name x p) (e::es) [] pos) (ab sp ts):=
 ⟨aX (sg F.ok hr hg hm hk hb .nil zf ha.ok hdb he hpl) fun σ H Q ⟨σ3,S,Q3,E3,rσ,rS,h,xo,k⟩=>cy rσ rS h xo fun ps' S' vs H' hl' q rv Hx g=>by
  rw[List.append_nil]
  exact⟨by rw[rv.length,hl',hl],ps',S',Q3,E3,rv,Hx,q,k.mono g⟩⟩
end
noncomputable def aw(n:Nat)(args:List PV):cC:=args.map some++List.replicate (n - args.length) none
def aU(n:Nat)(t:bB):ax:=fun args S Q _=>t { nx:=fun _ S'=>Q .non S',rt:=Q,ex:=dO } (aw n args) S
def nh{K:Vo}{H:Hp}{N:Vs}{vs:List V}{ps:List PV}(r:Reps K H vs ps):FF K H (L2.gk N vs) (aw N.length ps):=by
 refine⟨by unfold L2.gk aw;simp[r.length],fun i p e=>?_⟩
 unfold aw at e
 unfold L2.gk
 by_cases hi:i < ps.length
 ·rw[List.getElem?_append_left (by simpa using hi),List.getElem?_map]at e
  cases hp:ps[i]? with
  |none=>rw[hp]at e;cases e
  |some q=>
   rw[hp]at e
   cases e
   obtain⟨v,hv,rv⟩:=r.get hp
   rw[List.getElem?_append_left (by rw[List.length_map,r.length];exact hi),List.getElem?_map,hv]
   exact⟨v,rfl,rv⟩
 ·rw[List.getElem?_append_right (by simpa using hi),List.getElem?_replicate]at e
  split at e
  ·cases e
  ·cases e
section
variable {P:Program} {w:World} {K:Vo} {mg:Vr} {base:Heap}
noncomputable abbrev CJ(P:Program)(w:World)(K:Vo)(mg:Vr)(base:Heap)(N:Vs)(qual:Str)(st:Stmt)(f:Addr)(cdv:Value)(A:Around)(outer:List Env)(s:Shared)(H:Hp)(E:XK):Cx:=(pC wX P w K mg base N qual (aD st) f cdv A outer s H E).Lc
def EN{x qual:Str}{st:Stmt}{f:Addr}{fd:FuncData}{N ps:Vs}{k:Nat}{t:bB}(F:KS K x qual st f fd)(S:dP N ps (aD st))
  (hbody:∀(cdv:Value) (A:Around) (outer:List Env) (s:Shared) (H:Hp) (E:XK),Room k (A.deeper (PyProof.Rows.envOfC qual (aD st) s.heap.objs.size f cdv))->jT (CJ P w K mg base N qual st f cdv A outer s H E) (bf st) t) :
  Kw P w K mg base (k+1) f fd ps (aU N.length t):=
 ⟨F.ok S (fun vs H Q E h=>h.1) fun cdv A outer s H vs Q E hr ⟨hl,ps',S',Q3,E3,rv,rS,q,kk⟩=>⟨_,(hbody cdv A outer s H E hr).ok,aw N.length ps',S',_,nh rv,rS,q,.no,fun σ3 S2 σ2 H2 h2 _ Hi g2=>kk _ S2 _ H2 h2 .non Hi g2,kk,fun _ _ _ _ h2=>h2.elim,fun _ _ _ _ h2=>h2.elim⟩⟩
end
section
variable {X:Cx} {o e f:Expr} {to te tf:aW} {pos apos cpos:Pos}
noncomputable def jZ:List (aW×aW)->cC->ay->(List (PV×PV)->ay->Prop)->bZ->Prop
 |[],_,S,Q,_=>Q [] S
 |(tk,tv)::r,σ,S,Q,E=>tk σ S (fun x S1=>tv σ S1 (fun y S2=>jZ r σ S2 (fun ps S3=>Q ((x,y)::ps) S3) E) E) E
noncomputable def pQ:List (PV×PV)->Option (List (bE×PV))
 |[]=>some []
 |(x,y)::r=>match nZ x,pQ r with|some k,some l=>some ((k,y)::l)|_,_=>none
noncomputable def og(kvs more:List (bE×PV)):List (bE×PV):=more.foldl (fun acc kv=>n_ acc kv.1 kv.2) kvs
structure Dy (X:Cx) (pos:Pos) (keys:List (Option Expr)) (values:List Expr) (IA:List (aW×aW)):Prop where
 ok:Co X pos keys values (IA.map fun t=>(LE X t.1,LE X t.2))
def AX:Dy X pos [] [] []:=⟨xL⟩
def oh{k v:Expr}{ks:List (Option Expr)}{vs:List Expr}{tk tv:aW}{IA:List (aW×aW)}(hk:br X k tk)(hv:br X v tv)(hr:Dy X pos ks vs IA):Dy X pos (some k::ks) (v::vs) ((tk,tv)::IA):=⟨uW hk.ok hv.ok hr.ok⟩
inductive ni (K:Vo) (H:Hp):List (V×V)->List (PV×PV)->Prop
 |nil:ni K H [] []
 |cons {a b:V} {p q:PV} {vs:List (V×V)} {ps:List (PV×PV)}:Rep K H a p->Rep K H b q->ni K H vs ps->ni K H ((a,b)::vs) ((p,q)::ps)
theorem lD:∀{IA:List (aW×aW)} {σ:L2.St} {H:Hp} {Q:List (V×V)->Hp->Prop} {σ3:cC} {S:ay} {Q3:List (PV×PV)->ay->Prop} {E3:bZ},FF X.K H σ σ3->FA X.K H S->jZ IA σ3 S Q3 E3->Kb X H E3->
  (∀ps S' vs H',ps.length=IA.length->Q3 ps S'->ni X.K H' vs ps->FA X.K H' S'->Grow X.K H H'->Q vs H')->nN (IA.map fun t=>(LE X t.1,LE X t.2)) σ H Q
 |[],σ,H,Q,σ3,S,Q3,E3,rσ,rS,h,xo,k=>k [] S [] H rfl h .nil rS .refl
 |(tk,tv)::ts,σ,H,Q,σ3,S,Q3,E3,rσ,rS,h,xo,k=>
  ⟨σ3,S,_,E3,rσ,rS,h,xo,fun p S1 v H1 h1 rv FI g1=>⟨σ3,S1,_,E3,rσ.mono g1,FI,h1,xo.mono g1,fun p2 S2 v2 H2 h2 OC Hi g2=>lD (rσ.mono (g1.trans g2)) Hi h2 (xo.mono (g1.trans g2)) fun ps S3 vs H3 hl h3 MP KE g3=>
   k ((p,p2)::ps) S3 ((v,v2)::vs) H3 (by rw[List.length_cons,List.length_cons,hl]) h3 (.cons (rv.mono (g2.trans g3)) (OC.mono g3) MP) KE (g1.trans (g2.trans g3))⟩⟩
theorem nj{K:Vo}{H:Hp}:∀{vs:List (V×V)} {ps:List (PV×PV)} {l:List (bE×PV)},ni K H vs ps->pQ ps=some l->∃kvs:List (bE×V),vs=kvs.map (fun kv=>(kV kv.1,kv.2))/\FW K H kvs l
 |_,_,_,.nil,h=>by cases h;exact⟨[],rfl,.nil⟩
 |_,_,l,.cons a b r,h=>by
  unfold pQ at h
  split at h
  ·rename_i k l' ek el
   cases h
   obtain⟨kvs,e,q⟩:=nj r el
   refine⟨(k,_)::kvs,?_,.cons b q⟩
   rw[List.map_cons,<-e,eO a ek]
  ·cases h
def FW.merge{K:Vo}{H:Hp}{more:List (bE×V)}{m3:List (bE×PV)}(r:FW K H more m3):∀{kvs:List (bE×V)} {k3:List (bE×PV)},FW K H kvs k3->FW K H (jP kvs more) (og k3 m3):=by
 induction r with
 |nil=>intro kvs k3 q;exact q
 |cons a r ih=>intro kvs k3 q;exact ih (q.put a)
def pR(IA:List (aW×aW)):aW:=fun σ S Q E=>∀p,S p=none->jZ IA σ (Fr S p (.dct [])) (fun ps S2=>S2 p=some (.dct [])/\match pQ ps with|some kvs=>Q (.ref p) (Fr S2 p (.dct (og [] kvs)))|none=>False) E
def AY{keys:List (Option Expr)}{values:List Expr}{IA:List (aW×aW)}(h:Dy X pos keys values IA)(hall:keys.all (·.isSome)=true:=by rfl)(hl:keys.length=values.length:=by rfl)(h0:keys≠[]:=by exact List.cons_ne_nil _ _)(ME:keys.length<=15:=by decide)
  (ht:IA.length<=15:=by exact Nat.le_of_ble_eq_true rfl):br X (.Dict keys values pos) (pR IA):=
 ⟨aX (xM h.ok hall hl h0 ME) fun σ H Q ⟨σ3,S,Q3,E3,rσ,rS,hq,xo,k⟩=>fun p hp=>by
  have g0:Grow X.K H (upd H p (.dK [])):=.new hp
  refine lD (rσ.mono g0) (rS.new hp (o:=.dct []) ⟨[],aG,.nil⟩) (hq p (rS.free hp)) (xo.mono g0) fun ps S' vs H' hl' q rv Hx g=>?_
  obtain⟨e,q⟩:=q
  obtain⟨kv,hv,rk⟩:=Hx _ _ e
  cases rk
  refine⟨hv,?_⟩
  split at q
  ·rename_i kvs ek
   obtain⟨l,el,rl⟩:=nj rv ek
   refine⟨l,el,?_,k _ _ _ _ q (.ref p) (Hx.put hv trivial ⟨_,aG,(FW.merge rl .nil).mono (.mut hv trivial)⟩) (g0.trans (g.trans (.mut hv trivial)))⟩
   have z1:∀{vs:List (V×V)} {ps:List (PV×PV)},ni X.K H' vs ps->vs.length=ps.length:=by
    intro vs ps r
    induction r with
    |nil=>rfl
    |cons _ _ _ ih=>rw[List.length_cons,List.length_cons,ih]
   have z2:=congrArg List.length el
   rw[List.length_map,z1 rv,hl']at z2
   omega
  ·exact q.elim⟩
def sx(kvs:List (bE×Int))(te tf:aW):aW:=fun σ S Q E=>te σ S (fun y S2=>tf σ S2 (fun z S3=>match nZ y with|some k=>Q (((kvs.find? fun kv=>decide (kv.1=k)).map fun kv=>PV.int kv.2).getD z) S3|none=>False) E) E
def AZ{x:Str}{px:Pos}{a:Addr}{kvs:List (bE×Int)}(hu:X.A.units+1 < cLine)(hg:Gl X x)(hm:X.mg x=some (.ref a))(hD:KD X.prog X.w X.K a (kvs.map fun kv=>(kv.1,V.int kv.2)))(he:br X e te)(hf:br X f tf)(m:M2 X (.Name x px) "get" apos e f cpos)
  (hd:(x == ("__debug__":Str))=false:=by decide):br X (.Call (.Attribute (.Name x px) "get" apos) [e,f] [] cpos) (sx kvs te tf):=
 ⟨aX (xU hu hg hm hD he.ok hf.ok m hd) fun σ H Q ⟨σ3,S,Q3,E3,rσ,rS,h,xo,k⟩=>⟨σ3,S,_,E3,rσ,rS,h,xo,fun y S2 y' H2 h2 ry Hi g2=>⟨σ3,S2,_,E3,rσ.mono g2,Hi,h2,xo.mono g2,fun z S3 z' H3 h3 rz KE g3=>by
  dsimp only at h3
  split at h3
  ·rename_i k' ek
   have e1:=eO (ry.mono g3) ek
   subst e1
   refine⟨_,rfl,k _ S3 _ H3 h3 ?_ KE (g2.trans g3)⟩
   have:∀l:List (bE×Int),Rep X.K H3 ((iO (l.map fun kv=>(kv.1,V.int kv.2)) k').getD z') (((l.find? fun kv=>decide (kv.1=k')).map fun kv=>PV.int kv.2).getD z):=by
    intro l
    induction l with
    |nil=>exact rz
    |cons q r ih=>
     rw[List.map_cons,List.find?_cons]
     by_cases e:q.1=k'
     ·rw[G0 e,decide_eq_true e];exact .int _
     ·rw[G1 e,decide_eq_false e];exact ih
   exact this kvs
  ·exact h3.elim⟩⟩⟩
def pS(te:aW):aW:=fun σ S Q E=>te σ S (fun x S1=>match x with
 | .ref a=>(match S1 a with|some (.lst xs)=>∀p,S1 p=none->Q (.ref p) (Fr S1 p (.lst xs.reverse))|_=>False)
 |_=>False) E
def A0{p1 p2 q1 q2:Pos}(hs:starEach [e] X.env=[(false,eval e X.env)])(hc:X.calm=true)(he:br X e te)(MN:Gl X "list")(hm1:X.mg "list" = none)(LW:Gl X "reversed")(hm2:X.mg "reversed" = none):br X (.Call (.Name "list" p1) [.Call (.Name "reversed" p2) [e] [] q2] [] q1) (pS te):=
 ⟨aX (qY hc he.ok MN hm1 LW hm2 hs rfl) fun σ H Q ⟨σ3,S,Q3,E3,rσ,rS,h,xo,k⟩=>⟨σ3,S,_,E3,rσ,rS,h,xo,fun x S1 v H1 h1 rx FI g1=>by
  dsimp only at h1
  split at h1
  ·cases rx
   split at h1
   ·rename_i ea
    obtain⟨vs,hv,rs⟩:=FI _ _ ea
    exact⟨_,_,rfl,SqL.of hv,fun q hq=>k _ _ _ _ (h1 q (FI.free hq)) (.ref q) (FI.new hq ⟨_,aG,rs.reverse.mono (.new hq)⟩) (g1.trans (.new hq))⟩
   ·exact h1.elim
  ·exact h1.elim⟩⟩
end
def bv:R3:=dz fun i j=>.int (i - j)
def gG:R3:=iF (fun _ j=>j≠0) fun i j=>.int (i.fmod j)
def iH:R3:=iF m7 fun i j=>.int (i.fdiv j)
def vG:R3:=iF Ae fun i j=>.int (i ^ j.toNat)
def nk:R3:=dz fun i j=>.bl (decide (i < j))
def o9:R3:=dz fun i j=>.bl (decide (j < i))
def CK:R3:=dz fun i j=>.bl (decide (j<=i))
section
variable {X:Cx}
def cG:jf X (binaryOp .Sub) bv:=AL
def gq:jf X (binaryOp .Mod) gG:=AM
def j0:jf X (binaryOp .FloorDiv) iH:=xZ
def CL:jf X (binaryOp .Pow) vG:=AN
def lE:jf X (compareOp .Lt) nk:=Ct
def pU:jf X (compareOp .Gt) o9:=Cu
def Em:jf X (compareOp .GtE) CK:=Cv
end
def yo{A:Around}{k:Nat}(hr:Room k A):A.units+1 < cLine:=by have:=hr.un;omega
def fm{A:Around}{k:Nat}(hr:Room k A):A.units+150 < cLine:=by have:=hr.un;omega
def eC{A:Around}{k:Nat}(hr:Room k A):A.units+160 < cLine:=by have:=hr.un;omega
structure Dz (K:Vo) (mg:Vr) (x:Str) (st:Stmt) (ps:Vs) (f:Addr) (fd:FuncData):Prop where
 F:KS K x x st f fd
 b:Binds K fd ps []
 k:PySem.W.keepIn K (.ref f)=true
 m:mg x=some (.ref f)
def Kw.zero{P:Program}{w:World}{K:Vo}{mg:Vr}{base:Heap}{k:Nat}{f:Addr}{fd:FuncData}{ps:Vs}{sp:ax}(h:sp=fun _ _ _ _=>False):Kw P w K mg base k f fd ps sp:=by
 subst h
 exact⟨⟨fun vs H Q E q=>q.1,fun A outer s H args us vs Q E _ _ _ _ ⟨_,_,_,_,_,_,_,q,_⟩=>q.elim⟩⟩
def En{K:Vo}{H:Hp}{a:Addr}{ns:Vu}{sp:ax}(hO:xN H)(hS:SqL K H a (ns.map V.int))(h:sp [.cl (ns.map PV.int)] (fun _=>none) (fun v _=>v = .bl true) dO):CH K 1 sp [.ref a] H (fun v _=>v = .bl true) fun _ _ _=>False:=by
 have hr:∀l:List Int,Reps K H (l.map V.int) (l.map PV.int):=by
  intro l
  induction l with
  |nil=>exact .nil
  |cons x r ih=>exact .cons (.int x) ih
 refine⟨rfl,[.cl (ns.map PV.int)],fun _=>none,_,dO,.cons (.cl (vs:=ns.map V.int) ?_ (hr ns)) .nil,(fun b o e=>by simp at e),h,fun p S' v H' q rv rS g=>?_⟩
 ·rcases hS with(q|q)|q
  ·rcases hO a with z|⟨o,xs,z⟩
   ·rw[z]at q;cases q
   ·rw[z]at q;cases q
  ·exact .inl q
  ·exact .inr q
 ·subst q
  cases rv
  rfl
end L3
namespace L2
open PySem PySem.Spec PyProof.Rows
section
variable {X:Cx}
end
end L2
namespace HT
open PySem PySem.Spec PyProof.Rows
section
variable {prog:Program} {w:World} {A:Around} {E:Vq} {s:Shared}
end
end HT
namespace L2
open PySem PySem.Spec PyProof.Rows
section
variable {X:Cx} {e st:Expr} {te ts:TE} {p2 pos:Pos}
end
end L2
namespace L3
open PySem L2
section
variable {X:Cx} {e st:Expr} {te ts:aW} {p2 pos:Pos}
end
end L3
namespace L2
open PySem PySem.Spec PyProof.Rows
section
variable {X:Cx}
noncomputable def yp:V->List V->Hp->VK->Prop:=fun x vs H Q=>∃(l:Addr) (xs:List V) (j:Nat) (y:V),x = .ref l/\vs=[.int j,y]/\H l=some (.lst xs)/\j<=xs.length/\xs.length < sizeLine/\Q .non (upd H l (.lst (xs.take j++y::xs.drop j)))
def tW:Ck X "list.insert" yp:=by
 intro pins s σ H x vs v us Q I rx rv h
 obtain⟨l,xs,j,y,rfl,rfl,hH,hj,hz,q⟩:=h
 cases rx
 cases rv with
 |@cons _ u0 _ OD r1 rr=>
  obtain⟨u,rfl,ru⟩:∃u,OD=[u]/\RelV y u:=by
   cases rr with
   |@cons _ u _ us r2 r3=>cases r3;exact⟨u,rfl,r2⟩
  obtain⟨tk,rfl⟩:∃tk,u0 = .int (j:Int) tk:=r1
  obtain⟨z,its,n,r,hl,e⟩:=I.IU hH
  have hfit:¬(!Builtin.List.listFitsIndex (j:Int))=true:=by
   have:j < 2 ^ 62:=Nat.lt_of_le_of_lt hj (Nat.lt_of_lt_of_le hz (by decide))
   simp[Builtin.List.listFitsIndex]
   omega
  have hs1:its.toArray.size<=sizeLine:=by rw[List.size_toArray];omega
  generalize hx:(j:Int)=x at hfit
  refine call_meets F.slot_list_insert ⟨_,e,rfl⟩ F.entry_list_insert (F.args_list_insert_3 _ _ _) (PySem.AutoSeq1.list_insert_list_int_val_1 l its.toArray n x tk u hfit hs1) ⟨e,?_⟩
  refine⟨.non,_,I.Kg (its':=its.take j++u::its.drop j) hH e ?_ ((r.take j).append (.cons ru (r.drop j))) ?_,rfl,q⟩
  ·show((its.toArray.extract 0 (if x < 0 then (x+(its.toArray.size:Int)).toNat else min x.toNat its.toArray.size)).push u++its.toArray.extract (if x < 0 then (x+(its.toArray.size:Int)).toNat else min x.toNat its.toArray.size))=_
   have hl2:its.length=xs.length:=r.length.symm
   have ek:(if x < 0 then (x+(its.toArray.size:Int)).toNat else min x.toNat its.toArray.size)=j:=by
    rw[if_neg (by omega),<-hx,Int.toNat_natCast,List.size_toArray]
    omega
   rw[ek]
   apply Array.toList_inj.mp
   simp[List.extract_eq_take_drop]
   exact List.take_of_length_le (by rw[List.length_drop];exact Nat.le_refl _)
  ·rw[List.length_append,List.length_cons,List.length_take,List.length_drop]
   omega
end
end L2
namespace L3
open PySem L2
section
variable {X:Cx} {a b c:Expr} {ta tb tc:aW} {pos:Pos}
def k7:rD:=fun x ps S Q=>match x,ps with
 | .ref a,[.int i,y]=>(match S a with|some (.lst xs)=>0<=i/\i<=xs.length/\xs.length < sizeLine/\Q .non (Fr S a (.lst (xs.take i.toNat++y::xs.drop i.toNat)))|_=>False)
 |_,_=>False
def vH:uy X "list.insert" k7:=⟨fun pins s σ H x xs v us Q I rx rs ⟨px,ps,S,Q3,r1,rp,rS,q,k⟩=>by
 unfold k7 at q
 split at q
 ·rename_i i y
  split at q
  ·rename_i e
   cases r1
   cases rp with
   |cons b rr=>
    cases b
    cases rr with
    |cons b2 rr=>
     cases rr
     obtain⟨vs,hv,rl⟩:=rS _ _ e
     obtain⟨j,rfl⟩:=Int.eq_ofNat_of_zero_le q.1
     exact tW pins s σ H _ _ v us Q I rx rs ⟨_,_,j,_,rfl,rfl,hv,by rw[rl.length];have:=q.2.1;omega,by rw[rl.length];exact q.2.2.1,k _ _ _ _ q.2.2.2 .non (rS.put hv trivial ⟨_,aG,((rl.take j).append (.cons b2 (rl.drop j))).mono (.mut hv trivial)⟩) (.mut hv trivial)⟩
  ·exact q.elim
 ·exact q.elim⟩
end
end L3
namespace L2
open PySem PySem.Spec PyProof.Rows PySem.AutoSeq1
section
variable {X:Cx}
end
end L2
namespace L3
open PySem L2
section
variable {X:Cx}
end
end L3
namespace C
open PySem L2 L3
noncomputable def k_SIDES_FROM:List (bE×Int):=[(Sum.inr "then",1),(Sum.inr "either",1),(Sum.inr "take",3),(Sum.inr "often",1)]
def gH:bB:=(ai (av 3 (aQ (aO (cg (v3 0) (pL (v3 1)) (pL (c3 (.int 63))))) (.n 0) ci (ak ji [(v3 0),(af bv (c3 (.int 0)) (v3 0))]) 1 []))
  (ai (av 4 (af aT (c3 (.int 7919)) (v3 1)))
  (ai (bO (aO (v3 3)) (.n 2) (av 4 (af gG (af aT (af bS (v3 4) (c3 (.int 48271))) (af gG (v3 2) (c3 (.int 2147483629)))) (c3 (.int 2147483647)))))
  (au (pR [((c3 (.str "seed")),(v3 4)),((c3 (.str "number")),(c3 (.int 0))),((c3 (.str "left")),(pS (aQ (aO (v3 3)) (.n 0) (aJ (af CK (v3 0) (af vG (c3 (.int 10)) (c3 (.int 18))))) (v3 0) 1 [])))])))))
def gJ:bB:=(ai (iT (fi (aJ (af (aV false) (af ac (v3 0) (c3 (.str "number"))) (c3 (.int 0)))) (aJ (af o9 (ak bx [(af ac (v3 0) (c3 (.str "left")))]) (c3 (.int 0))))) (mz (d4 "list" pN (af ac (v3 0) (c3 (.str "left"))) []) (v3 0) (c3 (.str "number"))))
  (ai (av 2 (af ac (v3 0) (c3 (.str "number"))))
  (ai (bt (aJ (af o9 (v3 2) (c3 (.int 0)))) (ai (mz (af iH (v3 2) (v3 1)) (v3 0) (c3 (.str "number")))
  (au (af gG (v3 2) (v3 1)))) aL)
  (ai (av 3 (af gG (af aT (af bS (af ac (v3 0) (c3 (.str "seed"))) (c3 (.int 48271))) (c3 (.int 7919))) (c3 (.int 2147483647))))
  (ai (mz (af gG (af aT (af bS (v3 3) (c3 (.int 40692))) (c3 (.int 104729))) (c3 (.int 2147483399))) (v3 0) (c3 (.str "seed")))
  (ai (av 4 (af gG (af bS (af ac (v3 0) (c3 (.str "seed"))) (af ac (v3 0) (c3 (.str "seed")))) (c3 (.int 2147483563))))
  (au (af gG (af aT (af bS (af gG (af bS (v3 3) (v3 3)) (c3 (.int 2147483629))) (c3 (.int 2147483563))) (v3 4)) (v3 1)))))))))
def iU:bB:=(ai (pO 2 3 (ak ji [(v3 0),(af bv (c3 (.int 0)) (v3 0))]) (v3 1))
  (ai (iT (aJ (af o9 (v3 3) (c3 (.int 0)))) (pO 2 3 (v3 3) (af gG (v3 2) (v3 3))))
  (au (az [(af iH (v3 0) (v3 2)),(af iH (v3 1) (v3 2))]))))
def fF(Fq:ax):bB:=(ai (av 2 (c3 (.str "abcdefghijklmnopqrstuvwxyz")))
  (ai (av 3 (bc [(c3 (.str "jars")),(c3 (.str "deed")),(c3 (.str "rest")),(c3 (.str "pay")),(c3 (.str "put")),(c3 (.str "then")),(c3 (.str "either")),(c3 (.str "take")),(c3 (.str "often")),(c3 (.str "use"))]))
  (ai (av 5 (d4 "str" m8 (c3 (.str "")) [(aQ (jY (ab Fq [(v3 0),(c3 (.int 6))])) (.n 0) ci (af ac (v3 2) (ab Fq [(v3 1),(c3 (.int 26))])) 1 [0,2])]))
  (ai (lC 6 7 8 (az [(ab Fq [(v3 0),(af aT (ak bx [(v3 5)]) (c3 (.int 1)))]),(ab Fq [(v3 0),(c3 (.int 26))]),(af (aV false) (ab Fq [(v3 0),(c3 (.int 2))]) (c3 (.int 0)))]))
  (ai (av 9 (bc []))
  (ai (bO (jY (v3 1)) (.n 4) (ai (av 10 (af aT (af aT (cg (v3 5) rA (pL (v3 6))) (af ac (v3 2) (af gG (af aT (v3 7) (v3 4)) (c3 (.int 26))))) (cg (v3 5) (pL (v3 6)) rA)))
  (ai (bt (iQ (aJ (v3 8))) (av 10 (d4 "str" m8 (c3 (.str "")) [(aQ (jY (af aT (c3 (.int 1)) (ab Fq [(v3 0),(c3 (.int 6))]))) (.n 0) ci (af ac (v3 2) (ab Fq [(v3 1),(c3 (.int 26))])) 1 [0,2])])) aL)
  (ai (iT (jb (aJ (af (jU false) (v3 10) (v3 3))) (aJ (af (jU false) (v3 10) (v3 9)))) (av 10 (af aT (af ac (v3 2) (af gG (af aT (d4 "str" jV (v3 2) [(af ac (v3 10) (c3 (.int 0)))]) (c3 (.int 1))) (c3 (.int 26)))) (cg (v3 10) (pL (c3 (.int 1))) rA))))
  (aN (d4 "list" bh (v3 9) [(v3 10)]))))))
  (au (v3 9))))))))
def gK(Fq Gz:ax):bB:=(ai (av 1 (ab Fq [(v3 0),(c3 (.int 4))]))
  (ai (bt (aJ (af (aV false) (v3 1) (c3 (.int 0)))) (au (az [(c3 (.int 0)),(c3 (.int 1))])) aL)
  (ai (bt (aJ (af nk (v3 1) (c3 (.int 3)))) (au (az [(af aT (c3 (.int 1)) (ab Fq [(v3 0),(c3 (.int 5))])),(c3 (.int 1))])) aL)
  (au (ab Gz [(ab Fq [(v3 0),(c3 (.int 1000))]),(af aT (c3 (.int 1)) (ab Fq [(v3 0),(c3 (.int 9))]))])))))
def dF(Fq Jt:ax):bB:=(ai (av 2 (ab Fq [(v3 0),(c3 (.int 7))]))
  (ai (bt (aJ (af (aV false) (v3 2) (c3 (.int 0)))) (au (az [(c3 (.str "rest"))])) aL)
  (ai (bt (jb (aJ (af nk (v3 2) (c3 (.int 4)))) (aJ (af (aV false) (ak bx [(v3 1)]) (c3 (.int 0))))) (au (az [(c3 (.str "pay")),(ab Jt [(v3 0)])])) aL)
  (ai (av 3 (af ac (bc [(c3 (.int 1)),(c3 (.int 2)),(af aT (c3 (.int 1)) (ab Fq [(v3 0),(c3 (.int 9))]))]) (ab Fq [(v3 0),(c3 (.int 3))])))
  (au (az [(c3 (.str "put")),(af ac (v3 1) (ab Fq [(v3 0),(ak bx [(v3 1)])])),(v3 3)]))))))
def gL(Fq FJ s0:ax):bB:=(ai (av 4 (ab Fq [(v3 0),(c3 (.int 12))]))
  (ai (bt (jb (aJ (af (aV false) (v3 3) (c3 (.int 0)))) (jb (aJ (af nk (af ac (v3 2) (c3 (.int 0))) (c3 (.int 2)))) (aJ (af nk (v3 4) (c3 (.int 3)))))) (au (ab FJ [(v3 0),(v3 1)])) aL)
  (ai (bt (aJ (af nk (v3 4) (c3 (.int 5)))) (ai (mz (af bv (af ac (v3 2) (c3 (.int 0))) (c3 (.int 1))) (v3 2) (c3 (.int 0)))
  (au (az [(c3 (.str "often")),(ab s0 [(v3 0),(v3 1),(v3 2),(af bv (v3 3) (c3 (.int 1)))])]))) aL)
  (ai (mz (af bv (af ac (v3 2) (c3 (.int 0))) (c3 (.int 2))) (v3 2) (c3 (.int 0)))
  (ai (av 5 (ab s0 [(v3 0),(v3 1),(v3 2),(af bv (v3 3) (c3 (.int 1)))]))
  (ai (av 6 (ab s0 [(v3 0),(v3 1),(v3 2),(af bv (v3 3) (c3 (.int 1)))]))
  (ai (bt (aJ (af nk (v3 4) (c3 (.int 8)))) (au (az [(c3 (.str "then")),(v3 5),(v3 6)])) aL)
  (ai (bt (jb (aJ (af (aV false) (v3 4) (c3 (.int 8)))) (aJ (af (aV false) (ak bx [(v3 1)]) (c3 (.int 0))))) (au (az [(c3 (.str "either")),(v3 5),(v3 6)])) aL)
  (ai (av 7 (af ac (bc [(c3 (.int 1)),(c3 (.int 1)),(c3 (.int 2)),(af aT (c3 (.int 1)) (ab Fq [(v3 0),(c3 (.int 9))]))]) (ab Fq [(v3 0),(c3 (.int 4))])))
  (au (az [(c3 (.str "take")),(af ac (v3 1) (ab Fq [(v3 0),(ak bx [(v3 1)])])),(v3 7),(v3 5),(v3 6)])))))))))))
def cH(s0:ax):bB:=(ai (bt (aJ (af (aV false) (af ac (v3 0) (c3 (.int 0))) (c3 (.str "then")))) (au (af bS (ab s0 [(af ac (v3 0) (c3 (.int 1)))]) (ab s0 [(af ac (v3 0) (c3 (.int 2)))]))) aL)
  (ai (bt (jb (aJ (af (aV false) (af ac (v3 0) (c3 (.int 0))) (c3 (.str "either")))) (aJ (af (aV false) (af ac (v3 0) (c3 (.int 0))) (c3 (.str "take"))))) (au (af aT (ab s0 [(af ac (v3 0) (ik b3 (c3 (.int 2))))]) (ab s0 [(af ac (v3 0) (ik b3 (c3 (.int 1))))]))) aL)
  (au (c3 (.int 1)))))
def cx(F8 s0:ax):bB:=(ai (bt (aJ (af (aV false) (af ac (v3 0) (c3 (.int 0))) (c3 (.str "often")))) (au (af aT (ab F8 [(af ac (v3 0) (c3 (.int 1)))]) (ab s0 [(af ac (v3 0) (c3 (.int 1)))]))) aL)
  (ai (bt (aJ (af (jU false) (af ac (v3 0) (c3 (.int 0))) (az [(c3 (.str "then")),(c3 (.str "either")),(c3 (.str "take"))]))) (au (af aT (ab s0 [(af ac (v3 0) (ik b3 (c3 (.int 2))))]) (ab s0 [(af ac (v3 0) (ik b3 (c3 (.int 1))))]))) aL)
  (au (c3 (.int 0)))))
def cS(Ju F8 HA FJ:ax):bB:=(ai (av 4 (ab Ju [(v3 0),(v3 1),(bc [(af bv (v3 2) (c3 (.int 1)))]),(c3 (.int 5))]))
  (ai (bt (aJ (af o9 (af aT (ab F8 [(v3 4)]) (ab HA [(v3 4)])) (v3 3))) (av 4 (az [(c3 (.str "then")),(az [(c3 (.str "often")),(ab FJ [(v3 0),(v3 1)])]),(ab FJ [(v3 0),(v3 1)])])) aL)
  (au (v3 4))))
def fG(G6 Fq Ia:ax):bB:=(ai (av 4 (ab G6 [(v3 0),(c3 (.int 8))]))
  (ai (av 5 (ak bo [(cg (v3 4) rA (pL (ab Fq [(v3 0),(af aT (v3 1) (c3 (.int 1)))])))]))
  (ai (av 6 (af ac (bc [(c3 (.int 0)),(c3 (.int 4))]) (ab Fq [(v3 0),(c3 (.int 2))])))
  (ai (av 7 (af aT (c3 (.int 1)) (ab Fq [(v3 0),(v3 2)])))
  (ai (av 8 (aQ (jY (v3 7)) (.n 0) ci (az [(af ac (v3 6) (af aT (v3 2) (v3 0))),(ab Ia [(v3 1),(v3 3),(v3 5),(af iH (c3 (.int 24)) (v3 4))])]) 1 [0,6,5,7,3,4]))
  (au (az [(v3 5),(ak bo [(v3 8)])])))))))
def iV:bB:=(au (cg (v3 0) (pL (sx C.k_SIDES_FROM (af ac (v3 0) (c3 (.int 0))) (ak bx [(v3 0)]))) rA))
def iW(HB s0:ax):bB:=(ai (av 1 (bc [(v3 0)]))
  (ai (bO (aO (ab HB [(v3 0)])) (.n 2) (aN (d4 "list" aZ (v3 1) [(ab s0 [(v3 2)])])))
  (au (v3 1))))
def lF:bB:=(ai (iT (aJ (af (aV true) (v3 1) (c3 (.int 0)))) (ai (av 2 (af gG (v3 0) (v3 1)))
  (ai (av 0 (v3 1))
  (av 1 (v3 2)))))
  (au (ak tQ [(v3 0)])))
def iX(Kj:ax):bB:=(ai (av 2 (ab Kj [(v3 0),(v3 1)]))
  (ai (bt (aJ (af nk (v3 1) (c3 (.int 0)))) (av 2 (ik b3 (v3 2))) aL)
  (au (az [(af iH (v3 0) (v3 2)),(af iH (v3 1) (v3 2))]))))
def rF(HC:ax):bB:=(au (ab HC [(af aT (af bS (af ac (v3 0) (c3 (.int 0))) (af ac (v3 1) (c3 (.int 1)))) (af bS (af ac (v3 1) (c3 (.int 0))) (af ac (v3 0) (c3 (.int 1))))),(af bS (af ac (v3 0) (c3 (.int 1))) (af ac (v3 1) (c3 (.int 1))))]))
def oi(HC:ax):bB:=(au (ab HC [(af bS (af ac (v3 0) (c3 (.int 0))) (af ac (v3 1) (c3 (.int 0)))),(af bS (af ac (v3 0) (c3 (.int 1))) (af ac (v3 1) (c3 (.int 1))))]))
def lG:bB:=(au (af ac (v3 0) (af aT (ik b3 (c3 (.int 2))) (af ac (v3 1) (c3 (.int 0))))))
def gM:bB:=(au (ak bo [(aQ (aO (v3 0)) (.n 0) ci (rj (aJ (af (aV false) (v3 0) (v3 1))) (v3 2) (c3 (.int 0))) 1 [1,2])]))
def oj:bB:=(au (ak bo [(aQ (tV (v3 0) (v3 1)) (.tp (.cons (.n 0) (.cons (.n 1) .nil))) ci (af aT (v3 0) (v3 1)) 2 [])]))
def fH:bB:=(au (ak bo [(aQ (aO (v3 0)) (.n 0) ci (af bS (v3 0) (v3 1)) 1 [1])]))
def ol(IY KF:ax):bB:=(ai (av 2 (aQ (tV (af ac (v3 0) (c3 (.int 1))) (af ac (v3 0) (c3 (.int 2)))) (.tp (.cons (.n 0) (.cons (.n 1) .nil))) ci (af aT (v3 1) (ak ji [(c3 (.int 0)),(af bS (ik b3 (v3 0)) (af bv (v3 2) (c3 (.int 1))))])) 2 [1]))
  (au (az [(ab KF [(af ac (v3 0) (c3 (.int 0))),(az [(v3 1),(c3 (.int 1))])]),(ab IY [(af ac (v3 0) (c3 (.int 1))),(v3 1)]),(ak bo [(v3 2)])])))
def dH(GN:ax):bB:=(au (az [(az [(c3 (.int 0)),(c3 (.int 1))]),(ab GN [(v3 0),(af ac (v3 1) (c3 (.int 1))),(ik b3 (af ac (v3 1) (c3 (.int 2))))]),(ab GN [(v3 0),(af ac (v3 1) (c3 (.int 1))),(af ac (v3 1) (c3 (.int 2)))])]))
def gN(Gz:ax):bB:=(au (ab Gz [(af aT (af bS (af ac (v3 0) (c3 (.int 0))) (af ac (v3 1) (c3 (.int 1)))) (af bS (af ac (v3 1) (c3 (.int 0))) (af ac (v3 0) (c3 (.int 1))))),(af bS (af ac (v3 0) (c3 (.int 1))) (af ac (v3 1) (c3 (.int 1))))]))
def om(JH:ax):bB:=(au (ak bx [(ab JH [(v3 0)])]))
def eU(s0:ax):bB:=(ai (bt (aJ (af (aV false) (af ac (v3 0) (c3 (.int 0))) (c3 (.str "then")))) (au (az [(ab s0 [(af ac (v3 0) (c3 (.int 1)))]),(ab s0 [(af ac (v3 0) (c3 (.int 2)))])])) aL)
  (ai (bt (aJ (af (aV false) (af ac (v3 0) (c3 (.int 0))) (c3 (.str "either")))) (au (az [(c3 (.int 0)),(ab s0 [(af ac (v3 0) (c3 (.int 1)))])])) aL)
  (ai (bt (aJ (af (aV false) (af ac (v3 0) (c3 (.int 0))) (c3 (.str "take")))) (au (az [(c3 (.int 1)),(ab s0 [(af ac (v3 0) (c3 (.int 4)))])])) aL)
  (au (az [])))))
def eV(KG Hy s0:ax):bB:=(ai (bt (aJ (af (aV false) (v3 1) (c3 (.int 0)))) (au (v3 2)) aL)
  (ai (bt (aJ (af (aV false) (af ac (v3 0) (c3 (.int 0))) (c3 (.str "often")))) (au (az [(az [(c3 (.int 1)),(ab s0 [(af ac (v3 0) (c3 (.int 1))),(af bv (v3 1) (c3 (.int 1))),(v3 2)])])])) aL)
  (ai (av 3 (af ac (v3 0) (ik b3 (c3 (.int 2)))))
  (ai (av 4 (af ac (v3 0) (ik b3 (c3 (.int 1)))))
  (ai (av 5 (af aT (c3 (.int 1)) (ab KG [(v3 3)])))
  (ai (av 6 (rj (aJ (af nk (v3 1) (v3 5))) (c3 (.int 0)) (c3 (.int 1))))
  (ai (av 7 (rj (aJ (af (aV false) (v3 6) (c3 (.int 0)))) (ab s0 [(v3 3),(af bv (v3 1) (c3 (.int 1))),(v3 2)]) (ab s0 [(v3 4),(af bv (v3 1) (v3 5)),(v3 2)])))
  (ai (bt (aJ (af (aV true) (af ac (v3 0) (c3 (.int 0))) (c3 (.str "then")))) (au (az [(v3 6),(v3 7)])) aL)
  (ai (bt (aJ (af (aV false) (v3 6) (c3 (.int 0)))) (au (az [(v3 7),(ab Hy [(v3 4)])])) aL)
  (au (az [(ab Hy [(v3 3)]),(v3 7)])))))))))))
def gP(s0:ax):bB:=(ai (bt (aJ (af (aV false) (af ac (v3 0) (c3 (.int 0))) (c3 (.str "put")))) (aN (d4 "list" bh (v3 2) [(af ac (v3 0) (c3 (.int 1)))])) aL)
  (ai (bt (aJ (af (aV false) (af ac (v3 0) (c3 (.int 0))) (c3 (.str "often")))) (aN (ab s0 [(af ac (v3 0) (c3 (.int 1))),(v3 1),(v3 2)])) aL)
  (bt (aJ (af (jU false) (af ac (v3 0) (c3 (.int 0))) (az [(c3 (.str "then")),(c3 (.str "either")),(c3 (.str "take"))]))) (ai (bt (jb (aJ (af (aV true) (af ac (v3 0) (c3 (.int 0))) (c3 (.str "take")))) (aJ (af (jU false) (af ac (v3 0) (c3 (.int 1))) (v3 1)))) (aN (ab s0 [(af ac (v3 0) (ik b3 (c3 (.int 2)))),(v3 1),(v3 2)])) aL)
  (aN (ab s0 [(af ac (v3 0) (ik b3 (c3 (.int 1)))),(v3 1),(v3 2)]))) aL)))
def dI(Jv:ax):bB:=(ai (av 1 (bc []))
  (ai (bO (aO (af ac (v3 0) (c3 (.int 0)))) (.n 2) (ai (av 3 (bc []))
  (ai (bO (aO (af ac (v3 0) (c3 (.int 1)))) (.tp (.cons (.n 4) (.cons (.n 5) .nil))) (aN (ab Jv [(v3 5),(v3 1),(v3 3)])))
  (av 1 (v3 3)))))
  (au (v3 1))))
def fI(Fq s0:ax):bB:=(ai (bt (aJ (af (aV false) (af ac (v3 1) (c3 (.int 0))) (c3 (.str "then")))) (ai (av 3 (ab s0 [(v3 0),(af ac (v3 1) (c3 (.int 1))),(v3 2)]))
  (au (az [(v3 3),(ab s0 [(v3 0),(af ac (v3 1) (c3 (.int 2))),(v3 2)])]))) aL)
  (ai (bt (jb (aJ (af (aV false) (af ac (v3 1) (c3 (.int 0))) (c3 (.str "either")))) (aJ (af (aV false) (af ac (v3 1) (c3 (.int 0))) (c3 (.str "take"))))) (ai (av 4 (ab Fq [(v3 0),(c3 (.int 2))]))
  (au (az [(v3 4),(ab s0 [(v3 0),(af ac (v3 1) (af bv (v3 4) (c3 (.int 2)))),(v3 2)])]))) aL)
  (ai (av 5 (bc []))
  (ai (bO (jY (af bS (ab Fq [(v3 0),(c3 (.int 3))]) (ak gE [(af (aV false) (af ac (v3 1) (c3 (.int 0))) (c3 (.str "often")))]))) (.n 6) (bt (aJ (af o9 (af ac (v3 2) (c3 (.int 0))) (c3 (.int 0)))) (ai (mz (af bv (af ac (v3 2) (c3 (.int 0))) (c3 (.int 1))) (v3 2) (c3 (.int 0)))
  (aN (d4 "list" bh (v3 5) [(az [(af aT (c3 (.int 1)) (ab Fq [(v3 0),(c3 (.int 3))])),(ab s0 [(v3 0),(af ac (v3 1) (c3 (.int 1))),(v3 2)])])]))) aL))
  (au (ak bo [(v3 5)]))))))
end C
namespace Zu
open PySem Zt
open Sem (wp)
def nn{a b:Nat}(h:a≠b):@Ne Addr a b:=h
abbrev b9(h:Heap)(T:Nat)(a b c:Value):Prop:=h.get? T=some { cls:=.type "tuple",data:=.seq #[a,b,c] }
section
variable {kd:Bool} {prog:Program} {w:World} {A:Around} {E:Vq} {s:Shared}
def on{T:Addr}{a b c x:Value}{k:Nat}{Q:Unit->Shared->Prop}(hT:b9 s.heap T a b c)
  (h:∀h',h'.get? T=some { cls:=.type "tuple",data:=.seq ((#[a,b,c]:Vw).setIfInBounds k x) }->Heap.SameBut T s.heap h'->Q () { s with heap:=h' }) :
  wpAny (model prog w) A (updateSeq T (·.setIfInBounds k x)) Q E s:=by
 refine wpAny_updateSeq hT rfl (h _ ?_ (Heap.SameBut.update ..))
 rw[Heap.get?_update_self _ hT rfl]
 simp[Obj.mapSeq]
variable {n l1 l2 l3:Nat} {i:Nat} {xs ys zs:Vw} {x y z a b c:Value}
def nS{Q:Vq}(d1:l1 < n)(d2:l2 < n)(d3:l3 < n)(gz:IsZip s.heap (n+5) (n+3) (n+4) .none)(gI:b9 s.heap (n+3) (.ref n) (.ref (n+1)) (.ref (n+2)))(gO:b9 s.heap (n+4) a b c)
  (g1:Si kd s.heap n l1 i) (g2:Si kd s.heap (n+1) l2 i) (g3:Si kd s.heap (n+2) l3 i) (t1:Sq kd s.heap l1 xs) (t2:Sq kd s.heap l2 ys) (t3:Sq kd s.heap l3 zs) (hx:xs[i]?=some x) (hy:ys[i]?=some y) (hz:zs[i]?=some z)
  (k:∀g,IsZip g (n+5) (n+3) (n+4) (rawInt s.heap.objs.size)->b9 g (n+4) x y z->Si kd g n l1 (i+1)->Si kd g (n+1) l2 (i+1)->Si kd g (n+2) l3 (i+1)->b9 g s.heap.objs.size x y z->
   (∀c o,c≠n+5->c≠n+4->c≠n->c≠n+1->c≠n+2->s.heap.get? c=some o->g.get? c=some o)->Q (.ref s.heap.objs.size) { s with heap:=g }) :
  wpAny (model prog w) A (Builtin.«zip.__next__» ⟨[.ref (n+5)],[]⟩) (fun fin s'=>∃v,fin = .done (.ret v)/\Q v s') E s:=by
 show wpAny _ _ (field (.ref (n+5)) 2 >>= _) _ _ _;refine wpAny_bind (wpAny_field gz rfl (x:=.bool false) rfl ?_)
 show wpAny _ _ (field (.ref (n+5)) 3 >>= _) _ _ _;refine wpAny_bind (wpAny_field gz rfl (x:=.ref (n+3)) rfl (wpAny_bind (wpAny_seqItems gI rfl ?_)))
 show wpAny _ _ (Builtin.SmallTypes.ownedTupleIsFree (.ref (n+5)) >>= _) _ _ _;refine wpAny_bind ?_;unfold Builtin.SmallTypes.ownedTupleIsFree
 refine wpAny_bind (wpAny_field gz rfl (x:=.none) rfl (wpAny_pure ?_));simp only[if_true]
 refine wpAny_bind (wpAny_rule (wpAny_bind (wpAny_field gz rfl (x:=.ref (n+4)) rfl (wpAny_bind (wpAny_setField_rec gz (by simp) fun h₁ z1 q1=>?_)))))
 replace z1:IsZip h₁ (n+5) (n+3) (n+4) .ellipsis:=z1
 refine wpAny_bind ?_;simp only[List.zipIdx_cons,List.zipIdx_nil,List.forIn_cons,List.forIn_nil]
 refine wpAny_bind (wpAny_bind (wpAny_onRaise ?_));show wpAny _ _ (Builtin.SmallTypes.nextOf (.ref n) >>= _) _ _ _
 refine wpAny_bind (BG (g1.extBut q1.extBut (nn (by omega))) (t1.extBut q1.extBut (nn (by omega))) hx fun h₂ n1 q2=>wpAny_pure ?_)
 have o2:b9 h₂ (n+4) a b c:=q2.extBut _ _ (nn (by omega)) (q1.extBut _ _ (nn (by omega)) gO)
 refine wpAny_bind (wpAny_seqItems o2 rfl (wpAny_bind (on o2 fun h₃ o3 q3=>?_)))
 replace o3:b9 h₃ (n+4) x b c:=o3
 refine wpAny_bind (wpAny_letGo (wpAny_pure ?_));refine wpAny_bind (wpAny_bind (wpAny_onRaise ?_));show wpAny _ _ (Builtin.SmallTypes.nextOf (.ref (n+1)) >>= _) _ _ _
 refine wpAny_bind (BG (((g2.extBut q1.extBut (nn (by omega))).extBut q2.extBut (nn (by omega))).extBut q3.extBut (nn (by omega))) (((t2.extBut q1.extBut (nn (by omega))).extBut q2.extBut (nn (by omega))).extBut q3.extBut (nn (by omega))) hy fun h₄ n2 q4=>wpAny_pure ?_)
 have o4:b9 h₄ (n+4) x b c:=q4.extBut _ _ (nn (by omega)) o3
 refine wpAny_bind (wpAny_seqItems o4 rfl (wpAny_bind (on o4 fun h₅ o5 q5=>?_)))
 replace o5:b9 h₅ (n+4) x y c:=o5
 refine wpAny_bind (wpAny_letGo (wpAny_pure ?_));refine wpAny_bind (wpAny_bind (wpAny_onRaise ?_));show wpAny _ _ (Builtin.SmallTypes.nextOf (.ref (n+2)) >>= _) _ _ _
 refine wpAny_bind (BG (((((g3.extBut q1.extBut (nn (by omega))).extBut q2.extBut (nn (by omega))).extBut q3.extBut (nn (by omega))).extBut q4.extBut (nn (by omega))).extBut q5.extBut (nn (by omega))) (((((t3.extBut q1.extBut (nn (by omega))).extBut q2.extBut (nn (by omega))).extBut q3.extBut (nn (by omega))).extBut q4.extBut (nn (by omega))).extBut q5.extBut (nn (by omega))) hz fun h₆ n3 q6=>wpAny_pure ?_)
 have o6:b9 h₆ (n+4) x y c:=q6.extBut _ _ (nn (by omega)) o5
 refine wpAny_bind (wpAny_seqItems o6 rfl (wpAny_bind (on o6 fun h₇ o7 q7=>?_)))
 replace o7:b9 h₇ (n+4) x y z:=o7
 refine wpAny_bind (wpAny_letGo (wpAny_pure (wpAny_pure ?_)));refine wpAny_bind (wpAny_seqItems o7 rfl (wpAny_bind (wpAny_newTuple ?_)))
 have sz:h₇.objs.size=s.heap.objs.size:=by rw[q7.1,q6.1,q5.1,q4.1,q3.1,q2.1,q1.1]
 have kk:∀c o,c≠n+5->c≠n+4->c≠n->c≠n+1->c≠n+2->s.heap.get? c=some o->h₇.get? c=some o:=fun c o c1 c2 c3 c4 c5 e=>q7.extBut _ _ c2 (q6.extBut _ _ c5 (q5.extBut _ _ c2 (q4.extBut _ _ c4 (q3.extBut _ _ c2 (q2.extBut _ _ c3 (q1.extBut _ _ c1 e))))))
 have z7:IsZip h₇ (n+5) (n+3) (n+4) .ellipsis:=q7.extBut _ _ (nn (by omega)) (q6.extBut _ _ (nn (by omega)) (q5.extBut _ _ (nn (by omega)) (q4.extBut _ _ (nn (by omega)) (q3.extBut _ _ (nn (by omega)) (q2.extBut _ _ (nn (by omega)) z1)))))
 have m1:Si kd h₇ n l1 (i+1):=((((n1.extBut q3.extBut (nn (by omega))).extBut q4.extBut (nn (by omega))).extBut q5.extBut (nn (by omega))).extBut q6.extBut (nn (by omega))).extBut q7.extBut (nn (by omega))
 have m2:Si kd h₇ (n+1) l2 (i+1):=((n2.extBut q5.extBut (nn (by omega))).extBut q6.extBut (nn (by omega))).extBut q7.extBut (nn (by omega))
 have m3:Si kd h₇ (n+2) l3 (i+1):=n3.extBut q7.extBut (nn (by omega))
 have zl:n+5 < h₇.objs.size:=Heap.lt_size z7
 show wpAny _ _ (Builtin.SmallTypes.ownedTupleHandOut (.ref (n+5)) (.ref h₇.objs.size) >>= _) _ _ _;refine wpAny_bind ?_;unfold Builtin.SmallTypes.ownedTupleHandOut
 have z8:IsZip (h₇.push { cls:=.type "tuple",data:=.seq #[x,y,z] }) (n+5) (n+3) (n+4) .ellipsis:=Heap.get?_push_of_some _ z7
 refine wpAny_bind (wpAny_setField_rec z8 (by simp) fun h₉ z9 q9=>?_)
 replace z9:IsZip h₉ (n+5) (n+3) (n+4) (rawInt h₇.objs.size):=z9
 refine wpAny_setField_rec z9 (by simp) fun g za qa=>?_
 replace za:IsZip g (n+5) (n+3) (n+4) (rawInt h₇.objs.size):=za
 have up:∀c o,c≠n+5->h₇.get? c=some o->g.get? c=some o:=fun c o c1 e=>qa.extBut _ _ c1 (q9.extBut _ _ c1 (Heap.get?_push_of_some _ e))
 have T8:b9 g h₇.objs.size x y z:=qa.extBut _ _ (Nat.ne_of_gt zl) (q9.extBut _ _ (Nat.ne_of_gt zl) (Heap.get?_push_size _ rfl))
 rw[sz]at za T8
 refine wpAny_pure ⟨_,rfl,?_⟩
 show Q (.ref h₇.objs.size) _
 rw[sz]
 exact k g za (up _ _ (nn (by omega)) o7) (m1.at fun o e=>up _ o (nn (by omega)) e) (m2.at fun o e=>up _ o (nn (by omega)) e) (m3.at fun o e=>up _ o (nn (by omega)) e) T8 fun c o c1 c2 c3 c4 c5 e=>up c o c1 (kk c o c1 c2 c3 c4 c5 e)
def qZ{Q:Fin->Shared->Prop}(hh:A.handled=none)(d1:l1 < n)(gz:IsZip s.heap (n+5) (n+3) (n+4) .none)(gI:b9 s.heap (n+3) (.ref n) (.ref (n+1)) (.ref (n+2)))
  (g1:Si kd s.heap n l1 i) (t1:Sq kd s.heap l1 xs) (hx:xs[i]?=none)
  (k:∀(g:Heap) (e:Addr),(∀c o,c≠n+5->c≠n+4->c≠n->c≠n+1->c≠n+2->s.heap.get? c=some o->g.get? c=some o)->(∃o,g.get? e=some o/\o.cls = .type "StopIteration")->E (.ref e) { s with heap:=g }) :
  wpAny (model prog w) A (Builtin.«zip.__next__» ⟨[.ref (n+5)],[]⟩) Q E s:=by
 show wpAny _ _ (field (.ref (n+5)) 2 >>= _) _ _ _;refine wpAny_bind (wpAny_field gz rfl (x:=.bool false) rfl ?_)
 show wpAny _ _ (field (.ref (n+5)) 3 >>= _) _ _ _;refine wpAny_bind (wpAny_field gz rfl (x:=.ref (n+3)) rfl (wpAny_bind (wpAny_seqItems gI rfl ?_)))
 show wpAny _ _ (Builtin.SmallTypes.ownedTupleIsFree (.ref (n+5)) >>= _) _ _ _;refine wpAny_bind ?_;unfold Builtin.SmallTypes.ownedTupleIsFree
 refine wpAny_bind (wpAny_field gz rfl (x:=.none) rfl (wpAny_pure ?_));simp only[if_true]
 refine wpAny_bind (wpAny_rule (wpAny_bind (wpAny_field gz rfl (x:=.ref (n+4)) rfl (wpAny_bind (wpAny_setField_rec gz (by simp) fun h₁ z1 q1=>?_)))))
 replace z1:IsZip h₁ (n+5) (n+3) (n+4) .ellipsis:=z1
 refine wpAny_bind ?_;simp only[List.zipIdx_cons,List.zipIdx_nil,List.forIn_cons,List.forIn_nil]
 refine wpAny_bind (wpAny_bind (wpAny_onRaise ?_));show wpAny _ _ (Builtin.SmallTypes.nextOf (.ref n) >>= _) _ _ _
 refine wpAny_bind (AF hh (g1.extBut q1.extBut (nn (by omega))) (t1.extBut q1.extBut (nn (by omega))) hx fun h₂ e q2 ⟨oe,ge,ce⟩=>?_)
 have z2:IsZip h₂ (n+5) (n+3) (n+4) .ellipsis:=q2 _ _ (nn (by omega)) z1
 have ez:e≠n+5:=fun u=>by subst u;rw[z2]at ge;cases ge;simp at ce
 exact wpAny_setField_rec z2 (by simp) fun h₃ _ q3=>k h₃ e (fun c o c1 _ c3 _ _ u=>q3.extBut _ _ c1 (q2 _ _ c3 (q1.extBut _ _ c1 u))) ⟨oe,q3.extBut _ _ ez ge,ce⟩
def jR{Q:Option Value->Shared->Prop}(d1:l1 < n)(d2:l2 < n)(d3:l3 < n)(gz:IsZip s.heap (n+5) (n+3) (n+4) .none)(gI:b9 s.heap (n+3) (.ref n) (.ref (n+1)) (.ref (n+2)))(gO:b9 s.heap (n+4) a b c)
  (g1:Si kd s.heap n l1 i) (g2:Si kd s.heap (n+1) l2 i) (g3:Si kd s.heap (n+2) l3 i) (t1:Sq kd s.heap l1 xs) (t2:Sq kd s.heap l2 ys) (t3:Sq kd s.heap l3 zs) (hx:xs[i]?=some x) (hy:ys[i]?=some y) (hz:zs[i]?=some z)
  (k:∀g,IsZip g (n+5) (n+3) (n+4) (rawInt s.heap.objs.size)->b9 g (n+4) x y z->Si kd g n l1 (i+1)->Si kd g (n+1) l2 (i+1)->Si kd g (n+2) l3 (i+1)->b9 g s.heap.objs.size x y z->
   (∀c o,c≠n+5->c≠n+4->c≠n->c≠n+1->c≠n+2->s.heap.get? c=some o->g.get? c=some o)->Q (some (.ref s.heap.objs.size)) { s with heap:=g }):wpAny (model prog w) A (pyNext (.ref (n+5))) Q E s:=by
 have ty:s.TypeIs (.ref (n+5)) "zip":=⟨_,gz,rfl⟩
 unfold pyNext
 exact wpAny_bind (wpAny_attempt (wpAny_callSpecial?_slot (name:=Str.ofString "__next__") ty F.slot_zip_next (wpAny_call_entry F.slot_zip_next ty F.entry_zip_next
  (nS d1 d2 d3 gz gI gO g1 g2 g3 t1 t2 t3 hx hy hz fun g a1 a2 a3 a4 a5 a6 a7=>wpAny_pure (k g a1 a2 a3 a4 a5 a6 a7)) (F.args_zip_next_1 _))))
def ls{Q:Option Value->Shared->Prop}(hh:A.handled=none)(d1:l1 < n)(gz:IsZip s.heap (n+5) (n+3) (n+4) .none)(gI:b9 s.heap (n+3) (.ref n) (.ref (n+1)) (.ref (n+2)))
  (g1:Si kd s.heap n l1 i) (t1:Sq kd s.heap l1 xs) (hx:xs[i]?=none)
  (k:∀g:Heap,(∀c o,c≠n+5->c≠n+4->c≠n->c≠n+1->c≠n+2->s.heap.get? c=some o->g.get? c=some o)->Q none { s with heap:=g }):wpAny (model prog w) A (pyNext (.ref (n+5))) Q E s:=by
 have ty:s.TypeIs (.ref (n+5)) "zip":=⟨_,gz,rfl⟩
 unfold pyNext
 refine wpAny_bind (wpAny_attempt (wpAny_callSpecial?_slot (name:=Str.ofString "__next__") ty F.slot_zip_next (wpAny_call_entry F.slot_zip_next ty F.entry_zip_next (qZ hh d1 gz gI g1 t1 hx fun g e kk ⟨o,ho,hc⟩=>?_) (F.args_zip_next_1 _))))
 exact wpAny_bind (wpAny_isInstance (T:="StopIteration") (b:=true) ⟨o,ho,hc⟩ isSubtype_stop (wpAny_pure (k _ kk)))
end
def Fe(a b c:Value):checkTypeCall "zip" ⟨[a,b,c],[]⟩=pure ():=by kernel_rfl
def Ff(a b c:Value):checkBuiltinCall "zip.__new__" ⟨[.type "zip",a,b,c],[]⟩=pure ():=by kernel_rfl
def Fg(a b c d:Value):argsOk "object.__init__" ⟨[a,b,c,d],[]⟩:=by
 unfold argsOk;rw[signature?_of (id:="object.__init__") (n:="__init__".toList.reverse) (o:="object".toList.reverse) (by kernel_rfl) F.owner_object];kernel_rfl
noncomputable abbrev K3(kd:Bool)(h:Heap)(l1 l2 l3:Addr):Heap:=((h.push (it kd l1)).push (it kd l2)).push (it kd l3)
noncomputable abbrev K4(kd:Bool)(h:Heap)(l1 l2 l3:Addr):Heap:=(K3 kd h l1 l2 l3).push { cls:=.type "tuple",data:=.seq #[.ref h.objs.size,.ref (h.push (it kd l1)).objs.size,.ref ((h.push (it kd l1)).push (it kd l2)).objs.size] }
noncomputable abbrev K5(kd:Bool)(h:Heap)(l1 l2 l3:Addr):Heap:=(K4 kd h l1 l2 l3).push { cls:=.type "tuple",data:=.seq #[.none,.none,.none] }
noncomputable abbrev K6(kd:Bool)(h:Heap)(l1 l2 l3:Addr):Heap:=(K5 kd h l1 l2 l3).push { cls:=.type "zip",data:=.fields #[.none,.bool false,.bool false,.ref (K3 kd h l1 l2 l3).objs.size,.ref (K4 kd h l1 l2 l3).objs.size] }
def fg(kd:Bool)(l1 l2 l3:Addr)(xs ys zs:Vw) :
  Meets (Builtin.«zip.__new__» ⟨[.type "zip",.ref l1,.ref l2,.ref l3],[]⟩) (fun _ R s=>Sq kd s.heap l1 xs/\Sq kd s.heap l2 ys/\Sq kd s.heap l3 zs/\R (.ok (.ret (.ref (K5 kd s.heap l1 l2 l3).objs.size))) { s with heap:=K6 kd s.heap l1 l2 l3 }):=
 .of_wp fun prog w A R s h=>by
  obtain⟨hp,g,d,tk,os⟩:=s;obtain⟨e1,e2,e3,h⟩:=h
  have hsub:=sub_zip
  cases kd with
  |false=>
   have L1:Heap.IsTuple (Shared.heap ⟨hp,g,d,tk,os⟩) l1 xs:=e1
   have L2:Heap.IsTuple (Shared.heap ⟨hp.push { cls:=.type "tuple_iterator",data:=.fields #[.ref l1,.int 0 0] },g,d,tk,os⟩) l2 ys:=Heap.IsTuple.push e2 _
   have L3:Heap.IsTuple (Shared.heap ⟨(hp.push { cls:=.type "tuple_iterator",data:=.fields #[.ref l1,.int 0 0] }).push { cls:=.type "tuple_iterator",data:=.fields #[.ref l2,.int 0 0] },g,d,tk,os⟩) l3 zs:=Heap.IsTuple.push (Heap.IsTuple.push e3 _) _
   wp_walk using wpAny_pyIter_tuple L1,wpAny_pyIter_tuple L2,wpAny_pyIter_tuple L3
   exact⟨_,rfl,h⟩
  |true=>
   have L1:Heap.IsList (Shared.heap ⟨hp,g,d,tk,os⟩) l1 xs:=e1
   have L2:Heap.IsList (Shared.heap ⟨hp.push { cls:=.type "list_iterator",data:=.fields #[.ref l1,.int 0 0] },g,d,tk,os⟩) l2 ys:=Heap.IsList.push e2 _
   have L3:Heap.IsList (Shared.heap ⟨(hp.push { cls:=.type "list_iterator",data:=.fields #[.ref l1,.int 0 0] }).push { cls:=.type "list_iterator",data:=.fields #[.ref l2,.int 0 0] },g,d,tk,os⟩) l3 zs:=Heap.IsList.push (Heap.IsList.push e3 _) _
   wp_walk using wpAny_pyIter_list L1,wpAny_pyIter_list L2,wpAny_pyIter_list L3
   exact⟨_,rfl,h⟩
section
variable {kd:Bool} {prog:Program} {w:World} {A:Around} {E:Vq} {s:Shared}
def gy{l1 l2 l3:Addr}{xs ys zs:Vw}{Q:Vq}(e1:Sq kd s.heap l1 xs)(e2:Sq kd s.heap l2 ys)(e3:Sq kd s.heap l3 zs)
  (k:∀g,IsZip g (s.heap.objs.size+5) (s.heap.objs.size+3) (s.heap.objs.size+4) .none->b9 g (s.heap.objs.size+3) (.ref s.heap.objs.size) (.ref (s.heap.objs.size+1)) (.ref (s.heap.objs.size+2))->
   b9 g (s.heap.objs.size+4) .none .none .none->Si kd g s.heap.objs.size l1 0->Si kd g (s.heap.objs.size+1) l2 0->Si kd g (s.heap.objs.size+2) l3 0->
   (∀c o,s.heap.get? c=some o->g.get? c=some o)->Q (.ref (s.heap.objs.size+5)) { s with heap:=g }) :
  wpAny (model prog w) A (call (.type "zip") [.ref l1,.ref l2,.ref l3]) Q E s:=by
 refine callType_new F.called_zip (by decide) (Fe _ _ _) (Ff _ _ _) (fun obj=>Fg obj _ _ _) F.entry_zip_new (fg kd l1 l2 l3 xs ys zs) ⟨e1,e2,e3,?_⟩
 have z1:(s.heap.push (it kd l1)).objs.size=s.heap.objs.size+1:=Heap.size_push ..
 have z2:((s.heap.push (it kd l1)).push (it kd l2)).objs.size=s.heap.objs.size+2:=by rw[Heap.size_push,z1]
 have z3:(K3 kd s.heap l1 l2 l3).objs.size=s.heap.objs.size+3:=by rw[Heap.size_push,z2]
 have z4:(K4 kd s.heap l1 l2 l3).objs.size=s.heap.objs.size+4:=by rw[Heap.size_push,z3]
 have z5:(K5 kd s.heap l1 l2 l3).objs.size=s.heap.objs.size+5:=by rw[Heap.size_push,z4]
 have p:∀{h:Heap} {b:Addr} {o o':Obj},h.get? b=some o->(h.push o').get? b=some o:=fun e=>Heap.get?_push_of_some _ e
 have g6:(K6 kd s.heap l1 l2 l3).get? (K5 kd s.heap l1 l2 l3).objs.size=some _:=Heap.get?_push_size _ rfl
 have g5:(K6 kd s.heap l1 l2 l3).get? (K4 kd s.heap l1 l2 l3).objs.size=some _:=p (Heap.get?_push_size _ rfl)
 have g4:(K6 kd s.heap l1 l2 l3).get? (K3 kd s.heap l1 l2 l3).objs.size=some _:=p (p (Heap.get?_push_size _ rfl))
 have g3:(K6 kd s.heap l1 l2 l3).get? ((s.heap.push (it kd l1)).push (it kd l2)).objs.size=some _:=p (p (p (Heap.get?_push_size _ rfl)))
 have g2:(K6 kd s.heap l1 l2 l3).get? (s.heap.push (it kd l1)).objs.size=some _:=p (p (p (p (Heap.get?_push_size _ rfl))))
 have g1:(K6 kd s.heap l1 l2 l3).get? s.heap.objs.size=some _:=p (p (p (p (p (Heap.get?_push_size _ rfl)))))
 show _/\_
 rw[z3,z4,z5]at g6
 rw[z4]at g5
 rw[z1,z2,z3]at g4
 rw[z2]at g3
 rw[z1]at g2
 rw[z5]
 exact⟨⟨_,g6,rfl⟩,k _ g6 g4 g5 (.mk g1) (.mk g2) (.mk g3) fun c o x=>p (p (p (p (p (p x)))))⟩
end
end Zu
namespace L2
open PySem PySem.Spec PyProof.Rows
noncomputable def Eo(kd:Bool)(K:Vo)(a b c:Addr):It:=
  ⟨fun i H=>∃xs ys zs x y z,lv kd K H a xs/\lv kd K H b ys/\lv kd K H c zs/\xs[i]?=some x/\ys[i]?=some y/\zs[i]?=some z,
   fun i H v H'=>∃p x y z,v = .ref p/\H p=none/\H'=upd H p (.tup [x,y,z])/\∀xs ys zs,lv kd K H a xs->lv kd K H b ys->lv kd K H c zs->xs[i]?=some x/\ys[i]?=some y/\zs[i]?=some z,
   fun i H=>∃xs,lv kd K H a xs/\xs.length<=i⟩
def vI{kd:Bool}{P:Program}{w:World}{K:Vo}{elts:List Expr}{k0:Nat}{GO:Pos}{n a b c:Nat}(d1:a < n)(d2:b < n)(d3:c < n) :
  ml P w K (.Tuple elts k0 GO) (Eo kd K a b c) [n+5,n+3,n+4,n,n+1,n+2] (n+5) (fun i h=>IsZip h (n+5) (n+3) (n+4) .none/\Zu.b9 h (n+3) (.ref n) (.ref (n+1)) (.ref (n+2))/\(∃x y z,Zu.b9 h (n+4) x y z)/\Zt.Si kd h n a i/\Zt.Si kd h (n+1) b i/\Zt.Si kd h (n+2) c i) where
 mem:=by simp
 obj:=fun i h st c hc=>by
  obtain⟨gz,gI,⟨x,y,z,gO⟩,g1,g2,g3⟩:=st
  obtain⟨o1,_,e1,f1⟩:=g1.ob;obtain⟨o2,_,e2,f2⟩:=g2.ob;obtain⟨o3,_,e3,f3⟩:=g3.ob
  simp only[List.mem_cons,List.not_mem_nil,or_false]at hc
  rcases hc with rfl|rfl|rfl|rfl|rfl|rfl
  ·exact⟨_,gz,fun v q=>by cases q⟩
  ·exact⟨_,gI,fun v q=>by cases q⟩
  ·exact⟨_,gO,fun v q=>by cases q⟩
  ·exact⟨_,e1,fun v q=>by rw[f1]at q;cases q⟩
  ·exact⟨_,e2,fun v q=>by rw[f2]at q;cases q⟩
  ·exact⟨_,e3,fun v q=>by rw[f3]at q;cases q⟩
 keep:=fun i h h' st k=>by
  obtain⟨gz,gI,⟨x,y,z,gO⟩,g1,g2,g3⟩:=st
  exact⟨k _ (by simp) _ gz,k _ (by simp) _ gI,⟨x,y,z,k _ (by simp) _ gO⟩,g1.at fun o e=>k _ (by simp) o e,g2.at fun o e=>k _ (by simp) o e,g3.at fun o e=>k _ (by simp) o e⟩
 item:=by
  intro X hP hw hK hc i pins s σ H E I hf st hg
  subst hP hw hK
  obtain⟨gz,gI,⟨ta,tb,tc,gO⟩,g1,g2,g3⟩:=st
  obtain⟨xs,ys,zs,x,y,z,IW,Lk,NF,hx,hy,hz⟩:=hg
  obtain⟨ia,ra,pa⟩:=I.H_ IW
  obtain⟨ib,rb,pb⟩:=I.H_ Lk
  obtain⟨ic,rc,pc⟩:=I.H_ NF
  obtain⟨u,hu,ru⟩:=ra.get hx
  obtain⟨v,hv,rv⟩:=rb.get hy
  obtain⟨t,ht,rt⟩:=rc.get hz
  refine Zu.jR (kd:=kd) d1 d2 d3 gz gI gO g1 g2 g3 pa pb pc (x:=u) (y:=v) (z:=t) (by simpa using hu) (by simpa using hv) (by simpa using ht) fun g a1 a2 a3 a4 a5 a6 a7=>?_
  refine⟨_,rfl,wpAny_letOwnedTupleGo_zip (s:={ s with heap:=g }) a1 fun g' z' q'=>?_⟩
  have kk:∀c o,c ∉ ([n+5,n+3,n+4,n,n+1,n+2]:List Addr)->s.heap.get? c=some o->g'.get? c=some o:=fun c o hc e=>by
   simp only[List.mem_cons,List.not_mem_nil,or_false,not_or]at hc
   exact q'.extBut _ _ hc.1 (a7 c o hc.1 hc.2.2.1 hc.2.2.2.1 hc.2.2.2.2.1 hc.2.2.2.2.2 e)
  have I1:Inv X pins σ H { s with heap:=g' }:=I.GM (t':=s.toks) kk hf
  have f0:fB X pins H s.heap.objs.size:=I.HR (Nat.le_refl _) (I.hok.fresh (Nat.le_refl _))
  have eT:F7 g' s.heap.objs.size [u,v,t].toArray:=⟨_,q'.extBut _ _ (Nat.ne_of_gt (Heap.lt_size gz)) a6,rfl,rfl,_,rfl⟩
  have I2:=I1.IV f0 eT (.cons ru (.cons rv (.cons rt .nil))) (by show 3<=sizeLine;decide)
  refine⟨.ref s.heap.objs.size,_,I2,rfl,⟨s.heap.objs.size,x,y,z,rfl,f0.1,rfl,fun xs' ys' zs' h1 h2 h3=>by rw[I.Hh h1 IW,I.Hh h2 Lk,I.Hh h3 NF];exact⟨hx,hy,hz⟩⟩,
   ⟨z',q'.extBut _ _ (Zu.nn (by omega)) (a7 _ _ (Zu.nn (by omega)) (Zu.nn (by omega)) (Zu.nn (by omega)) (Zu.nn (by omega)) (Zu.nn (by omega)) gI),⟨_,_,_,q'.extBut _ _ (Zu.nn (by omega)) a2⟩,a3.extBut q'.extBut (Zu.nn (by omega)),a4.extBut q'.extBut (Zu.nn (by omega)),a5.extBut q'.extBut (Zu.nn (by omega))⟩,fun c hc=>?_⟩
  have hlt:c < s.heap.objs.size:=by
   obtain⟨_,_,e1,_⟩:=g1.ob
   obtain⟨_,_,e2,_⟩:=g2.ob
   obtain⟨_,_,e3,_⟩:=g3.ob
   simp only[List.mem_cons,List.not_mem_nil,or_false]at hc
   rcases hc with rfl|rfl|rfl|rfl|rfl|rfl
   ·exact Heap.lt_size gz
   ·exact Heap.lt_size gI
   ·exact Heap.lt_size gO
   ·exact Heap.lt_size e1
   ·exact Heap.lt_size e2
   ·exact Heap.lt_size e3
  rw[aH (Nat.ne_of_lt hlt)]
  exact(hf c hc).1
 done:=by
  intro X hP hw hK hc i pins s σ H E I hf st hg
  subst hP hw hK
  obtain⟨gz,gI,⟨ta,tb,tc,gO⟩,g1,g2,g3⟩:=st
  obtain⟨xs,IW,hl⟩:=hg
  obtain⟨ia,ra,pa⟩:=I.H_ IW
  have la:=ra.length
  refine Zu.ls (kd:=kd) (I.ok.hd hc) d1 gz gI g1 pa (by simp;omega) fun g kk=>⟨rfl,I.GM (t':=s.toks) (fun c o hc e=>?_) hf⟩
  simp only[List.mem_cons,List.not_mem_nil,or_false,not_or]at hc
  exact kk c o hc.1 hc.2.2.1 hc.2.2.2.1 hc.2.2.2.2.1 hc.2.2.2.2.2 e
 self:=fun _ _ _ _ _ st h=>wpAny_pyIter_zip st.1 h
section
variable {X:Cx}
def Ep(kd:Bool)(K:Vo)(ta:TA):TI:=fun σ H R=>ta σ H fun vs H1=>∃a b c,vs=[.ref a,.ref b,.ref c]/\(∃xs,lv kd K H1 a xs)/\(∃ys,lv kd K H1 b ys)/\(∃zs,lv kd K H1 c zs)/\R (Eo kd K a b c) H1
def A1{kd:Bool}{elts:List Expr}{k0:Nat}{GO:Pos}{a b c:Expr}{ta:TA}{p pos:Pos}(hg:Gl X "zip")(hm:X.mg "zip" = none)(hv:bootBuiltins "zip" = some (.type "zip"))(ha:PA X [a,b,c] ta)
  (hs:starEach [a,b,c] X.env=[(false,eval a X.env),(false,eval b X.env),(false,eval c X.env)]) (hs2:starEach [b,c] X.env=[(false,eval b X.env),(false,eval c X.env)]):PI X (.Tuple elts k0 GO) (.Call (.Name "zip" p) [a,b,c] [] pos) (Ep kd X.K ta):=by
 intro pins s σ H R I h
 refine Call_ (fA I hg hm hv (PyProof.Rows.callWith_type1 (Fw (ha pos pins s σ H _ I h) fun us s1 ⟨vs,H1,I1,r1,q1⟩=>?_) (by rw[hs,hs2]) (by rw[hs2];rfl)))
 obtain⟨a,b,c,e,⟨xs,qa⟩,⟨ys,qb⟩,⟨zs,qc⟩,q⟩:=q1
 subst e
 obtain⟨u,us,rfl⟩:∃u us',us=u::us':=by cases r1;exact⟨_,_,rfl⟩
 cases r1 with
 |cons ru r1=>
 obtain⟨v,t,rfl,rv,rt⟩:=uK r1
 cases ru
 cases rv
 cases rt
 obtain⟨ia,ra,pa⟩:=I1.H_ qa
 obtain⟨ib,rb,pb⟩:=I1.H_ qb
 obtain⟨ic,rc,pc⟩:=I1.H_ qc
 have la:a < s1.heap.objs.size:=pa.lt
 have lb:b < s1.heap.objs.size:=pb.lt
 have lc:c < s1.heap.objs.size:=pc.lt
 refine Zu.gy (kd:=kd) pa pb pc fun g gz gI gO g1 g2 g3 kk=>?_
 refine wpAny_pyIter_zip (s:={ s1 with heap:=g }) gz ?_
 refine⟨_,[s1.heap.objs.size+5,s1.heap.objs.size+3,s1.heap.objs.size+4,s1.heap.objs.size,s1.heap.objs.size+1,s1.heap.objs.size+2],_,_,H1,rfl,I1.kept (t':=s1.toks) kk,vI la lb lc,⟨gz,gI,⟨_,_,_,gO⟩,g1,g2,g3⟩,fun c hc=>?_,q⟩
 have hle:s1.heap.objs.size<=c:=by
  simp only[List.mem_cons,List.not_mem_nil,or_false]at hc
  rcases hc with rfl|rfl|rfl|rfl|rfl|rfl
  ·exact Nat.le_add_right _ _
  ·exact Nat.le_add_right _ _
  ·exact Nat.le_add_right _ _
  ·exact Nat.le_refl _
  ·exact Nat.le_add_right _ _
  ·exact Nat.le_add_right _ _
 exact I1.HR hle (I1.hok.fresh hle)
end
end L2
namespace L3
open PySem L2
section
variable {X:Cx} {a b c:Expr} {ta tb tc:aW} {p pos:Pos}
noncomputable def CM(z:PV×PV×PV):PV:=.tup [z.1,z.2.1,z.2.2]
noncomputable def fJ(xs ys zs:List PV):List PV:=(xs.zip (ys.zip zs)).map CM
def vJ{K:Vo}{H0:Hp}{a b c:Addr}{vs us ws:List V}{xs ys zs:List PV}(h1:SqT K H0 a vs)(h2:SqT K H0 b us)(h3:SqT K H0 c ws)(r1:Reps K H0 vs xs)(r2:Reps K H0 us ys)(r3:Reps K H0 ws zs)(l12:xs.length<=ys.length)(l13:xs.length<=zs.length):iG K H0 (Eo false K a b c) ⟨fJ xs ys zs,fun _=>True⟩:=by
 intro i S H g rS _
 have hv:=g.t _ _ h1
 have hu:=g.t _ _ h2
 have hw:=g.t _ _ h3
 have l1:=r1.length
 refine⟨fun p hp=>?_,fun hi=>⟨vs,hv,?_⟩⟩
 ·unfold fJ at hp
  rw[List.getElem?_map]at hp
  cases hz:(xs.zip (ys.zip zs))[i]? with
  |none=>rw[hz]at hp;cases hp
  |some z=>
   rw[hz]at hp
   cases hp
   obtain⟨e1,OE⟩:=List.getElem?_zip_eq_some.mp hz
   obtain⟨e2,e3⟩:=List.getElem?_zip_eq_some.mp OE
   obtain⟨v,hx',rv⟩:=r1.get e1
   obtain⟨u,hy',ru⟩:=r2.get e2
   obtain⟨t,hz',rt⟩:=r3.get e3
   refine⟨⟨vs,us,ws,v,u,t,hv,hu,hw,hx',hy',hz'⟩,fun x H' ⟨q,x2,y2,z2,e3,hq,e4,h⟩=>?_⟩
   subst e3 e4
   obtain⟨k1,k2,k3⟩:=h vs us ws hv hu hw
   rw[hx']at k1
   rw[hy']at k2
   rw[hz']at k3
   cases k1;cases k2;cases k3
   exact⟨.tup (SqT.of aG) (.cons ((rv.mono g).mono (.new hq)) (.cons ((ru.mono g).mono (.new hq)) (.cons ((rt.mono g).mono (.new hq)) .nil))),rS.other hq,.new hq⟩
 ·have e:(fJ xs ys zs).length=min xs.length (min ys.length zs.length):=by simp[fJ]
  rw[e]at hi
  omega
def vK(ta tb tc:aW):tR:=fun σ S R E=>ta σ S (fun v S1=>tb σ S1 (fun w S2=>tc σ S2 (fun x S3=>match v,w,x with
 | .tup xs,.tup ys,.tup zs=>xs.length<=ys.length/\xs.length<=zs.length/\R ⟨fJ xs ys zs,fun _=>True⟩ S3
 |_,_,_=>False) E) E) E
def A2{elts:List Expr}{k0:Nat}{GO:Pos}(hs:starEach [a,b,c] X.env=[(false,eval a X.env),(false,eval b X.env),(false,eval c X.env)])(hs2:starEach [b,c] X.env=[(false,eval b X.env),(false,eval c X.env)])(hg:Gl X "zip")(hm:X.mg "zip" = none)(hv:bootBuiltins "zip" = some (.type "zip"))(ha:kB X [a,b,c] [ta,tb,tc]) :
  vD X (.Tuple elts k0 GO) (.Call (.Name "zip" p) [a,b,c] [] pos) (vK ta tb tc):=
 ⟨jX (A1 (kd:=false) hg hm hv ha.ok hs hs2) fun σ H R ⟨σ3,S,R3,E3,rσ,rS,h,xo,k⟩=>⟨σ3,S,_,E3,rσ,rS,h,xo,fun v S1 v' H1 h1 rv FI g1=>⟨σ3,S1,_,E3,rσ.mono g1,FI,h1,xo.mono g1,fun w S2 w' H2 h2 rw' Hi g2=>⟨σ3,S2,_,E3,(rσ.mono g1).mono g2,Hi,h2,(xo.mono g1).mono g2,fun x S3 x' H3 h3 MT KE g3=>by
  dsimp only at h3
  split at h3
  ·cases rv with
   |tup hq rs=>
    cases rw' with
    |tup hq2 Ll=>
     cases MT with
     |tup NG OF=>exact⟨_,_,_,rfl,⟨_,g3.t _ _ (g2.t _ _ hq)⟩,⟨_,g3.t _ _ hq2⟩,⟨_,NG⟩,k _ S3 _ H3 h3.2.2 (vJ (g3.t _ _ (g2.t _ _ hq)) (g3.t _ _ hq2) NG ((rs.mono g2).mono g3) (Ll.mono g3) OF h3.1 h3.2.1) KE ((g1.trans g2).trans g3)⟩
  ·exact h3.elim⟩⟩⟩⟩
end
end L3
namespace L2
open PySem PySem.Spec PyProof.Rows
def j2:fillsNumberSlot (.type "tuple") "mul" = pure false:=
 PySem.fillsNumberSlot_seq (id:="tuple.__mul__") (r:=some (.builtin "tuple.__rmul__")) F.slot_tuple_mul.lookup (by decide +kernel) F.slot_tuple_rmul.lookup (by decide +kernel)
def oo:seqRepeat? (.type "tuple")=pure (some (.builtin "tuple.__mul__")):=by
 unfold seqRepeat?
 rw[PySem.seqSlot_of (T:="tuple") (name:="__mul__") (id:="tuple.__mul__") F.slot_tuple_mul.lookup (by decide +kernel),PySem.seqSlot_of (T:="tuple") (name:="__rmul__") (id:="tuple.__rmul__") F.slot_tuple_rmul.lookup (by decide +kernel)]
 rfl
def lH(a:Int)(t:Tok)(l:Addr)(its:Vw)(n:Nat)(dd:Option Addr)(sl:Array (Option Value)) :
  Meets (Builtin.«int.__rmul__» ⟨[.int a t,.ref l],[]⟩) (fun _ R s=>s.heap.get? l=some { cls:=.type "tuple",dict:=dd,data:=.seq its n,slots:=sl }/\R (.ok (.ret Value.notImplemented)) s):=
 .of_wp fun prog w A R s h=>by obtain⟨hp,g,d,tk,os⟩:=s;obtain⟨hl,h⟩:=h;wp_walk;exact⟨_,rfl,h⟩
def CN(l:Addr)(x:Value)(n:Nat)(dd:Option Addr)(sl:Array (Option Value))(t:Tok) :
  Meets (Builtin.«tuple.__mul__» ⟨[.ref l,.int 1 t],[]⟩) (fun _ R s=>s.heap.get? l=some { cls:=.type "tuple",dict:=dd,data:=.seq #[x] n,slots:=sl }/\R (.ok (.ret (.ref l))) s):=
 .of_wp fun prog w A R s h=>by
  obtain⟨hp,g,d,tk,os⟩:=s;obtain⟨hl,h⟩:=h
  have t1:=AutoSeq1.idx_int
  wp_walk using wpAny_loadPart' hl
  exact⟨_,rfl,h⟩
def CO(l:Addr)(x:Value)(n:Nat)(dd:Option Addr)(sl:Array (Option Value))(t:Tok) :
  Meets (Builtin.«tuple.__mul__» ⟨[.ref l,.int 0 t],[]⟩) (fun _ R s=>s.heap.get? l=some { cls:=.type "tuple",dict:=dd,data:=.seq #[x] n,slots:=sl }/\R (.ok (.ret (.ref s.heap.objs.size))) { s with heap:=s.heap.push { cls:=.type "tuple",data:=.seq #[] } }):=
 .of_wp fun prog w A R s h=>by
  obtain⟨hp,g,d,tk,os⟩:=s;obtain⟨hl,h⟩:=h
  have t1:=AutoSeq1.idx_int
  wp_walk using wpAny_loadPart' hl
  exact⟨_,rfl,h⟩
def sy(x:Value)(m:Nat):(List.replicate m (#[x]:Vw)).foldl (·++·) #[]=(List.replicate m x).toArray:=by
 have:=jO [x] m []
 rw[List.nil_append]at this
 refine this.trans ?_
 rw[List.flatten_replicate_singleton]
def CP(l:Addr)(x:Value)(n:Nat)(dd:Option Addr)(sl:Array (Option Value))(k:Int)(t:Tok)(h2:2<=k)(hk:k<=2 ^ 20) :
  Meets (Builtin.«tuple.__mul__» ⟨[.ref l,.int k t],[]⟩) (fun _ R s=>s.heap.get? l=some { cls:=.type "tuple",dict:=dd,data:=.seq #[x] n,slots:=sl }/\R (.ok (.ret (.ref s.heap.objs.size))) { s with heap:=s.heap.push { cls:=.type "tuple",data:=.seq ((List.replicate k.toNat #[x]).foldl (·++·) #[]) } }):=
 .of_wp fun prog w A R s h=>by
  obtain⟨hp,g,d,tk,os⟩:=s;obtain⟨hl,h⟩:=h
  have t1:=AutoSeq1.idx_int
  have c1:¬((decide (k < -(2 ^ 63)) || decide (k>=2 ^ 63))=true):=by rw[Bool.or_eq_true,decide_eq_true_eq,decide_eq_true_eq];omega
  have c2:¬(((#[x]:Vw).isEmpty || k == 1)=true):=by
   have:(k == 1)=false:=by rw[beq_eq_false_iff_ne];omega
   rw[this];simp
  have c3:¬((decide (k<=0) || (#[x]:Vw).isEmpty)=true):=by
   have:decide (k<=0)=false:=decide_eq_false (by omega)
   rw[this];simp
  have c4:¬(((#[x]:Vw).size:Int) * k > (2 ^ 63 - 1) / 8):=by show ¬((1:Int) * k > _);omega
  have sl:(2:Int) ^ 20<=(sizeLine:Int):=by decide
  have c5:¬(Builtin.Tuple.tupleTooMany (((#[x]:Vw).size:Int) * k)=true):=by show ¬(decide ((1:Int) * k > (sizeLine:Int))=true);rw[decide_eq_true_eq];omega
  wp_walk using wpAny_loadPart' hl
  rw[if_neg c1]
  wp_walk using wpAny_loadPart' hl
  rw[if_neg c2]
  wp_walk using wpAny_loadPart' hl
  rw[if_neg c3]
  wp_walk using wpAny_loadPart' hl
  rw[if_neg c4]
  wp_walk using wpAny_loadPart' hl
  rw[if_neg c5]
  wp_walk using wpAny_loadPart' hl
  have c6:¬((List.replicate k.toNat (#[x]:Vw)).foldl (·++·) #[]).size > sizeLine:=by
   rw[sy,List.size_toArray,List.length_replicate];have:=Int.toNat_of_nonneg (show 0<=k by omega);omega
  rw[if_neg c6]
  wp_walk using wpAny_loadPart' hl
  exact⟨_,rfl,h⟩
section
variable {X:Cx}
def CQ(H H':Hp):Prop:=∀c o,H c=some o->H' c=some o
def CS(K:Vo):R2:=fun x y H Q=>∃l k x0,x = .ref l/\y = .int k/\SqT K H l [x0]/\0<=k/\k<=2 ^ 20/\∀r H',CQ H H'->SqT K H' r (List.replicate k.toNat x0)->Q (.ref r) H'
def yq:iB X (binaryOp .Mult) (CS X.K):=by
 intro pins s σ H x y v u Q I rx ry h
 obtain⟨l,k,x0,rfl,rfl,hH,h1,h2,q⟩:=h
 cases rx
 obtain⟨t,rfl⟩:=ry
 obtain⟨its,r1,p1,_⟩:=I.tuple hH
 obtain⟨w,rfl,OG⟩:=r1.one
 obtain⟨⟨cls,dd,data,sl⟩,ho,hc,n,hd⟩:=id p1
 simp only at hc hd
 subst hc hd
 have new:∀(ys:List V) (us:Vv),Vals ys us->ys.length<=sizeLine->ys=List.replicate k.toNat x0->∃v H1,Inv X pins σ H1 { s with heap:=s.heap.push { cls:=.type "tuple",data:=.seq us.toArray } }/\RelV v (.ref s.heap.objs.size)/\Q v H1:=fun ys us r hz e=>
  ⟨.ref s.heap.objs.size,_,I.laid (t':=s.toks) (o:=.tup ys) (fun b ob q=>Heap.get?_push_of_some _ q) (Nat.le_refl _) ⟨hz,_,r,F7.new _ _⟩,rfl,
   q _ _ (fun c o z=>by rw[aH (bm z (I.hok.fresh (Nat.le_refl _)))];exact z) (by rw[<-e];exact SqT.of aG)⟩
 refine wpAny_binaryOp_repeat_ref (T:="tuple") (U:="int") (by decide) ⟨_,ho,rfl⟩ (fun s'=>typeIs_int s' k t) j2 F.fills_int_mul F.slot_int_rmul oo F.slot_int_index.lookup
  (call_meets F.slot_int_rmul (typeIs_int s k t) F.entry_int_rmul (F.args_int_rmul_2 _ _) (lH k t l _ n dd sl) ⟨ho,rfl,⟨_,ho,rfl⟩,?_⟩)
 by_cases k0:k=0
 ·subst k0
  exact call_meets F.slot_tuple_mul ⟨_,ho,rfl⟩ F.entry_tuple_mul (F.args_tuple_mul_2 _ _) (CO l w n dd sl t) ⟨ho,new [] [] .nil (Nat.zero_le _) rfl⟩
 by_cases k1:k=1
 ·subst k1
  exact call_meets F.slot_tuple_mul ⟨_,ho,rfl⟩ F.entry_tuple_mul (F.args_tuple_mul_2 _ _) (CN l w n dd sl t) ⟨ho,⟨.ref l,H,I,rfl,q l H (fun _ _ e=>e) hH⟩⟩
 ·refine call_meets F.slot_tuple_mul ⟨_,ho,rfl⟩ F.entry_tuple_mul (F.args_tuple_mul_2 _ _) (CP l w n dd sl k t (by omega) h2) ⟨ho,?_⟩
  rw[sy]
  have hz:(2:Nat) ^ 20<=sizeLine:=by decide
  have e:∀m:Nat,Vals (List.replicate m x0) (List.replicate m w):=fun m=>by
   induction m with
   |zero=>exact .nil
   |succ m ih=>rw[List.replicate_succ,List.replicate_succ];exact .cons OG ih
  exact new _ _ (e k.toNat) (by rw[List.length_replicate];omega) rfl
end
end L2
namespace L3
open PySem L2
section
variable {X:Cx}
def pV:R3:=fun x y S Q=>match x,y with
 | .tup [v],.int k=>0<=k/\k<=2 ^ 20/\Q (.tup (List.replicate k.toNat v)) S
 |_,_=>False
def sA:jf X (binaryOp .Mult) pV:=⟨fun pins s σ H x y v u Q I rx ry ⟨px,py,S,Q3,r1,r2,rS,q,k⟩=>by
 unfold pV at q
 split at q
 ·cases r2
  cases r1 with
  |tup hq rs=>
   cases rs with
   |cons r0 rn=>
    cases rn
    refine yq pins s σ H _ _ v u Q I rx ry ⟨_,_,_,rfl,rfl,hq,q.1,q.2.1,fun r H' hh hr=>k _ S _ H' q.2.2 (.tup hr ?_) (rS.grow hh) (.same hh)⟩
    have e:∀m:Nat,Reps X.K H (List.replicate m _) (List.replicate m _):=fun m=>by
     induction m with
     |zero=>exact .nil
     |succ m ih=>rw[List.replicate_succ,List.replicate_succ];exact .cons r0 ih
    exact(e _).mono (.same hh)
 ·exact q.elim⟩
end
end L3
namespace C
open PySem L2 L3
def iY:bB:=(au (az [(az [(c3 (.int 0)),(c3 (.int 1))]),(af pV (az [(c3 (.int 0))]) (ak bx [(v3 0)])),(af pV (az [(c3 (.int 0))]) (ak bx [(v3 0)]))]))
def lI(KH Lm:ax):bB:=(ai (av 2 (aQ (vK (af ac (v3 0) (c3 (.int 1))) (af ac (v3 0) (c3 (.int 2))) (af ac (v3 1) (c3 (.int 2)))) (.tp (.cons (.n 0) (.cons (.n 1) (.cons (.n 2) .nil)))) ci (ak ji [(v3 1),(af bv (v3 2) (v3 0))]) 3 []))
  (au (az [(ab Lm [(af ac (v3 0) (c3 (.int 0))),(af ac (v3 1) (c3 (.int 0)))]),(ab KH [(af ac (v3 0) (c3 (.int 1))),(af ac (v3 1) (c3 (.int 1)))]),(ak bo [(v3 2)])])))
def b4(HD HU KJ s0 s1:ax):bB:=(ai (av 3 (ab HD [(v3 0)]))
  (ai (bO (aO (v3 2)) (.n 4) (av 3 (ab HU [(v3 3),(ab KJ [(ab s1 [(v3 0),(af ac (v3 1) (c3 (.int 1))),(af ac (v3 4) (c3 (.int 1)))]),(af ac (v3 4) (c3 (.int 0)))])])))
  (au (v3 3))))
def fK(HD GN HU Kk Ix s0 s1:ax):bB:=(ai (av 3 (af ac (v3 1) (c3 (.int 0))))
  (ai (av 4 (ab HD [(v3 0)]))
  (ai (bt (aJ (af (aV false) (v3 3) (c3 (.str "pay")))) (au (az [(af ac (v3 1) (c3 (.int 1))),(af ac (v3 4) (c3 (.int 1))),(af ac (v3 4) (c3 (.int 2)))])) aL)
  (ai (bt (aJ (af (aV false) (v3 3) (c3 (.str "put")))) (au (az [(af ac (v3 4) (c3 (.int 0))),(ab GN [(v3 0),(af ac (v3 1) (c3 (.int 1))),(af ac (v3 1) (c3 (.int 2)))]),(af ac (v3 4) (c3 (.int 2)))])) aL)
  (ai (bt (aJ (af (aV false) (v3 3) (c3 (.str "then")))) (au (ab HU [(ab s1 [(v3 0),(af ac (v3 1) (c3 (.int 1))),(af ac (v3 2) (c3 (.int 0)))]),(ab s1 [(v3 0),(af ac (v3 1) (c3 (.int 2))),(af ac (v3 2) (c3 (.int 1)))])])) aL)
  (ai (bt (aJ (af (aV false) (v3 3) (c3 (.str "often")))) (au (ab s0 [(v3 0),(v3 1),(v3 2)])) aL)
  (ai (bt (aJ (af (jU true) (v3 3) (az [(c3 (.str "either")),(c3 (.str "take"))]))) (au (v3 4)) aL)
  (ai (av 5 (ab s1 [(v3 0),(ab Kk [(v3 1),(v3 2)]),(af ac (v3 2) (c3 (.int 1)))]))
  (ai (bt (fi (aJ (af (aV false) (v3 3) (c3 (.str "take")))) (aJ (af (aV false) (af ac (v3 2) (c3 (.int 0))) (c3 (.int 0))))) (au (ab HU [(ab Ix [(v3 0),(v3 1)]),(v3 5)])) aL)
  (au (v3 5)))))))))))
def oq(HE:ax):bB:=(au (ab HE [(af ac (v3 0) (c3 (.int 0))),(af ac (af ac (af ac (v3 0) (c3 (.int 1))) (v3 1)) (c3 (.int 1))),(v3 2)]))
end C
namespace Zv
open PySem
open Sem (wp)
section
variable {prog:Program} {w:World} {A:Around} {E:Vq} {s:Shared} {n l1 l2:Nat} {i:Nat} {xs ys:Vw} {x y:Value} {T:Nat} {oT:Obj} {f1:Value}
end
section
variable {prog:Program} {w:World} {A:Around} {R:Result->Shared->Prop} {n l1 l2:Nat} {xs ys:Vw}
end
section
variable {prog:Program} {w:World} {A:Around} {E:Vq} {s:Shared} {n l1 l2:Nat} {xs ys:Vw}
end
end Zv
namespace L2
open PySem PySem.Spec PyProof.Rows
structure KK (K:Vo) (x:Str) (st:Stmt) (T:Addr) (f:Addr) (fd:FuncData):Prop where
 ex:∃(oc:Value) (od:Option Addr) (kV doc pm:Value) (an:Option Addr) (cdv ct:Value) (osl:Array (Option Value)),
  fd=PySem.W.fnOf x x (bY st) (bf st) (aD st) (.ref T) kV doc pm an cdv ct/\K.lookup f=some ⟨oc,od,.func fd,osl⟩/\PySem.W.codeIn K cdv x=true
 kp:PySem.W.keepIn K (.ref f)=true
section
variable {P:Program} {w:World} {K:Vo} {mg:Vr} {base:Heap}
def KK.ok{x:Str}{st:Stmt}{T f:Addr}{fd:FuncData}{N ps:Vs}{k:Nat}{sp:Sp}(F:KK K x st T f fd)(S:dP N ps (aD st))(len:∀vs H Q E,sp vs H Q E->vs.length=ps.length)
  (hbody:∀(cdv:Value) (A:Around) (outer:List Env) (s:Shared) (H:Hp) (vs:List V) (Q:VK) (E:XK),Room k (A.deeper (envOfC x (aD st) s.heap.objs.size f cdv))->sp vs H Q E->
   ∃t,Jr (pC wX P w K mg base N x (aD st) f cdv A outer s H E).Lc (bf st) t/\t { nx:=fun _ H'=>Q .non H',rt:=Q } (gk N vs) H):mn P w K mg base wX (k+1) f fd ps sp:=by
 obtain⟨oc,od,kV,doc,pm,an,cdv,ct,osl,rfl,lk,hcd⟩:=F.ex
 refine zc lk hcd S len fun A outer s H vs Q E hr Kt=>?_
 obtain⟨t,h,q⟩:=hbody cdv A outer s H vs Q E hr Kt
 exact⟨t,h.Lc,q⟩
end
section
variable {X:Cx}
end
end L2
namespace L3
open PySem L2
section
variable {P:Program} {w:World} {K:Vo} {mg:Vr} {base:Heap}
def Er{x:Str}{st:Stmt}{T f:Addr}{fd:FuncData}{N ps:Vs}{k:Nat}{t:bB}(F:KK K x st T f fd)(S:dP N ps (aD st))
  (hbody:∀(cdv:Value) (A:Around) (outer:List Env) (s:Shared) (H:Hp) (E:XK),Room k (A.deeper (PyProof.Rows.envOfC x (aD st) s.heap.objs.size f cdv))->jT (CJ P w K mg base N x st f cdv A outer s H E) (bf st) t) :
  Kw P w K mg base (k+1) f fd ps (aU N.length t):=
 ⟨F.ok S (fun vs H Q E h=>h.1) fun cdv A outer s H vs Q E hr ⟨hl,ps',S',Q3,E3,rv,rS,q,kk⟩=>⟨_,(hbody cdv A outer s H E hr).ok,aw N.length ps',S',_,nh rv,rS,q,.no,fun σ3 S2 σ2 H2 h2 _ Hi g2=>kk _ S2 _ H2 h2 .non Hi g2,kk,fun _ _ _ _ h2=>h2.elim,fun _ _ _ _ h2=>h2.elim⟩⟩
structure Es (K:Vo) (mg:Vr) (x:Str) (st:Stmt) (ps:Vs) (T:Addr) (f:Addr) (fd:FuncData):Prop where
 F:KK K x st T f fd
 b:Binds K fd ps []
 d:Binds K fd ps [.bool true]
 k:PySem.W.keepIn K (.ref f)=true
 m:mg x=some (.ref f)
end
section
variable {X:Cx} {e o:Expr} {es:List Expr} {te to:aW} {ts:List aW} {x:Str} {p pos apos cpos:Pos} {k:Nat} {f:Addr} {fd:FuncData} {ps:Vs} {sp:ax}
def j3(sp:ax)(ts:List aW):aW:=fun σ S Q E=>ao ts σ S (fun ps S1=>sp (ps++[.bl true]) S1 Q E) E
def yr(F:Kw X.prog X.w X.K X.mg X.base k f fd ps sp)(hr:Room k X.A)(hg:Gl X x)(hm:X.mg x=some (.ref f))(hk:PySem.W.keepIn X.K (.ref f)=true)(hb:Binds X.K fd ps [.bool true])(he:starEach (e::es) X.env=(false,eval e X.env)::starEach es X.env)(ha:kB X (e::es) ts)
  (hl:ts.length+1=ps.length:=by rfl) (hdb:(x == ("__debug__":Str))=false:=by decide) (hpl:(backTo pos (starEach es X.env)).any (·.1)=false:=by rfl):br X (.Call (.Name x p) (e::es) [] pos) (j3 sp ts):=
 ⟨aX (sg (dvs:=[.bl true]) F.ok hr hg hm hk hb (.cons rfl .nil) zf ha.ok hdb he hpl) fun σ H Q ⟨σ3,S,Q3,E3,rσ,rS,h,xo,k⟩=>cy rσ rS h xo fun ps' S' vs H' hl' q rv Hx g=>by
  refine⟨by rw[List.length_append,rv.length,hl'];exact hl,ps'++[.bl true],S',Q3,E3,rv.append (.cons (.bl true) .nil),Hx,q,k.mono g⟩⟩
end
section
variable {X:Cx} {a b:Expr} {ta tb:aW}
end
end L3
namespace L2
open PySem PySem.Spec PyProof.Rows
noncomputable def jm(its:Vw)(z:Str)(u:Tok)(i:Nat)(_:Option Fin×Unit):Sem (ForInStep (Option Fin×Unit)):=
 match its[i]? with
 |some y=>do
  let __do_lift <-eqBool y (Value.str z u)
  if __do_lift=true then do
   let __do_lift <-retInt (i:Int)
   pure (ForInStep.done (some __do_lift,()))
  else pure (ForInStep.yield (none,()))
 |_=>pure (ForInStep.yield (none,()))
theorem pW{prog:Program}{w:World}{A:Around}{E:Vq}{z:Str}{u:Tok}{its:Vw}{k:Nat}{Q:Option Fin×Unit->Shared->Prop}(hk:∃t,its[k]?=some (.str z t)) :
  ∀(m i:Nat) (s:Shared),i+m=its.size->i<=k->(∀j v,i<=j->j < k->its[j]?=some v->∃a t,v = .str a t/\a≠z)->(∀tk,Q (some (.done (.ret (.int k tk))),()) { s with toks:=s.toks+1 })->
  wpAny (model prog w) A (forIn (List.range' i m 1) ((none,()):Option Fin×Unit) (jm its z u)) Q E s
 |0,i,s,hm,hi,h,q=>by
  obtain⟨t,hk⟩:=hk
  have:=(Array.getElem?_eq_some_iff.mp hk).1
  omega
 |m+1,i,s,hm,hi,h,q=>by
  rw[List.range'_succ,List.forIn_cons]
  have hlt:i < its.size:=by omega
  by_cases e:i=k
  ·subst e
   obtain⟨t,hk⟩:=hk
   refine wpAny_bind ?_
   unfold jm
   rw[hk]
   refine wpAny_bind (wpAny_eqBool_str ?_)
   rw[decide_eq_true rfl,if_pos rfl]
   exact wpAny_bind (wpAny_bind (wpAny_mkInt (wpAny_pure (wpAny_pure (wpAny_pure (q _))))))
  ·have hv:=Array.getElem?_eq_getElem hlt
   obtain⟨a,t,ea,ne⟩:=h i _ (Nat.le_refl _) (by omega) hv
   refine wpAny_bind ?_
   have eb:jm its z u i (none,())=(do let __do_lift <-eqBool (Value.str a t) (Value.str z u);if __do_lift=true then do { let __do_lift <-retInt (i:Int);pure (ForInStep.done (some __do_lift,())) } else pure (ForInStep.yield (none,()))):=by
    unfold jm
    rw[hv,ea]
   rw[eb]
   refine wpAny_bind (wpAny_eqBool_str ?_)
   rw[decide_eq_false ne,if_neg (by decide)]
   exact wpAny_pure (pW hk m (i+1) s (by omega) (by omega) (fun j v h1 h2=>h j v (by omega) h2) q)
def A3(l:Addr)(its:Vw)(n:Nat)(dd:Option Addr)(sl:Array (Option Value))(z:Str)(u:Tok)(k:Nat)(hk:∃t,its[k]?=some (.str z t))(h:∀j v,j < k->its[j]?=some v->∃a t,v = .str a t/\a≠z) :
  Meets (Builtin.«tuple.index» ⟨[.ref l,.str z u],[]⟩) (fun _ R s=>s.heap.get? l=some { cls:=.type "tuple",dict:=dd,data:=.seq its n,slots:=sl }/\∀tk,R (.ok (.ret (.int k tk))) { s with toks:=s.toks+1 }):=
 .of_wp fun prog w A R s hh=>by
  obtain⟨hp,g,d,tk,os⟩:=s;obtain⟨hl,q⟩:=hh
  wp_walk using wpAny_loadPart' hl
  show wpAny _ _ (forIn (⟨0,min its.size its.size,1,Nat.one_pos⟩:Std.Legacy.Range) ((none,()):Option Fin×Unit) (jm its z u)) _ _ _
  rw[Std.Legacy.Range.forIn_eq_forIn_range']
  have e:Std.Legacy.Range.size ⟨0,min its.size its.size,1,Nat.one_pos⟩=its.size:=by unfold Std.Legacy.Range.size;simp
  rw[e]
  exact pW hk its.size 0 _ (by omega) (Nat.zero_le _) (fun j v _ hj hv=>h j v hj hv) fun tk'=>wpAny_pure ⟨_,rfl,q tk'⟩
section
variable {X:Cx}
noncomputable def yt(K:Vo):V->List V->Hp->VK->Prop:=fun x vs H Q=>∃(l:Addr) (zs:Vs) (z:Str) (k:Nat),x = .ref l/\vs=[.str z]/\SqT K H l (zs.map V.str)/\zs[k]?=some z/\(∀j:Nat,j < k->zs[j]?≠some z)/\Q (.int k) H
def tX:Ar X "tuple.index" (yt X.K):=by
 intro pins s σ H x vs v us Q I rx rv h
 obtain⟨l,zs,z,k,rfl,rfl,hT,hk,hf,q⟩:=h
 cases rx
 obtain⟨w,rfl,u,rfl⟩:=gj rv
 obtain⟨its,r1,p1,_⟩:=I.tuple hT
 obtain⟨⟨cls,dd,data,sl⟩,ho,hc,n,hd⟩:=id p1
 simp only at hc hd
 subst hc hd
 refine call_meets PySem.F.slot_tuple_index ⟨_,ho,rfl⟩ PySem.F.entry_tuple_index (PySem.F.args_tuple_index_2 _ _) (A3 l its.toArray n dd sl z u k ?_ ?_) ⟨ho,fun tk=>⟨.int k,H,I.tok _,⟨_,rfl⟩,q⟩⟩
 ·obtain⟨v,hv,t,rfl⟩:=r1.get (i:=k) (x:=.str z) (by rw[List.getElem?_map,hk];rfl)
  exact⟨t,by simpa using hv⟩
 ·intro j v hj hv
  have hjl:j < its.length:=by simpa using(Array.getElem?_eq_some_iff.mp hv).1
  have hl:=r1.length
  rw[List.length_map]at hl
  obtain⟨v',hv',t,rfl⟩:=r1.get (i:=j) (x:=.str (zs[j]'(by omega))) (by rw[List.getElem?_map,List.getElem?_eq_getElem (by omega)];rfl)
  have e:v = .str (zs[j]'(by omega)) t:=by
   have h1:its[j]?=some v:=by simpa using hv
   rw[hv']at h1;cases h1;rfl
  exact⟨_,t,e,fun h=>hf j hj (by rw[List.getElem?_eq_getElem (by omega),h])⟩
def yu{pins:Va}{σ:St}{H:Hp}{s:Shared}{a:Addr}{xs:List V}(I:Inv X pins σ H s)(h:SqT X.K H a xs):s.TypeIs (.ref a) "tuple"/\∀b,Value.ref a = .ref b->∃ob,s.heap.get? b=some ob/\ob.dict=none:=by
 rcases h with h|⟨o,its,n,hk,hc,hd,_⟩
 ·obtain⟨z,its,r,o,e,hd,hc,_⟩:=h.ok I.hok
  exact⟨⟨o,e,hc⟩,fun b q=>by cases q;exact⟨o,e,hd⟩⟩
 ·exact⟨⟨o,I.Kf a o hk,hc⟩,fun b q=>by cases q;exact⟨o,I.Kf _ o hk,hd⟩⟩
variable {o e:Expr} {es:List Expr} {to:TE} {t:TA} {name:Str} {apos cpos:Pos} {id:String} {r:V->List V->Hp->VK->Prop}
def Eu(K:Vo)(r:V->List V->Hp->VK->Prop)(to:TE)(t:TA):TE:=fun σ H Q=>to σ H fun x H1=>(∃a xs,x = .ref a/\SqT K H1 a xs)/\t σ H1 fun xs H2=>r x xs H2 Q
def A4(pa:PlainAttrs "tuple")(slot:Slot "tuple" name id)(hty:typeOf (.builtin id)=pure (.type "method_descriptor"))(hm:Ar X id r)(ho:PE X o to)(ha:PA X (e::es) t)
  (hbase:attributeBase o name X.env (eval o X.env)=eval o X.env:=by rfl)
  (hfew:((backTo cpos (starEach (e::es) X.env)).all (fun x=>!x.1)&&(backToKw cpos (keywordEach [] X.env)).all (fun x=>x.1.isSome)
   && decide ((e::es).length+([]:List Keyword).length+(if ([]:List Keyword).isEmpty then 0 else 1) < 30))=true:=by rfl)
  (hline:(apos.endLine == cpos.line)=true:=by rfl) (hs:starEach (e::es) X.env=(false,eval e X.env)::starEach es X.env:=by rfl) (hplain:(backTo cpos (starEach es X.env)).any (·.1)=false:=by rfl) :
  PE X (.Call (.Attribute o name apos) (e::es) [] cpos) (Eu X.K r to t):=by
 intro pins s σ H Q I h
 refine wpAny_Call_method_late hbase hfew hline rfl (Fw (ho pins s σ H _ I h) fun v s1 ⟨x,H1,I1,r1,⟨a,xs,ex,hT⟩,q1⟩=>?_)
 subst ex
 have r1':=r1
 cases r1
 obtain⟨h1,h2⟩:=yu I1 hT
 refine⟨"tuple",id,pa,slot,hty,h1,h2,?_⟩
 have hA:=ha cpos pins s1 σ H1 _ I1 q1
 rw[hs]at hA ⊢
 refine Calls.callWith_builtin (by show(false || (backTo cpos (starEach es X.env)).any (·.1))=false;rw[hplain]<;>rfl) (Calls.evalArgs_plain ?_)
 exact Fw hA fun us s2 ⟨vs,H2,I2,r2,q2⟩=>hm pins s2 σ H2 _ vs _ us Q I2 r1' r2 q2
end
end L2
namespace L3
open PySem L2
section
variable {X:Cx}
noncomputable def iZ:List PV->Option (List Str)
 |[]=>some []
 | .str z::r=>(iZ r).map (z::·)
 |_::_=>none
theorem lJ:∀zs:List Str,iZ (zs.map PV.str)=some zs
 |[]=>rfl
 |z::r=>by show(iZ (r.map PV.str)).map (z::·)=_;rw[lJ r];rfl
theorem nl:∀{ps:List PV} {zs:Vs},iZ ps=some zs->ps=zs.map PV.str
 |[],zs,h=>by cases h;rfl
 | .str z::r,zs,h=>by
  unfold iZ at h
  cases e:iZ r with
  |none=>rw[e]at h;cases h
  |some ws=>rw[e]at h;cases h;rw[nl e];rfl
def k8:rD:=fun x ps S Q=>match x,ps with
 | .tup xs,[.str z]=>(match iZ xs with|some zs=>∃k:Nat,zs[k]?=some z/\(∀j:Nat,j < k->zs[j]?≠some z)/\Q (.int k) S|none=>False)
 |_,_=>False
theorem nu{K:Vo}{H:Hp}:∀{vs:List V} {zs:Vs},Reps K H vs (zs.map PV.str)->vs=zs.map V.str
 |[],[],_=>rfl
 |v::vs,z::zs,.cons a r=>by cases a;rw[nu r];rfl
def vL:uy X "tuple.index" k8:=⟨fun pins s σ H x xs v us Q I rx rs ⟨px,ps,S,Q3,r1,rp,rS,q,k⟩=>by
 unfold k8 at q
 split at q
 ·split at q
  ·rename_i e
   obtain⟨j,hk,hf,q⟩:=q
   cases r1 with
   |tup hq rs'=>
    rw[nl e]at rs'
    have ev:=nu rs'
    subst ev
    cases rp with
    |cons b rr=>
     cases rr;cases b
     exact tX pins s σ H _ _ v us Q I rx rs ⟨_,_,_,j,rfl,rfl,hq,hk,hf,k _ S _ H q (.int _) rS .refl⟩
  ·exact q.elim
 ·exact q.elim⟩
variable {o e:Expr} {es:List Expr} {to:aW} {ts:List aW} {name:Str} {apos cpos:Pos} {id:String}
def A5(r:rD)(to:aW)(ts:List aW):aW:=fun σ S Q E=>to σ S (fun x S1=>match x with | .tup _=>ao ts σ S1 (fun ps S2=>r x ps S2 Q) E|_=>False) E
def CT{r:rD}(pa:PlainAttrs "tuple")(slot:Slot "tuple" name id)(hty:typeOf (.builtin id)=pure (.type "method_descriptor"))(hm:uy X id r)(hs:starEach (e::es) X.env=(false,eval e X.env)::starEach es X.env)(ho:br X o to)(ha:kB X (e::es) ts)
  (hbase:attributeBase o name X.env (eval o X.env)=eval o X.env:=by rfl)
  (hfew:((backTo cpos (starEach (e::es) X.env)).all (fun x=>!x.1)&&(backToKw cpos (keywordEach [] X.env)).all (fun x=>x.1.isSome)
   && decide ((e::es).length+([]:List Keyword).length+(if ([]:List Keyword).isEmpty then 0 else 1) < 30))=true:=by rfl)
  (hline:(apos.endLine == cpos.line)=true:=by rfl) (hplain:(backTo cpos (starEach es X.env)).any (·.1)=false:=by rfl):br X (.Call (.Attribute o name apos) (e::es) [] cpos) (A5 r to ts):=
 ⟨aX (A4 pa slot hty hm.ok ho.ok ha.ok hbase hfew hline hs hplain) fun σ H Q ⟨σ3,S,Q3,E3,rσ,rS,h,xo,k⟩=>⟨σ3,S,_,E3,rσ,rS,h,xo,fun x S1 v H1 h1 rx FI g1=>by
  dsimp only at h1
  split at h1
  ·have MT:=rx
   cases rx with
   |tup hq rs=>exact⟨⟨_,_,rfl,hq⟩,cy (rσ.mono g1) FI h1 (xo.mono g1) fun ps S2 vs H2 hl q rv Hi g2=>⟨_,ps,S2,Q3,MT.mono g2,rv,Hi,q,k.mono (g1.trans g2)⟩⟩
  ·exact h1.elim⟩⟩
end
section
variable {X:Cx} {a b:Expr} {ta tb:aW} {p pos:Pos}
def nv(ta tb:aW):tR:=fun σ S R E=>ta σ S (fun v S1=>tb σ S1 (fun w S2=>match v,w with
 | .tup xs,.tup ys=>R ⟨bu xs ys,fun _=>True⟩ S2
 | .ref a,.ref b=>(match S2 a,S2 b with|some (.lst xs),some (.lst ys)=>R ⟨bu xs ys,fun S'=>S' a=some (.lst xs)/\S' b=some (.lst ys)⟩ S2|_,_=>False)
 | .ref a,.tup ys=>(match S2 a with|some (.lst xs)=>R ⟨bu xs ys,fun S'=>S' a=some (.lst xs)⟩ S2|_=>False)
 | .tup xs,.ref b=>(match S2 b with|some (.lst ys)=>R ⟨bu xs ys,fun S'=>S' b=some (.lst ys)⟩ S2|_=>False)
 |_,_=>False) E) E
def vM{elts:List Expr}{k0:Nat}{GO:Pos}(hs:starEach [a,b] X.env=[(false,eval a X.env),(false,eval b X.env)])(hs2:starEach [b] X.env=[(false,eval b X.env)])(hg:Gl X "zip")(hm:X.mg "zip" = none)(hv:bootBuiltins "zip" = some (.type "zip"))(ha:kB X [a,b] [ta,tb]) :
  vD X (.Tuple elts k0 GO) (.Call (.Name "zip" p) [a,b] [] pos) (nv ta tb):=
 ⟨jX (u_ hg hm hv ha.ok hs hs2) fun σ H R ⟨σ3,S,R3,E3,rσ,rS,h,xo,k⟩=>⟨σ3,S,_,E3,rσ,rS,h,xo,fun v S1 v' H1 h1 rv FI g1=>⟨σ3,S1,_,E3,rσ.mono g1,FI,h1,xo.mono g1,fun w S2 w' H2 h2 rw' Hi g2=>by
  have L:∀{a:Addr} {xs:List PV},S2 a=some (.lst xs)->∃vs,lv true X.K H2 a vs:=fun e=>let ⟨_,h,_⟩:=Hi _ _ e;⟨_,SqL.of h⟩
  dsimp only at h2
  split at h2
  ·cases rv with
   |tup hq rs=>
    cases rw' with
    |tup hq2 Ll=>exact⟨false,false,_,_,rfl,⟨_,g2.t _ _ hq⟩,⟨_,hq2⟩,k _ S2 _ H2 h2 (jj (.tup (g2.t _ _ hq) (rs.mono g2)) (.tup hq2 Ll)) Hi (g1.trans g2)⟩
  ·cases rv
   cases rw'
   split at h2
   ·rename_i ea eb
    exact⟨true,true,_,_,rfl,L ea,L eb,k _ S2 _ H2 h2 (jj (.lst fun _ q=>q.1) (.lst fun _ q=>q.2)) Hi (g1.trans g2)⟩
   ·exact h2.elim
  ·cases rv
   cases rw' with
   |tup hq2 Ll=>
    split at h2
    ·rename_i ea
     exact⟨true,false,_,_,rfl,L ea,⟨_,hq2⟩,k _ S2 _ H2 h2 (jj (.lst fun _ q=>q) (.tup hq2 Ll)) Hi (g1.trans g2)⟩
    ·exact h2.elim
  ·cases rv with
   |tup hq rs=>
    cases rw'
    split at h2
    ·rename_i eb
     exact⟨false,true,_,_,rfl,⟨_,g2.t _ _ hq⟩,L eb,k _ S2 _ H2 h2 (jj (.tup (g2.t _ _ hq) (rs.mono g2)) (.lst fun _ q=>q)) Hi (g1.trans g2)⟩
    ·exact h2.elim
  ·exact h2.elim⟩⟩⟩
end
end L3
namespace C
open PySem L2 L3
def dJ(HB s0:ax):bB:=(ai (av 3 (bc [(az [(v3 0),(v3 2)])]))
  (ai (bO (dB (ab HB [(v3 0)])) (.tp (.cons (.n 4) (.cons (.n 5) .nil))) (ai (av 6 (bH (af (aV false) (af ac (v3 0) (c3 (.int 0))) (c3 (.str "take"))) (bH (af (aV false) (v3 4) (c3 (.int 0))) (af (jU true) (af ac (v3 0) (c3 (.int 1))) (v3 1)))))
  (aN (d4 "list" aZ (v3 3) [(ab s0 [(v3 5),(v3 1),(bH (v3 2) (kC (v3 6)))])]))))
  (au (v3 3))))
def gQ(Gp IQ:ax):bB:=(ai (bO (dB (af ac (v3 0) (c3 (.int 1)))) (.tp (.cons (.n 2) (.cons (.n 3) .nil))) (bO (dB (j3 Gp [(af ac (v3 3) (c3 (.int 1))),(v3 1)])) (.tp (.cons (.n 4) (.cons (.n 5) .nil))) (ai (av 6 (af ac (v3 5) (c3 (.int 0))))
  (bt (fi (aJ (af ac (v3 5) (c3 (.int 1)))) (fi (aJ (af (aV false) (af ac (v3 6) (c3 (.int 0))) (c3 (.str "put")))) (aJ (af (jU true) (af ac (v3 6) (c3 (.int 1))) (v3 1))))) (au (az [(A5 k8 (af ac (v3 0) (c3 (.int 0))) [(af ac (v3 6) (c3 (.int 1)))]),(v3 2),(ab IQ [(af ac (v3 3) (c3 (.int 1))),(v3 4),(az [])])])) aL))))
  (au (c3 .non)))
def j4(Ir:ax):bB:=(ai (av 1 (bc []))
  (ai (av 2 (bc []))
  (ai (av 3 (ab Ir [(v3 0),(v3 2)]))
  (ai (iT (aJ (af (ux true) (v3 3) (c3 .non))) (ai (aN (d4 "list" bh (v3 1) [(v3 3)]))
  (ai (aN (d4 "list" bh (v3 2) [(af ac (af ac (v3 0) (c3 (.int 0))) (af ac (v3 3) (c3 (.int 0))))]))
  (av 3 (ab Ir [(v3 0),(v3 2)])))))
  (au (v3 1))))))
def i3(J7:ax):bB:=(au (aQ (aO (ab J7 [(v3 0)])) (.n 0) ci (af ac (af ac (v3 1) (c3 (.int 0))) (af ac (v3 0) (c3 (.int 0)))) 1 [0]))
def b5(s0 s1:ax):bB:=(ai (av 2 (bc []))
  (ai (av 3 (ab s1 [(af ac (v3 0) (c3 (.int 2))),(v3 1)]))
  (ai (bO (aO (ab s1 [(af ac (v3 0) (c3 (.int 1))),(v3 1)])) (.n 4) (aN (d4 "list" aZ (v3 2) [(aQ (aO (v3 3)) (.n 0) ci (az [(v3 1),(v3 0)]) 1 [4])])))
  (au (v3 2)))))
def eE(s0 s1:ax):bB:=(ai (bt (aJ (af (aV false) (af ac (v3 0) (c3 (.int 0))) (c3 (.str "then")))) (au (ab s0 [(v3 0),(v3 1)])) aL)
  (ai (bt (aJ (af (jU true) (af ac (v3 0) (c3 (.int 0))) (az [(c3 (.str "either")),(c3 (.str "take"))]))) (au (bc [(az [])])) aL)
  (ai (av 2 (aQ (aO (ab s1 [(af ac (v3 0) (ik b3 (c3 (.int 1)))),(v3 1)])) (.n 0) ci (az [(c3 (.int 1)),(v3 0)]) 1 []))
  (ai (bt (fi (aJ (af (aV false) (af ac (v3 0) (c3 (.int 0))) (c3 (.str "take")))) (aJ (af (jU true) (af ac (v3 0) (c3 (.int 1))) (v3 1)))) (au (v3 2)) aL)
  (au (af aT (aQ (aO (ab s1 [(af ac (v3 0) (ik b3 (c3 (.int 2)))),(v3 1)])) (.n 0) ci (az [(c3 (.int 0)),(v3 0)]) 1 []) (v3 2)))))))
def b6(s0:ax):bB:=(ai (bt (aJ (ak eR [(v3 1),(az [(c3 (.ty "list")),(c3 (.ty "tuple"))])])) (ai (bt (jb (aJ (af (aV true) (ak eR [(v3 0),(c3 (.ty "list"))]) (ak eR [(v3 1),(c3 (.ty "list"))]))) (aJ (af (aV true) (ak eR [(v3 0),(c3 (.ty "tuple"))]) (ak eR [(v3 1),(c3 (.ty "tuple"))])))) (au (c3 (.bl false))) aL)
  (au (bH (af (aV false) (ak bx [(v3 0)]) (ak bx [(v3 1)])) (ak vt [(aQ (nv (v3 0) (v3 1)) (.tp (.cons (.n 0) (.cons (.n 1) .nil))) ci (ab s0 [(v3 0),(v3 1)]) 2 [])])))) aL)
  (au (bH (af (aV false) (ak eR [(v3 0),(c3 (.ty "bool"))]) (ak eR [(v3 1),(c3 (.ty "bool"))])) (af (aV false) (v3 0) (v3 1)))))
def fL(G6 Fq FJ:ax):bB:=(ai (av 1 (ab G6 [(v3 0),(c3 (.int 8))]))
  (ai (av 2 (cg (v3 1) rA (pL (af aT (c3 (.int 1)) (ab Fq [(v3 0),(c3 (.int 4))])))))
  (ai (av 3 (ak bo [(v3 2)]))
  (ai (av 5 (aQ (aO (v3 3)) (.n 0) ci (d4 "list" pN (v3 2) [(ab Fq [(v3 1),(ak bx [(v3 2)])])]) 1 [0,2]))
  (ai (av 6 (bc []))
  (ai (bO (dB (v3 5)) (.tp (.cons (.n 7) (.cons (.n 4) .nil))) (ai (av 8 (az [(c3 (.str "put")),(v3 4),(af aT (c3 (.int 1)) (ab Fq [(v3 0),(c3 (.int 9))]))]))
  (ai (bt (jb (aJ (af o9 (v3 7) (c3 (.int 0)))) (aJ (af (aV false) (ab Fq [(v3 0),(c3 (.int 4))]) (c3 (.int 0))))) (av 8 (az [(c3 (.str "take")),(af ac (v3 5) (af bv (v3 7) (c3 (.int 1)))),(af aT (c3 (.int 1)) (ab Fq [(v3 0),(c3 (.int 9))])),(v3 8),(ab FJ [(v3 0),(bc [])])])) aL)
  (ai (av 9 (bc [(az [(c3 (.str "then")),(ab FJ [(v3 0),(bc [])]),(v3 8)]),(az [(c3 (.str "often")),(v3 8)]),(az [(c3 (.str "either")),(ab FJ [(v3 0),(bc [])]),(v3 8)])]))
  (aN (d4 "list" k7 (v3 6) [(ab Fq [(v3 0),(af aT (ak bx [(v3 6)]) (c3 (.int 1)))]),(af ac (bc [(v3 8),(af ac (v3 9) (c3 (.int 0))),(af ac (v3 9) (c3 (.int 1))),(af ac (v3 9) (c3 (.int 2)))]) (ab Fq [(v3 0),(c3 (.int 4))]))]))))))
  (au (az [(v3 3),(ak bo [(aQ (dB (v3 6)) (.tp (.cons (.n 0) (.cons (.n 1) .nil))) ci (az [(af ac (v3 2) (af aT (c3 (.int 4)) (v3 0))),(v3 1)]) 2 [1])])]))))))))
def cU(Gp:ax):bB:=(ai (av 2 (aQ (aO (j3 Gp [(v3 0),(v3 1)])) (.n 0) (aJ (af (aV false) (af ac (af ac (v3 0) (c3 (.int 0))) (c3 (.int 0))) (c3 (.str "often")))) (v3 0) 1 []))
  (au (aQ (dB (v3 2)) (.tp (.cons (.n 0) (.cons (.n 1) .nil))) (aJ (af ac (v3 1) (c3 (.int 1)))) (az [(v3 0),(af ac (af ac (v3 1) (c3 (.int 0))) (c3 (.int 1)))]) 2 [])))
def eW(s0:ax):bB:=(ai (av 3 (bc []))
  (ai (bt (aJ (af (aV false) (af ac (v3 0) (c3 (.int 0))) (c3 (.str "often")))) (ai (aN (d4 "list" bh (v3 3) [(af ac (bc [(c3 .non),(af ac (v3 0) (c3 (.int 1)))]) (ak gE [(v3 2)]))]))
  (aN (d4 "list" aZ (v3 3) [(ab s0 [(af ac (v3 0) (c3 (.int 1))),(v3 1),(v3 2)])]))) aL)
  (ai (bt (aJ (af (jU false) (af ac (v3 0) (c3 (.int 0))) (az [(c3 (.str "then")),(c3 (.str "either")),(c3 (.str "take"))]))) (ai (aN (d4 "list" aZ (v3 3) [(ab s0 [(af ac (v3 0) (ik b3 (c3 (.int 2)))),(v3 1),(bH (v3 2) (mx (af (aV true) (af ac (v3 0) (c3 (.int 0))) (c3 (.str "take"))) (af (jU false) (af ac (v3 0) (c3 (.int 1))) (v3 1))))])]))
  (aN (d4 "list" aZ (v3 3) [(ab s0 [(af ac (v3 0) (ik b3 (c3 (.int 1)))),(v3 1),(v3 2)])]))) aL)
  (au (v3 3)))))
end C
namespace L3
open PySem L2 Xc
section
variable {X:Cx} {e o:Expr} {es:List Expr} {te to:aW} {ts:List aW} {x:Str} {p pos apos cpos:Pos} {k:Nat} {f:Addr} {fd:FuncData} {ps:Vs} {sp:ax}
end
section
variable {P:Program} {w:World} {K:Vo} {mg:Vr} {base:Heap}
end
section
variable {X:Cx} {e:Expr} {es:List Expr} {ts:List aW} {x qual:Str} {st:Stmt} {p pos cpos:Pos} {f C:Addr} {fd:FuncData} {ps ks:Vs}
end
section
variable {X:Cx} {body suite:List Stmt} {b₀:Stmt} {n x:Str} {i:Nat} {np hpos pos:Pos} {tb th:bB} {Dc:Addr} {cs:Vs}
end
section
variable {X:Cx} {e:Expr} {te:aW} {f:Str} {pos:Pos} {l:List (Str×Str)}
end
section
variable {P:Program} {w:World} {K:Vo} {mg:Vr} {base:Heap} {N:Vs} {qual:Str} {st:Stmt} {f:Addr} {cdv:Value} {A:Around} {outer:List Env} {s:Shared} {H:Hp} {E:XK}
end
end L3
namespace L3
open PySem L2
end L3
namespace L2
open PySem PySem.Spec PyProof.Rows Xc
section
variable {X:Cx} {k:Nat} {f C:Addr} {fd:FuncData} {ps:Vs} {sp:Sp} {m:Str} {pos apos:Pos} {e o:Expr} {es:List Expr} {ta:TE} {t:TA}
end
end L2
namespace L3
open PySem L2 Xc
section
variable {P:Program} {w:World} {K:Vo} {mg:Vr} {base:Heap}
structure a_ (K:Vo) (mg:Vr) (x:Str) (st:Stmt) (ps:Vs):Prop where
 ex:∃f fd,Dz K mg x st ps f fd
structure FH (P:Program) (w:World) (K:Vo) (mg:Vr) (base:Heap) (k:Nat) (x:Str) (n:Nat) (sp:ax):Prop where
 ex:∃f fd ps,ps.length=n/\Kw P w K mg base k f fd ps sp/\mg x=some (.ref f)/\PySem.W.keepIn K (.ref f)=true/\Binds K fd ps []
def dk{x:Str}{st:Stmt}{ps:Vs}{k n:Nat}{t:bB}{sp:ax}(N:Vs)(O:a_ K mg x st ps)
  (hbody:∀(f:Addr) (cdv:Value) (A:Around) (outer:List Env) (s:Shared) (H:Hp) (E:XK),Room k (A.deeper (PyProof.Rows.envOfC x (aD st) s.heap.objs.size f cdv))->N.Nodup->jT (CJ P w K mg base N x st f cdv A outer s H E) (bf st) t) (e:sp=aU N.length t)
  (hn:ps.length=n:=by rfl) (S:dP N ps (aD st):=by exact⟨rfl,rfl,rfl,by decide +kernel,rfl,by decide +kernel,by decide +kernel⟩):FH P w K mg base (k+1) x n sp:=by
 subst e
 obtain⟨f,fd,o⟩:=O.ex
 exact⟨f,fd,ps,hn,EN o.F S fun cdv A outer s H E hr=>hbody f cdv A outer s H E hr S.nd,o.m,o.k,o.b⟩
def Fh{x:Str}{st:Stmt}{ps:Vs}{k:Nat}{t:bB}{sp:ax}{f:Addr}{fd:FuncData}(N:Vs)(o:Dz K mg x st ps f fd)
  (hbody:∀(f:Addr) (cdv:Value) (A:Around) (outer:List Env) (s:Shared) (H:Hp) (E:XK),Room k (A.deeper (PyProof.Rows.envOfC x (aD st) s.heap.objs.size f cdv))->N.Nodup->jT (CJ P w K mg base N x st f cdv A outer s H E) (bf st) t) (e:sp=aU N.length t)
  (S:dP N ps (aD st):=by exact⟨rfl,rfl,rfl,by decide +kernel,rfl,by decide +kernel,by decide +kernel⟩):Kw P w K mg base (k+1) f fd ps sp:=by
 subst e
 exact EN o.F S fun cdv A outer s H E hr=>hbody f cdv A outer s H E hr S.nd
def mj:ax:=fun _ _ _ _=>False
theorem FH.zero{x:Str}{st:Stmt}{ps:Vs}{k n:Nat}(O:a_ K mg x st ps)(hn:ps.length=n:=by rfl):FH P w K mg base k x n mj:=by
 obtain⟨f,fd,o⟩:=O.ex
 exact⟨f,fd,ps,hn,.zero rfl,o.m,o.k,o.b⟩
theorem kS{b n:Nat}{x:Str}{st:Stmt}{ps:Vs}{r:Nat->ax}(O:a_ K mg x st ps)(h:∀j,FH P w K mg base (b+j) x n (r j)->FH P w K mg base (b+j+1) x n (r (j+1)))(h0:r 0=mj)(hn:ps.length=n:=by rfl):∀j,FH P w K mg base (b+j) x n (r j)
 |0=>by rw[h0];exact .zero O hn
 |j+1=>h j (kS O h h0 hn j)
end
section
variable {X:Cx} {a b e o:Expr} {es:List Expr} {ta tb te to:aW} {ts:List aW} {x c m f:Str} {p pos apos cpos:Pos} {j k n:Nat} {sp:ax}
def c4(O:FH X.prog X.w X.K X.mg X.base k x n sp)(hr:Room j X.A)(ha:kB X (e::es) ts)(hj:k<=j:=by omega)(hl:ts.length=n:=by rfl)(hg:Gl X x:=by rfl)(he:starEach (e::es) X.env=(false,eval e X.env)::starEach es X.env:=by rfl)(hdb:(x == ("__debug__":Str))=false:=by decide)(hpl:(backTo pos (starEach es X.env)).any (·.1)=false:=by rfl) :
  br X (.Call (.Name x p) (e::es) [] pos) (ab sp ts):=by
 obtain⟨f,fd,ps,hn,F,h1,h2,h3⟩:=O.ex
 exact vF F (hr.mono hj) hg h1 h2 h3 he ha (hl.trans hn.symm) hdb hpl
def cB{id:String}{r:rC}(hc:gD X (.builtin id) r)(hm:X.mg x=none)(ha:kB X (e::es) ts)(hg:Gl X x:=by rfl)(hv:bootBuiltins x=some (.builtin id):=by decide +kernel)(he:starEach (e::es) X.env=(false,eval e X.env)::starEach es X.env:=by rfl)
  (hnn:x ≠ "__name__":=by decide) (hdb:(x == ("__debug__":Str))=false:=by decide) (hpl:(backTo pos (starEach es X.env)).any (·.1)=false:=by rfl):br X (.Call (.Name x p) (e::es) [] pos) (ak r ts):=yd hc hg hm hv he ha hnn hdb hpl
def cT{id:String}{r:rC}(hc:gD X (.type id) r)(hm:X.mg x=none)(ha:kB X (e::es) ts)(hg:Gl X x:=by rfl)(hv:bootBuiltins x=some (.type id):=by decide +kernel)(he:starEach (e::es) X.env=(false,eval e X.env)::starEach es X.env:=by rfl)
  (hnn:x ≠ "__name__":=by decide) (hdb:(x == ("__debug__":Str))=false:=by decide) (hpl:(backTo pos (starEach es X.env)).any (·.1)=false:=by rfl):br X (.Call (.Name x p) (e::es) [] pos) (ak r ts):=ye hc hg hm hv he ha hnn hdb hpl
def lc{r:List Expr}(ha:br X a ta)(hr:kB X r ts)(hs:starEach (a::r) X.env=(false,eval a X.env)::starEach r X.env:=by rfl):kB X (a::r) (ta::ts):=vj hs ha hr
def l1(ha:br X a ta)(hs:starEach [a] X.env=(false,eval a X.env)::starEach [] X.env:=by rfl):kB X [a] [ta]:=vj hs ha bQ
def aF{i:Int}{q:Nat}{p2:Pos}(hr:Room j X.A)(ha:br X a ta)(hs:k4 (.Constant (.int i) q p2):=by exact fun _ _=>rfl):br X (.Subscript a (.Constant (.int i) q p2) pos) (af ac ta (c3 (.int i))):=CA (EM (yo hr)) ha ah hs
def eF(hr:Room j X.A)(ha:br X a ta)(hb:br X b tb)(hs:k4 b:=by exact fun _ _=>rfl):br X (.Subscript a b pos) (af ac ta tb):=CA (EM (yo hr)) ha hb hs
def dZ(hr:Room j X.A)(ha:br X a ta)(hb:br X b tb):rg X (.Compare a [.Eq] [b] pos) (aJ (af (aV false) ta tb)):=bd (gB (fm hr)) ha hb (aP _)
def zn(hr:Room j X.A)(ha:br X a ta)(hb:br X b tb):rg X (.Compare a [.NotEq] [b] pos) (aJ (af (aV true) ta tb)):=bd (zj (fm hr)) ha hb (aP _)
def s4(i:Nat){pos':Pos}(nd:X.N.Nodup)(he:br X e te)(hi:X.N[i]?=some x:=by rfl)(hx:y8 X.env.scope x:=by first|exact Or.inl rfl|exact Or.inr rfl)(hs:swapsWith e (some (.Name x pos')) pos.line X.env=pure false:=by rfl)
  (hf:X.fn x=true\/X.env.scope.names.lookup x=some .local:=by first|exact .inl rfl|exact .inr rfl|assumption):ss X (.Assign [.Name x pos'] e pos) (av i te):=CG nd hi hx he hs hf
def gn(i:Nat)(nd:X.N.Nodup)(hi:X.N[i]?=some x:=by rfl)(hx:y8 X.env.scope x:=by first|exact Or.inl rfl|exact Or.inr rfl)(hf:X.fn x=true\/X.env.scope.names.lookup x=some .local:=by first|exact .inl rfl|exact .inr rfl|assumption):yi X (.Name x pos) (.n i):=Fd i nd hi hx hf
def Fi{px:Pos}{kvs:List (bE×Int)}{g:Expr}{tg:aW}(hr:Room j X.A)(hD:∃a,X.mg x=some (.ref a)/\KD X.prog X.w X.K a (kvs.map fun kv=>(kv.1,V.int kv.2)))(he:br X e te)(hf:br X g tg)(hg:Gl X x:=by rfl)(m:M2 X (.Name x px) "get" apos e g cpos:=by exact⟨rfl,rfl,rfl,rfl⟩)
  (hd:(x == ("__debug__":Str))=false:=by decide):br X (.Call (.Attribute (.Name x px) "get" apos) [e,g] [] cpos) (sx kvs te tg):=let ⟨_,h1,h2⟩:=hD;AZ (yo hr) hg h1 h2 he hf m hd
end
structure zo (T:String) (name:Str) (id:String):Prop where
 pa:PlainAttrs T
 slot:Slot T name id
 ty:typeOf (.builtin id)=pure (.type "method_descriptor")
section
variable {X:Cx} {e o:Expr} {es:List Expr} {to:aW} {ts:List aW} {name:Str} {T id:String} {p pos apos cpos:Pos} {r:rD}
def b7:zo "list" "append" "list.append":=⟨PySem.F.plainAttrs_list,PySem.F.slot_list_append,PySem.F.type_list_append⟩
def cV:zo "list" "extend" "list.extend":=⟨PySem.F.plainAttrs_list,PySem.F.slot_list_extend,PySem.F.type_list_extend⟩
def tY:zo "list" "insert" "list.insert":=⟨PySem.F.plainAttrs_list,PySem.F.slot_list_insert,PySem.F.type_list_insert⟩
def vN:zo "list" "pop" "list.pop":=⟨PySem.F.plainAttrs_list,PySem.F.slot_list_pop,PySem.F.type_list_pop⟩
def sB:zo "str" "join" "str.join":=⟨PySem.F.plainAttrs_str,PySem.F.slot_str_join,PySem.F.type_str_join⟩
def vO:zo "str" "index" "str.index":=⟨PySem.F.plainAttrs_str,PySem.F.slot_str_index,PySem.F.type_str_index⟩
def mB(k:zo T name id)(hm:uy X id r)(ho:br X o to)(ha:kB X (e::es) ts)(hs:starEach (e::es) X.env=(false,eval e X.env)::starEach es X.env:=by rfl)
  (hbase:attributeBase o name X.env (eval o X.env)=eval o X.env:=by rfl)
  (hfew:((backTo cpos (starEach (e::es) X.env)).all (fun x=>!x.1)&&(backToKw cpos (keywordEach [] X.env)).all (fun x=>x.1.isSome)
   && decide ((e::es).length+([]:List Keyword).length+(if ([]:List Keyword).isEmpty then 0 else 1) < 30))=true:=by rfl)
  (hline:(apos.endLine == cpos.line)=true:=by rfl) (hplain:(backTo cpos (starEach es X.env)).any (·.1)=false:=by rfl):br X (.Call (.Attribute o name apos) (e::es) [] cpos) (d4 T r to ts):=Ej k.pa k.slot k.ty hm hs ho ha hbase hfew hline hplain
def Ev(k:zo T name id)(hm:uy X id r)(ho:br X o to)
  (hbase:attributeBase o name X.env (eval o X.env)=eval o X.env:=by rfl) (hline:(apos.endLine == cpos.line)=true:=by rfl):br X (.Call (.Attribute o name apos) [] [] cpos) (d4 T r to []):=CF k.pa k.slot k.ty hm ho hbase hline
end
section
variable {X:Cx} {tg iter elt:Expr} {ifs:List Expr} {scope:Scope} {pos:Pos} {ti:tR} {g:Tg} {tc:jS} {te:aW}
def tZ(fs:Vs)(own:Nat)(fr:List Nat)(N:Vs)(hi:vD X tg iter ti)(hg:∀B,yi (X.Ho N scope fs B) tg g)(hf:∀B,BI (X.Ho N scope fs B) ifs tc)(he:∀B,br (X.Ho N scope fs B) elt te)
  (Kv:g.under own=true:=by rfl) (hc:X.calm=true:=by rfl) (hclos:closureFor scope X.env=pure (cR X.env fs):=by rfl) (hcell:∀y∈scope.names,y.2 ≠ .cell:=by decide +kernel) (hkind:scope.kind = .function:=by rfl)
  (hnames:∀x∈scope.names,x.2 = .local->scope.names.lookup x.1=some .local:=by decide +kernel) (hcl:cE X.env fs:=by repeat' first|exact trivial|exact⟨_,rfl⟩|constructor) (hhas:nQ (relabel scope X.env).names (cR X.env fs)=true:=by rfl)
  (hlen:N.length=own+fr.length:=by rfl) (hN:(N.drop own).map some=fr.map (fun j=>X.N[j]?):=by rfl) (hF:Go X.env scope (cR X.env fs) (N.drop own):=by repeat' first|exact trivial|exact .inl rfl|exact .inr rfl|exact rfl|apply And.intro)
  (hs:∀x,foldedSetIterable iter X.env x=pure x:=by intro _;rfl):br X (.ListComp elt [⟨tg,iter,ifs,0⟩] scope pos) (aQ ti g tc te own fr):=AV fs own fr N Kv hc hclos hcell hkind hnames hcl hhas hlen hN hF hi hg hf he hs
def wY(fs:Vs)(own:Nat)(fr:List Nat)(N:Vs)(i:Nat){y:Str}{py spos:Pos}(hX:X.N.Nodup)(hi:vD X tg iter ti)(hg:∀B,yi (X.Ho N scope fs B) tg g)(hf:∀B,BI (X.Ho N scope fs B) ifs tc)(he:∀B,br (X.Ho N scope fs B) elt te)
  (hix:X.N[i]?=some y:=by rfl) (hy:X.env.scope.names.lookup y=some .local:=by rfl) (hsw:swapsWith (.ListComp elt [⟨tg,iter,ifs,0⟩] scope pos) (some (.Name y py)) spos.line X.env=pure true:=by rfl)
  (Kv:g.under own=true:=by rfl) (hc:X.calm=true:=by rfl) (hclos:closureFor scope X.env=pure (cR X.env fs):=by rfl) (hcell:∀y∈scope.names,y.2 ≠ .cell:=by decide +kernel) (hkind:scope.kind = .function:=by rfl)
  (hnames:∀x∈scope.names,x.2 = .local->scope.names.lookup x.1=some .local:=by decide +kernel) (hcl:cE X.env fs:=by repeat' first|exact trivial|exact⟨_,rfl⟩|constructor) (hhas:nQ (relabel scope X.env).names (cR X.env fs)=true:=by rfl)
  (hlen:N.length=own+fr.length:=by rfl) (hN:(N.drop own).map some=fr.map (fun j=>X.N[j]?):=by rfl) (hF:Go X.env scope (cR X.env fs) (N.drop own):=by repeat' first|exact trivial|exact .inl rfl|exact .inr rfl|exact rfl|apply And.intro)
  (hs:∀x,foldedSetIterable iter X.env x=pure x:=by intro _;rfl):ss X (.Assign [.Name y py] (.ListComp elt [⟨tg,iter,ifs,0⟩] scope pos) spos) (av i (aQ ti g tc te own fr)):=AW fs own fr N hX hix hy hsw Kv hc hclos hcell hkind hnames hcl hhas hlen hN hF hi hg hf he hs
end
section
variable {X:Cx} {e o value:Expr} {es:List Expr} {te to:aW} {ts:List aW} {x c m f:Str} {fl:Vs} {p pos pos' apos:Pos} {j k n:Nat} {sp:ax}
end
section
variable {P:Program} {w:World} {K:Vo} {mg:Vr} {base:Heap}
end
section
variable {X:Cx} {e:Expr} {es:List Expr} {ts:List aW} {x:Str} {p pos cpos:Pos} {ks:Vs} {j:Nat}
def uz{n:String}(hm:X.mg x=none)(hg:Gl X x:=by rfl)(hv:bootBuiltins x=some (.type n):=by decide +kernel)(hn:x ≠ "__name__":=by decide)(hd:(x == ("__debug__":Str))=false:=by decide):br X (.Name x pos) (c3 (.ty n)):=Eh hg hm hv hn hd
end
section
variable {X:Cx} {body suite:List Stmt} {b₀:Stmt} {n x:Str} {np hpos pos:Pos} {tb th:bB} {cs:Vs}
end
section
variable {P:Program} {w:World} {K:Vo} {mg:Vr} {base:Heap}
structure pX (K:Vo) (mg:Vr) (x:Str) (st:Stmt) (ps:Vs):Prop where
 ex:∃T f fd,Es K mg x st ps T f fd
structure KL (P:Program) (w:World) (K:Vo) (mg:Vr) (base:Heap) (k:Nat) (x:Str) (n:Nat) (sp:ax):Prop where
 ex:∃f fd ps,ps.length=n/\Kw P w K mg base k f fd ps sp/\mg x=some (.ref f)/\PySem.W.keepIn K (.ref f)=true/\Binds K fd ps []/\Binds K fd ps [.bool true]
def Fj{x:Str}{st:Stmt}{ps:Vs}{k n:Nat}{t:bB}{sp:ax}(N:Vs)(O:pX K mg x st ps)
  (hbody:∀(f:Addr) (cdv:Value) (A:Around) (outer:List Env) (s:Shared) (H:Hp) (E:XK),Room k (A.deeper (PyProof.Rows.envOfC x (aD st) s.heap.objs.size f cdv))->N.Nodup->jT (CJ P w K mg base N x st f cdv A outer s H E) (bf st) t) (e:sp=aU N.length t)
  (hn:ps.length=n:=by rfl) (S:dP N ps (aD st):=by exact⟨rfl,rfl,rfl,by decide +kernel,rfl,by decide +kernel,by decide +kernel⟩):KL P w K mg base (k+1) x n sp:=by
 subst e
 obtain⟨T,f,fd,o⟩:=O.ex
 exact⟨f,fd,ps,hn,Er o.F S fun cdv A outer s H E hr=>hbody f cdv A outer s H E hr S.nd,o.m,o.k,o.b,o.d⟩
theorem KL.zero{x:Str}{st:Stmt}{ps:Vs}{k n:Nat}(O:pX K mg x st ps)(hn:ps.length=n:=by rfl):KL P w K mg base k x n mj:=by
 obtain⟨T,f,fd,o⟩:=O.ex
 exact⟨f,fd,ps,hn,.zero rfl,o.m,o.k,o.b,o.d⟩
theorem CU{b n:Nat}{x:Str}{st:Stmt}{ps:Vs}{r:Nat->ax}(O:pX K mg x st ps)(h:∀j,KL P w K mg base (b+j) x n (r j)->KL P w K mg base (b+j+1) x n (r (j+1)))(h0:r 0=mj)(hn:ps.length=n:=by rfl):∀j,KL P w K mg base (b+j) x n (r j)
 |0=>by rw[h0];exact .zero O hn
 |j+1=>h j (CU O h h0 hn j)
end
section
variable {X:Cx} {e:Expr} {es:List Expr} {ts:List aW} {x:Str} {p pos:Pos} {j k n:Nat} {sp:ax}
def cD(O:KL X.prog X.w X.K X.mg X.base k x n sp)(hr:Room j X.A)(ha:kB X (e::es) ts)(hj:k<=j:=by omega)(hl:ts.length+1=n:=by rfl)(hg:Gl X x:=by rfl)(he:starEach (e::es) X.env=(false,eval e X.env)::starEach es X.env:=by rfl)(hdb:(x == ("__debug__":Str))=false:=by decide)(hpl:(backTo pos (starEach es X.env)).any (·.1)=false:=by rfl) :
  br X (.Call (.Name x p) (e::es) [] pos) (j3 sp ts):=by
 obtain⟨f,fd,ps,hn,F,h1,h2,h3,h4⟩:=O.ex
 exact yr F (hr.mono hj) hg h1 h2 h4 he ha (hl.trans hn.symm) hdb hpl
def Fk(O:KL X.prog X.w X.K X.mg X.base k x n sp)(hr:Room j X.A)(ha:kB X (e::es) ts)(hj:k<=j:=by omega)(hl:ts.length=n:=by rfl)(hg:Gl X x:=by rfl)(he:starEach (e::es) X.env=(false,eval e X.env)::starEach es X.env:=by rfl)(hdb:(x == ("__debug__":Str))=false:=by decide)(hpl:(backTo pos (starEach es X.env)).any (·.1)=false:=by rfl) :
  br X (.Call (.Name x p) (e::es) [] pos) (ab sp ts):=by
 obtain⟨f,fd,ps,hn,F,h1,h2,h3,h4⟩:=O.ex
 exact vF F (hr.mono hj) hg h1 h2 h3 he ha (hl.trans hn.symm) hdb hpl
end
end L3
namespace L3
open PySem L2
section
variable {X:Cx} {a b c:Expr} {ta tb tc:aW} {p pos:Pos}
end
end L3
namespace L2
open PySem PySem.Spec PyProof.Rows
section
variable {X:Cx}
end
end L2
namespace L3
open PySem L2
section
variable {X:Cx}
end
end L3
namespace CY
open PySem L2 L3
end CY
namespace L3
open PySem L2
theorem pY:∀{a b:List Char},a.map Char.toNat=b.map Char.toNat->a=b
 |[],[],_=>rfl
 |[],_::_,h=>by simp at h
 |_::_,[],h=>by simp at h
 |x::a,y::b,h=>by
  simp only[List.map_cons,List.cons.injEq]at h
  rw[pY h.2,Char.toNat_inj.mp h.1]
def aA{a b:String}:(Str.ofString a=Str.ofString b)↔a=b:=by
 refine⟨fun h=>?_,fun h=>by rw[h]⟩
 rw[Str.ofString_eq_toList,Str.ofString_eq_toList]at h
 have h':a.toList.map Char.toNat=b.toList.map Char.toNat:=by
  have:=congrArg (fun s:Str=>s.cps.toList) h
  simpa using this
 exact String.toList_inj.mp (pY h')
def sS{a b:String}:((Sum.inr (Str.ofString a):bE)=Sum.inr (Str.ofString b))↔a=b:=by
 rw[Sum.inr.injEq,aA]
def t4{i j:Int}(h1:-(2 ^ 64) < i)(h2:i < 2 ^ 64):IntMulOk i j:=(show KB i j from .inl ⟨h1,h2⟩).ok
def kT{i j:Int}(h1:-(2 ^ 64) < j)(h2:j < 2 ^ 64):IntMulOk i j:=(show KB i j from .inr ⟨h1,h2⟩).ok
def iI{i j:Int}(h:0<=j):i.fmod j=i % j:=Int.fmod_eq_emod_of_nonneg i h
def CV{i j:Int}(h:0<=j):i.fdiv j=i / j:=Int.fdiv_eq_ediv_of_nonneg i h
def CW{i j:Int}(h:0 < j)(h2:j < 2 ^ 64):m7 i j:=⟨by omega,Nat.lt_trans (show j.natAbs < 2 ^ 64 by omega) (Nat.pow_lt_pow_right (by decide) (by decide))⟩
def Gm(d l:Addr)(S S':ay):Prop:=∀a o,S a=some o->a≠d->a≠l->S' a=some o
def Gm.refl{d l:Addr}{S:ay}:Gm d l S S:=fun _ _ h _ _=>h
def Gm.trans{d l:Addr}{S S1 S2:ay}(a:Gm d l S S1)(b:Gm d l S1 S2):Gm d l S S2:=fun x o h h1 h2=>b x o (a x o h h1 h2) h1 h2
def Gm.upd{d l:Addr}{S:ay}{o:SO}:Gm d l S (Fr S d o):=fun x u h h1 h2=>by rw[ap h1];exact h
def Gm.OH{d l:Addr}{S:ay}{o:SO}:Gm d l S (Fr S l o):=fun x u h h1 h2=>by rw[ap h2];exact h
def Gm.new{d l p:Addr}{S:ay}{o:SO}(h:S p=none):Gm d l S (Fr S p o):=fun x u hx h1 h2=>by rw[ap (fun e=>by rw[e,h]at hx;cases hx)];exact hx
end L3
local macro_rules | `(tactic| walk_at "x")=>`(tactic| ((try dsimp only [L3.ai,L3.av,L3.au,L3.aN,L3.bt,L3.aL,L3.af,L3.v3,L3.c3,L3.lk,L3.ao,L3.ak,L3.ab,L3.d4,L3.aJ,L3.fi,L3.jb,L3.iQ,L3.bH,L3.mx,L3.kC,L3.rj,L3.mz,L3.pO,L3.lC,L3.az,L3.bc,L3.ik,L3.b3,L3.ac,L3.nZ,L3.cg,L3.rA,L3.pL,L3.pM,L3.dz,L3.iF,L3.bv,L3.gG,L3.iH,L3.vG,L3.nk,L3.o9,L3.CK,L3.aV,L3.ux,L3.aT,L3.bS,L3.bx,L3.tQ,L3.ji,L3.gE,L3.bo,L3.pK,List.set_cons_zero,List.set_cons_succ,List.set_nil,L3.n5,L3.jW,L3.pN,L3.aQ,L3.aO,L3.bT,L3.bO,L3.dE,L3.Tg.put,L3.Tg.Fx,L3.pR,L3.jZ,L3.pS,L3.jY,L3.dB,L3.tV,L3.bh,L3.aZ,List.reduceReplicate,List.map_cons,List.map_nil,List.cons_append,List.nil_append]); (try simp only [L3.ai,L3.av,L3.au,L3.aN,L3.bt,L3.aL,L3.af,L3.v3,L3.c3,L3.lk,L3.ao,L3.ak,L3.ab,L3.d4,L3.aJ,L3.fi,L3.jb,L3.iQ,L3.bH,L3.mx,L3.kC,L3.rj,L3.mz,L3.pO,L3.lC,L3.az,L3.bc,L3.ik,L3.b3,L3.ac,L3.nZ,L3.cg,L3.rA,L3.pL,L3.pM,L3.dz,L3.iF,L3.bv,L3.gG,L3.iH,L3.vG,L3.nk,L3.o9,L3.CK,L3.aV,L3.ux,L3.aT,L3.bS,L3.bx,L3.tQ,L3.ji,L3.gE,L3.bo,L3.pK,List.set_cons_zero,List.set_cons_succ,List.set_nil,L3.n5,L3.jW,L3.pN,L3.aQ,L3.aO,L3.bT,L3.bO,L3.dE,L3.Tg.put,L3.Tg.Fx,L3.pR,L3.jZ,L3.pS,L3.jY,L3.dB,L3.tV,L3.bh,L3.aZ,List.reduceReplicate,List.map_cons,List.map_nil,List.cons_append,List.nil_append])))
namespace C
open PySem L2 L3
noncomputable def b_(seed number:Int)(l:Addr):List (bE×PV):=[(Sum.inr "seed",.int seed),(Sum.inr "number",.int number),(Sum.inr "left",.ref l)]
structure Ib (S:ay) (d l:Addr) (seed number:Int) (left:Vu):Prop where
 d:S d=some (.dct (b_ seed number l))
 l:S l=some (.lst (left.map PV.int))
 s0:0<=seed
 s1:seed < 2147483647
 nm:0<=number
 lf:∀x∈left,0<=x
 ln:left.length<=100
def FB(S:ay)(d l:Addr):Prop:=∃seed number left,Ib S d l seed number left
def Ib.ne{S:ay}{d l:Addr}{seed number:Int}{left:Vu}(D:Ib S d l seed number left):d≠l:=fun e=>by
 have h:=D.d
 rw[e,D.l]at h
 cases h
def FB.new{S:ay}{d l p:Addr}{o:SO}(D:FB S d l)(h:S p=none):FB (Fr S p o) d l:=by
 obtain⟨s,n,f,D⟩:=D
 refine⟨s,n,f,?_,?_,D.s0,D.s1,D.nm,D.lf,D.ln⟩
 ·rw[ap (fun e=>by have:=D.d;rw[e,h]at this;cases this)];exact D.d
 ·rw[ap (fun e=>by have:=D.l;rw[e,h]at this;cases this)];exact D.l
def FB.upd{S:ay}{d l p:Addr}{o:SO}(D:FB S d l)(h1:p≠d)(h2:p≠l):FB (Fr S p o) d l:=by
 obtain⟨s,n,f,D⟩:=D
 exact⟨s,n,f,by rw[ap h1.symm];exact D.d,by rw[ap h2.symm];exact D.l,D.s0,D.s1,D.nm,D.lf,D.ln⟩
def FB.free{S:ay}{d l p:Addr}(D:FB S d l)(h:S p=none):p≠d/\p≠l:=by
 obtain⟨s,n,f,D⟩:=D
 exact⟨(fun e=>by have:=D.d;rw[<-e,h]at this;cases this),(fun e=>by have:=D.l;rw[<-e,h]at this;cases this)⟩
def lK(s n m:Int)(l:Addr):n_ (b_ s n l) (Sum.inr "number") (.int m)=b_ s m l:=by
 simp[n_,b_,sS,aA]
def vP(s n m:Int)(l:Addr):n_ (b_ s n l) (Sum.inr "seed") (.int m)=b_ m n l:=by
 simp[n_,b_,sS,aA]
def A6(s n:Int)(l:Addr):my (b_ s n l) (Sum.inr "seed")=some (.int s):=by simp[my,b_,sS,aA]
def vQ(s n:Int)(l:Addr):my (b_ s n l) (Sum.inr "number")=some (.int n):=by simp[my,b_,sS,aA]
def A7(s n:Int)(l:Addr):my (b_ s n l) (Sum.inr "left")=some (.ref l):=by simp[my,b_,sS,aA]
abbrev bF(w:ax):Prop:=∀{S:ay} {d l:Addr} {m:Int} {Q:bA} {E:bZ},FB S d l->0 < m->m < 2 ^ 62->(∀r S',0<=r->r < m->FB S' d l->Gm d l S S'->Q (.int r) S')->w [.ref d,.int m] S Q E
def Fu:bF (aU 5 gJ):=by
  intro S d l m Q E D h0 h1 k
  obtain⟨seed,number,left,D⟩:=D
  have hne:=D.ne
  have hsz:∀a b,(b_ a b l).length < sizeLine:=fun _ _=>fc (by show 3<=1000;decide)
  have fin:∀num JW S1,Ib S1 d l seed num JW->Gm d l S S1->¬(num=0/\0 < JW.length)->
      (if 0 < num then m7 num m/\(b_ seed num l).length < sizeLine/\m≠0/\Q (PV.int (num.fmod m)) (Fr S1 d (SO.dct (b_ seed (num.fdiv m) l)))
       else IntMulOk seed 48271/\(2147483647:Int)≠0/\IntMulOk ((seed * 48271+7919).fmod 2147483647) 40692/\(2147483399:Int)≠0/\(b_ seed num l).length < sizeLine/\
        IntMulOk (((seed * 48271+7919).fmod 2147483647 * 40692+104729).fmod 2147483399) (((seed * 48271+7919).fmod 2147483647 * 40692+104729).fmod 2147483399)/\(2147483563:Int)≠0/\
        IntMulOk ((seed * 48271+7919).fmod 2147483647) ((seed * 48271+7919).fmod 2147483647)/\(2147483629:Int)≠0/\
        IntMulOk (((seed * 48271+7919).fmod 2147483647 * (seed * 48271+7919).fmod 2147483647).fmod 2147483629) 2147483563/\m≠0/\
        Q (PV.int ((((seed * 48271+7919).fmod 2147483647 * (seed * 48271+7919).fmod 2147483647).fmod 2147483629 * 2147483563+((((seed * 48271+7919).fmod 2147483647 * 40692+104729).fmod 2147483399) * (((seed * 48271+7919).fmod 2147483647 * 40692+104729).fmod 2147483399)).fmod 2147483563).fmod m))
          (Fr S1 d (SO.dct (b_ (((seed * 48271+7919).fmod 2147483647 * 40692+104729).fmod 2147483399) num l)))):=by
    intro num JW S1 D1 O1 hz
    split
    . rename_i hp
      rw[iI (Int.le_of_lt h0),CV (Int.le_of_lt h0)]
      refine⟨CW h0 (by omega),hsz _ _,by omega,k _ _ (Int.emod_nonneg _ (by omega)) (Int.emod_lt_of_pos _ h0) ⟨seed,num / m,JW,aa,by rw[ap hne.symm];exact D1.l,D1.s0,D1.s1,Int.ediv_nonneg D1.nm (Int.le_of_lt h0),D1.lf,D1.ln⟩ (O1.trans .upd)⟩
    . have e1:∀x:Int,x.fmod 2147483647=x % 2147483647:=fun x=>iI (by decide)
      have e2:∀x:Int,x.fmod 2147483399=x % 2147483399:=fun x=>iI (by decide)
      simp only[e1,e2,iI (Int.le_of_lt h0)]
      have p1:=D1.s0
      have p2:=D1.s1
      refine⟨kT (by decide) (by decide),by decide,kT (by decide) (by decide),by decide,hsz _ _,t4 (by omega) (by omega),by decide,t4 (by omega) (by omega),by decide,kT (by decide) (by decide),by omega,
        k _ _ (Int.emod_nonneg _ (by omega)) (Int.emod_lt_of_pos _ h0) ⟨_,num,JW,aa,by rw[ap hne.symm];exact D1.l,by omega,by omega,D1.nm,D1.lf,D1.ln⟩ (O1.trans .upd)⟩
  unfold aU gJ
  rw[show aw 5 [PV.ref d,PV.int m]=[some (.ref d),some (.int m),none,none,none] from rfl]
  simp only[ai]
  refine⟨fun n σ S'=>σ=[some (.ref d),some (.int m),none,none,none]/\∃number left,Ib S' d l seed number left/\left.length=n/\Gm d l S S',⟨_,rfl,number,left,D,rfl,.refl⟩,?_⟩
  rintro n σ S1 ⟨rfl,num,JW,D1,hn,O1⟩
  walk_at "x"
  simp only[D1.d,D1.l,vQ,A7,A6,vP,lK,aa,Bool.false_bne,decide_eq_true_eq]
  have hlen:(List.map PV.int JW).length=JW.length:=List.length_map ..
  rw[hlen]
  split
  . rename_i hz
    subst hz
    split
    . rename_i hl
      refine⟨fun σ S'=>σ=[some (.ref d),some (.int m),none,none,none]/\∃number left,Ib S' d l seed number left/\left.length < n/\Gm d l S S',?_,?_⟩
      . rintro σ' S' ⟨rfl,a,b,h2,h3,h4⟩
        exact⟨_,h3,rfl,a,b,h2,rfl,h4⟩
      . have hl':0 < JW.length:=by omega
        obtain⟨pre,x,rfl⟩:∃pre x,JW=pre++[x]:=by
          refine⟨JW.dropLast,JW.getLast (by intro e;rw[e]at hl';simp at hl'),(List.dropLast_concat_getLast _).symm⟩
        refine⟨trivial,?_⟩
        rw[show(List.map PV.int (pre++[x]))[(pre++[x]).length - 1]?=some (.int x) by simp,show(List.map PV.int (pre++[x])).dropLast=pre.map PV.int by simp]
        simp only[ap hne,D1.d,lK]
        refine⟨hsz _ _,trivial,x,pre,⟨aa,by rw[ap hne.symm,aa],D1.s0,D1.s1,D1.lf x (by simp),fun y hy=>D1.lf y (by simp[hy]),by have:=D1.ln;simp at this;omega⟩,?_,O1.trans (Gm.OH.trans .upd)⟩
        rw[<-hn];simp
    . rename_i hl
      exact fin 0 JW S1 D1 O1 (fun z=>hl (by omega))
  . rename_i hz
    rw[if_neg (by decide)]
    exact fin num JW S1 D1 O1 (fun z=>hz z.1)
end C
namespace L3
open PySem L2
def Ext(S S':ay):Prop:=∀a o,S a=some o->S' a=some o
def Ext.refl{S:ay}:Ext S S:=fun _ _ h=>h
def Ext.trans{S S1 S2:ay}(a:Ext S S1)(b:Ext S1 S2):Ext S S2:=fun x o h=>b x o (a x o h)
def Ext.new{S:ay}{p:Addr}{o:SO}(h:S p=none):Ext S (Fr S p o):=fun x u hx=>by rw[ap (fun e=>by rw[e,h]at hx;cases hx)];exact hx
def Ext.free{S S':ay}(e:Ext S S'){p:Addr}(h:S' p=none):S p=none:=by
 cases q:S p with
 |none=>rfl
 |some o=>rw[e p o q]at h;cases h
theorem fM{g:Tg}{tc:jS}{te:aW}{σ':cC}{keep:ay->Prop}{fin:List PV->ay->Prop}{S:ay}(f:PV->PV)(c:PV->Bool)(hk:keep S):∀(items ys:List PV),
  (∀x∈items,∃σ2,g.put x σ'=some σ2/\(∀Q:Bool->ay->Prop,Q (c x) S->tc σ2 S Q dO)/\(c x=true->∀Q:bA,Q (f x) S->te σ2 S Q dO))->ys.length+items.length<=sizeLine->fin (ys++(items.filter c).map f) S->dC g tc te σ' keep fin items ys S
 |[],ys,_,hl,hf=>⟨hk,by simpa using hl,by simpa using hf⟩
 |x::r,ys,h,hl,hf=>by
  obtain⟨σ2,e,h1,h2⟩:=h x (by simp)
  refine⟨hk,by simp at hl;omega,?_⟩
  rw[e]
  refine h1 _ ?_
  cases hc:c x with
  |true=>
   rw[if_pos rfl]
   refine h2 hc _ (fM f c hk r (ys++[f x]) (fun y hy=>h y (by simp[hy])) (by simp at hl ⊢;omega) ?_)
   rw[List.filter_cons,hc,if_pos rfl]at hf
   simpa using hf
  |false=>
   rw[if_neg (by decide)]
   refine fM f c hk r ys (fun y hy=>h y (by simp[hy])) (by simp at hl ⊢;omega) ?_
   rw[List.filter_cons,hc,if_neg (by decide)]at hf
   exact hf
def t5{g:Tg}{te:aW}{σ':cC}{keep:ay->Prop}{fin:List PV->ay->Prop}{S:ay}(f:PV->PV){items:List PV}(hk:keep S)
  (h:∀x∈items,∃σ2,g.put x σ'=some σ2/\∀Q:bA,Q (f x) S->te σ2 S Q dO) (hl:items.length<=sizeLine) (hf:fin (items.map f) S):dC g ci te σ' keep fin items [] S:=by
 refine fM f (fun _=>true) hk items [] (fun x hx=>?_) (by simpa using hl) (by rw[List.filter_eq_self.mpr (fun _ _=>rfl)];exact hf)
 obtain⟨σ2,e,k⟩:=h x hx
 exact⟨σ2,e,fun Q q=>q,fun _=>k⟩
theorem nw{g:Tg}{tc:jS}{te:aW}{σ':cC}{keep:ay->Prop}{fin:List PV->ay->Prop}{items:List PV}(Iv:List PV->List PV->ay->Prop)(hk:∀done ys S,Iv done ys S->keep S/\ys.length<=sizeLine)
  (step:∀done x rest ys S (K:List PV->ay->Prop),items=done++x::rest->Iv done ys S->(∀ys' S',Iv (done++[x]) ys' S'->K ys' S')->match g.put x σ' with
   |some σ2=>tc σ2 S (fun b S3=>if b=true then te σ2 S3 (fun y S4=>K (ys++[y]) S4) dO else K ys S3) dO
   |none=>False)
  (hf:∀ys S,Iv items ys S->fin ys S):∀(rest done ys:List PV) (S:ay),items=done++rest->Iv done ys S->dC g tc te σ' keep fin rest ys S
 |[],done,ys,S,e,h=>by
  rw[List.append_nil]at e
  exact⟨(hk _ _ _ h).1,(hk _ _ _ h).2,hf ys S (e▸h)⟩
 |x::rest,done,ys,S,e,h=>by
  refine⟨(hk _ _ _ h).1,(hk _ _ _ h).2,?_⟩
  exact step done x rest ys S (fun ys' S'=>dC g tc te σ' keep fin rest ys' S') e h fun ys' S' h'=>nw Iv hk step hf rest (done++[x]) ys' S' (by rw[e];simp) h'
theorem pZ{g:Tg}{tb:bB}{D:m5}{keep:ay->Prop}{items:List PV}(Iv:List PV->cC->ay->Prop)(hk:∀done σ S,Iv done σ S->keep S)
  (step:∀done x rest σ S (K:cC->ay->Prop),items=done++x::rest->Iv done σ S->(∀σ' S',Iv (done++[x]) σ' S'->K σ' S')->match g.put x σ with
   |some σ'=>tb { D with nx:=K,ct:=K,bk:=D.nx } σ' S
   |none=>False)
  (hd:∀σ S,Iv items σ S->D.nx σ S):∀(rest done:List PV) (σ:cC) (S:ay),items=done++rest->Iv done σ S->oa g tb D keep rest σ S
 |[],done,σ,S,e,h=>by
  rw[List.append_nil]at e
  exact⟨hk _ _ _ h,hd σ S (e▸h)⟩
 |x::rest,done,σ,S,e,h=>
  ⟨hk _ _ _ h,step done x rest σ S (oa g tb D keep rest) e h fun σ' S' h'=>pZ Iv hk step hd rest (done++[x]) σ' S' (by rw[e];simp) h'⟩
def bw{g:Tg}{tb:bB}{D:m5}{keep:ay->Prop}{items:List PV}{σ:cC}{S:ay}(Iv:List PV->cC->ay->Prop)(h0:Iv [] σ S)(hk:∀done σ S,Iv done σ S->keep S)
  (step:∀done x rest σ S (K:cC->ay->Prop),items=done++x::rest->Iv done σ S->(∀σ' S',Iv (done++[x]) σ' S'->K σ' S')->match g.put x σ with
   |some σ'=>tb { D with nx:=K,ct:=K,bk:=D.nx } σ' S
   |none=>False)
  (hd:∀σ S,Iv items σ S->D.nx σ S):oa g tb D keep items σ S:=pZ Iv hk step hd items [] σ S rfl h0
def fo{g:Tg}{tc:jS}{te:aW}{σ':cC}{keep:ay->Prop}{fin:List PV->ay->Prop}{items:List PV}{S:ay}(Iv:List PV->List PV->ay->Prop)(h0:Iv [] [] S)(hk:∀done ys S,Iv done ys S->keep S/\ys.length<=sizeLine)
  (step:∀done x rest ys S (K:List PV->ay->Prop),items=done++x::rest->Iv done ys S->(∀ys' S',Iv (done++[x]) ys' S'->K ys' S')->match g.put x σ' with
   |some σ2=>tc σ2 S (fun b S3=>if b=true then te σ2 S3 (fun y S4=>K (ys++[y]) S4) dO else K ys S3) dO
   |none=>False)
  (hf:∀ys S,Iv items ys S->fin ys S):dC g tc te σ' keep fin items [] S:=nw Iv hk step hf items [] [] S rfl h0
def al{t u:bB}{D:m5}{σ:cC}{S:ay}(h:∀N:cC->ay->Prop,(∀σ S,u D σ S->N σ S)->t { D with nx:=N } σ S):ai t u D σ S:=h (u D) fun _ _ q=>q
def dG{n:Nat}{b:bB}{args:List PV}{S:ay}{Q:bA}{E:bZ}(h:b { nx:=fun _ S'=>Q .non S',rt:=Q,ex:=dO } (aw n args) S):aU n b args S Q E:=h
def vR{α β:Type}(f:α->β)(xs:List α)(lo hi:Option Int):He (xs.map f) lo hi=(He xs lo hi).map f:=by
 unfold He
 rw[List.length_map,List.map_take,List.map_drop]
def vS{α:Type}(xs:List α)(lo hi:Option Int):(He xs lo hi).length<=xs.length:=by
 unfold He
 rw[List.length_take,List.length_drop]
 omega
def dR{n:Nat}(h:n<=1000):n<=sizeLine:=Nat.le_of_lt (fc h)
section
variable {α:Type} {a b c d e:α} {l:List α}
def bW:Gw (a::l) 0=some a:=by simp[Gw,qU]
def cM:Gw (a::b::l) 1=some b:=bX (j:=1) rfl
def sC:Gw (a::b::c::l) 2=some c:=bX (j:=2) rfl
def EO:Gw (a::b::c::d::l) 3=some d:=bX (j:=3) rfl
def EQ:Gw (a::b::c::d::e::l) 4=some e:=bX (j:=4) rfl
end
def fq(lo:Int)(n:Nat):(bV lo n).length=n:=by simp[bV]
end L3
namespace C
open PySem L2 L3
abbrev p4(w:ax):Prop:=∀{S:ay} {ns:Vu} {b:Int} {Q:bA} {E:bZ},ns.length<=63->0<=b->b < 1000->(∀d l S',S d=none->S l=none->FB S' d l->Ext S S'->Q (.ref d) S')->w [.cl (ns.map PV.int),.int b] S Q E
def IZ:p4 (aU 5 gH):=by
 intro S ns b Q E hn h0 h1 k
 unfold aU gH
 rw[show aw 5 [PV.cl (ns.map PV.int),PV.int b]=[some (.cl (ns.map PV.int)),some (.int b),none,none,none] from rfl]
 walk_at "x"
 intro p hp
 rw[aa]
 dsimp only
 rw[vR]
 have hx:(He ns (some b) (some 63)).length<=63:=Nat.le_trans (vS _ _ _) hn
 generalize He ns (some b) (some 63)=xs at hx
 refine t5 (fun v=>match v with | .int i=>.int (if 0 - i > i then 0 - i else i)|v=>v) aa (fun x hx=>?_) (dR (by rw[List.length_map];omega)) ?_
 ·obtain⟨i,hi,rfl⟩:=List.mem_map.mp hx
  refine⟨[some (.int i)],rfl,fun Q q=>?_⟩
  walk_at "x"
  exact q
 intro p2 hp2
 rw[aa]
 dsimp only
 rw[List.map_map]
 have e0:(xs.map ((fun v=>match v with | .int i=>.int (if 0 - i > i then 0 - i else i)|v=>v) ∘ PV.int))=(xs.map fun i=>if 0 - i > i then 0 - i else i).map PV.int:=by
  rw[List.map_map];rfl
 rw[e0]
 have hy:((xs.map fun i=>if 0 - i > i then 0 - i else i)).length<=63:=by rw[List.length_map];exact hx
 have LD:∀y∈xs.map (fun i:Int=>if 0 - i > i then 0 - i else i),0<=y:=by
  intro y hy
  obtain⟨i,_,rfl⟩:=List.mem_map.mp hy
  split<;>omega
 generalize (xs.map fun i=>if 0 - i > i then 0 - i else i)=ys at hy LD
 have h2:p2≠p:=fun e=>by rw[e,aa]at hp2;cases hp2
 have hp2':S p2=none:=by rw[<-hp2,ap h2]
 refine bw (fun done σ S'=>S'=Fr (Fr S p (.lst (xs.map PV.int))) p2 (.lst (ys.map PV.int))/\∃v2 n,0<=n/\n < 2147483647/\σ=[some (.cl (ns.map PV.int)),some (.int b),v2,some (.ref p2),some (.int n)]) ⟨rfl,none,7919+b,by omega,by omega,rfl⟩ (fun done σ S' h=>by rw[h.1];exact aa) ?_ ?_
 ·rintro done x rest σ S' K e ⟨rfl,v2,n,n0,n1,rfl⟩ hK
  obtain⟨i,hi,rfl⟩:∃i,i∈ys/\x = .int i:=by
   have:x∈ys.map PV.int:=by rw[e];simp
   obtain⟨i,hi,rfl⟩:=List.mem_map.mp this
   exact⟨i,hi,rfl⟩
  walk_at "x"
  refine⟨kT (by decide) (by decide),by decide,by decide,hK _ _ ⟨rfl,_,_,?_,?_,rfl⟩⟩
  ·rw[iI (by decide)];omega
  ·rw[iI (i:=(n * 48271+_)) (by decide)];omega
 ·rintro σ S' ⟨rfl,v2,n,n0,n1,rfl⟩
  walk_at "x"
  intro d hd
  have hd2:d≠p2:=fun e=>by rw[e,aa]at hd;cases hd
  rw[ap hd2]at hd
  have hd1:d≠p:=fun e=>by rw[e,aa]at hd;cases hd
  rw[ap hd1]at hd
  rw[ap hd2.symm,aa]
  dsimp only
  refine fM (fun v=>v) (fun v=>match v with | .int i=>decide (10 ^ 18<=i)|_=>false) (by rw[ap hd2.symm,aa]) _ [] (fun x hx=>?_) (by rw[List.length_map];exact dR (by simp;omega)) ?_
  ·obtain⟨i,hi,rfl⟩:=List.mem_map.mp hx
   refine⟨[some (.int i)],rfl,fun Q q=>?_,fun _ Q q=>?_⟩
   ·walk_at "x"
    exact⟨⟨by decide,by decide,by decide⟩,q⟩
   ·walk_at "x"
    exact q
  intro p3 hp3
  rw[aa]
  intro l hl
  have e3:([]++List.map (fun v:PV=>v) (List.filter (fun v=>match v with | .int i=>decide (10 ^ 18<=i)|_=>false) (List.map PV.int ys)))=(ys.filter fun i=>decide (10 ^ 18<=i)).map PV.int:=by
   rw[List.nil_append,List.map_id',List.filter_map]
   rfl
  rw[e3]at hl ⊢
  rw[<-List.map_reverse]
  generalize NH:Fr (Fr (Fr (Fr S p (SO.lst (List.map PV.int xs))) p2 (SO.lst (List.map PV.int ys))) d (SO.dct [])) p3 (SO.lst (List.map PV.int (List.filter (fun i=>decide (10 ^ 18<=i)) ys)))=S3 at hl ⊢
  have NI:S3 d=some (.dct []):=by rw[<-NH,ap (fun e=>by rw[<-e,aa]at hp3;cases hp3),aa]
  have NJ:l≠d:=fun e=>by rw[e,NI]at hl;cases hl
  have MU:Ext S S3:=by
   rw[<-NH]
   refine(Ext.new hp).trans ((Ext.new hp2).trans ((Ext.new ?_).trans (.new hp3)))
   rw[ap hd2,ap hd1];exact hd
  refine⟨by rw[ap NJ.symm];exact NI,?_⟩
  have e4:pQ [(PV.str "seed",PV.int n),(PV.str "number",PV.int 0),(PV.str "left",PV.ref l)]=some (b_ n 0 l):=rfl
  rw[e4]
  have e5:og [] (b_ n 0 l)=b_ n 0 l:=by simp[og,b_,n_,sS,aA]
  dsimp only
  rw[e5]
  refine k d l _ hd (MU.free hl) ⟨n,0,_,aa,by rw[ap NJ,aa],n0,n1,Int.le_refl _,fun y hy=>?_,?_⟩ ?_
  ·exact LD y (List.mem_filter.mp (List.mem_reverse.mp hy)).1
  ·rw[List.length_reverse]
   exact Nat.le_trans (List.length_filter_le _ _) (by omega)
  ·intro a o ha
   have had:a≠d:=fun e=>by rw[e,hd]at ha;cases ha
   rw[ap had,ap (fun e=>by rw[e,MU.free hl]at ha;cases ha)]
   exact MU a o ha
end C
namespace L3
open PySem L2
theorem lL(S:ay):∀zs:List Str,Dats S (zs.map PV.str) (zs.map PyData.str)
 |[]=>.nil
 |z::r=>.cons (.str z) (lL S r)
theorem gR:∀{zs:Vs},(∀z∈zs,PyData.strOk z=true)->PyData.canLayAll0 (zs.map PyData.str)=true
 |[],_=>rfl
 |z::r,h=>by
  show(PyData.canLay0 (.str z)&&PyData.canLayAll0 (r.map PyData.str))=true
  rw[gR fun y hy=>h y (by simp[hy])]
  have:PyData.canLay0 (.str z)=true:=h z (by simp)
  rw[this];rfl
def lM(z:Str)(zs:Vs):kF (.str z) (zs.map PyData.str)=decide (z∈zs):=by
 unfold kF
 rw[List.any_map,Bool.eq_iff_iff,List.any_eq_true,decide_eq_true_iff]
 constructor
 ·rintro⟨y,hy,e⟩
  have e':(y == z)=true:=e
  exact(eq_of_beq e')▸hy
 ·intro h
  exact⟨z,h,beq_self_eq_true z⟩
def eG{neg:Bool}{z:Str}{zs:Vs}{a:Addr}{S:ay}{Q:bA}(hS:S a=some (.lst (zs.map PV.str)))(hz:PyData.strOk z=true)(hzs:∀y∈zs,PyData.strOk y=true)(q:Q (.bl (neg != decide (z∈zs))) S):jU neg (.str z) (.ref a) S Q:=by
 unfold jU
 simp only[hS]
 exact⟨_,_,.str z,lL S zs,hz,gR hzs,by show 0<=150;decide,by rw[lM];exact q⟩
def bI{neg:Bool}{z:Str}{zs:Vs}{S:ay}{Q:bA}(hz:PyData.strOk z=true)(hzs:∀y∈zs,PyData.strOk y=true)(q:Q (.bl (neg != decide (z∈zs))) S):jU neg (.str z) (.tup (zs.map PV.str)) S Q:=by
 unfold jU
 exact⟨_,_,.str z,lL S zs,hz,gR hzs,by show 0<=150;decide,by rw[lM];exact q⟩
end L3
namespace C
open PySem L2 L3 Wd
abbrev jo(w:ax):Prop:=∀{S:ay} {t b:Int} {Q:bA} {E:bZ},0 < b->b.natAbs < 2 ^ 8000->Q (.tup [.int (M3.bP t b),.int (M3.bq t b)]) S->w [.int t,.int b] S Q E
def HF:jo (aU 4 iU):=by
 intro S t b Q E hb hs k
 unfold aU iU
 rw[show aw 4 [PV.int t,PV.int b]=[some (.int t),some (.int b),none,none] from rfl]
 simp only[ai]
 walk_at "x"
 refine⟨fun n σ S'=>S'=S/\∃x y:Int,σ=[some (.int t),some (.int b),some (.int x),some (.int y)]/\0<=x/\0<=y/\Int.gcd x y=Int.gcd t b/\y.toNat=n,⟨_,rfl,_,b,rfl,by split<;>omega,by omega,?_,rfl⟩,?_⟩
 ·split
  ·rw[show(0 - t) = -t by omega,Int.neg_gcd]
  ·rfl
 rintro n σ S' ⟨rfl,x,y,rfl,hx,hy,hg,rfl⟩
 walk_at "x"
 simp only[decide_eq_true_eq]
 split
 ·rename_i hp
  refine⟨fun σ' JD=>JD=S'/\∃x' y':Int,σ'=[some (.int t),some (.int b),some (.int x'),some (.int y')]/\0<=x'/\0<=y'/\Int.gcd x' y'=Int.gcd t b/\y'.toNat < y.toNat,?_,?_⟩
  ·rintro σ' JD ⟨rfl,x',y',rfl,h1,h2,h3,h4⟩
   exact⟨_,h4,rfl,x',y',rfl,h1,h2,h3,rfl⟩
  ·walk_at "x"
   have e:x.fmod y=x % y:=iI hy
   have l1:=Int.emod_nonneg x (b:=y) (by omega)
   have l2:=Int.emod_lt_of_pos x hp
   refine⟨by omega,trivial,y,x.fmod y,rfl,hy,by omega,?_,by omega⟩
   rw[M3.pJ];exact hg
 ·rename_i hp
  have LD:y=0:=by omega
  subst LD
  have MV:x=(Int.gcd t b:Int):=by
   rw[<-hg]
   rw[Int.gcd_zero_right]
   omega
  subst MV
  have gp:(0:Int) < (Int.gcd t b:Int):=Int.natCast_pos.mpr (M3.ig (by omega))
  have gl:=M3.ve (t:=t) (b:=b) (by omega)
  have cd:∀z,m7 z (Int.gcd t b:Int):=fun z=>⟨by omega,Nat.lt_of_le_of_lt (by omega) hs⟩
  refine⟨cd _,cd _,?_⟩
  have d1:=(M3.pI (t:=t) (b:=b) (by omega))
  rw[if_neg (by omega)]at d1
  rw[d1.1,d1.2]
  exact k
structure vT (x y:Int):Prop where
 low:M3.Du x y
 x0:0<=x
 x1:x<=999
 y1:y<=9
def j5{n:Nat}(h:n < 2 ^ 64):n < 2 ^ 8000:=Nat.lt_trans h (Nat.pow_lt_pow_right (by decide) (by decide))
abbrev jp(w:ax):Prop:=∀{S:ay} {d l:Addr} {Q:bA} {E:bZ},FB S d l->(∀x y S',vT x y->FB S' d l->Gm d l S S'->Q (.tup [.int x,.int y]) S')->w [.ref d] S Q E
def HV{wd wl:ax}(Fu:bF wd)(HF:jo wl):jp (aU 2 (gK wd wl)):=by
 intro S d l Q E D k
 unfold aU gK
 rw[show aw 2 [PV.ref d]=[some (.ref d),none] from rfl]
 walk_at "x"
 refine Fu D (by decide) (by decide) fun r S1 r0 r1 D1 O1=>?_
 simp only[Bool.false_bne,decide_eq_true_eq]
 split
 ·exact k 0 1 S1 ⟨⟨by decide,by decide⟩,by decide,by decide,by decide⟩ D1 O1
 ·split
  ·refine Fu D1 (by decide) (by decide) fun r2 S2 a0 a1 D2 O2=>?_
   exact k _ 1 S2 ⟨⟨by decide,Int.gcd_one_right _⟩,by omega,by omega,by decide⟩ D2 (O1.trans O2)
  ·refine Fu D1 (by decide) (by decide) fun r2 S2 a0 a1 D2 O2=>Fu D2 (by decide) (by decide) fun r3 S3 b0 b1 D3 O3=>?_
   refine HF (by omega) (j5 (by omega)) ?_
   have z:=M3.vg (t:=r2) (b:=1+r3) (T:=999) (B:=9) (by omega) (by omega) (by omega) (by omega) (by omega) (by decide) (by decide)
   refine k _ _ S3 ⟨M3.nV (by omega),?_,z.2.1,z.2.2.2⟩ D3 (O1.trans (O2.trans O3))
   unfold M3.bP
   rw[if_neg (by omega)]
   exact Int.ediv_nonneg a0 (by omega)
def t6{r:Int}(h0:0<=r)(h1:r < 26):∃c,Gw abc.cps.toList r=some c/\97<=c/\c<=122:=by
 obtain⟨n,rfl⟩:=Int.eq_ofNat_of_zero_le h0
 have q:=nU n
 rw[Nat.mod_eq_of_lt (by omega)]at q
 exact⟨_,q,by omega,by omega⟩
def lN{z:Str}(h:IsW z):PyData.strOk z=true:=by
 unfold PyData.strOk
 rw[Array.all_eq_true']
 intro c hc
 have:=h.sm c (by simpa using hc)
 simp;omega
def yv:∀z∈Gy,PyData.strOk z=true:=by decide +kernel
theorem j6:∀zs:List Str,texts (zs.map PV.str)=some zs
 |[]=>rfl
 |z::r=>by show(texts (r.map PV.str)).map (z::·)=_;rw[j6 r];rfl
def t7:("":Str).length=0:=by decide +kernel
def ny{cs:List Nat}(h:cs.length<=1000):((cs.map nR).map (·.length)).sum+(cs.map nR).length * ("":Str).length<=1000000:=by
 rw[xV,t7]
 omega
def lO{w__law_draw:ax}(Fu:bF w__law_draw){S:ay}{d l:Addr}{σ:cC}{n:Int}{fin:List PV->ay->Prop}(D:FB S d l)(hn:n.toNat<=100)(h1:lk σ 1=some (.ref d))(h2:lk σ 2=some (.str abc))(hσ:∃x,σ=[x,some (.ref d),some (.str abc)])
  (k:∀(cs:List Nat) S',cs.length=n.toNat->(∀c∈cs,97<=c/\c<=122)->FB S' d l->Gm d l S S'->fin ((cs.map nR).map PV.str) S') :
  dC (Tg.n 0) ci (af ac (v3 2) (ab w__law_draw [v3 1,c3 (.int 26)])) σ (fun _=>True) fin (bV 0 n.toNat) [] S:=by
 obtain⟨x0,rfl⟩:=hσ
 refine fo (fun done ys S'=>∃cs:List Nat,ys=(cs.map nR).map PV.str/\cs.length=done.length/\done.length<=n.toNat/\(∀c∈cs,97<=c/\c<=122)/\FB S' d l/\Gm d l S S') ⟨[],rfl,rfl,Nat.zero_le _,by simp,D,.refl⟩ ?_ ?_ ?_
 ·rintro done ys S' ⟨cs,rfl,e,hd,_⟩
  exact⟨trivial,dR (by rw[List.length_map,List.length_map,e];omega)⟩
 ·rintro done x rest ys S' K e ⟨cs,rfl,e2,hd,hc,D',O'⟩ hK
  have hlen:done.length+1<=n.toNat:=by
   have:=congrArg List.length e
   rw[fq,List.length_append,List.length_cons]at this
   omega
  walk_at "x"
  simp only[ci,if_true]
  refine Fu D' (by decide) (by decide) fun r S2 r0 r1 D2 O2=>⟨k5.1,?_⟩
  obtain⟨c,ec,c0,c1⟩:=t6 r0 r1
  rw[ec]
  refine hK _ _ ⟨cs++[c],by simp,by simp[e2],by simpa using hlen,fun y hy=>?_,D2,O'.trans O2⟩
  rcases List.mem_append.mp hy with hy|hy
  ·exact hc y hy
  ·rw[List.mem_singleton.mp hy];exact⟨c0,c1⟩
 ·rintro ys S' ⟨cs,rfl,e,hd,hc,D',O'⟩
  exact k cs S' (by rw[e,fq]) hc D' O'
theorem p5{f:Str->List Nat}(r:List Nat):∀xs:List Str,(xs.map f).Nodup->(xs.filter fun z=>f z == r).length<=1
 |[],_=>Nat.zero_le _
 |x::xs,h=>by
  rw[List.map_cons,List.nodup_cons]at h
  rw[List.filter_cons]
  by_cases e:(f x == r)=true
  ·rw[if_pos e]
   have no:(xs.filter fun z=>f z == r)=[]:=by
    refine List.filter_eq_nil_iff.mpr fun z hz q=>h.1 ?_
    rw[eq_of_beq e,<-eq_of_beq q]
    exact List.mem_map.mpr ⟨z,hz,rfl⟩
   rw[no]
   exact Nat.le_refl _
  ·rw[if_neg e]
   exact p5 r xs h.2
def vU(r:List Nat):(Gy.filter fun z=>z.cps.toList.tail == r).length<=1:=p5 (f:=fun z=>z.cps.toList.tail) r Gy (by decide +kernel)
def rG(r:List Nat)(c:Nat)(ns:Vs)(h:ns.length < 17):∃j,j < 26/\cand r (c+j) ∉ Gy++ns:=by
 obtain⟨j,hj,free⟩:=tO r c ((Gy.filter fun z=>z.cps.toList.tail == r)++ns) (by rw[List.length_append];have:=vU r;omega)
 refine⟨j,hj,fun hm=>free ?_⟩
 rcases List.mem_append.mp hm with q|q
 ·exact List.mem_append_left _ (List.mem_filter.mpr ⟨q,by simp[cand]⟩)
 ·exact List.mem_append_right _ q
abbrev il(w:ax):Prop:=∀{S:ay} {d l:Addr} {m:Int} {Q:bA} {E:bZ},FB S d l->0<=m->m<=17->(∀p (ns:Vs) S',ns.length=m.toNat->ns.Nodup->(∀z∈ns,IsW z/\z ∉ Gy)->S p=none->p≠d->p≠l->S' p=some (.lst (ns.map PV.str))->FB S' d l->Gm d l S S'->Q (.ref p) S')->w [.ref d,.int m] S Q E
def Hj{wd:ax}(Fu:bF wd):il (aU 11 (fF wd)):=by
 intro S d l m Q E D h0 h1 k
 unfold fF
 refine dG ?_
 rw[show aw 11 [PV.ref d,PV.int m]=[some (.ref d),some (.int m),none,none,none,none,none,none,none,none,none] from rfl]
 refine al fun N hN=>?_
 walk_at "x"
 refine hN _ _ (al fun N hN=>?_)
 walk_at "x"
 intro pT hT
 have dT:=D.free hT
 have D0:FB (Fr S pT (.lst (Gy.map PV.str))) d l:=D.new hT
 have NK:(Fr S pT (.lst (Gy.map PV.str))) pT=some (.lst (Gy.map PV.str)):=aa
 have O0:Gm d l S (Fr S pT (.lst (Gy.map PV.str))):=.new hT
 have eK:[PV.str "jars",PV.str "deed",PV.str "rest",PV.str "pay",PV.str "put",PV.str "then",PV.str "either",PV.str "take",PV.str "often",PV.str "use"]=Gy.map PV.str:=rfl
 rw[eK]
 generalize Fr S pT (.lst (Gy.map PV.str))=S0 at D0 NK O0 ⊢
 refine hN _ _ (al fun N hN=>?_)
 walk_at "x"
 refine⟨trivial,Fu D0 (by decide) (by decide) fun n S1 n0 n1 D1 O1=>⟨by omega,by omega,?_⟩⟩
 refine lO Fu D1 (by omega) rfl rfl ⟨_,rfl⟩ fun cs S2 hl hc D2 O2 pj hj=>?_
 simp only[m8,aa,j6]
 refine⟨ny (by omega),?_⟩
 rw[show Txt.join (Str.ofString "") (cs.map nR)=⟨cs.toArray⟩from lw cs]
 refine hN _ _ (al fun N hN=>?_)
 walk_at "x"
 have hcl:cs.length<=5:=by omega
 have lc:(⟨cs.toArray⟩:Str).length=cs.length:=List.size_toArray
 refine⟨by rw[lc];exact dR (by omega),Fu (D2.new hj) (by rw[lc];omega) (by rw[lc];omega) fun at' S3 a0 a1 D3 O3=>Fu D3 (by decide) (by decide) fun tu S4 t0 t1 D4 O4=>Fu D4 (by decide) (by decide) fun nr S5 r0 r1 D5 O5=>?_⟩
 rw[lc]at a1
 obtain⟨an,rfl⟩:=Int.eq_ofNat_of_zero_le a0
 obtain⟨tn,rfl⟩:=Int.eq_ofNat_of_zero_le t0
 refine hN _ _ (al fun N hN=>?_)
 walk_at "x"
 intro q hq
 have dq:=D5.free hq
 have OA:Gm d l S0 S5:=O1.trans (O2.trans ((Gm.new hj).trans (O3.trans (O4.trans O5))))
 have MW:=OA _ _ NK dT.1 dT.2
 have NL:pT≠q:=fun e=>by rw[e,hq]at MW;cases MW
 have NM:S q=none:=by
  cases e:S q with
  |none=>rfl
  |some o=>rw[OA _ _ (O0 _ _ e dq.1 dq.2) dq.1 dq.2]at hq;cases hq
 refine hN _ _ (al fun N hN=>?_)
 simp only[bO,jY,v3,lk]
 refine⟨by omega,by omega,?_⟩
 refine bw (fun done σ S'=>∃(ns:Vs) (v4 v10:Option PV) (near:Bool),σ=[some (.ref d),some (.int m),some (.str abc),some (.ref pT),v4,some (.str ⟨cs.toArray⟩),some (.int an),some (.int tn),some (.bl near),some (.ref q),v10]/\ns.length=done.length/\ns.Nodup/\(∀z∈ns,IsW z/\z ∉ Gy)/\S' q=some (.lst (ns.map PV.str))/\S' pT=some (.lst (Gy.map PV.str))/\FB S' d l/\Gm d l S S')
  ⟨[],_,_,_,rfl,rfl,List.nodup_nil,(fun z hz=>nomatch hz),aa,by rw[ap NL];exact MW,D5.new hq,O0.trans (OA.trans (.new hq))⟩ (fun _ _ _ _=>trivial) ?_ ?_
 ·rintro done x rest σ S6 K e ⟨ns,v4,v10,near,rfl,MX,MY,w6,Mh,MZ,D6,O6⟩ hK
  have hlen:done.length < m.toNat:=by
   have:=congrArg List.length e
   rw[fq,List.length_append,List.length_cons]at this
   omega
  have hx:x = .int (0+(done.length:Nat)):=by
   have h2:=congrArg (fun l=>l[done.length]?) e
   simp only[List.getElem?_append_right (Nat.le_refl _),Nat.sub_self,List.getElem?_cons_zero]at h2
   unfold bV at h2
   rw[List.getElem?_map,List.getElem?_range hlen]at h2
   simpa using h2.symm
  subst hx
  -- the tail: a word is changed OI it is new,then laid down
  have ql:∀(z:Str) (v4:Option PV) (S7:ay),IsW z->S7 q=some (.lst (ns.map PV.str))->S7 pT=some (.lst (Gy.map PV.str))->FB S7 d l->Gm d l S S7->
    ai (iT (jb (aJ (af (jU false) (v3 10) (v3 3))) (aJ (af (jU false) (v3 10) (v3 9)))) (av 10 (af aT (af ac (v3 2) (af gG (af aT (d4 "str" jV (v3 2) [(af ac (v3 10) (c3 (.int 0)))]) (c3 (.int 1))) (c3 (.int 26)))) (cg (v3 10) (pL (c3 (.int 1))) rA))))
     (aN (d4 "list" bh (v3 9) [(v3 10)])) { nx:=K,rt:=Q,ex:=dO,bk:=N,ct:=K } [some (.ref d),some (.int m),some (.str abc),some (.ref pT),v4,some (.str ⟨cs.toArray⟩),some (.int an),some (.int tn),some (.bl near),some (.ref q),some (.str z)] S7:=by
   intro z v4 S7 hz NN NO D7 O7
   obtain⟨i,r,rfl,hi,OJ,hrs⟩:=hz.cand
   obtain⟨j,hj,free⟩:=rG r i ns (by omega)
   refine⟨fun mm σ S'=>∃t,σ=[some (.ref d),some (.int m),some (.str abc),some (.ref pT),v4,some (.str ⟨cs.toArray⟩),some (.int an),some (.int tn),some (.bl near),some (.ref q),some (.str (cand r (i+t)))]/\S'=S7/\t<=j/\mm=j - t,⟨j,0,rfl,rfl,Nat.zero_le _,rfl⟩,?_⟩
   rintro mm σ S' ⟨t,rfl,rfl,ht,rfl⟩
   have hw:=vd OJ hrs (i+t)
   have M0:∀y∈ns,PyData.strOk y=true:=fun y hy=>lN (w6 y hy).1
   have go:t < j->∃N:cC->ay->Prop,(∀σ' JD,N σ' JD->∃m',m' < j - t/\∃t',σ'=[some (.ref d),some (.int m),some (.str abc),some (.ref pT),v4,some (.str ⟨cs.toArray⟩),some (.int an),some (.int tn),some (.bl near),some (.ref q),some (.str (cand r (i+t')))]/\JD=S'/\t'<=j/\m'=j - t')/\
     N ([some (.ref d),some (.int m),some (.str abc),some (.ref pT),v4,some (.str ⟨cs.toArray⟩),some (.int an),some (.int tn),some (.bl near),some (.ref q),some (.str (cand r (i+(t+1))))]) S':=fun lt=>
    ⟨fun σ' JD=>σ'=[some (.ref d),some (.int m),some (.str abc),some (.ref pT),v4,some (.str ⟨cs.toArray⟩),some (.int an),some (.int tn),some (.bl near),some (.ref q),some (.str (cand r (i+(t+1))))]/\JD=S',fun σ' JD ⟨e1,e2⟩=>⟨j - (t+1),by omega,t+1,e1,e2,by omega,rfl⟩,rfl,rfl⟩
   have Mi:((((i+t) % 26:Nat):Int)+1).fmod 26=(((i+t+1) % 26:Nat):Int):=by rw[iI (by decide)];omega
   walk_at "x"
   refine eG NO (lN hw) yv ?_
   simp only[Bool.false_bne,decide_eq_true_eq]
   split
   ·rename_i g
    have lt:t < j:=Nat.lt_of_le_of_ne ht fun e=>by subst e;exact free (List.mem_append_left _ g)
    obtain⟨N,hN,hn⟩:=go lt
    rw[if_pos trivial]
    refine⟨N,hN,trivial,hw.line,?_⟩
    rw[mZ]
    simp only[jV,vb _ (Nat.mod_lt _ (by decide))]
    refine⟨by decide,k5.1,?_⟩
    rw[Mi,nU (i+t+1)]
    refine⟨hw.line,?_,?_⟩
    ·rw[ie]
     exact dR (show 1+r.toArray.size<=1000 by rw[List.size_toArray];omega)
    ·rw[ie,m4]
     exact hn
   ·rename_i g
    refine eG NN (lN hw) M0 ?_
    simp only[Bool.false_bne,decide_eq_true_eq]
    split
    ·rename_i g2
     have lt:t < j:=Nat.lt_of_le_of_ne ht fun e=>by subst e;exact free (List.mem_append_right _ g2)
     obtain⟨N,hN,hn⟩:=go lt
     refine⟨N,hN,trivial,hw.line,?_⟩
     rw[mZ]
     simp only[jV,vb _ (Nat.mod_lt _ (by decide))]
     refine⟨by decide,k5.1,?_⟩
     rw[Mi,nU (i+t+1)]
     refine⟨hw.line,?_,?_⟩
     ·rw[ie]
      exact dR (show 1+r.toArray.size<=1000 by rw[List.size_toArray];omega)
     ·rw[ie,m4]
      exact hn
    ·rename_i g2
     simp only[NN]
     refine⟨trivial,by rw[List.length_map];exact fc (by omega),hK _ _ ⟨ns++[cand r (i+t)],_,_,_,rfl,by simp[MX],List.nodup_append.mpr ⟨MY,by simp,fun a ha b hb e=>?_⟩,fun z hz=>?_,by rw[List.map_append];exact aa,by rw[ap NL];exact NO,D7.upd dq.1 dq.2,fun a o ha h1 h2=>?_⟩⟩
     ·rw[List.mem_singleton.mp hb]at e
      exact g2 (e▸ha)
     ·rcases List.mem_append.mp hz with hz|hz
      ·exact w6 z hz
      ·rw[List.mem_singleton.mp hz]
       exact⟨hw,g⟩
     ·rw[ap (fun e=>by rw[e,NM]at ha;cases ha)]
      exact O7 a o ha h1 h2
  obtain⟨pw,OK,pl2⟩:=xW hcl hc (a:=an) (i:=(tn+done.length) % 26) (by omega) (Nat.mod_lt _ (by decide))
  have Mi:((tn:Int)+(0+(done.length:Int))).fmod 26=(((tn+done.length) % 26:Nat):Int):=by rw[iI (by decide)];omega
  have NP:(⟨cs.toArray⟩:Str).length<=sizeLine:=by rw[lc];exact dR (by omega)
  simp only[Tg.put]
  refine al fun N2 GA=>?_
  walk_at "x"
  refine⟨NP,by decide,k5.1,?_⟩
  rw[Mi,nU (tn+done.length)]
  refine⟨Nat.le_trans (Nat.add_le_add OK (Nat.le_refl 1)) (by decide),NP,Nat.le_trans (Nat.le_of_eq (Array.size_append).symm) (Nat.le_trans pw.len (by decide)),?_⟩
  refine GA _ _ (al fun N3 LF=>?_)
  walk_at "x"
  split
  ·refine⟨trivial,Fu D6 (by decide) (by decide) fun n2 Sa m0 m1 Da Oa=>⟨by omega,by omega,?_⟩⟩
   refine lO Fu Da (by omega) rfl rfl ⟨_,rfl⟩ fun Ln Sb hl2 hc2 Db Ob OL hj2=>?_
   simp only[m8,aa,j6]
   refine⟨ny (by omega),?_⟩
   rw[show Txt.join (Str.ofString "") (Ln.map nR)=⟨Ln.toArray⟩from lw Ln]
   refine LF _ _ ?_
   have wz:IsW (⟨Ln.toArray⟩:Str):=⟨fun e=>by have e':Ln=[]:=e;rw[e']at hl2;simp at hl2;omega,by show Ln.length<=6;omega,hc2⟩
   have OB:Gm d l S6 (Fr Sb OL (.lst ((Ln.map nR).map PV.str))):=Oa.trans (Ob.trans (.new hj2))
   exact ql _ _ _ wz (OB _ _ Mh dq.1 dq.2) (OB _ _ MZ dT.1 dT.2) (Db.new hj2) (O6.trans OB)
  ·exact LF _ _ (ql _ _ S6 pw Mh MZ D6 O6)
 ·rintro σ S6 ⟨ns,v4,v10,near,rfl,MX,MY,w6,Mh,MZ,D6,O6⟩
  refine hN _ _ ?_
  walk_at "x"
  exact k q ns S6 (by rw[MX,fq]) MY w6 NM dq.1 dq.2 Mh D6 O6
inductive Bd where
 |rest|pay (x y:Int)|put (z:Str) (m:Int)|use (z:Str)|Fz (a:Bd)|Fw (a b:Bd)|FE (a b:Bd)|FC (z:Str) (m:Int) (a b:Bd)
noncomputable def Bd.pv:Bd->PV
 | .rest=>.tup [.str "rest"]
 | .pay x y=>.tup [.str "pay",.tup [.int x,.int y]]
 | .put z m=>.tup [.str "put",.str z,.int m]
 | .use z=>.tup [.str "use",.str z]
 | .Fz a=>.tup [.str "often",a.pv]
 | .Fw a b=>.tup [.str "then",a.pv,b.pv]
 | .FE a b=>.tup [.str "either",a.pv,b.pv]
 | .FC z m a b=>.tup [.str "take",.str z,.int m,a.pv,b.pv]
noncomputable def Bd.dep:Bd->Nat
 | .Fz a=>a.dep+1
 | .Fw a b=>max a.dep b.dep+1
 | .FE a b=>max a.dep b.dep+1
 | .FC _ _ a b=>max a.dep b.dep+1
 |_=>1
noncomputable def Bd.size:Bd->Nat
 | .Fz a=>a.size+1
 | .Fw a b=>a.size+b.size+1
 | .FE a b=>a.size+b.size+1
 | .FC _ _ a b=>a.size+b.size+1
 |_=>1
noncomputable def Bd.good(js us:Vs):Bd->Prop
 | .rest=>True
 | .pay x y=>vT x y
 | .put z m=>z∈js/\1<=m/\m<=9
 | .use z=>z∈us
 | .Fz a=>a.good js us
 | .Fw a b=>a.good js us/\b.good js us
 | .FE a b=>a.good js us/\b.good js us
 | .FC z m a b=>z∈js/\1<=m/\m<=9/\a.good js us/\b.good js us
def Bd.FG(t:Bd):1<=t.dep:=by cases t<;>simp[Bd.dep]
def im{α:Type}{xs:List α}{r:Int}(h0:0<=r)(h1:r < xs.length):∃v,Gw xs r=some v/\v∈xs:=by
 obtain⟨n,rfl⟩:=Int.eq_ofNat_of_zero_le h0
 have hn:n < xs.length:=by omega
 exact⟨xs[n],bX (by simp[hn]),List.getElem_mem hn⟩
noncomputable def Bd.leaf:Bd->Prop
 | .rest=>True
 | .pay _ _=>True
 | .put _ _=>True
 |_=>False
def Bd.FX{t:Bd}(h:t.leaf):t.dep=1/\t.size=1:=by cases t<;>first|exact⟨rfl,rfl⟩|exact h.elim
abbrev jq(w:ax):Prop:=∀{S:ay} {d l:Addr} {js:Vs} {Q:bA} {E:bZ},FB S d l->js.length < 2 ^ 61->(∀(t:Bd) S',t.leaf->t.good js []->FB S' d l->Gm d l S S'->Q t.pv S')->w [.ref d,.tup (js.map PV.str)] S Q E
def Gk{wd wc:ax}(Fu:bF wd)(HV:jp wc):jq (aU 4 (dF wd wc)):=by
 intro S d l js Q E D hj k
 unfold dF
 refine dG ?_
 rw[show aw 4 [PV.ref d,PV.tup (js.map PV.str)]=[some (.ref d),some (.tup (js.map PV.str)),none,none] from rfl]
 refine al fun N hN=>?_
 walk_at "x"
 refine Fu D (by decide) (by decide) fun r S1 r0 r1 D1 O1=>?_
 refine hN _ _ (al fun N hN=>?_)
 walk_at "x"
 simp only[Bool.false_bne,decide_eq_true_eq]
 split
 ·exact k .rest S1 trivial trivial D1 O1
 refine hN _ _ (al fun N hN=>?_)
 walk_at "x"
 simp only[Bool.false_bne,decide_eq_true_eq,List.length_map]
 have pay:wc [.ref d] S1 (fun x S=>Q (.tup [.str "pay",x]) S) dO:=HV D1 fun x y S2 c D2 O2=>k (.pay x y) S2 trivial c D2 (O1.trans O2)
 split
 ·rw[if_pos trivial];exact pay
 split
 ·exact pay
 rename_i hr hz
 refine hN _ _ (al fun N hN=>?_)
 walk_at "x"
 refine Fu D1 (by decide) (by decide) fun r2 S2 a0 a1 D2 O2 p hp=>Fu (D2.new hp) (by decide) (by decide) fun r3 S3 b0 b1 D3 O3=>?_
 have dp:=D2.free hp
 have hp3:=O3 _ _ (aa (S:=S2) (o:=.lst [.int 1,.int 2,.int (1+r2)])) dp.1 dp.2
 simp only[hp3]
 obtain⟨v,hv,hm⟩:=im (xs:=[PV.int 1,.int 2,.int (1+r2)]) b0 (by simpa using b1)
 rw[hv]
 obtain⟨m,rfl,m0,m1⟩:∃m,v = .int m/\1<=m/\m<=9:=by
  simp only[List.mem_cons,List.not_mem_nil,or_false]at hm
  rcases hm with rfl|rfl|rfl
  ·exact⟨1,rfl,by omega,by omega⟩
  ·exact⟨2,rfl,by omega,by omega⟩
  ·exact⟨1+r2,rfl,by omega,by omega⟩
 refine hN _ _ ?_
 walk_at "x"
 simp only[List.length_map]
 refine Fu D3 (by omega) (by omega) fun r4 S4 c0 c1 D4 O4=>?_
 obtain⟨w,hw,M1⟩:=im (xs:=js.map PV.str) c0 (by rw[List.length_map];exact c1)
 dsimp only
 rw[hw]
 obtain⟨z,hz,rfl⟩:=List.mem_map.mp M1
 exact k (.put z m) S4 trivial ⟨hz,m0,m1⟩ D4 (O1.trans (O2.trans ((Gm.new hp).trans (O3.trans O4))))
def HH(d l x:Addr)(S S':ay):Prop:=∀a o,S a=some o->a≠d->a≠l->a≠x->S' a=some o
theorem _root_.L3.Gm.x{d l x:Addr}{S S':ay}(h:Gm d l S S'):HH d l x S S':=fun a o e h1 h2 _=>h a o e h1 h2
def HH.trans{d l x:Addr}{S S1 S2:ay}(a:HH d l x S S1)(b:HH d l x S1 S2):HH d l x S S2:=fun y o h h1 h2 h3=>b y o (a y o h h1 h2 h3) h1 h2 h3
def HH.upd{d l x:Addr}{S:ay}{o:SO}:HH d l x S (Fr S x o):=fun y u h h1 h2 h3=>by rw[ap h3];exact h
abbrev jr(n:Nat)(w:ax):Prop:=∀{S:ay} {d l x:Addr} {js:Vs} {left down:Int} {Q:bA} {E:bZ},FB S d l->S x=some (.lst [.int left])->x≠d->x≠l->js.length < 2 ^ 61->0<=left->left < 2 ^ 61->0<=down->down < n->
  (∀(t:Bd) S' left',t.good js []->(t.dep:Int)<=down+1->0<=left'->(t.size:Int)+left'<=left+1->FB S' d l->S' x=some (.lst [.int left'])->HH d l x S S'->Q t.pv S')->w [.ref d,.tup (js.map PV.str),.ref x,.int down] S Q E
def I9{wd wl rb:ax}(Fu:bF wd)(Gk:jq wl)(n:Nat)(ih:jr n rb):jr (n+1) (aU 8 (gL wd wl rb)):=by
 intro S d l x js left down Q E D hx hxd I_ hj h0 h1 h2 h3 k
 unfold gL
 refine dG ?_
 rw[show aw 8 [PV.ref d,PV.tup (js.map PV.str),PV.ref x,PV.int down]=[some (.ref d),some (.tup (js.map PV.str)),some (.ref x),some (.int down),none,none,none,none] from rfl]
 refine al fun N hN=>?_
 walk_at "x"
 refine Fu D (by decide) (by decide) fun r S1 r0 r1 D1 O1=>?_
 have LX:=O1 _ _ hx hxd I_
 refine hN _ _ (al fun N hN=>?_)
 walk_at "x"
 have a0:Gw [PV.int left] 0=some (.int left):=rfl
 simp only[Bool.false_bne,decide_eq_true_eq,LX,a0]
 have lf:wl [.ref d,.tup (js.map PV.str)] S1 Q dO:=Gk D1 hj fun t S2 hl hg D2 O2=>k t S2 left hg (by rw[(Bd.FX hl).1];omega) h0 (by rw[(Bd.FX hl).2];omega) D2 (O2 _ _ LX hxd I_) (O1.x.trans O2.x)
 split
 ·rw[if_pos trivial];exact lf
 split
 ·rw[if_pos trivial];exact lf
 split
 ·exact lf
 rename_i hd hl hf
 refine hN _ _ (al fun N hN=>?_)
 simp only[bt,aJ,af,v3,c3,lk,nk,dz,decide_eq_true_eq]
 have NQ:qU [PV.int left].length 0=some 0:=rfl
 split
 ·refine al fun N2 GA=>?_
  walk_at "x"
  simp only[LX,a0,NQ]
  refine GA _ _ ?_
  walk_at "x"
  refine ih (left:=left - 1) (D1.upd hxd I_) aa hxd I_ hj (by omega) (by omega) (by omega) (by omega) fun t S2 l2 hg NR q0 q1 D2 M4 O2=>?_
  exact k (.Fz t) S2 l2 hg (by simp only[Bd.dep];omega) q0 (by simp only[Bd.size];omega) D2 M4 (O1.x.trans (HH.upd.trans O2))
 ·refine hN _ _ (al fun N hN=>?_)
  walk_at "x"
  simp only[LX,a0,NQ]
  refine hN _ _ (al fun N hN=>?_)
  walk_at "x"
  refine ih (left:=left - 2) (D1.upd hxd I_) aa hxd I_ hj (by omega) (by omega) (by omega) (by omega) fun ta S2 l2 ga da q0 q1 D2 M4 O2=>?_
  refine hN _ _ (al fun N hN=>?_)
  walk_at "x"
  refine ih (left:=l2) D2 M4 hxd I_ hj q0 (by omega) (by omega) (by omega) fun tb S3 l3 gb db p0 p1 D3 M5 O3=>?_
  have OA:HH d l x S S3:=O1.x.trans (HH.upd.trans (O2.trans O3))
  refine hN _ _ (al fun N hN=>?_)
  walk_at "x"
  simp only[decide_eq_true_eq]
  split
  ·exact k (.Fw ta tb) S3 l3 ⟨ga,gb⟩ (by simp only[Bd.dep];omega) p0 (by simp only[Bd.size];omega) D3 M5 OA
  refine hN _ _ (al fun N hN=>?_)
  walk_at "x"
  simp only[Bool.false_bne,decide_eq_true_eq,List.length_map]
  have ei:Q (Bd.FE ta tb).pv S3:=k (.FE ta tb) S3 l3 ⟨ga,gb⟩ (by simp only[Bd.dep];omega) p0 (by simp only[Bd.size];omega) D3 M5 OA
  split
  ·rw[if_pos trivial];exact ei
  split
  ·exact ei
  rename_i hz8 hz
  refine hN _ _ (al fun N hN=>?_)
  walk_at "x"
  refine Fu D3 (by decide) (by decide) fun r2 S4 e0 e1 D4 O4 p hp=>Fu (D4.new hp) (by decide) (by decide) fun r3 S5 b0 b1 D5 O5=>?_
  have dp:=D4.free hp
  have hp3:=O5 _ _ (aa (S:=S4) (o:=.lst [.int 1,.int 1,.int 2,.int (1+r2)])) dp.1 dp.2
  simp only[hp3]
  obtain⟨v,hv,hm⟩:=im (xs:=[PV.int 1,.int 1,.int 2,.int (1+r2)]) b0 (by simpa using b1)
  rw[hv]
  obtain⟨m,rfl,m0,m1⟩:∃m,v = .int m/\1<=m/\m<=9:=by
   simp only[List.mem_cons,List.not_mem_nil,or_false]at hm
   rcases hm with rfl|rfl|rfl|rfl
   ·exact⟨1,rfl,by omega,by omega⟩
   ·exact⟨1,rfl,by omega,by omega⟩
   ·exact⟨2,rfl,by omega,by omega⟩
   ·exact⟨1+r2,rfl,by omega,by omega⟩
  refine hN _ _ ?_
  walk_at "x"
  simp only[List.length_map]
  refine Fu D5 (by omega) (by omega) fun r4 S6 c0 c1 D6 O6=>?_
  obtain⟨w,hw,M1⟩:=im (xs:=js.map PV.str) c0 (by rw[List.length_map];exact c1)
  dsimp only
  rw[hw]
  obtain⟨z,hz,rfl⟩:=List.mem_map.mp M1
  have M6:=O4 _ _ M5 hxd I_
  have OM:x≠p:=fun e=>by rw[e,hp]at M6;cases M6
  have ON:=O6 _ _ (O5 _ _ (show Fr S4 p _ x=some (.lst [.int l3]) by rw[ap OM];exact M6) hxd I_) hxd I_
  exact k (.FC z m ta tb) S6 l3 ⟨hz,m0,m1,ga,gb⟩ (by simp only[Bd.dep];omega) p0 (by simp only[Bd.size];omega) D6 ON (OA.trans (O4.x.trans ((Gm.new hp).x.trans (O5.x.trans O6.x))))
end C
local macro_rules | `(tactic| walk_at "w")=>`(tactic| simp only [L3.ai,L3.av,L3.au,L3.aN,L3.bt,L3.aL,L3.af,L3.v3,L3.c3,L3.lk,L3.ao,L3.ak,L3.ab,L3.d4,L3.aJ,L3.fi,L3.jb,L3.iQ,L3.bH,L3.mx,L3.kC,L3.rj,L3.mz,L3.pO,L3.lC,L3.az,L3.bc,L3.ik,L3.b3,L3.ac,L3.nZ,L3.cg,L3.rA,L3.pL,L3.pM,L3.dz,L3.iF,L3.bv,L3.gG,L3.iH,L3.vG,L3.nk,L3.o9,L3.CK,L3.aV,L3.ux,L3.aT,L3.bS,L3.bx,L3.tQ,L3.ji,L3.gE,L3.bo,L3.pK,List.set_cons_zero,List.set_cons_succ,List.set_nil,L3.n5,L3.jW,L3.pN,L3.aQ,L3.aO,L3.bT,L3.bO,L3.dE,L3.Tg.put,L3.Tg.Fx,L3.pR,L3.jZ,L3.pS,L3.jY,L3.dB,L3.tV,L3.bh,L3.aZ,List.reduceReplicate,List.map_cons,List.map_nil,List.cons_append,List.nil_append,L3.bW,L3.cM,L3.sC,L3.EO,L3.EQ,L3.aA,String.reduceEq,decide_true,decide_false,Bool.false_bne,Bool.true_bne,Bool.not_true,Bool.not_false,if_true,if_false,Bool.false_eq_true,reduceIte,ite_true,ite_false])
local macro_rules | `(tactic| walk_at "y")=>`(tactic| ((try walk_at "x"); (try walk_at "w")))
namespace C
open PySem L2 L3 Wd
noncomputable def Bd.Ft:Bd->Nat
 | .Fw a b=>a.Ft * b.Ft
 | .FE a b=>a.Ft+b.Ft
 | .FC _ _ a b=>a.Ft+b.Ft
 |_=>1
noncomputable def Bd.Fv:Bd->Nat
 | .Fz a=>a.Ft+a.Fv
 | .Fw a b=>a.Fv+b.Fv
 | .FE a b=>a.Fv+b.Fv
 | .FC _ _ a b=>a.Fv+b.Fv
 |_=>0
theorem Bd.Gd:∀t:Bd,t.Ft<=2 ^ t.size
 | .rest=>by simp[Bd.Ft,Bd.size]
 | .pay _ _=>by simp[Bd.Ft,Bd.size]
 | .put _ _=>by simp[Bd.Ft,Bd.size]
 | .use _=>by simp[Bd.Ft,Bd.size]
 | .Fz a=>by simp only[Bd.Ft,Bd.size];exact Nat.one_le_two_pow
 | .Fw a b=>by
  simp only[Bd.Ft,Bd.size]
  refine Nat.le_trans (Nat.mul_le_mul a.Gd b.Gd) ?_
  rw[<-Nat.pow_add]
  exact Nat.pow_le_pow_right (by decide) (by omega)
 | .FE a b=>by
  simp only[Bd.Ft,Bd.size]
  have h1:2 ^ a.size<=2 ^ (a.size+b.size):=Nat.pow_le_pow_right (by decide) (by omega)
  have h2:2 ^ b.size<=2 ^ (a.size+b.size):=Nat.pow_le_pow_right (by decide) (by omega)
  have:=a.Gd
  have:=b.Gd
  rw[Nat.pow_succ]
  omega
 | .FC _ _ a b=>by
  simp only[Bd.Ft,Bd.size]
  have h1:2 ^ a.size<=2 ^ (a.size+b.size):=Nat.pow_le_pow_right (by decide) (by omega)
  have h2:2 ^ b.size<=2 ^ (a.size+b.size):=Nat.pow_le_pow_right (by decide) (by omega)
  have:=a.Gd
  have:=b.Gd
  rw[Nat.pow_succ]
  omega
def Bd.J8{t:Bd}(h:t.size<=60):(t.Ft:Int) < 2 ^ 64:=by
 have h1:=t.Gd
 have h2:2 ^ t.size<=2 ^ 60:=Nat.pow_le_pow_right (by decide) h
 omega
abbrev cW(n:Nat)(w:ax):Prop:=∀{S:ay} {t:Bd} {Q:bA} {E:bZ},t.dep<=n->t.size<=60->Q (.int t.Ft) S->w [t.pv] S Q E
def t8{s0:ax}(n:Nat)(ih:cW n s0):cW (n+1) (aU 1 (cH s0)):=by
 intro S t Q E hd hs k
 unfold cH
 refine dG ?_
 rw[show aw 1 [t.pv]=[some t.pv] from rfl]
 cases t with
 |Fw a b=>
  simp only[Bd.dep,Bd.size]at hd hs
  simp only[Bd.pv]
  walk_at "w"
  refine ih (by omega) (by omega) (ih (by omega) (by omega) ⟨t4 (by omega) (Bd.J8 (by omega)),?_⟩)
  simpa [Bd.Ft]using k
 |FE a b=>
  simp only[Bd.dep,Bd.size]at hd hs
  simp only[Bd.pv]
  walk_at "w"
  refine ih (by omega) (by omega) (ih (by omega) (by omega) ?_)
  simpa [Bd.Ft]using k
 |FC z m a b=>
  simp only[Bd.dep,Bd.size]at hd hs
  simp only[Bd.pv]
  walk_at "w"
  refine ih (by omega) (by omega) (ih (by omega) (by omega) ?_)
  simpa [Bd.Ft]using k
 |_=>
  simp only[Bd.pv]
  walk_at "w"
  exact k
abbrev fN(n:Nat)(w:ax):Prop:=∀{S:ay} {t:Bd} {Q:bA} {E:bZ},t.dep<=n->t.size<=60->Q (.int t.Fv) S->w [t.pv] S Q E
def ft:∀y∈(["then","either","take"]:Vs),PyData.strOk y=true:=by decide +kernel
def jt:∀y∈(["rest","pay","put","use","often","then","either","take"]:Vs),PyData.strOk y=true:=by decide +kernel
def t9{x0 s0:ax}(n m:Nat)(hp:cW m x0)(ih:fN n s0)(hnm:n<=m):fN (n+1) (aU 1 (cx x0 s0)):=by
 intro S t Q E hd hs k
 unfold cx
 refine dG ?_
 rw[show aw 1 [t.pv]=[some t.pv] from rfl]
 have e3:[PV.str "then",PV.str "either",PV.str "take"]=(["then","either","take"]:Vs).map PV.str:=rfl
 cases t with
 |Fz a=>
  simp only[Bd.dep,Bd.size]at hd hs
  simp only[Bd.pv]
  walk_at "y"
  refine hp (by omega) (by omega) (ih (by omega) (by omega) ?_)
  simpa [Bd.Fv]using k
 |Fw a b=>
  simp only[Bd.dep,Bd.size]at hd hs
  simp only[Bd.pv]
  walk_at "y"
  rw[e3]
  refine bI (jt _ (by simp)) ft ?_
  simp[aA]
  refine ih (by omega) (by omega) (ih (by omega) (by omega) ?_)
  simpa [Bd.Fv]using k
 |FE a b=>
  simp only[Bd.dep,Bd.size]at hd hs
  simp only[Bd.pv]
  walk_at "y"
  rw[e3]
  refine bI (jt _ (by simp)) ft ?_
  simp[aA]
  refine ih (by omega) (by omega) (ih (by omega) (by omega) ?_)
  simpa [Bd.Fv]using k
 |FC z m a b=>
  simp only[Bd.dep,Bd.size]at hd hs
  simp only[Bd.pv]
  walk_at "y"
  rw[e3]
  refine bI (jt _ (by simp)) ft ?_
  simp[aA]
  refine ih (by omega) (by omega) (ih (by omega) (by omega) ?_)
  simpa [Bd.Fv]using k
 |_=>
  simp only[Bd.pv]
  walk_at "y"
  rw[e3]
  refine bI (jt _ (by simp)) ft ?_
  simp[aA]
  simpa [Bd.Fv]using k
abbrev fO(w:ax):Prop:=∀{S:ay} {d l:Addr} {js:Vs} {size bound:Int} {Q:bA} {E:bZ},FB S d l->js.length < 2 ^ 61->1<=size->size<=60->
  (∀(t:Bd) S',t.good js []->t.dep<=6->t.size<=60->(t.size:Int)<=max size 4->((t.Ft:Int)+t.Fv<=bound\/(t.Ft:Int)+t.Fv<=2)->FB S' d l->Gm d l S S'->Q t.pv S')->w [.ref d,.tup (js.map PV.str),.int size,.int bound] S Q E
def ow{x0 x1 x2 x3:ax}(n:Nat)(hn:6<=n)(I9:jr n x0)(LY:cW n x1)(LZ:fN n x2)(Gk:jq x3):fO (aU 5 (cS x0 x1 x2 x3)):=by
 intro S d l js size bound Q E D hj h1 h2 k
 unfold cS
 refine dG ?_
 rw[show aw 5 [PV.ref d,PV.tup (js.map PV.str),PV.int size,PV.int bound]=[some (.ref d),some (.tup (js.map PV.str)),some (.int size),some (.int bound),none] from rfl]
 refine al fun N hN=>?_
 walk_at "x"
 intro p hp
 have dp:=D.free hp
 refine I9 (D.new hp) aa dp.1 dp.2 hj (by omega) (by omega) (by decide) (by omega) fun t S1 l1 hg hd q0 q1 D1 LX O1=>?_
 have NS:Gm d l S S1:=fun a o ha h1 h2=>O1 a o (by rw[ap (fun e=>by rw[e,hp]at ha;cases ha)];exact ha) h1 h2 (fun e=>by rw[e,hp]at ha;cases ha)
 refine hN _ _ (al fun N hN=>?_)
 simp only[bt,aJ,af,ab,ao,v3,lk,List.set_cons_zero,List.set_cons_succ,o9,aT,dz]
 refine LY (by omega) (by omega) (LZ (by omega) (by omega) ?_)
 simp only[decide_eq_true_eq]
 split
 ·walk_at "x"
  refine Gk D1 hj fun t2 S2 hl2 LW D2 O2=>Gk D2 hj fun t3 S3 hl3 OO D3 O3=>?_
  refine hN _ _ ?_
  walk_at "x"
  have e2:=Bd.FX hl2
  have e3:=Bd.FX hl3
  refine k (.Fw (.Fz t2) t3) S3 ⟨LW,OO⟩ (by simp only[Bd.dep];omega) (by simp only[Bd.size];omega) (by simp only[Bd.size];omega) (.inr ?_) D3 (NS.trans (O2.trans O3))
  have c2:t2.Ft=1/\t2.Fv=0:=by cases t2<;>first|exact⟨rfl,rfl⟩|exact hl2.elim
  have c3:t3.Ft=1/\t3.Fv=0:=by cases t3<;>first|exact⟨rfl,rfl⟩|exact hl3.elim
  simp only[Bd.Ft,Bd.Fv,c2,c3]
  decide
 ·rename_i hb
  walk_at "x"
  refine hN _ _ ?_
  walk_at "x"
  exact k t S1 hg (by omega) (by omega) (by omega) (.inl (by omega)) D1 NS
noncomputable def gS(p:Str×Bd):PV:=.tup [.str p.1,p.2.pv]
noncomputable def j7(js:Vs)(ds:List (Str×Bd)):PV:=.tup [.tup (js.map PV.str),.tup (ds.map gS)]
structure CZ (js:Vs) (us:Vs) (ds:List (Str×Bd)):Prop where
 jl:js.length<=16
 dl:ds.length<=16
 jw:∀z∈js,IsW z
 uw:∀z∈us,IsW z
 dw:∀p∈ds,IsW p.1
 gd:∀p∈ds,p.2.good js us
 dp:∀p∈ds,p.2.dep<=60
 sz:∀p∈ds,p.2.size<=60
def FB.ext{S S':ay}{d l:Addr}(D:FB S d l)(e:Ext S S'):FB S' d l:=by
 obtain⟨s,n,f,D⟩:=D
 exact⟨s,n,f,e _ _ D.d,e _ _ D.l,D.s0,D.s1,D.nm,D.lf,D.ln⟩
def _root_.L3.Gm.free{d l p:Addr}{S S':ay}(O:Gm d l S S')(h:S' p=none)(h1:p≠d)(h2:p≠l):S p=none:=by
 cases e:S p with
 |none=>rfl
 |some o=>rw[O p o e h1 h2]at h;cases h
def _root_.L3.Gm.put{d l p:Addr}{S S':ay}{o:SO}(O:Gm d l S S')(h:S p=none):Gm d l S (Fr S' p o):=fun x u hx h1 h2=>by rw[ap (fun e=>by rw[e,h]at hx;cases hx)];exact O x u hx h1 h2
def _root_.L3.Ext.put{p:Addr}{S S':ay}{o:SO}(O:Ext S S')(h:S p=none):Ext S (Fr S' p o):=fun x u hx=>by rw[ap (fun e=>by rw[e,h]at hx;cases hx)];exact O x u hx
def vV{α:Type}{xs:List α}{n:Nat}(h:n<=xs.length):He xs none (some (n:Int))=xs.take n:=by
 unfold He
 rw[HT.uO,HT.xD,List.drop_zero,Nat.min_eq_left h]
 rfl
def sD{x:PV}{n:Nat}{a b:List PV}(e:bV 0 n=a++x::b):x = .int a.length/\a.length < n:=by
 have h1:(bV 0 n)[a.length]?=some x:=by rw[e];simp
 unfold bV at h1
 rw[List.getElem?_map]at h1
 have hl:a.length < n:=by
  have:=congrArg List.length e
  rw[fq,List.length_append,List.length_cons]at this
  omega
 rw[List.getElem?_range hl]at h1
 simp at h1
 exact⟨h1.symm,hl⟩
def rH{α:Type}{xs:List α}{n:Nat}{v:α}(h:xs[n]?=some v):Gw xs (n:Int)=some v:=bX h
noncomputable def Bd.sides:Bd->List Bd
 | .Fz a=>[a]
 | .Fw a b=>[a,b]
 | .FE a b=>[a,b]
 | .FC _ _ a b=>[a,b]
 |_=>[]
noncomputable def Bd.parts:Bd->List Bd
 | .Fz a=>.Fz a::a.parts
 | .Fw a b=>.Fw a b::(a.parts++b.parts)
 | .FE a b=>.FE a b::(a.parts++b.parts)
 | .FC z m a b=>.FC z m a b::(a.parts++b.parts)
 |t=>[t]
def Bd.Jw(t:Bd):t.parts=t::t.sides.flatMap Bd.parts:=by cases t<;>simp[Bd.parts,Bd.sides]
theorem Bd.FP:∀t:Bd,t.parts.length=t.size
 | .rest=>rfl
 | .pay _ _=>rfl
 | .put _ _=>rfl
 | .use _=>rfl
 | .Fz a=>by simp only[Bd.parts,Bd.size,List.length_cons,a.FP]
 | .Fw a b=>by simp only[Bd.parts,Bd.size,List.length_cons,List.length_append,a.FP,b.FP]
 | .FE a b=>by simp only[Bd.parts,Bd.size,List.length_cons,List.length_append,a.FP,b.FP]
 | .FC _ _ a b=>by simp only[Bd.parts,Bd.size,List.length_cons,List.length_append,a.FP,b.FP]
def Bd.Jx{t u:Bd}(h:u∈t.sides):u.dep < t.dep/\u.size < t.size:=by
 cases t<;>simp[Bd.sides]at h
 ·subst h;simp[Bd.dep,Bd.size]
 all_goals (rcases h with rfl|rfl<;>simp only[Bd.dep,Bd.size]<;>omega)
abbrev io(w:ax):Prop:=∀{S:ay} {t:Bd} {Q:bA} {E:bZ},Q (.tup (t.sides.map Bd.pv)) S->w [t.pv] S Q E
def Hk:io (aU 1 iV):=by
 intro S t Q E k
 unfold iV
 refine dG ?_
 rw[show aw 1 [t.pv]=[some t.pv] from rfl]
 cases t<;>(unfold Bd.pv;walk_at "y"; simp only[sx,af,v3,lk,c3,ac,bW,nZ,ak,ao,bx,k_SIDES_FROM,List.find?,sS,String.reduceEq,decide_true,decide_false,Option.map,Option.getD];exact k)
abbrev eI(n:Nat)(w:ax):Prop:=∀{S:ay} {t:Bd} {Q:bA} {E:bZ},t.dep<=n->t.size<=900->(∀p S',S p=none->Ext S S'->S' p=some (.lst (t.parts.map Bd.pv))->Q (.ref p) S')->w [t.pv] S Q E
def IC{xs s0:ax}(Hk:io xs)(n:Nat)(ih:eI n s0):eI (n+1) (aU 3 (iW xs s0)):=by
 intro S t Q E hd hs k
 unfold iW
 refine dG ?_
 rw[show aw 3 [t.pv]=[some t.pv,none,none] from rfl]
 refine al fun N hN=>?_
 walk_at "x"
 intro p hp
 have X0:Ext S (Fr S p (.lst [t.pv])):=.new hp
 have hp0:(Fr S p (.lst [t.pv])) p=some (.lst [t.pv]):=aa
 generalize Fr S p (.lst [t.pv])=S0 at X0 hp0
 refine hN _ _ (al fun N hN=>?_)
 simp only[bO,aO,ab,ao,v3,lk]
 refine Hk ?_
 simp only[bT]
 refine bw (fun done σ S'=>∃(ts:List Bd) (x:Option PV) (rs:List Bd),done=ts.map Bd.pv/\t.sides=ts++rs/\σ=[some t.pv,some (.ref p),x]/\Ext S S'/\S' p=some (.lst ((t::ts.flatMap Bd.parts).map Bd.pv))) ⟨[],_,t.sides,rfl,rfl,rfl,X0,hp0⟩ (fun _ _ _ _=>trivial) ?_ ?_
 ·rintro done x rest σ S1 K e ⟨ts,y,rs,rfl,es,rfl,X1,h1⟩ hK
  rw[es,List.map_append]at e
  have e2:=List.append_cancel_left e
  rcases rs with _|⟨r,rs⟩
  ·cases e2
  rw[List.map_cons,List.cons.injEq]at e2
  obtain⟨rfl,e3⟩:=e2
  have hr:r∈t.sides:=by rw[es];simp
  have hrd:=Bd.Jx hr
  walk_at "x"
  refine⟨by rw[h1];trivial,ih (t:=r) (by omega) (by omega) fun q S2 hq X2 h2=>?_⟩
  simp only[X2 _ _ h1,h2]
  have hlen:(t::ts.flatMap Bd.parts).length+r.parts.length<=t.size:=by
   rw[<-Bd.FP t,Bd.Jw t,es,List.flatMap_append,List.flatMap_cons]
   simp only[List.length_cons,List.length_append]
   omega
  refine⟨dR (by simp only[List.length_map]at *;omega),?_⟩
  refine hK _ _ ⟨ts++[r],_,rs,by simp,by rw[es];simp,rfl,(X1.trans X2).put hp,?_⟩
  rw[aa,List.flatMap_append]
  simp
 ·rintro σ S1 ⟨ts,y,rs,e,es,rfl,X1,h1⟩
  refine hN _ _ ?_
  walk_at "x"
  have ez:rs=[]:=by
   have:=congrArg List.length e
   rw[es]at this
   simp at this
   exact this
  subst ez
  rw[List.append_nil]at es
  rw[<-es,<-Bd.Jw]at h1
  exact k p S1 hp X1 h1
noncomputable def heads:List Str:=["rest","pay","put","use","often","then","either","take"]
def t_:∀z∈heads,PyData.strOk z=true:=by decide +kernel
structure Hv (n:Nat) (js us:Vs) (ds:List (Str×Bd)):Prop extends CZ js us ds where
 jn:js.Nodup
 dn:(ds.map Prod.fst).Nodup
 dq:∀p∈ds,p.2.dep<=n
def fu{xs:List PV}{x:PV}{a b:List PV}(e:L3.aK xs=a++x::b):∃y,x = .tup [.int a.length,y]/\xs[a.length]?=some y:=by
 have h1:(L3.aK xs)[a.length]?=some x:=by rw[e];simp
 unfold L3.aK at h1
 rw[List.getElem?_mapIdx]at h1
 cases h:xs[a.length]? with
 |none=>rw[h]at h1;cases h1
 |some y=>
  rw[h]at h1
  simp only[Option.map_some,Option.some.injEq]at h1
  exact⟨y,h1.symm,rfl⟩
inductive J9 (L:Nat):Nat->PV->Prop
 |int {n:Nat} (i:Int):J9 L n (.int i)
 |tup {n:Nat} {xs:List PV}:xs.length<=L->(∀x∈xs,J9 L n x)->J9 L (n+1) (.tup xs)
def J9.mono{L M n m:Nat}{v:PV}(h:J9 L n v)(hL:L<=M):n<=m->J9 M m v:=by
 induction h generalizing m with
 |int i=>exact fun _=>.int i
 |@tup n xs hl _ ih=>
  intro hm
  cases m with
  |zero=>omega
  |succ m=>exact .tup (Nat.le_trans hl hL) fun x hx=>ih x hx (by omega)
noncomputable def aR:Bd->PV->Bool
 | .Fz a,.tup gs=>gs.all fun g=>match g with | .tup [.int m,tr]=>decide (1<=m)&&aR a tr|_=>false
 | .Fw a b,.tup [x,y]=>aR a x&&aR b y
 | .FE a b,.tup [.int i,y]=>if i=0 then aR a y else if i=1 then aR b y else false
 | .FC _ _ a b,.tup [.int i,y]=>if i=0 then aR a y else if i=1 then aR b y else false
 | .rest,.tup []=>true
 | .pay _ _,.tup []=>true
 | .put _ _,.tup []=>true
 | .use _,.tup []=>true
 |_,_=>false
noncomputable def oz(a:Bd):PV->Bool
 | .tup [.int m,tr]=>decide (1<=m)&&aR a tr
 |_=>false
def ju(a b:Bd)(x y:PV):aR (.Fw a b) (.tup [x,y])=(aR a x&&aR b y):=rfl
def lP(a b:Bd)(i:Int)(y:PV):aR (.FE a b) (.tup [.int i,y])=if i=0 then aR a y else if i=1 then aR b y else false:=rfl
def lQ(z:Str)(m:Int)(a b:Bd)(i:Int)(y:PV):aR (.FC z m a b) (.tup [.int i,y])=if i=0 then aR a y else if i=1 then aR b y else false:=rfl
def p7(a:Bd)(gs:List PV):aR (.Fz a) (.tup gs)=gs.all (oz a):=rfl
section
variable {S:ay} {Q:bA} {i:Int} {xs:List PV} {b:Bool}
def A8:eR [.int i,.ty "int"] S Q=Q (.bl true) S:=by simp[eR,o8,fE,cN]
def A9:eR [.int i,.ty "bool"] S Q=Q (.bl false) S:=by simp[eR,o8,fE,cN]
def vW:eR [.tup xs,.ty "tuple"] S Q=Q (.bl true) S:=by simp[eR,o8,fE,cN]
end
abbrev lR(w:ax):Prop:=∀{S:ay} {a b:Bd} {hd:List PV} {i:Int} {y:PV} {Q:bA} {E:bZ},(i=0\/i=1)->hd.length<=3->Q (if i=0 then a.pv else b.pv) S->w [.tup (hd++[a.pv,b.pv]),.tup [.int i,y]] S Q E
def Ic:lR (aU 2 lG):=by
 intro S a b hd i y Q E hi hl k
 unfold lG
 refine dG ?_
 rw[show aw 2 [PV.tup (hd++[a.pv,b.pv]),PV.tup [.int i,y]]=[some (.tup (hd++[a.pv,b.pv])),some (.tup [.int i,y])] from rfl]
 walk_at "y"
 have e:Gw (hd++[a.pv,b.pv]) (-2+i)=some (if i=0 then a.pv else b.pv):=by
  unfold Gw qU
  rcases hi with rfl|rfl
  ·rw[if_neg (by omega),if_pos (by simp;omega)]
   have:(-2+0+((hd++[a.pv,b.pv]).length:Int)).toNat=hd.length:=by simp;omega
   rw[this,if_pos rfl]
   show(hd++[a.pv,b.pv])[hd.length]?=some a.pv
   simp
  ·rw[if_neg (by omega),if_pos (by simp;omega)]
   have:(-2+1+((hd++[a.pv,b.pv]).length:Int)).toNat=hd.length+1:=by simp;omega
   rw[this,if_neg (by decide)]
   show(hd++[a.pv,b.pv])[hd.length+1]?=some b.pv
   simp
 rw[e]
 exact k
def rJ{xs:List PV}(h:xs.length=2):∃x y,xs=[x,y]:=by
 match xs,h with
 |[x,y],_=>exact⟨x,y,rfl⟩
def oA{a b:Bd}{xs:List PV}(h:xs.length≠2):aR (.Fw a b) (.tup xs)=false:=by
 match xs,h with
 |[],_=>rfl
 |[_],_=>rfl
 |[_,_],h=>exact absurd rfl h
 |_::_::_::_,_=>rfl
def oB{a b:Bd}{xs:List PV}(h:xs.length≠2):aR (.FE a b) (.tup xs)=false:=by
 match xs,h with
 |[],_=>rfl
 |[x],_=>cases x<;>rfl
 |[_,_],h=>exact absurd rfl h
 |x::_::_::_,_=>cases x<;>rfl
def oC{z:Str}{m:Int}{a b:Bd}{xs:List PV}(h:xs.length≠2):aR (.FC z m a b) (.tup xs)=false:=by
 match xs,h with
 |[],_=>rfl
 |[x],_=>cases x<;>rfl
 |[_,_],h=>exact absurd rfl h
 |x::_::_::_,_=>cases x<;>rfl
def jv(t:Bd)(z:Str):aR t (.str z)=false:=by cases t<;>rfl
def jx(t:Bd)(i:Int):aR t (.int i)=false:=by cases t<;>rfl
noncomputable def Bd.plain:Bd->Bool
 | .rest=>true
 | .pay _ _=>true
 | .put _ _=>true
 | .use _=>true
 |_=>false
def lS{t:Bd}(h:t.plain=true)(xs:List PV):aR t (.tup xs)=decide (xs=[]):=by
 cases t<;>simp[Bd.plain]at h<;>(cases xs with
  |nil=>show true=_;simp
  |cons=>show false=_;simp)
noncomputable def Bd.hd:Bd->Str
 | .rest=>"rest" | .pay _ _=>"pay" | .put _ _=>"put" | .use _=>"use" | .Fz _=>"often" | .Fw _ _=>"then" | .FE _ _=>"either" | .FC _ _ _ _=>"take"
noncomputable def Bd.tl:Bd->List PV
 | .rest=>[] | .pay x y=>[.tup [.int x,.int y]] | .put z m=>[.str z,.int m] | .use z=>[.str z] | .Fz a=>[a.pv] | .Fw a b=>[a.pv,b.pv] | .FE a b=>[a.pv,b.pv] | .FC z m a b=>[.str z,.int m,a.pv,b.pv]
def Bd.Hd(t:Bd):t.pv = .tup (.str t.hd::t.tl):=by cases t<;>rfl
def Bd.Iu(t:Bd):PyData.strOk t.hd=true:=by cases t<;>exact t_ _ (by simp[heads,Bd.hd])
def Bd.ID(t:Bd):t.hd=("then":Str)↔∃a b,t = .Fw a b:=by cases t<;>simp[Bd.hd,aA]
def Bd.IE(t:Bd):t.hd=("often":Str)↔∃a,t = .Fz a:=by cases t<;>simp[Bd.hd,aA]
def oD:([PV.str "then",PV.str "either",PV.str "take"]:List PV)=(["then","either","take"]:Vs).map PV.str:=rfl
def dr{a b:PV}{hd:List PV}{i:Int}(hi:i=0\/i=1):Gw (hd++[a,b]) (i - 2)=some (if i=0 then a else b):=by
 unfold Gw qU
 rcases hi with rfl|rfl
 ·rw[if_neg (by omega),if_pos (by simp;omega)]
  have:(0 - 2+((hd++[a,b]).length:Int)).toNat=hd.length:=by simp;omega
  rw[this,if_pos rfl]
  show(hd++[a,b])[hd.length]?=some a
  simp
 ·rw[if_neg (by omega),if_pos (by simp;omega)]
  have:(1 - 2+((hd++[a,b]).length:Int)).toNat=hd.length+1:=by simp;omega
  rw[this,if_neg (by decide)]
  show(hd++[a,b])[hd.length+1]?=some b
  simp
def zp:∀z∈(["either","take"]:Vs),PyData.strOk z=true:=by decide +kernel
noncomputable def Bd.HI:Bd->PV
 | .Fw a b=>.tup [a.HI,b.HI]
 | .FE a _=>.tup [.int 0,a.HI]
 | .FC _ _ _ b=>.tup [.int 1,b.HI]
 |_=>.tup []
abbrev ip(n:Nat)(w:ax):Prop:=∀{S:ay} {t:Bd} {Q:bA} {E:bZ},t.dep<=n->Q t.HI S->w [t.pv] S Q E
def vX{s0:ax}(n:Nat)(ih:ip n s0):ip (n+1) (aU 1 (eU s0)):=by
 intro S t Q E hd k
 unfold eU
 refine dG ?_
 rw[show aw 1 [t.pv]=[some t.pv] from rfl]
 cases t with
 |Fw a b=>
  simp only[Bd.dep]at hd
  rw[show(Bd.Fw a b).pv = .tup [.str "then",a.pv,b.pv] from rfl]
  walk_at "y"
  refine ih (by omega) ?_
  exact ih (by omega) k
 |FE a b=>
  simp only[Bd.dep]at hd
  rw[show(Bd.FE a b).pv = .tup [.str "either",a.pv,b.pv] from rfl]
  walk_at "y"
  exact ih (by omega) k
 |FC z m a b=>
  simp only[Bd.dep]at hd
  rw[show(Bd.FC z m a b).pv = .tup [.str "take",.str z,.int m,a.pv,b.pv] from rfl]
  walk_at "y"
  exact ih (by omega) k
 |Fz a=>
  rw[show(Bd.Fz a).pv = .tup [.str "often",a.pv] from rfl]
  walk_at "y"
  exact k
 |rest=>
  rw[show(Bd.rest).pv = .tup [.str "rest"] from rfl]
  walk_at "y"
  exact k
 |pay x y=>
  rw[show(Bd.pay x y).pv = .tup [.str "pay",.tup [.int x,.int y]] from rfl]
  walk_at "y"
  exact k
 |put z m=>
  rw[show(Bd.put z m).pv = .tup [.str "put",.str z,.int m] from rfl]
  walk_at "y"
  exact k
 |use z=>
  rw[show(Bd.use z).pv = .tup [.str "use",.str z] from rfl]
  walk_at "y"
  exact k
noncomputable def Bd.Hl:Bd->Bool | .Fz _=>true|_=>false
abbrev j8(n:Nat)(w:ax):Prop:=∀{S:ay} {t:Bd} {Q:bA} {E:bZ},t.dep<=n->t.size<=900->(∀S',Ext S S'->Q (.int t.size) S')->w [t.pv] S Q E
def ua{xp:ax}(n:Nat)(IC:eI n xp):j8 n (aU 1 (om xp)):=by
 intro S t Q E hd hs k
 unfold om
 refine dG ?_
 rw[show aw 1 [t.pv]=[some t.pv] from rfl]
 walk_at "x"
 refine IC hd hs fun p S1 hp X1 h1=>?_
 simp only[h1,List.length_map,t.FP]
 exact k S1 X1
noncomputable def Bd.led:Bd->Nat->PV->PV
 |_,0,v=>v
 | .Fz a,p+1,v=>.tup [.tup [.int 1,a.led p v]]
 | .Fw a b,p+1,v=>if p < a.size then .tup [a.led p v,b.HI] else .tup [a.HI,b.led (p - a.size) v]
 | .FE a b,p+1,v=>if p < a.size then .tup [.int 0,a.led p v] else .tup [.int 1,b.led (p - a.size) v]
 | .FC _ _ a b,p+1,v=>if p < a.size then .tup [.int 0,a.led p v] else .tup [.int 1,b.led (p - a.size) v]
 |_,_+1,v=>v
abbrev jy(n:Nat)(w:ax):Prop:=∀{S:ay} {t:Bd} {p:Nat} {v:PV} {Q:bA} {E:bZ},t.dep<=n->t.size<=900->p < t.size->(∀S',Ext S S'->Q (t.led p v) S')->w [t.pv,.int p,v] S Q E
def yw{xp xt s0:ax}(n m:Nat)(hm:n<=m)(Lo:j8 m xp)(KW:ip m xt)(ih:jy n s0):jy (n+1) (aU 8 (eV xp xt s0)):=by
 intro S t p v Q E hd hs hp k
 unfold eV
 refine dG ?_
 rw[show aw 8 [t.pv,PV.int p,v]=[some t.pv,some (.int p),some v,none,none,none,none,none] from rfl]
 refine al fun N hN=>?_
 walk_at "x"
 simp only[Bool.false_bne,decide_eq_true_eq]
 cases p with
 |zero=>
  rw[if_pos (show((0:Nat):Int)=0 from rfl)]
  have:=k S .refl
  cases t<;>exact this
 |succ p=>
  rw[if_neg (by omega)]
  refine hN _ _ (al fun N hN=>?_)
  have ep:(((p+1:Nat):Int) - 1)=(p:Int):=by omega
  cases t with
  |Fz a=>
   simp only[Bd.size]at hs hp
   simp only[Bd.dep]at hd
   rw[show(Bd.Fz a).pv = .tup [.str "often",a.pv] from rfl]
   walk_at "y"
   rw[ep]
   exact ih (by omega) (by omega) (by omega) k
  |rest=>simp only[Bd.size]at hp;omega
  |pay=>simp only[Bd.size]at hp;omega
  |put=>simp only[Bd.size]at hp;omega
  |use=>simp only[Bd.size]at hp;omega
  |Fw a b=>
   simp only[Bd.size]at hs hp
   simp only[Bd.dep]at hd
   rw[show(Bd.Fw a b).pv = .tup [.str "then",a.pv,b.pv] from rfl]
   walk_at "y"
   refine hN _ _ (al fun N hN=>?_)
   walk_at "y"
   refine hN _ _ (al fun N hN=>?_)
   walk_at "y"
   refine hN _ _ (al fun N hN=>?_)
   walk_at "y"
   refine Lo (by omega) (by omega) fun S1 X1=>?_
   refine hN _ _ (al fun N hN=>?_)
   walk_at "x"
   by_cases hl:p < a.size
   ·have e1:decide (((p+1:Nat):Int) < 1+(a.size:Int))=true:=decide_eq_true (by omega)
    rw[e1]
    simp only[if_true]
    refine hN _ _ (al fun N hN=>?_)
    walk_at "y"
    rw[ep]
    refine ih (by omega) (by omega) hl fun S2 X2=>?_
    refine hN _ _ (al fun N hN=>?_)
    walk_at "y"
    refine hN _ _ (al fun N hN=>?_)
    walk_at "y"
    refine KW (by omega) ?_
    have:=k S2 (X1.trans X2)
    simp only[Bd.led,if_pos hl]at this
    exact this
   ·have e1:decide (((p+1:Nat):Int) < 1+(a.size:Int))=false:=decide_eq_false (by omega)
    rw[e1]
    simp only[Bool.false_eq_true,if_false]
    refine hN _ _ (al fun N hN=>?_)
    have e2:(((p+1:Nat):Int) - (1+(a.size:Int)))=((p - a.size:Nat):Int):=by omega
    have e4:decide ((1:Int)=0)=false:=by decide
    walk_at "y"
    simp only[e4,Bool.false_eq_true,if_false]
    rw[e2]
    refine ih (by omega) (by omega) (by omega) fun S2 X2=>?_
    refine hN _ _ (al fun N hN=>?_)
    walk_at "y"
    refine hN _ _ (al fun N hN=>?_)
    walk_at "y"
    simp only[e4,Bool.false_eq_true,if_false]
    refine hN _ _ ?_
    walk_at "y"
    refine KW (by omega) ?_
    have:=k S2 (X1.trans X2)
    simp only[Bd.led,if_neg hl]at this
    exact this
  |FE a b=>
   simp only[Bd.size]at hs hp
   simp only[Bd.dep]at hd
   rw[show(Bd.FE a b).pv = .tup [.str "either",a.pv,b.pv] from rfl]
   walk_at "y"
   refine hN _ _ (al fun N hN=>?_)
   walk_at "y"
   refine hN _ _ (al fun N hN=>?_)
   walk_at "y"
   refine hN _ _ (al fun N hN=>?_)
   walk_at "y"
   refine Lo (by omega) (by omega) fun S1 X1=>?_
   refine hN _ _ (al fun N hN=>?_)
   walk_at "x"
   by_cases hl:p < a.size
   ·have e1:decide (((p+1:Nat):Int) < 1+(a.size:Int))=true:=decide_eq_true (by omega)
    rw[e1]
    simp only[if_true]
    refine hN _ _ (al fun N hN=>?_)
    walk_at "y"
    rw[ep]
    refine ih (by omega) (by omega) hl fun S2 X2=>?_
    refine hN _ _ (al fun N hN=>?_)
    walk_at "y"
    have:=k S2 (X1.trans X2)
    simp only[Bd.led,if_pos hl]at this
    exact this
   ·have e1:decide (((p+1:Nat):Int) < 1+(a.size:Int))=false:=decide_eq_false (by omega)
    rw[e1]
    simp only[Bool.false_eq_true,if_false]
    refine hN _ _ (al fun N hN=>?_)
    have e2:(((p+1:Nat):Int) - (1+(a.size:Int)))=((p - a.size:Nat):Int):=by omega
    have e4:decide ((1:Int)=0)=false:=by decide
    walk_at "y"
    simp only[e4,Bool.false_eq_true,if_false]
    rw[e2]
    refine ih (by omega) (by omega) (by omega) fun S2 X2=>?_
    refine hN _ _ (al fun N hN=>?_)
    walk_at "y"
    have:=k S2 (X1.trans X2)
    simp only[Bd.led,if_neg hl]at this
    exact this
  |FC z q a b=>
   simp only[Bd.size]at hs hp
   simp only[Bd.dep]at hd
   rw[show(Bd.FC z q a b).pv = .tup [.str "take",.str z,.int q,a.pv,b.pv] from rfl]
   walk_at "y"
   refine hN _ _ (al fun N hN=>?_)
   walk_at "y"
   refine hN _ _ (al fun N hN=>?_)
   walk_at "y"
   refine hN _ _ (al fun N hN=>?_)
   walk_at "y"
   refine Lo (by omega) (by omega) fun S1 X1=>?_
   refine hN _ _ (al fun N hN=>?_)
   walk_at "x"
   by_cases hl:p < a.size
   ·have e1:decide (((p+1:Nat):Int) < 1+(a.size:Int))=true:=decide_eq_true (by omega)
    rw[e1]
    simp only[if_true]
    refine hN _ _ (al fun N hN=>?_)
    walk_at "y"
    rw[ep]
    refine ih (by omega) (by omega) hl fun S2 X2=>?_
    refine hN _ _ (al fun N hN=>?_)
    walk_at "y"
    have:=k S2 (X1.trans X2)
    simp only[Bd.led,if_pos hl]at this
    exact this
   ·have e1:decide (((p+1:Nat):Int) < 1+(a.size:Int))=false:=decide_eq_false (by omega)
    rw[e1]
    simp only[Bool.false_eq_true,if_false]
    refine hN _ _ (al fun N hN=>?_)
    have e2:(((p+1:Nat):Int) - (1+(a.size:Int)))=((p - a.size:Nat):Int):=by omega
    have e4:decide ((1:Int)=0)=false:=by decide
    walk_at "y"
    simp only[e4,Bool.false_eq_true,if_false]
    rw[e2]
    refine ih (by omega) (by omega) (by omega) fun S2 X2=>?_
    refine hN _ _ (al fun N hN=>?_)
    walk_at "y"
    have:=k S2 (X1.trans X2)
    simp only[Bd.led,if_neg hl]at this
    exact this
mutual
/-- no great whole number within -/
noncomputable def cA(b:Nat):PV->Bool
 | .int i=>decide (i.natAbs<=b)
 | .tup xs=>intBs b xs
 |_=>true
noncomputable def intBs(b:Nat):List PV->Bool
 |[]=>true
 |x::r=>cA b x&&intBs b r
end
theorem intBs_iff{b:Nat}:∀{xs:List PV},intBs b xs=true↔∀x∈xs,cA b x=true
 |[]=>by simp[intBs]
 |x::r=>by simp[intBs,intBs_iff (xs:=r)]
def p8{b:Nat}{i:Int}(h:i.natAbs<=b):cA b (.int i)=true:=by simp[cA,h]
def vY{b:Nat}{xs:List PV}(h:∀x∈xs,cA b x=true):cA b (.tup xs)=true:=by simp only[cA];exact intBs_iff.mpr h
def bJ{b:Nat}{xs:List PV}(h:cA b (.tup xs)=true):∀x∈xs,cA b x=true:=by simp only[cA]at h;exact intBs_iff.mp h
def lU{b:Nat}{x y:PV}(hx:cA b x=true)(hy:cA b y=true):cA b (.tup [x,y])=true:=by simp[cA,intBs,hx,hy]
noncomputable def cf(n:Int):PV:=.tup [.int (M3.bP n 2520),.int (M3.bq n 2520)]
def oE:(.tup [.int 0,.int 1]:PV)=cf 0:=by
 have h1:M3.bP 0 2520=0:=by decide +kernel
 have h2:M3.bq 0 2520=1:=by decide +kernel
 unfold cf
 rw[h1,h2]
def rK(n:Int):M3.Du (M3.bP n 2520) (M3.bq n 2520):=M3.nV (by decide)
def gT(n:Int):M3.bP n 2520 * 2520=n * M3.bq n 2520:=M3.tP (by decide)
def eX(n:Int):0 < M3.bq n 2520/\M3.bq n 2520<=2520:=by
 refine⟨(rK n).pos,?_⟩
 unfold M3.bq
 rw[if_neg (by decide)]
 exact Int.ediv_le_self _ (by decide)
def j9{n:Int}(h:0<=n):0<=M3.bP n 2520:=by
 unfold M3.bP
 rw[if_neg (by decide)]
 exact Int.ediv_nonneg h (Int.natCast_nonneg _)
def yx{x y:Int}(h:vT x y):(.tup [.int x,.int y]:PV)=cf (x * (2520 / y)):=by
 have hy:y=1\/y=2\/y=3\/y=4\/y=5\/y=6\/y=7\/y=8\/y=9:=by have:=h.low.pos;have:=h.y1;omega
 have e:2520 / y * y=2520:=by rcases hy with rfl|rfl|rfl|rfl|rfl|rfl|rfl|rfl|rfl<;>decide
 have u:=M3.iP h.low (x:=x * (2520 / y)) (y:=2520) (by decide) (by rw[Int.mul_assoc,e])
 unfold cf
 rw[u.1,u.2]
def sE(n m:Int):(.tup [.int (M3.bP (M3.bP n 2520 * M3.bq m 2520+M3.bP m 2520 * M3.bq n 2520) (M3.bq n 2520 * M3.bq m 2520)),.int (M3.bq (M3.bP n 2520 * M3.bq m 2520+M3.bP m 2520 * M3.bq n 2520) (M3.bq n 2520 * M3.bq m 2520))]:PV)=cf (n+m):=by
 have u:=M3.iP (rK (n+m)) (x:=M3.bP n 2520 * M3.bq m 2520+M3.bP m 2520 * M3.bq n 2520) (y:=M3.bq n 2520 * M3.bq m 2520) (Int.mul_pos (eX n).1 (eX m).1) (by
  have h1:=gT n;have h2:=gT m;have h3:=gT (n+m)
  generalize M3.bP n 2520=a at *;generalize M3.bq n 2520=b at *;generalize M3.bP m 2520=c at *;generalize M3.bq m 2520=d at *
  generalize M3.bP (n+m) 2520=L at *;generalize M3.bq (n+m) 2520=B at *
  grind)
 unfold cf
 rw[u.1,u.2]
def p_(n m:Int):(.tup [.int (M3.bP (M3.bP n 2520 * m) (M3.bq n 2520 * 1)),.int (M3.bq (M3.bP n 2520 * m) (M3.bq n 2520 * 1))]:PV)=cf (n * m):=by
 have u:=M3.iP (rK (n * m)) (x:=M3.bP n 2520 * m) (y:=M3.bq n 2520 * 1) (by rw[Int.mul_one];exact(eX n).1) (by
  have h1:=gT n;have h3:=gT (n * m)
  generalize M3.bP n 2520=a at *;generalize M3.bq n 2520=b at *
  generalize M3.bP (n * m) 2520=L at *;generalize M3.bq (n * m) 2520=B at *
  grind)
 unfold cf
 rw[u.1,u.2]
abbrev Ty:=Int×List (Int×Int)
noncomputable def jn(p q:Int×Int):Int×Int:=(p.1+q.1,if q.2 - p.1 > p.2 then q.2 - p.1 else p.2)
noncomputable def Ty.join(t u:Ty):Ty:=(t.1+u.1,List.zipWith jn t.2 u.2)
noncomputable def ag(m:Int)(p:Int×Int):Int×Int:=(p.1 * m,p.2+(if -p.1 * (m - 1) > 0 then -p.1 * (m - 1) else 0))
noncomputable def Ty.again(m:Int)(t:Ty):Ty:=(t.1 * m,t.2.map (ag m))
noncomputable def zl(js:Vs):List (Int×Int):=js.map fun _=>(0,0)
noncomputable def z0(js:Vs):Ty:=(0,zl js)
def ub{m:Int}{p:Int×Int}(h:0<=p.2):0<=(ag m p).2:=by
 simp only[ag]
 split<;>omega
def Ty.Ok(js:Vs)(t:Ty):Prop:=t.2.length=js.length/\0<=t.1/\∀p∈t.2,0<=p.2
theorem qd{α β:Type}(f:α->α->β):∀l:List α,List.zipWith f l l=l.map fun x=>f x x
 |[]=>rfl
 |x::r=>by rw[List.zipWith_cons_cons,qd f r];rfl
theorem qe{α β γ:Type}{f:α->β->γ}:∀{xs:List α} {ys:List β} {z:γ},z∈List.zipWith f xs ys->∃x∈xs,∃y∈ys,z=f x y
 |[],_,z,h=>by simp at h
 |_::_,[],z,h=>by simp at h
 |x::r,y::s,z,h=>by
  rw[List.zipWith_cons_cons,List.mem_cons]at h
  rcases h with rfl|h
  ·exact⟨x,by simp,y,by simp,rfl⟩
  ·obtain⟨a,ha,b,hb,e⟩:=qe h
   exact⟨a,by simp[ha],b,by simp[hb],e⟩
theorem Ty.Ok.join{js:Vs}{t u:Ty}(h:t.Ok js)(g:u.Ok js):(t.join u).Ok js:=by
 refine⟨?_,?_,fun p hp=>?_⟩
 ·show(List.zipWith jn t.2 u.2).length=_
  rw[List.length_zipWith,h.1,g.1,Nat.min_self]
 ·exact Int.add_nonneg h.2.1 g.2.1
 ·obtain⟨x,hx,y,hy,rfl⟩:=qe hp
  have:=h.2.2 x hx
  simp only[jn]
  split<;>omega
theorem Ty.Ok.again{js:Vs}{t:Ty}{m:Int}(h:t.Ok js)(hm:1<=m):(t.again m).Ok js:=by
 refine⟨?_,Int.mul_nonneg h.2.1 (by omega),fun p hp=>?_⟩
 ·show(t.2.map (ag m)).length=_
  rw[List.length_map,h.1]
 ·obtain⟨x,hx,rfl⟩:=List.mem_map.mp hp
  exact ub (h.2.2 x hx)
def lV(js:Vs):(z0 js).Ok js:=⟨List.length_map _,Int.le_refl _,fun p hp=>by obtain⟨x,hx,rfl⟩:=List.mem_map.mp hp;exact Int.le_refl _⟩
theorem bK{α:Type}{g:Tg}{te:aW}{σ':cC}{keep:ay->Prop}{fin:List PV->ay->Prop}{S:ay}(enc f:α->PV)(hk:keep S):∀(xs:List α) (ys:List PV),
  (∀x∈xs,∃σ2,g.put (enc x) σ'=some σ2/\∀Q:bA,Q (f x) S->te σ2 S Q dO)->ys.length+xs.length<=sizeLine->fin (ys++xs.map f) S->dC g ci te σ' keep fin (xs.map enc) ys S
 |[],ys,_,hl,hf=>⟨hk,by simpa using hl,by simpa using hf⟩
 |x::r,ys,h,hl,hf=>by
  obtain⟨σ2,e,h1⟩:=h x (by simp)
  refine⟨hk,by simp at hl;omega,?_⟩
  rw[e]
  show te σ2 S (fun y S4=>dC g ci te σ' keep fin (r.map enc) (ys++[y]) S4) dO
  exact h1 _ (bK enc f hk r (ys++[f x]) (fun y hy=>h y (by simp[hy])) (by simp at hl ⊢;omega) (by simpa using hf))
def cI{n:Nat}(h:n<=1000):n<=sizeLine:=Nat.le_trans h (by decide)
abbrev lW(w:ax):Prop:=∀{S:ay} {a b:Int} {Q:bA} {E:bZ},0<=a->0<=b->Q (.int (Int.gcd a b)) S->w [.int a,.int b] S Q E
def Hq:lW (aU 3 lF):=by
 intro S a b Q E ha hb k
 unfold lF
 refine dG ?_
 rw[show aw 3 [PV.int a,PV.int b]=[some (.int a),some (.int b),none] from rfl]
 refine al fun N hN=>?_
 refine⟨fun n σ S'=>S'=S/\∃(x y:Int) (z:Option PV),σ=[some (.int x),some (.int y),z]/\0<=x/\0<=y/\Int.gcd x y=Int.gcd a b/\y.toNat=n,⟨_,rfl,a,b,none,rfl,ha,hb,rfl,rfl⟩,?_⟩
 rintro n σ S' ⟨rfl,x,y,z,rfl,hx,hy,hg,rfl⟩
 walk_at "x"
 simp only[Bool.true_bne,Bool.not_eq_true',decide_eq_false_iff_not]
 split
 ·rename_i hp
  refine⟨fun σ' JD=>JD=S'/\∃(x' y':Int) (z':Option PV),σ'=[some (.int x'),some (.int y'),z']/\0<=x'/\0<=y'/\Int.gcd x' y'=Int.gcd a b/\y'.toNat < y.toNat,?_,?_⟩
  ·rintro σ' JD ⟨rfl,x',y',z',rfl,h1,h2,h3,h4⟩
   exact⟨_,h4,rfl,x',y',z',rfl,h1,h2,h3,rfl⟩
  ·have e:x.fmod y=x % y:=iI hy
   have l1:=Int.emod_nonneg x (b:=y) hp
   have l2:=Int.emod_lt_of_pos x (show 0 < y by omega)
   refine⟨hp,rfl,y,x.fmod y,_,rfl,hy,by omega,?_,by omega⟩
   rw[M3.pJ];exact hg
 ·rename_i hp
  have LD:y=0:=by omega
  subst LD
  refine hN _ _ ?_
  walk_at "x"
  rw[if_neg (by omega)]
  have MV:x=(Int.gcd a b:Int):=by
   rw[<-hg]
   rw[Int.gcd_zero_right]
   omega
  rw[MV]
  exact k
abbrev lX(w:ax):Prop:=∀{S:ay} {t b:Int} {Q:bA} {E:bZ},0<=t->0 < b->b.natAbs < 2 ^ 8000->Q (.tup [.int (M3.bP t b),.int (M3.bq t b)]) S->w [.int t,.int b] S Q E
def Hr{xc:ax}(Hq:lW xc):lX (aU 3 (iX xc)):=by
 intro S t b Q E ht hb hs k
 unfold iX
 refine dG ?_
 rw[show aw 3 [PV.int t,PV.int b]=[some (.int t),some (.int b),none] from rfl]
 refine al fun N hN=>?_
 walk_at "x"
 refine Hq ht (by omega) (hN _ _ (al fun N hN=>?_))
 walk_at "x"
 rw[if_neg (by rw[decide_eq_true_eq];omega)]
 refine hN _ _ ?_
 walk_at "x"
 have gp:(0:Int) < (Int.gcd t b:Int):=Int.natCast_pos.mpr (M3.ig (by omega))
 have gl:=M3.ve (t:=t) (b:=b) (by omega)
 have cd:∀z,m7 z (Int.gcd t b:Int):=fun z=>⟨by omega,Nat.lt_of_le_of_lt (by omega) hs⟩
 refine⟨cd _,cd _,?_⟩
 have d1:=(M3.pI (t:=t) (b:=b) (by omega))
 rw[if_neg (by omega)]at d1
 rw[d1.1,d1.2]
 exact k
def C0(n m:Int):0 < M3.bq n 2520 * M3.bq m 2520/\(M3.bq n 2520 * M3.bq m 2520).natAbs < 2 ^ 8000:=by
 obtain⟨a,b⟩:=eX n
 obtain⟨c,d⟩:=eX m
 have p:=Int.mul_pos a c
 have q:M3.bq n 2520 * M3.bq m 2520<=2520 * 2520:=Int.mul_le_mul b d (by omega) (by decide)
 exact⟨p,j5 (by omega)⟩
def uc(i n:Int):IntMulOk i (M3.bq n 2520):=by have:=eX n;exact kT (by omega) (by omega)
abbrev fw(w:ax):Prop:=∀{S:ay} {n m:Int} {Q:bA} {E:bZ},0<=n->0<=m->Q (cf (n+m)) S->w [cf n,cf m] S Q E
def HW{xf:ax}(Hr:lX xf):fw (aU 2 (rF xf)):=by
 intro S n m Q E hn hm k
 unfold rF
 refine dG ?_
 rw[show aw 2 [cf n,cf m]=[some (cf n),some (cf m)] from rfl]
 simp only[cf]
 walk_at "x"
 simp only[bW,cM]
 refine⟨uc _ _,uc _ _,uc _ _,?_⟩
 have b:=C0 n m
 refine Hr (Int.add_nonneg (Int.mul_nonneg (j9 hn) (Int.le_of_lt (eX m).1)) (Int.mul_nonneg (j9 hm) (Int.le_of_lt (eX n).1))) b.1 b.2 ?_
 rw[sE]
 exact k
def vZ{xf:ax}(HF:jo xf):fw (aU 2 (gN xf)):=by
 intro S n m Q E hn hm k
 unfold gN
 refine dG ?_
 rw[show aw 2 [cf n,cf m]=[some (cf n),some (cf m)] from rfl]
 simp only[cf]
 walk_at "x"
 simp only[bW,cM]
 refine⟨uc _ _,uc _ _,uc _ _,?_⟩
 have b:=C0 n m
 refine HF b.1 b.2 ?_
 rw[sE]
 exact k
abbrev j_(w:ax):Prop:=∀{S:ay} {n m:Int} {Q:bA} {E:bZ},0<=n->0<=m->m < 2 ^ 62->Q (cf (n * m)) S->w [cf n,.tup [.int m,.int 1]] S Q E
def Hm{xf:ax}(Hr:lX xf):j_ (aU 2 (oi xf)):=by
 intro S n m Q E hn hm hm2 k
 unfold oi
 refine dG ?_
 rw[show aw 2 [cf n,.tup [.int m,.int 1]]=[some (cf n),some (.tup [.int m,.int 1])] from rfl]
 simp only[cf]
 walk_at "x"
 simp only[bW,cM]
 refine⟨kT (by omega) (by omega),kT (by decide) (by decide),?_⟩
 have b:=eX n
 refine Hr (Int.mul_nonneg (j9 hn) hm) (by omega) (j5 (by omega)) ?_
 rw[p_]
 exact k
noncomputable def Ty.es(t:Ty):List PV:=t.2.map fun p=>.int p.1
noncomputable def Ty.dm(t:Ty):List PV:=t.2.map fun p=>.int p.2
noncomputable def Ty.pv(t:Ty):PV:=.tup [cf t.1,.tup t.es,.tup t.dm]
noncomputable def gr(js:Vs):PV:=.tup (js.map PV.str)
noncomputable def sF(js:Vs)(z:Str)(e d:Int):List (Int×Int):=js.map fun j=>if j=z then (e,d) else (0,0)
abbrev lY(w:ax):Prop:=∀{S:ay} {js:Vs} {Q:bA} {E:bZ},js.length<=1000->Q (z0 js).pv S->w [gr js] S Q E
def v5(js:Vs):List.replicate js.length (PV.int 0)=(z0 js).es:=by
 unfold Ty.es z0 zl
 rw[List.map_map]
 induction js with
 |nil=>rfl
 |cons j js ih=>rw[List.length_cons,List.replicate_succ,ih];rfl
def A_(js:Vs):List.replicate js.length (PV.int 0)=(z0 js).dm:=by rw[v5];unfold Ty.es Ty.dm z0 zl;rw[List.map_map,List.map_map];rfl
def Hs:lY (aU 1 iY):=by
 intro S js Q E hj k
 unfold iY
 refine dG ?_
 rw[show aw 1 [gr js]=[some (gr js)] from rfl]
 unfold gr
 walk_at "x"
 simp only[pV,List.length_map,Int.toNat_natCast]
 refine⟨by omega,by omega,by omega,by omega,?_⟩
 rw[oE]
 have e:(PV.tup [cf 0,.tup (List.replicate js.length (.int 0)),.tup (List.replicate js.length (.int 0))])=(z0 js).pv:=by
  unfold Ty.pv
  rw[<-v5,<-A_]
  rfl
 rw[e]
 exact k
abbrev i4(w:ax):Prop:=∀{S:ay} {js:Vs} {z:Str} {m:Int} {Q:bA} {E:bZ},js.length<=1000->(∀S',Ext S S'->Q (.tup (js.map fun j=>.int (if j=z then m else 0))) S')->w [gr js,.str z,.int m] S Q E
def Ge:i4 (aU 3 gM):=by
 intro S js z m Q E hj k
 unfold gM
 refine dG ?_
 rw[show aw 3 [gr js,.str z,.int m]=[some (gr js),some (.str z),some (.int m)] from rfl]
 unfold gr
 walk_at "x"
 refine bK PV.str (fun j=>.int (if j=z then m else 0)) trivial js [] (fun j hj=>⟨_,rfl,fun Q q=>?_⟩) (by simpa using cI hj) fun p hp=>?_
 ·walk_at "x"
  simp only[Bool.false_bne,decide_eq_true_eq]
  split
  ·rename_i h;rw[if_pos h]at q;exact q
  ·rename_i h;rw[if_neg h]at q;exact q
 ·simp only[List.nil_append,aa]
  exact k _ (.new hp)
def v6{α β γ δ:Type}(f:α->β->γ)(g:γ->δ)(xs:List α)(ys:List β):(xs.zip ys).map (fun z=>g (f z.1 z.2))=(List.zipWith f xs ys).map g:=by
 rw[List.zip,List.map_zipWith,List.map_zipWith]
def Ba(t u:Ty):bu t.es u.es=(t.2.zip u.2).map fun z=>.tup [.int z.1.1,.int z.2.1]:=by
 unfold bu Ty.es
 rw[List.zip_map,List.map_map]
 rfl
def Bb(t:Ty):bu t.es t.dm=t.2.map fun z=>.tup [.int z.1,.int z.2]:=by
 unfold bu Ty.es Ty.dm
 rw[List.zip_map,List.map_map]
 rw[show t.2.zip t.2=t.2.map fun x=>(x,x)from qd _ _,List.map_map]
 rfl
def ud(t u:Ty):fJ t.es t.dm u.dm=(t.2.zip u.2).map fun z=>.tup [.int z.1.1,.int z.1.2,.int z.2.2]:=by
 unfold fJ Ty.es Ty.dm
 have:∀(l m:List (Int×Int)),((l.map fun p=>PV.int p.1).zip ((l.map fun p=>PV.int p.2).zip (m.map fun p=>PV.int p.2))).map CM=(l.zip m).map fun z=>.tup [.int z.1.1,.int z.1.2,.int z.2.2]:=fun l=>by
  induction l with
  |nil=>intro m;rfl
  |cons p r ih=>
   intro m
   cases m with
   |nil=>rfl
   |cons q s=>simp only[List.map_cons,List.zip_cons_cons];rw[ih s];rfl
 exact this t.2 u.2
def yy(t u:Ty):(t.2.zip u.2).map (fun z=>PV.int (z.1.1+z.2.1))=(t.join u).es:=v6 jn (fun p=>PV.int p.1) t.2 u.2
def yz(t u:Ty):(t.2.zip u.2).map (fun z=>PV.int (jn z.1 z.2).2)=(t.join u).dm:=v6 jn (fun p=>PV.int p.2) t.2 u.2
abbrev nz(w:ax):Prop:=∀{S:ay} {t u:Ty} {Q:bA} {E:bZ},t.2.length<=1000->(∀S',Ext S S'->Q (.tup (t.join u).es) S')->w [.tup t.es,.tup u.es] S Q E
def IF:nz (aU 2 oj):=by
 intro S t u Q E hj k
 unfold oj
 refine dG ?_
 rw[show aw 2 [.tup t.es,.tup u.es]=[some (.tup t.es),some (.tup u.es)] from rfl]
 walk_at "x"
 rw[Ba]
 refine bK _ (fun z=>PV.int (z.1.1+z.2.1)) trivial _ [] (fun z hz=>⟨_,rfl,fun Q q=>?_⟩) ?_ fun p hp=>?_
 ·walk_at "x"
  exact q
 ·rw[List.length_nil,Nat.zero_add,List.length_zip]
  exact cI (by omega)
 ·simp only[List.nil_append,aa]
  rw[yy]
  exact k _ (.new hp)
abbrev qg(w:ax):Prop:=∀{S:ay} {t:Ty} {m:Int} {Q:bA} {E:bZ},t.2.length<=1000->0<=m->m < 2 ^ 62->(∀S',Ext S S'->Q (.tup (t.again m).es) S')->w [.tup t.es,.int m] S Q E
def v7(t:Ty)(m:Int):t.2.map (fun p=>PV.int (p.1 * m))=(t.again m).es:=by
 unfold Ty.again Ty.es
 rw[List.map_map]
 rfl
def v8(t:Ty)(m:Int):t.2.map (fun p=>PV.int (ag m p).2)=(t.again m).dm:=by
 unfold Ty.again Ty.dm
 rw[List.map_map]
 rfl
def Ja:qg (aU 2 fH):=by
 intro S t m Q E hj h0 h1 k
 unfold fH
 refine dG ?_
 rw[show aw 2 [.tup t.es,.int m]=[some (.tup t.es),some (.int m)] from rfl]
 walk_at "x"
 refine bK (fun p:Int×Int=>PV.int p.1) (fun p=>PV.int (p.1 * m)) trivial t.2 [] (fun z hz=>⟨_,rfl,fun Q q=>?_⟩) (by simpa using cI hj) fun p hp=>?_
 ·walk_at "x"
  exact⟨kT (by omega) (by omega),q⟩
 ·simp only[List.nil_append,aa]
  rw[v7]
  exact k _ (.new hp)
abbrev fP(w:ax):Prop:=∀{S:ay} {js:Vs} {t u:Ty} {Q:bA} {E:bZ},js.length<=1000->t.Ok js->u.Ok js->(∀S',Ext S S'->Q (t.join u).pv S')->w [t.pv,u.pv] S Q E
def Gx{xa xp:ax}(IF:nz xa)(HW:fw xp):fP (aU 3 (lI xa xp)):=by
 intro S js t u Q E hj ht hu k
 unfold lI
 refine dG ?_
 rw[show aw 3 [t.pv,u.pv]=[some t.pv,some u.pv,none] from rfl]
 unfold Ty.pv
 refine al fun N hN=>?_
 walk_at "x"
 simp only[vK,af,v3,lk,c3,ac,cM,sC]
 have lt:=ht.1
 have lu:=hu.1
 refine⟨by unfold Ty.es Ty.dm;rw[List.length_map,List.length_map];omega,by unfold Ty.es Ty.dm;rw[List.length_map,List.length_map];omega,?_⟩
 rw[ud]
 refine bK _ (fun z=>PV.int (jn z.1 z.2).2) trivial _ [] (fun z hz=>⟨_,rfl,fun Q q=>?_⟩) ?_ fun p hp=>?_
 ·walk_at "x"
  exact q
 ·rw[List.length_nil,Nat.zero_add,List.length_zip]
  exact cI (by omega)
 ·rw[List.nil_append,yz]
  refine hN _ _ ?_
  walk_at "x"
  simp only[bW,cM]
  refine HW ht.2.1 hu.2.1 ?_
  refine IF (t:=t) (u:=u) (by omega) fun S2 X2=>?_
  simp only[X2 _ _ aa]
  exact k S2 ((Ext.new hp).trans X2)
abbrev kc(w:ax):Prop:=∀{S:ay} {js:Vs} {t:Ty} {m:Int} {Q:bA} {E:bZ},js.length<=1000->t.Ok js->1<=m->m < 2 ^ 62->(∀S',Ext S S'->Q (t.again m).pv S')->w [t.pv,.int m] S Q E
def IG{xm xt:ax}(Ja:qg xm)(Hm:j_ xt):kc (aU 3 (ol xm xt)):=by
 intro S js t m Q E hj ht h1 h2 k
 unfold ol
 refine dG ?_
 rw[show aw 3 [t.pv,.int m]=[some t.pv,some (.int m),none] from rfl]
 unfold Ty.pv
 refine al fun N hN=>?_
 walk_at "x"
 simp only[cM,sC]
 have lt:=ht.1
 rw[Bb]
 refine bK _ (fun p:Int×Int=>PV.int (ag m p).2) trivial t.2 [] (fun z hz=>⟨_,rfl,fun Q q=>?_⟩) (by simpa using cI (by omega)) fun p hp=>?_
 ·walk_at "x"
  exact⟨kT (by omega) (by omega),q⟩
 ·rw[List.nil_append,v8]
  refine hN _ _ ?_
  walk_at "x"
  simp only[bW,cM]
  refine Hm ht.2.1 (by omega) h2 ?_
  refine Ja (t:=t) (by omega) (by omega) h2 fun S2 X2=>?_
  simp only[X2 _ _ aa]
  exact k S2 ((Ext.new hp).trans X2)
abbrev i5(w:ax):Prop:=∀{S:ay} {js:Vs} {z:Str} {m:Int} {a b:Bd} {Q:bA} {E:bZ},js.length<=1000->(∀S',Ext S S'->Q (Ty.pv (0,sF js z (-m) m)) S')->w [gr js,(Bd.FC z m a b).pv] S Q E
def v9(js:Vs)(z:Str)(e d:Int):js.map (fun j=>PV.int (if j=z then e else 0))=Ty.es (0,sF js z e d):=by
 unfold Ty.es sF
 rw[List.map_map]
 exact List.map_congr_left fun j _=>by dsimp only [Function.comp];split<;>rfl
def Bc(js:Vs)(z:Str)(e d:Int):js.map (fun j=>PV.int (if j=z then d else 0))=Ty.dm (0,sF js z e d):=by
 unfold Ty.dm sF
 rw[List.map_map]
 exact List.map_congr_left fun j _=>by dsimp only [Function.comp];split<;>rfl
def Ie{xt:ax}(Ge:i4 xt):i5 (aU 2 (dH xt)):=by
 intro S js z m a b Q E hj k
 unfold dH
 refine dG ?_
 rw[show aw 2 [gr js,(Bd.FC z m a b).pv]=[some (gr js),some (.tup [.str "take",.str z,.int m,a.pv,b.pv])] from rfl]
 walk_at "x"
 simp only[cM,sC]
 rw[oE]
 refine Ge hj fun S1 X1=>Ge hj fun S2 X2=>?_
 rw[v9 js z (-m) m,Bc js z (-m) m]
 exact k S2 (X1.trans X2)
def cj{a b:Bd}{v:PV}(h:aR (.Fw a b) v=true):∃x y,v = .tup [x,y]/\aR a x=true/\aR b y=true:=by
 cases v with
 |tup xs=>
  by_cases h2:xs.length=2
  ·obtain⟨x,y,rfl⟩:=rJ h2
   rw[ju,Bool.and_eq_true]at h
   exact⟨x,y,rfl,h⟩
  ·rw[oA h2]at h;cases h
 |int i=>rw[jx]at h;cases h
 |str z=>rw[jv]at h;cases h
 |_=>cases h
def ck{a b:Bd}{v:PV}(h:aR (.FE a b) v=true):∃i y,v = .tup [.int i,y]/\((i=0/\aR a y=true)\/(i=1/\aR b y=true)):=by
 cases v with
 |tup xs=>
  by_cases h2:xs.length=2
  ·obtain⟨x,y,rfl⟩:=rJ h2
   cases x with
   |int i=>
    rw[lP]at h
    refine⟨i,y,rfl,?_⟩
    by_cases h0:i=0
    ·rw[if_pos h0]at h;exact .inl ⟨h0,h⟩
    ·rw[if_neg h0]at h
     by_cases h1:i=1
     ·rw[if_pos h1]at h;exact .inr ⟨h1,h⟩
     ·rw[if_neg h1]at h;cases h
   |_=>cases h
  ·rw[oB h2]at h;cases h
 |int i=>rw[jx]at h;cases h
 |str z=>rw[jv]at h;cases h
 |_=>cases h
def cm{z:Str}{m:Int}{a b:Bd}{v:PV}(h:aR (.FC z m a b) v=true):∃i y,v = .tup [.int i,y]/\((i=0/\aR a y=true)\/(i=1/\aR b y=true)):=by
 cases v with
 |tup xs=>
  by_cases h2:xs.length=2
  ·obtain⟨x,y,rfl⟩:=rJ h2
   cases x with
   |int i=>
    rw[lQ]at h
    refine⟨i,y,rfl,?_⟩
    by_cases h0:i=0
    ·rw[if_pos h0]at h;exact .inl ⟨h0,h⟩
    ·rw[if_neg h0]at h
     by_cases h1:i=1
     ·rw[if_pos h1]at h;exact .inr ⟨h1,h⟩
     ·rw[if_neg h1]at h;cases h
   |_=>cases h
  ·rw[oC h2]at h;cases h
 |int i=>rw[jx]at h;cases h
 |str z=>rw[jv]at h;cases h
 |_=>cases h
def cX{a:Bd}{v:PV}(h:aR (.Fz a) v=true):∃xs,v = .tup xs/\xs.all (oz a)=true:=by
 cases v with
 |tup xs=>rw[p7]at h;exact⟨xs,rfl,h⟩
 |int i=>rw[jx]at h;cases h
 |str z=>rw[jv]at h;cases h
 |_=>cases h
section
variable {js us:Vs} (hj:∀z∈js,IsW z) (hu:∀z∈us,IsW z)
end
noncomputable def Be(js:Vs)(f:PV->Ty):PV->Ty
 | .tup [.int m,y]=>(f y).again m
 |_=>z0 js
noncomputable def Bd.FQ(js:Vs):Bd->PV->Ty
 | .Fz a,.tup xs=>(xs.map (Be js fun y=>a.FQ js y)).foldl Ty.join (z0 js)
 | .Fw a b,.tup [x,y]=>(a.FQ js x).join (b.FQ js y)
 | .FE a b,.tup [.int i,y]=>if i=0 then a.FQ js y else b.FQ js y
 | .FC z m a b,.tup [.int i,y]=>if i=0 then Ty.join (0,sF js z (-m) m) (a.FQ js y) else b.FQ js y
 | .pay x y,_=>(x * (2520 / y),zl js)
 | .put z m,_=>(0,sF js z m 0)
 |_,_=>z0 js
def yA(js:Vs)(a:Bd)(xs:List PV):(Bd.Fz a).FQ js (.tup xs)=(xs.map (Be js fun y=>a.FQ js y)).foldl Ty.join (z0 js):=rfl
def yB(js:Vs)(a b:Bd)(i:Int)(y:PV):(Bd.FE a b).FQ js (.tup [.int i,y])=if i=0 then a.FQ js y else b.FQ js y:=rfl
def yC(js:Vs)(z:Str)(m:Int)(a b:Bd)(i:Int)(y:PV):(Bd.FC z m a b).FQ js (.tup [.int i,y])=if i=0 then Ty.join (0,sF js z (-m) m) (a.FQ js y) else b.FQ js y:=rfl
def cO{a:Bd}{g:PV}(h:oz a g=true):∃m y,g = .tup [.int m,y]/\1<=m/\aR a y=true:=by
 unfold oz at h
 split at h
 ·rename_i m y
  rw[Bool.and_eq_true,decide_eq_true_eq]at h
  exact⟨m,y,rfl,h.1,h.2⟩
 ·cases h
def oF{js:Vs}{z:Str}{e d:Int}(hd:0<=d):Ty.Ok js (0,sF js z e d):=⟨List.length_map _,Int.le_refl _,fun p hp=>by
 obtain⟨j,hj,rfl⟩:=List.mem_map.mp hp
 split
 ·exact hd
 ·exact Int.le_refl _⟩
theorem oG{js:Vs}:∀(ts:List Ty) (t:Ty),(∀u∈ts,u.Ok js)->t.Ok js->(ts.foldl Ty.join t).Ok js
 |[],t,_,h=>h
 |u::r,t,hs,h=>oG r (t.join u) (fun x hx=>hs x (by simp[hx])) (h.join (hs u (by simp)))
theorem bp{js us:Vs}:∀(t:Bd) (v:PV),t.good js us->aR t v=true->(t.FQ js v).Ok js
 | .rest,v,_,_=>lV js
 | .use z,v,_,_=>lV js
 | .pay x y,v,hg,_=>⟨(lV js).1,Int.mul_nonneg (show vT x y from hg).x0 (Int.ediv_nonneg (by decide) (Int.le_of_lt (show vT x y from hg).low.pos)),(lV js).2.2⟩
 | .put z m,v,hg,_=>oF (Int.le_refl _)
 | .Fw a b,v,hg,hv=>by
  obtain⟨x,y,rfl,hx,hy⟩:=cj hv
  exact(bp a x hg.1 hx).join (bp b y hg.2 hy)
 | .FE a b,v,hg,hv=>by
  obtain⟨i,y,rfl,hi⟩:=ck hv
  rw[yB]
  rcases hi with⟨rfl,h⟩|⟨rfl,h⟩
  ·rw[if_pos rfl];exact bp a y hg.1 h
  ·rw[if_neg (by decide)];exact bp b y hg.2 h
 | .FC z m a b,v,hg,hv=>by
  obtain⟨i,y,rfl,hi⟩:=cm hv
  rw[yC]
  rcases hi with⟨rfl,h⟩|⟨rfl,h⟩
  ·rw[if_pos rfl];exact(oF (by have:=hg.2.1;omega)).join (bp a y hg.2.2.2.1 h)
  ·rw[if_neg (by decide)];exact bp b y hg.2.2.2.2 h
 | .Fz a,v,hg,hv=>by
  obtain⟨xs,rfl,hx⟩:=cX hv
  rw[yA]
  refine oG _ _ (fun u hu=>?_) (lV js)
  obtain⟨g,Mj,rfl⟩:=List.mem_map.mp hu
  obtain⟨m,y,rfl,hm,hy⟩:=cO (List.all_eq_true.mp hx g Mj)
  exact(bp a y hg hy).again hm
def Bd.Lp(t:Bd):t.hd=("pay":Str)↔∃x y,t = .pay x y:=by cases t<;>simp[Bd.hd,aA]
def Bd.JI(t:Bd):t.hd=("put":Str)↔∃z m,t = .put z m:=by cases t<;>simp[Bd.hd,aA]
abbrev iq(n:Nat)(w:ax):Prop:=∀{S:ay} {js us:Vs} {t:Bd} {v:PV} {Q:bA} {E:bZ},js.length<=1000->t.good js us->aR t v=true->cA (2 ^ 60) v=true->t.dep<=n->(∀S',Ext S S'->Q (t.FQ js v).pv S')->w [gr js,t.pv,v] S Q E
abbrev lZ(n:Nat)(w:ax):Prop:=∀{S:ay} {js us:Vs} {a:Bd} {v:PV} {Q:bA} {E:bZ},js.length<=1000->a.good js us->aR (.Fz a) v=true->cA (2 ^ 60) v=true->a.dep<=n->(∀S',Ext S S'->Q ((Bd.Fz a).FQ js v).pv S')->w [gr js,(Bd.Fz a).pv,v] S Q E
def ue{js:Vs}(f:PV->Ty)(done:List PV)(x:PV):((done++[x]).map f).foldl Ty.join (z0 js)=((done.map f).foldl Ty.join (z0 js)).join (f x):=by
 rw[List.map_append,List.foldl_append];rfl
def uf{xn xb xa s0 s1:ax}(Hs:lY xn)(Gx:fP xb)(IG:kc xa)(n:Nat)(ih:iq n s1):lZ n (aU 5 (b4 xn xb xa s0 s1)):=by
 intro S js us a v Q E hj hg hv hb hd k
 obtain⟨xs,rfl,hx⟩:=cX hv
 unfold b4
 refine dG ?_
 rw[show aw 5 [gr js,(Bd.Fz a).pv,.tup xs]=[some (gr js),some (.tup [.str "often",a.pv]),some (.tup xs),none,none] from rfl]
 refine al fun N hN=>?_
 walk_at "x"
 refine Hs hj (hN _ _ (al fun N hN=>?_))
 simp only[bO,aO,v3,lk,bT]
 refine bw (fun done σ S'=>∃x4,σ=[some (gr js),some (.tup [.str "often",a.pv]),some (.tup xs),some ((done.map (Be js fun y=>a.FQ js y)).foldl Ty.join (z0 js)).pv,x4]/\Ext S S') ⟨_,rfl,.refl⟩ (fun _ _ _ _=>trivial) ?_ ?_
 ·rintro done g rest σ S1 K e ⟨x4,rfl,X1⟩ hK
  have Mj:g∈xs:=by rw[e];simp
  obtain⟨m,y,rfl,hm,hy⟩:=cO (List.all_eq_true.mp hx g Mj)
  have hi:=bJ hb _ Mj
  have hm2:=bJ hi (.int m) (by simp)
  simp only[cA,decide_eq_true_eq]at hm2
  have ok:((done.map (Be js fun y=>a.FQ js y)).foldl Ty.join (z0 js)).Ok js:=oG _ _ (fun u hu=>by
   obtain⟨g',hg',rfl⟩:=List.mem_map.mp hu
   obtain⟨m',y',rfl,hm',hy'⟩:=cO (List.all_eq_true.mp hx g' (by rw[e];simp[hg']))
   exact(bp a y' hg hy').again hm') (lV js)
  simp only[Tg.put,List.set_cons_succ,List.set_cons_zero]
  walk_at "x"
  simp only[bW,cM]
  refine ih hj hg hy (bJ hi y (by simp)) hd fun S2 X2=>?_
  refine IG hj (bp a y hg hy) hm (by omega) fun S3 X3=>?_
  refine Gx hj ok ((bp a y hg hy).again hm) fun S4 X4=>?_
  refine hK _ _ ⟨some (.tup [.int m,y]),?_,X1.trans (X2.trans (X3.trans X4))⟩
  rw[ue]
  rfl
 ·rintro σ S1 ⟨x4,rfl,X1⟩
  refine hN _ _ ?_
  walk_at "x"
  exact k S1 X1
def IH{xn xt xb xc xk s0 s1:ax}(Hs:lY xn)(Ge:i4 xt)(Gx:fP xb)(Ic:lR xc)(Ie:i5 xk)(n:Nat)(M7:lZ n s0)(ih:iq n s1):iq (n+1) (aU 6 (fK xn xt xb xc xk s0 s1)):=by
 intro S js us t v Q E hj hg hv hb hd k
 unfold fK
 refine dG ?_
 rw[Bd.Hd,show aw 6 [gr js,.tup (.str t.hd::t.tl),v]=[some (gr js),some (.tup (.str t.hd::t.tl)),some v,none,none,none] from rfl]
 refine al fun N hN=>?_
 walk_at "x"
 simp only[bW]
 refine hN _ _ (al fun N hN=>?_)
 walk_at "x"
 refine Hs hj (hN _ _ (al fun N hN=>?_))
 simp only[bt,aJ,af,v3,lk,c3,aV,Bool.false_bne,decide_eq_true_eq]
 by_cases h1:t.hd=("pay":Str)
 ·rw[if_pos h1]
  obtain⟨x,y,rfl⟩:=(Bd.Lp t).mp h1
  unfold Ty.pv
  walk_at "x"
  simp only[Bd.tl,cM,sC]
  rw[yx hg]
  exact k S .refl
 rw[if_neg h1]
 refine hN _ _ (al fun N hN=>?_)
 simp only[bt,aJ,af,v3,lk,c3,aV,Bool.false_bne,decide_eq_true_eq]
 by_cases h2:t.hd=("put":Str)
 ·rw[if_pos h2]
  obtain⟨z,m,rfl⟩:=(Bd.JI t).mp h2
  unfold Ty.pv
  walk_at "x"
  simp only[Bd.tl,bW,cM,sC]
  refine Ge hj fun S1 X1=>?_
  have:=k S1 X1
  rw[v9 js z m 0]
  have e:(z0 js).dm=Ty.dm (0,sF js z m 0):=by
   unfold Ty.dm z0 zl sF
   rw[List.map_map,List.map_map]
   exact List.map_congr_left fun j _=>by dsimp only [Function.comp];split<;>rfl
  rw[e]
  exact this
 rw[if_neg h2]
 refine hN _ _ (al fun N hN=>?_)
 simp only[bt,aJ,af,v3,lk,c3,aV,Bool.false_bne,decide_eq_true_eq]
 by_cases h3:t.hd=("then":Str)
 ·rw[if_pos h3]
  obtain⟨a,b,rfl⟩:=(Bd.ID t).mp h3
  obtain⟨x,y,rfl,hx,hy⟩:=cj hv
  simp only[Bd.dep]at hd
  walk_at "x"
  simp only[Bd.tl,bW,cM,sC]
  refine ih hj hg.1 hx (bJ hb x (by simp)) (by omega) fun S1 X1=>?_
  refine ih hj hg.2 hy (bJ hb y (by simp)) (by omega) fun S2 X2=>?_
  refine Gx hj (bp a x hg.1 hx) (bp b y hg.2 hy) fun S3 X3=>?_
  exact k S3 (X1.trans (X2.trans X3))
 rw[if_neg h3]
 refine hN _ _ (al fun N hN=>?_)
 simp only[bt,aJ,af,v3,lk,c3,aV,Bool.false_bne,decide_eq_true_eq]
 by_cases h4:t.hd=("often":Str)
 ·rw[if_pos h4]
  obtain⟨a,rfl⟩:=(Bd.IE t).mp h4
  simp only[Bd.dep]at hd
  walk_at "x"
  exact M7 hj hg hv hb (by omega) k
 rw[if_neg h4]
 refine hN _ _ (al fun N hN=>?_)
 walk_at "x"
 rw[show([PV.str "either",PV.str "take"]:List PV)=(["either","take"]:Vs).map PV.str from rfl]
 refine bI t.Iu zp ?_
 by_cases h5:t.hd∈(["either","take"]:Vs)
 ·simp only[h5,decide_true,Bool.true_bne,Bool.not_true,Bool.false_eq_true,if_false]
  refine hN _ _ (al fun N hN=>?_)
  simp only[List.mem_cons,List.not_mem_nil,or_false]at h5
  have side:∀(hd2:List PV) (a b c:Bd) (i:Int) (y:PV),(.str t.hd::t.tl)=hd2++[a.pv,b.pv]->hd2.length<=3->v = .tup [.int i,y]->(i=0\/i=1)->(if i=0 then a.pv else b.pv)=c.pv->c.good js us->aR c y=true->c.dep<=n->
    (∀S',Ext S S'->N [some (gr js),some (.tup (.str t.hd::t.tl)),some v,some (.str t.hd),some (z0 js).pv,some (c.FQ js y).pv] S')->av 5 (ab s1 [v3 0,ab xc [v3 1,v3 2],af ac (v3 2) (c3 (.int 1))]) { nx:=N,rt:=Q,ex:=dO } [some (gr js),some (.tup (.str t.hd::t.tl)),some v,some (.str t.hd),some (z0 js).pv,none] S:=by
   intro hd2 a b c i y e1 e2 e3 hi e4 g1 g2 g3 kk
   subst e3
   simp only[av,ab,ao,af,v3,lk,c3]
   rw[e1]
   refine Ic hi e2 ?_
   rw[e4]
   simp only[ac,cM]
   refine ih hj g1 g2 (bJ hb y (by simp)) g3 fun S1 X1=>?_
   have:=kk S1 X1
   rw[e1]at this
   exact this
  rcases h5 with h5|h5
  ·cases t with
   |FE a b=>
    obtain⟨i,y,rfl,hi⟩:=ck hv
    simp only[Bd.dep]at hd
    have fin:∀c:Bd,(Bd.FE a b).FQ js (.tup [.int i,y])=c.FQ js y->∀S',Ext S S'->N [some (gr js),some (.tup (.str (Bd.FE a b).hd::(Bd.FE a b).tl)),some (.tup [.int i,y]),some (.str (Bd.FE a b).hd),some (z0 js).pv,some (c.FQ js y).pv] S':=fun c e S1 X1=>by
     refine hN _ _ (al fun N hN=>?_)
     simp only[Bd.hd]
     walk_at "y"
     refine hN _ _ ?_
     walk_at "x"
     rw[<-e]
     exact k S1 X1
    rcases hi with⟨rfl,h⟩|⟨rfl,h⟩
    ·exact side [.str "either"] a b a 0 y rfl (by decide) rfl (.inl rfl) (if_pos rfl) hg.1 h (by omega) (fin a rfl)
    ·exact side [.str "either"] a b b 1 y rfl (by decide) rfl (.inr rfl) (if_neg (by decide)) hg.2 h (by omega) (fin b rfl)
   |_=>simp[Bd.hd,aA]at h5
  ·cases t with
   |FC z m a b=>
    obtain⟨i,y,rfl,hi⟩:=cm hv
    simp only[Bd.dep]at hd
    rcases hi with⟨rfl,h⟩|⟨rfl,h⟩
    ·refine side [.str "take",.str z,.int m] a b a 0 y rfl (Nat.le_refl 3) rfl (.inl rfl) (if_pos rfl) hg.2.2.2.1 h (by omega) fun S1 X1=>hN _ _ (al fun N hN=>?_)
     simp only[Bd.hd]
     walk_at "y"
     refine Ie (a:=a) (b:=b) hj fun S2 X2=>?_
     refine Gx hj (oF (by have:=hg.2.1;omega)) (bp a y hg.2.2.2.1 h) fun S3 X3=>?_
     exact k S3 (X1.trans (X2.trans X3))
    ·refine side [.str "take",.str z,.int m] a b b 1 y rfl (Nat.le_refl 3) rfl (.inr rfl) (if_neg (by decide)) hg.2.2.2.2 h (by omega) fun S1 X1=>hN _ _ (al fun N hN=>?_)
     simp only[Bd.hd]
     walk_at "y"
     refine hN _ _ ?_
     walk_at "x"
     exact k S1 X1
   |_=>simp[Bd.hd,aA]at h5
 ·simp only[h5,decide_false,Bool.true_bne,Bool.not_false,if_true]
  have e:t.FQ js v=z0 js:=by cases t<;>simp_all [Bd.hd,aA]<;>rfl
  rw[<-e]
  exact k S .refl
abbrev ke(w:ax):Prop:=∀{S:ay} {js us:Vs} {ds:List (Str×Bd)} {i:Nat} {z:Str} {t:Bd} {v:PV} {Q:bA} {E:bZ},js.length<=1000->ds[i]?=some (z,t)->t.good js us->aR t v=true->cA (2 ^ 60) v=true->t.dep<=6->(∀S',Ext S S'->Q (t.FQ js v).pv S')->w [j7 js ds,.int i,v] S Q E
def II{xt:ax}(IH:iq 6 xt):ke (aU 3 (oq xt)):=by
 intro S js us ds i z t v Q E hj hi hg hv hb hd k
 unfold oq
 refine dG ?_
 rw[show aw 3 [j7 js ds,.int i,v]=[some (.tup [gr js,.tup (ds.map gS)]),some (.int i),some v] from rfl]
 walk_at "x"
 simp only[bW,cM]
 rw[bX (v:=gS (z,t)) (by rw[List.getElem?_map,hi];rfl)]
 unfold gS
 simp only[cM]
 exact IH hj hg hv hb hd k
section
variable {js us:Vs} (hj:∀z∈js,IsW z) (hu:∀z∈us,IsW z)
include hj hu
end
abbrev Qs:=Str->Bool
noncomputable def mq(hs:Vs):Qs:=fun z=>decide (z∈hs)
noncomputable def Bd.shut(q:Qs):Bd->Nat->Bool
 | .FC z _ _ _,0=>!q z
 |_,_=>false
noncomputable def Bd.Gq(q:Qs)(t:Bd)(r:Bool):List (Bd×Bool):=t.sides.mapIdx fun i s=>(s,r&&!t.shut q i)
noncomputable def Bd.pr(q:Qs):Bd->Bool->List (Bd×Bool)
 | .rest,r=>[(.rest,r)]
 | .pay x y,r=>[(.pay x y,r)]
 | .put z m,r=>[(.put z m,r)]
 | .use z,r=>[(.use z,r)]
 | .Fz a,r=>(.Fz a,r)::a.pr q r
 | .Fw a b,r=>(.Fw a b,r)::(a.pr q r++b.pr q r)
 | .FE a b,r=>(.FE a b,r)::(a.pr q r++b.pr q r)
 | .FC z m a b,r=>(.FC z m a b,r)::(a.pr q (r&&q z)++b.pr q r)
def Bd.KY(q:Qs)(t:Bd)(r:Bool):t.pr q r=(t,r)::(t.Gq q r).flatMap fun p=>p.1.pr q p.2:=by
 cases t with
 |rest=>rfl
 |pay x y=>rfl
 |put z m=>rfl
 |use z=>rfl
 |Fz a=>show _=_::(a.pr q (r&&!false)++[]);rw[Bool.not_false,Bool.and_true,List.append_nil];rfl
 |Fw a b=>show _=_::(a.pr q (r&&!false)++(b.pr q (r&&!false)++[]));rw[Bool.not_false,Bool.and_true,List.append_nil];rfl
 |FE a b=>show _=_::(a.pr q (r&&!false)++(b.pr q (r&&!false)++[]));rw[Bool.not_false,Bool.and_true,List.append_nil];rfl
 |FC z m a b=>show _=_::(a.pr q (r&&!(!q z))++(b.pr q (r&&!false)++[]));rw[Bool.not_not,Bool.not_false,Bool.and_true,List.append_nil];rfl
theorem Bd.GB(q:Qs):∀(t:Bd) (r:Bool),(t.pr q r).length=t.size
 | .rest,_=>rfl
 | .pay _ _,_=>rfl
 | .put _ _,_=>rfl
 | .use _,_=>rfl
 | .Fz a,r=>by show(a.pr q r).length+1=a.size+1;rw[a.GB q r]
 | .Fw a b,r=>by show(a.pr q r++b.pr q r).length+1=a.size+b.size+1;rw[List.length_append,a.GB q r,b.GB q r]
 | .FE a b,r=>by show(a.pr q r++b.pr q r).length+1=a.size+b.size+1;rw[List.length_append,a.GB q r,b.GB q r]
 | .FC z m a b,r=>by show(a.pr q (r&&q z)++b.pr q r).length+1=a.size+b.size+1;rw[List.length_append,a.GB q _,b.GB q r]
noncomputable def Bd.Fx(q:Qs):Bd->List Str
 | .rest=>[]
 | .pay _ _=>[]
 | .put z _=>[z]
 | .use _=>[]
 | .Fz a=>a.Fx q
 | .Fw a b=>a.Fx q++b.Fx q
 | .FE a b=>a.Fx q++b.Fx q
 | .FC z _ a b=>(if q z then a.Fx q else [])++b.Fx q
theorem Bd.Gn(q:Qs):∀(t:Bd) (u:Bd),(u,true) ∉ t.pr q false
 | .rest,u=>by simp[Bd.pr]
 | .pay _ _,u=>by simp[Bd.pr]
 | .put _ _,u=>by simp[Bd.pr]
 | .use _,u=>by simp[Bd.pr]
 | .Fz a,u=>by
  show _ ∉ _::a.pr q false
  rw[List.mem_cons,not_or];exact⟨by simp,a.Gn q u⟩
 | .Fw a b,u=>by
  show _ ∉ _::(a.pr q false++b.pr q false)
  rw[List.mem_cons,not_or,List.mem_append,not_or];exact⟨by simp,a.Gn q u,b.Gn q u⟩
 | .FE a b,u=>by
  show _ ∉ _::(a.pr q false++b.pr q false)
  rw[List.mem_cons,not_or,List.mem_append,not_or];exact⟨by simp,a.Gn q u,b.Gn q u⟩
 | .FC z m a b,u=>by
  show _ ∉ _::(a.pr q (false&&q z)++b.pr q false)
  rw[Bool.false_and,List.mem_cons,not_or,List.mem_append,not_or];exact⟨by simp,a.Gn q u,b.Gn q u⟩
theorem Bd.F9(q:Qs){z:Str}:∀(t:Bd),z∈t.Fx q↔∃m,(Bd.put z m,true)∈t.pr q true
 | .rest=>by simp[Bd.Fx,Bd.pr]
 | .pay _ _=>by simp[Bd.Fx,Bd.pr]
 | .put y m=>by
  show z∈[y]↔∃n,(Bd.put z n,true)∈[(Bd.put y m,true)]
  simp only[List.mem_singleton,Prod.mk.injEq,Bd.put.injEq,and_true]
  exact⟨fun h=>⟨m,h,rfl⟩,fun⟨_,h,_⟩=>h⟩
 | .use _=>by simp[Bd.Fx,Bd.pr]
 | .Fz a=>by
  show z∈a.Fx q↔∃m,(Bd.put z m,true)∈(Bd.Fz a,true)::a.pr q true
  rw[a.F9 q];simp
 | .Fw a b=>by
  show z∈a.Fx q++b.Fx q↔∃m,(Bd.put z m,true)∈(Bd.Fw a b,true)::(a.pr q true++b.pr q true)
  rw[List.mem_append,a.F9 q,b.F9 q];simp[exists_or]
 | .FE a b=>by
  show z∈a.Fx q++b.Fx q↔∃m,(Bd.put z m,true)∈(Bd.FE a b,true)::(a.pr q true++b.pr q true)
  rw[List.mem_append,a.F9 q,b.F9 q];simp[exists_or]
 | .FC y m a b=>by
  show z∈(if q y=true then a.Fx q else [])++b.Fx q↔∃n,(Bd.put z n,true)∈(Bd.FC y m a b,true)::(a.pr q (true&&q y)++b.pr q true)
  rw[List.mem_append,b.F9 q]
  cases h:q y with
  |true=>rw[if_pos rfl,a.F9 q];simp[exists_or]
  |false=>
   rw[if_neg (by decide)]
   have f:=a.Gn q
   simp[f]
theorem Bd.F3{q p:Qs}(h:∀z,q z=true->p z=true){z:Str}:∀t:Bd,z∈t.Fx q->z∈t.Fx p
 | .rest,e=>e
 | .pay _ _,e=>e
 | .put _ _,e=>e
 | .use _,e=>e
 | .Fz a,e=>a.F3 h e
 | .Fw a b,e=>List.mem_append.mpr ((List.mem_append.mp e).imp (a.F3 h) (b.F3 h))
 | .FE a b,e=>List.mem_append.mpr ((List.mem_append.mp e).imp (a.F3 h) (b.F3 h))
 | .FC y m a b,e=>by
  rcases List.mem_append.mp (show z∈(if q y=true then a.Fx q else [])++b.Fx q from e)with e|e
  ·by_cases hq:q y=true
   ·rw[if_pos hq]at e
    exact List.mem_append.mpr (.inl (by show z∈(if p y=true then a.Fx p else []);rw[if_pos (h y hq)];exact a.F3 h e))
   ·rw[if_neg hq]at e;cases e
  ·exact List.mem_append.mpr (.inr (b.F3 h e))
theorem Bd.FR{q:Qs}{js us:Vs}{z:Str}:∀t:Bd,t.good js us->z∈t.Fx q->z∈js
 | .rest,_,e=>by cases e
 | .pay _ _,_,e=>by cases e
 | .put _ _,g,e=>by rw[List.mem_singleton.mp e];exact g.1
 | .use _,_,e=>by cases e
 | .Fz a,g,e=>a.FR g e
 | .Fw a b,g,e=>(List.mem_append.mp e).elim (a.FR g.1) (b.FR g.2)
 | .FE a b,g,e=>(List.mem_append.mp e).elim (a.FR g.1) (b.FR g.2)
 | .FC y m a b,g,e=>by
  rcases List.mem_append.mp (show z∈(if q y=true then a.Fx q else [])++b.Fx q from e)with e|e
  ·by_cases hq:q y=true
   ·rw[if_pos hq]at e;exact a.FR g.2.2.2.1 e
   ·rw[if_neg hq]at e;cases e
  ·exact b.FR g.2.2.2.2 e
noncomputable def FS(q:Qs)(ds:List (Str×Bd)):List Str:=ds.flatMap fun p=>p.2.Fx q
def l4{q p:Qs}(h:∀z,q z=true->p z=true){ds:List (Str×Bd)}{z:Str}(e:z∈FS q ds):z∈FS p ds:=by
 obtain⟨d,hd,e⟩:=List.mem_flatMap.mp e
 exact List.mem_flatMap.mpr ⟨d,hd,d.2.F3 h e⟩
inductive Fs (ds:List (Str×Bd)):List Str->Prop
 |nil:Fs ds []
 |snoc {hs:Vs} {z:Str}:Fs ds hs->z∈FS (mq hs) ds->Fs ds (hs++[z])
noncomputable def held(ds:List (Str×Bd)):Nat->List Str
 |0=>[]
 |n+1=>FS (mq (held ds n)) ds
theorem jz:∀(hs js:Vs),hs.Nodup->(∀z∈hs,z∈js)->hs.length<=js.length
 |[],_,_,_=>Nat.zero_le _
 |z::r,js,hn,hj=>by
  have hz:=hj z (by simp)
  have h1:=jz r (js.erase z) (List.nodup_cons.mp hn).2 fun y hy=>(List.mem_erase_of_ne (fun e=>(List.nodup_cons.mp hn).1 (by rw[<-e];exact hy))).mpr (hj y (by simp[hy]))
  rw[List.length_erase_of_mem hz]at h1
  have:=List.length_pos_of_mem hz
  rw[List.length_cons]
  omega
def sG{a b:Vs}(h:∀z∈a,z∈b)(z:Str)(e:mq a z=true):mq b z=true:=decide_eq_true (h z (of_decide_eq_true e))
def yD{ds:List (Str×Bd)}{hs:Vs}(h:Fs ds hs):∀k,hs.length<=k->∀z∈hs,z∈held ds k:=by
 induction h with
 |nil=>intro k _ z hz;cases hz
 |@snoc hs y hf hy ih=>
  intro k hk z hz
  rw[List.length_append,List.length_singleton]at hk
  rcases List.mem_append.mp hz with hz|hz
  ·exact ih k (by omega) z hz
  ·rw[List.mem_singleton.mp hz]
   obtain⟨k,rfl⟩:∃m,k=m+1:=⟨k - 1,by omega⟩
   exact l4 (sG (ih k (by omega))) hy
theorem sH{ds:List (Str×Bd)}{hs:Vs}(cl:∀z∈FS (mq hs) ds,z∈hs):∀k,∀z∈held ds k,z∈hs
 |0,z,hz=>by cases hz
 |k+1,z,hz=>cl z (l4 (sG (sH cl k)) hz)
def yE{ds:List (Str×Bd)}{js hs:Vs}(h:Fs ds hs)(hn:hs.Nodup)(hj:∀z∈hs,z∈js)(cl:∀z∈FS (mq hs) ds,z∈hs):mq (held ds js.length)=mq hs:=by
 funext z
 exact decide_eq_decide.mpr ⟨sH cl _ z,yD h _ (jz hs js hn hj) z⟩
noncomputable def fQ(p:Bd×Bool):PV:=.tup [p.1.pv,.bl p.2]
def l5(js:Vs):Prop:=∀z∈js,PyData.strOk z=true
abbrev l8(n:Nat)(w:ax):Prop:=∀{S:ay} {t:Bd} {js us hs:Vs} {nm:Addr} {r:Bool} {Q:bA} {E:bZ},t.dep<=n->t.size<=900->t.good js us->l5 js->l5 hs->S nm=some (.lst (hs.map PV.str))->
  (∀p S',S p=none->Ext S S'->S' p=some (.lst ((t.pr (mq hs) r).map fQ))->Q (.ref p) S')->w [t.pv,.ref nm,.bl r] S Q E
def Bd.JJ{js us:Vs}{t s:Bd}(g:t.good js us)(h:s∈t.sides):s.good js us:=by
 cases t with
 |rest=>cases h
 |pay x y=>cases h
 |put z m=>cases h
 |use z=>cases h
 |Fz a=>rw[List.mem_singleton.mp h];exact g
 |Fw a b=>
  rcases List.mem_cons.mp h with rfl|h
  ·exact g.1
  ·rw[List.mem_singleton.mp h];exact g.2
 |FE a b=>
  rcases List.mem_cons.mp h with rfl|h
  ·exact g.1
  ·rw[List.mem_singleton.mp h];exact g.2
 |FC z m a b=>
  rcases List.mem_cons.mp h with rfl|h
  ·exact g.2.2.2.1
  ·rw[List.mem_singleton.mp h];exact g.2.2.2.2
def Bd.Lq(t:Bd):t.hd=("take":Str)↔∃z m a b,t = .FC z m a b:=by cases t<;>simp[Bd.hd,aA]
def yF{t:Bd}{js us hs:Vs}{nm:Addr}{S:ay}{i:Nat}{x2 x3 x5 x6:Option PV}{Q:bA}(g:t.good js us)(hj:l5 js)(hh:l5 hs)(hn:S nm=some (.lst (hs.map PV.str)))(q:Q (.bl (t.shut (mq hs) i)) S) :
  bH (af (aV false) (af ac (v3 0) (c3 (.int 0))) (c3 (.str "take"))) (bH (af (aV false) (v3 4) (c3 (.int 0))) (af (jU true) (af ac (v3 0) (c3 (.int 1))) (v3 1))) [some t.pv,some (.ref nm),x2,x3,some (.int (i:Int)),x5,x6] S Q dO:=by
 rw[Bd.Hd]
 simp only[bH,af,v3,lk,c3,ac,bW,aV,Bool.false_bne]
 by_cases h:t.hd=("take":Str)
 ·obtain⟨z,m,a,b,rfl⟩:=(Bd.Lq t).mp h
  rw[decide_eq_true h,if_pos rfl]
  cases i with
  |zero=>
   rw[decide_eq_true (show((0:Nat):Int)=0 from rfl),if_pos rfl]
   simp only[Bd.tl,cM]
   refine eG hn (hj z g.1) hh ?_
   rw[show(true != decide (z∈hs))=Bd.shut (mq hs) (Bd.FC z m a b) 0 by show _=!decide (z∈hs);cases decide (z∈hs)<;>rfl]
   exact q
  |succ i=>
   rw[decide_eq_false (show ¬(((i+1:Nat):Int)=0) by omega),if_neg (by decide)]
   exact q
 ·rw[decide_eq_false h,if_neg (by decide)]
  have e:t.shut (mq hs) i=false:=by cases t<;>first|rfl|exact absurd rfl h
  rw[e]at q
  exact q
def Jy{xs s0:ax}(Hk:io xs)(n:Nat)(ih:l8 n s0):l8 (n+1) (aU 7 (dJ xs s0)):=by
 intro S t js us hs nm r Q E hd Me hg hj hh hn k
 unfold dJ
 refine dG ?_
 rw[show aw 7 [t.pv,.ref nm,.bl r]=[some t.pv,some (.ref nm),some (.bl r),none,none,none,none] from rfl]
 refine al fun N hN=>?_
 walk_at "x"
 intro p hp
 have X0:Ext S (Fr S p (.lst [.tup [t.pv,.bl r]])):=.new hp
 have hp0:(Fr S p (.lst [.tup [t.pv,.bl r]])) p=some (.lst [.tup [t.pv,.bl r]]):=aa
 generalize Fr S p (.lst [.tup [t.pv,.bl r]])=S0 at X0 hp0
 refine hN _ _ (al fun N hN=>?_)
 simp only[bO,dB,ab,ao,v3,lk]
 refine Hk ?_
 dsimp only
 have hps:(t.Gq (mq hs) r).length=t.sides.length:=List.length_mapIdx
 refine bw (fun done σ S'=>∃(x4 x5 x6:Option PV),σ=[some t.pv,some (.ref nm),some (.bl r),some (.ref p),x4,x5,x6]/\Ext S S'/\done.length<=t.sides.length/\S' p=some (.lst (((t,r)::((t.Gq (mq hs) r).take done.length).flatMap fun p=>p.1.pr (mq hs) p.2).map fQ))) ⟨_,_,_,rfl,X0,Nat.zero_le _,hp0⟩ (fun _ _ _ _=>trivial) ?_ ?_
 ·rintro done x rest σ S1 K e ⟨x4,x5,x6,rfl,X1,hl,h1⟩ hK
  obtain⟨y,rfl,hy⟩:=fu e
  rw[List.getElem?_map]at hy
  cases hs':t.sides[done.length]? with
  |none=>rw[hs']at hy;cases hy
  |some s=>
  rw[hs']at hy
  cases hy
  have hlt:done.length < t.sides.length:=(List.getElem?_eq_some_iff.mp hs').1
  have hr:s∈t.sides:=List.mem_of_getElem? hs'
  have hrd:=Bd.Jx hr
  have hn1:=X1 _ _ hn
  have hq:(t.Gq (mq hs) r)[done.length]?=some (s,r&&!t.shut (mq hs) done.length):=by unfold Bd.Gq;rw[List.getElem?_mapIdx,hs'];rfl
  simp only[Tg.put,Tg.Fx,List.set_cons_succ,List.set_cons_zero]
  refine al fun N2 GA=>?_
  simp only[av]
  refine yF hg hj hh hn1 ?_
  simp only[List.set_cons_succ,List.set_cons_zero]
  refine GA _ _ ?_
  simp only[aN,d4,n5,ao,ab,v3,lk,h1,true_and,bH,kC]
  have go:∀Q':bA,(∀q S2,S1 q=none->Ext S1 S2->S2 q=some (.lst ((s.pr (mq hs) (r&&!t.shut (mq hs) done.length)).map fQ))->Q' (.ref q) S2)->s0 [s.pv,.ref nm,.bl (r&&!t.shut (mq hs) done.length)] S1 Q' dO:=fun Q' k'=>ih (by omega) (by omega) (Bd.JJ hg hr) hj hh hn1 k'
  have tail:∀q S2,S1 q=none->Ext S1 S2->S2 q=some (.lst ((s.pr (mq hs) (r&&!t.shut (mq hs) done.length)).map fQ))->aZ (.ref p) [.ref q] S2 (fun _ S3=>K [some t.pv,some (.ref nm),some (.bl r),some (.ref p),some (.int (done.length:Int)),some s.pv,some (.bl (t.shut (mq hs) done.length))] S3):=fun q S2 hq2 X2 h2=>by
   simp only[aZ,X2 _ _ h1,h2]
   have et:((t.Gq (mq hs) r).take (done.length+1)).flatMap (fun p=>p.1.pr (mq hs) p.2)=((t.Gq (mq hs) r).take done.length).flatMap (fun p=>p.1.pr (mq hs) p.2)++s.pr (mq hs) (r&&!t.shut (mq hs) done.length):=by
    rw[List.take_succ,hq,List.flatMap_append];simp
   have ln:((t,r)::((t.Gq (mq hs) r).take (done.length+1)).flatMap fun p=>p.1.pr (mq hs) p.2).length<=t.size:=by
    rw[<-Bd.GB (mq hs) t r,Bd.KY]
    rw[List.length_cons,List.length_cons]
    have:(t.Gq (mq hs) r).flatMap (fun p=>p.1.pr (mq hs) p.2)=((t.Gq (mq hs) r).take (done.length+1)).flatMap (fun p=>p.1.pr (mq hs) p.2)++((t.Gq (mq hs) r).drop (done.length+1)).flatMap (fun p=>p.1.pr (mq hs) p.2):=by rw[<-List.flatMap_append,List.take_append_drop]
    rw[this,List.length_append]
    omega
   rw[List.length_cons,et,List.length_append]at ln
   refine⟨cI (by simp only[List.length_map,List.length_cons];omega),?_⟩
   refine hK _ _ ⟨_,_,_,rfl,(X1.trans X2).put hp,by rw[List.length_append];exact hlt,?_⟩
   rw[aa,List.length_append,List.length_singleton,et,<-List.map_append]
   rfl
  cases r with
  |true=>rw[if_pos rfl];exact go _ tail
  |false=>rw[if_neg (by decide)];exact go _ tail
 ·rintro σ S1 ⟨x4,x5,x6,rfl,X1,hl,h1⟩
  refine hN _ _ ?_
  walk_at "x"
  refine k p S1 hp X1 ?_
  rw[h1,Bd.KY]
  have:(L3.aK (t.sides.map Bd.pv)).length=(t.Gq (mq hs) r).length:=by unfold L3.aK;rw[List.length_mapIdx,List.length_map,hps]
  rw[this,List.take_length]
structure HG (js:Vs) (ds:List (Str×Bd)):Prop where
 jw:l5 js
 jl:js.length<=1000
 dl:ds.length<=1000
 gd:∀p∈ds,p.2.good js []
 dp:∀p∈ds,p.2.dep<=6
 sz:∀p∈ds,p.2.size<=60
abbrev l9(w:ax):Prop:=∀{S:ay} {js hs:Vs} {ds:List (Str×Bd)} {nm:Addr} {Q:bA} {E:bZ},HG js ds->l5 hs->S nm=some (.lst (hs.map PV.str))->
  (∀S',Ext S S'->(∀z∈FS (mq hs) ds,z∈hs)->Q .non S')->
  (∀(k:Nat) z d tr S',Ext S S'->js[k]?=some z->z∈FS (mq hs) ds->z ∉ hs->Q (.tup [.int (k:Int),d,tr]) S')->w [j7 js ds,.ref nm] S Q E
def v_{js:Vs}{z:Str}(h:z∈js):∃k:Nat,js[k]?=some z/\∀j:Nat,j < k->js[j]?≠some z:=by
 induction js with
 |nil=>cases h
 |cons x r ih=>
  by_cases e:x=z
  ·subst e;exact⟨0,rfl,fun j hj=>absurd hj (Nat.not_lt_zero _)⟩
  ·obtain⟨k,h1,h2⟩:=ih ((List.mem_cons.mp h).resolve_left (Ne.symm e))
   refine⟨k+1,by simpa using h1,fun j hj=>?_⟩
   cases j with
   |zero=>simpa using e
   |succ j=>simpa using h2 j (by omega)
def Jb{xp xl:ax}(Jy:l8 6 xp)(Lr:jy 6 xl):l9 (aU 7 (gQ xp xl)):=by
 intro S js hs ds nm Q E hg hh hn k0 k1
 unfold gQ
 refine dG ?_
 rw[show aw 7 [j7 js ds,.ref nm]=[some (.tup [gr js,.tup (ds.map gS)]),some (.ref nm),none,none,none,none,none] from rfl]
 refine al fun N hN=>?_
 simp only[bO,dB,af,v3,lk,c3,ac,cM]
 refine bw (fun done σ S'=>∃(x2 x3 x4 x5 x6:Option PV),σ=[some (.tup [gr js,.tup (ds.map gS)]),some (.ref nm),x2,x3,x4,x5,x6]/\Ext S S'/\done.length<=ds.length/\∀p∈ds.take done.length,∀z∈p.2.Fx (mq hs),z∈hs) ⟨_,_,_,_,_,rfl,.refl,Nat.zero_le _,by simp⟩ (fun _ _ _ _=>trivial) ?_ ?_
 ·rintro done x rest σ S1 K e ⟨x2,x3,x4,x5,x6,rfl,X1,hl,hd⟩ hK
  obtain⟨y,rfl,hy⟩:=fu e
  rw[List.getElem?_map]at hy
  cases hs':ds[done.length]? with
  |none=>rw[hs']at hy;cases hy
  |some p=>
  rw[hs']at hy
  cases hy
  obtain⟨dn,t⟩:=p
  have hlt:done.length < ds.length:=(List.getElem?_eq_some_iff.mp hs').1
  have hm:(dn,t)∈ds:=List.mem_of_getElem? hs'
  have hn1:=X1 _ _ hn
  simp only[Tg.put,Tg.Fx,List.set_cons_succ,List.set_cons_zero]
  simp only[j3,ao,af,v3,lk,c3,ac,gS,cM,List.cons_append,List.nil_append]
  refine Jy (hg.dp _ hm) (by have:t.size<=60:=hg.sz _ hm;omega) (hg.gd _ hm) hg.jw hh hn1 fun pl S2 hpl X2 h2=>?_
  simp only[h2]
  have hn2:=X2 _ _ hn1
  refine bw (fun F4 σ S'=>∃(x4 x5 x6:Option PV),σ=[some (.tup [gr js,.tup (ds.map gS)]),some (.ref nm),some (.int (done.length:Int)),some (.tup [.str dn,t.pv]),x4,x5,x6]/\S'=S2/\∀z m,(Bd.put z m,true)∈(t.pr (mq hs) true).take F4.length->z∈hs) ⟨_,_,_,rfl,rfl,by simp⟩ (fun _ _ _ ⟨_,_,_,_,h,_⟩=>by rw[h];exact h2) ?_ ?_
  ·rintro F4 x KZ σ S3 K2 e2 ⟨y4,y5,y6,rfl,rfl,hd2⟩ M8
   obtain⟨y,rfl,hy⟩:=fu e2
   rw[List.getElem?_map]at hy
   cases hu:(t.pr (mq hs) true)[F4.length]? with
   |none=>rw[hu]at hy;cases hy
   |some u=>
   rw[hu]at hy
   cases hy
   obtain⟨u,f⟩:=u
   have hup:F4.length < t.size:=by rw[<-Bd.GB (mq hs) t true];exact(List.getElem?_eq_some_iff.mp hu).1
   have L0:(u,f)∈t.pr (mq hs) true:=List.mem_of_getElem? hu
   have cont:(f=true->∀z m,u=Bd.put z m->z∈hs)->∀(S':ay) (x6:Option PV),S'=S3->K2 [some (.tup [gr js,.tup (ds.map gS)]),some (.ref nm),some (.int (done.length:Int)),some (.tup [.str dn,t.pv]),some (.int (F4.length:Int)),some (fQ (u,f)),x6] S':=fun hc S' x6 eS=>M8 _ _ ⟨_,_,_,rfl,eS,fun z m hz=>by
    rw[List.length_append,List.length_singleton,List.take_succ,hu,List.mem_append]at hz
    rcases hz with hz|hz
    ·exact hd2 z m hz
    ·have:(Bd.put z m,true)=(u,f):=by simpa using hz
     cases this
     exact hc rfl z m rfl⟩
   simp only[Tg.put,Tg.Fx,List.set_cons_succ,List.set_cons_zero]
   refine al fun N3 LF=>?_
   simp only[av,af,v3,lk,c3,ac,fQ,bW,List.set_cons_succ,List.set_cons_zero]
   refine LF _ _ ?_
   simp only[bt,fi,aJ,af,v3,lk,c3,ac,cM]
   cases f with
   |false=>
    rw[if_neg (by decide),if_neg (by decide)]
    exact cont (fun h=>by cases h) _ _ rfl
   |true=>
   rw[if_pos rfl,Bd.Hd]
   simp only[bW,cM,aV,Bool.false_bne,decide_eq_true_eq]
   by_cases Jc:u.hd=("put":Str)
   ·obtain⟨z,m,rfl⟩:=(Bd.JI u).mp Jc
    rw[if_pos Jc]
    have hz:z∈t.Fx (mq hs):=(Bd.F9 (mq hs) t).mpr ⟨m,L0⟩
    have Ls:z∈js:=t.FR (hg.gd _ hm) hz
    simp only[Bd.tl,cM]
    refine eG hn2 (hg.jw z Ls) hh ?_
    by_cases hin:z∈hs
    ·simp only[hin,decide_true,Bool.true_bne,Bool.not_true,Bool.false_eq_true,if_false]
     exact cont (fun _ z' m' e=>by cases e;exact hin) _ _ rfl
    ·simp only[hin,decide_false,Bool.true_bne,Bool.not_false,if_true]
     obtain⟨kk,hk1,hk2⟩:=v_ Ls
     simp only[au,az,ao,A5,af,v3,lk,c3,ac,bW,cM,gr,k8,lJ]
     refine⟨kk,hk1,hk2,?_⟩
     simp only[ab,ao,af,v3,lk,c3,ac,cM,az]
     refine Lr (hg.dp _ hm) (by have:t.size<=60:=hg.sz _ hm;omega) hup fun S4 X4=>?_
     exact k1 kk z _ _ S4 (X1.trans (X2.trans X4)) hk1 (List.mem_flatMap.mpr ⟨_,hm,hz⟩) hin
   ·rw[if_neg Jc,if_neg (by decide),<-Bd.Hd]
    exact cont (fun _ z m e=>absurd (by rw[e];rfl) Jc) _ _ rfl
  ·rintro σ S3 ⟨y4,y5,y6,rfl,rfl,hd2⟩
   have ln:(L3.aK ((t.pr (mq hs) true).map fQ)).length=(t.pr (mq hs) true).length:=by unfold L3.aK;rw[List.length_mapIdx,List.length_map]
   rw[ln,List.take_length]at hd2
   refine hK _ _ ⟨_,_,_,_,_,rfl,X1.trans X2,by rw[List.length_append];exact hlt,fun p hp z hz=>?_⟩
   rw[List.length_append,List.length_singleton,List.take_succ,hs',List.mem_append]at hp
   rcases hp with hp|hp
   ·exact hd p hp z hz
   ·have:p=(dn,t):=by simpa using hp
    subst this
    obtain⟨m,hm'⟩:=(Bd.F9 (mq hs) t).mp hz
    exact hd2 z m hm'
 ·rintro σ S1 ⟨x2,x3,x4,x5,x6,rfl,X1,hl,hd⟩
  refine hN _ _ ?_
  have ln:(L3.aK (ds.map gS)).length=ds.length:=by unfold L3.aK;rw[List.length_mapIdx,List.length_map]
  rw[ln,List.take_length]at hd
  walk_at "x"
  refine k0 S1 X1 fun z hz=>?_
  obtain⟨p,hp,hz⟩:=List.mem_flatMap.mp hz
  exact hd p hp z hz
def qh(js:Vs)(v:PV)(z:Str):Prop:=∃(k:Nat) (d tr:PV),v = .tup [.int (k:Int),d,tr]/\js[k]?=some z
abbrev kH(w:ax):Prop:=∀{S:ay} {js:Vs} {ds:List (Str×Bd)} {Q:bA} {E:bZ},HG js ds->
  (∀p (vs:List PV) (hs:Vs) S',S p=none->Ext S S'->S' p=some (.lst vs)->vs.length=hs.length->(∀(j:Nat) v z,vs[j]?=some v->hs[j]?=some z->qh js v z)->Fs ds hs->hs.Nodup->(∀z∈hs,z∈js)->(∀z∈FS (mq hs) ds,z∈hs)->Q (.ref p) S')->w [j7 js ds] S Q E
def HJ{xn:ax}(Jb:l9 xn):kH (aU 4 (j4 xn)):=by
 intro S js ds Q E hg k
 unfold j4
 refine dG ?_
 rw[show aw 4 [j7 js ds]=[some (j7 js ds),none,none,none] from rfl]
 refine al fun N hN=>?_
 walk_at "x"
 intro pf hpf
 refine hN _ _ (al fun N hN=>?_)
 walk_at "x"
 intro pn Mk
 have M9:pf≠pn:=fun e=>by rw[<-e,aa]at Mk;cases Mk
 have X0:Ext S (Fr (Fr S pf (.lst [])) pn (.lst [])):=(Ext.new hpf).trans (.new Mk)
 have f0:(Fr (Fr S pf (.lst [])) pn (.lst [])) pf=some (.lst []):=by rw[ap M9,aa]
 have n0:(Fr (Fr S pf (.lst [])) pn (.lst [])) pn=some (.lst ([].map PV.str)):=aa
 have M_:S pn=none:=(Ext.new hpf).free Mk
 generalize Fr (Fr S pf (.lst [])) pn (.lst [])=S0 at X0 f0 n0
 refine hN _ _ (al fun N hN=>?_)
 -- what holds L4 the next step is known
 have I0:∀(v:PV) (S1:ay) (vs:List PV) (hs:Vs) (N':cC->ay->Prop),True:=fun _ _ _ _ _=>trivial
 have NT:∀(S1:ay) (vs:List PV) (hs:Vs) (R:PV->ay->Prop),Ext S S1->S1 pf=some (.lst vs)->S1 pn=some (.lst (hs.map PV.str))->vs.length=hs.length->(∀(j:Nat) v z,vs[j]?=some v->hs[j]?=some z->qh js v z)->Fs ds hs->hs.Nodup->(∀z∈hs,z∈js)->
   (∀v S2,Ext S S2->S2 pf=some (.lst vs)->S2 pn=some (.lst (hs.map PV.str))->((v = .non/\∀z∈FS (mq hs) ds,z∈hs)\/(∃z,qh js v z/\z∈FS (mq hs) ds/\z ∉ hs/\z∈js))->R v S2)->xn [j7 js ds,.ref pn] S1 R dO:=by
  intro S1 vs hs R X1 f1 n1 h1 h2 h3 h4 h5 kk
  refine Jb hg (fun z hz=>hg.jw z (h5 z hz)) n1 (fun S2 X2 cl=>kk _ S2 (X1.trans X2) (X2 _ _ f1) (X2 _ _ n1) (.inl ⟨rfl,cl⟩)) fun kx z d tr S2 X2 a1 a2 a3=>?_
  exact kk _ S2 (X1.trans X2) (X2 _ _ f1) (X2 _ _ n1) (.inr ⟨z,⟨kx,d,tr,rfl,a1⟩,a2,a3,List.mem_of_getElem? a1⟩)
 simp only[av,ab,ao,v3,lk]
 refine NT S0 [] [] _ X0 f0 n0 rfl (fun j v z h=>by cases h) .nil List.nodup_nil (fun z h=>by cases h) fun v0 S1 X1 f1 n1 c1=>?_
 simp only[List.set_cons_succ,List.set_cons_zero]
 refine hN _ _ (al fun N hN=>?_)
 refine⟨fun m σ S'=>∃(v:PV) (vs:List PV) (hs:Vs),σ=[some (j7 js ds),some (.ref pf),some (.ref pn),some v]/\Ext S S'/\S' pf=some (.lst vs)/\S' pn=some (.lst (hs.map PV.str))/\vs.length=hs.length/\(∀(j:Nat) v z,vs[j]?=some v->hs[j]?=some z->qh js v z)/\Fs ds hs/\hs.Nodup/\(∀z∈hs,z∈js)/\
   ((v = .non/\∀z∈FS (mq hs) ds,z∈hs)\/(∃z,qh js v z/\z∈FS (mq hs) ds/\z ∉ hs/\z∈js))/\js.length - hs.length=m,⟨_,v0,[],[],rfl,X1,f1,n1,rfl,(fun j v z h=>by cases h),.nil,List.nodup_nil,(fun z h=>by cases h),c1,rfl⟩,?_⟩
 rintro m σ S' ⟨v,vs,hs,rfl,X,f,nn,h1,h2,h3,h4,h5,c,rfl⟩
 rcases c with⟨rfl,cl⟩|⟨z,⟨kx,d,tr,rfl,hk⟩,hz,hnz,Ls⟩
 ·simp only[aJ,af,v3,lk,c3,ux,bne_self_eq_false,Bool.false_eq_true,if_false]
  refine hN _ _ ?_
  walk_at "x"
  exact k pf vs hs S' hpf X f h1 h2 h3 h4 h5 cl
 ·simp only[aJ,af,v3,lk,c3,ux,Bool.bne_false,if_true]
  refine⟨fun σ' JD=>∃(v:PV) (vs:List PV) (hs':Vs),σ'=[some (j7 js ds),some (.ref pf),some (.ref pn),some v]/\Ext S JD/\JD pf=some (.lst vs)/\JD pn=some (.lst (hs'.map PV.str))/\vs.length=hs'.length/\(∀(j:Nat) v z,vs[j]?=some v->hs'[j]?=some z->qh js v z)/\Fs ds hs'/\hs'.Nodup/\(∀z∈hs',z∈js)/\
   ((v = .non/\∀z∈FS (mq hs') ds,z∈hs')\/(∃z,qh js v z/\z∈FS (mq hs') ds/\z ∉ hs'/\z∈js))/\js.length - hs'.length < js.length - hs.length,?_,?_⟩
  ·rintro σ' JD ⟨v,vs,hs',rfl,a1,a2,a3,a4,a5,a6,a7,a8,a9,OP⟩
   exact⟨_,OP,v,vs,hs',rfl,a1,a2,a3,a4,a5,a6,a7,a8,a9,rfl⟩
  ·have hn1:(hs++[z]).Nodup:=List.nodup_append.mpr ⟨h4,by simp,fun a ha b hb e=>hnz (by rw[<-List.mem_singleton.mp hb,<-e];exact ha)⟩
   have hj1:∀y∈hs++[z],y∈js:=fun y hy=>(List.mem_append.mp hy).elim (h5 y) fun h=>by rw[List.mem_singleton.mp h];exact Ls
   have len:=jz (hs++[z]) js hn1 hj1
   have hjl:=hg.jl
   rw[List.length_append,List.length_singleton]at len
   refine al fun N2 GA=>?_
   walk_at "x"
   simp only[f,true_and]
   refine⟨Nat.lt_of_lt_of_le (show _ < 1001 by omega) (by decide),GA _ _ (al fun N2 GA=>?_)⟩
   have OQ:pn≠pf:=Ne.symm M9
   have Xa:Ext S (Fr S' pf (.lst (vs++[.tup [.int (kx:Int),d,tr]]))):=X.put hpf
   have fa:(Fr S' pf (.lst (vs++[.tup [.int (kx:Int),d,tr]]))) pf=some (.lst (vs++[.tup [.int (kx:Int),d,tr]])):=aa
   have na:(Fr S' pf (.lst (vs++[.tup [.int (kx:Int),d,tr]]))) pn=some (.lst (hs.map PV.str)):=by rw[ap OQ];exact nn
   generalize Fr S' pf (.lst (vs++[.tup [.int (kx:Int),d,tr]]))=Sa at Xa fa na
   rw[show j7 js ds = .tup [gr js,.tup (ds.map gS)] from rfl]
   walk_at "x"
   simp only[na,true_and,bW,gr]
   rw[bX (v:=PV.str z) (by rw[List.getElem?_map,hk];rfl)]
   simp only[na]
   refine⟨Nat.lt_of_lt_of_le (show _ < 1001 by rw[List.length_map];omega) (by decide),GA _ _ ?_⟩
   have Xb:Ext S (Fr Sa pn (.lst (hs.map PV.str++[.str z]))):=Xa.put M_
   have fb:(Fr Sa pn (.lst (hs.map PV.str++[.str z]))) pf=some (.lst (vs++[.tup [.int (kx:Int),d,tr]])):=by rw[ap M9];exact fa
   have nb:(Fr Sa pn (.lst (hs.map PV.str++[.str z]))) pn=some (.lst ((hs++[z]).map PV.str)):=by rw[aa,List.map_append];rfl
   generalize Fr Sa pn (.lst (hs.map PV.str++[.str z]))=Sb at Xb fb nb
   have st1:∀(j:Nat) v y,(vs++[.tup [.int (kx:Int),d,tr]])[j]?=some v->(hs++[z])[j]?=some y->qh js v y:=fun j v y hv hy=>by
    by_cases hj:j < vs.length
    ·rw[List.getElem?_append_left hj]at hv
     rw[List.getElem?_append_left (by omega)]at hy
     exact h2 j v y hv hy
    ·rw[List.getElem?_append_right (by omega)]at hv
     rw[List.getElem?_append_right (by omega)]at hy
     have e1:j - vs.length=0:=by
      have:=(List.getElem?_eq_some_iff.mp hv).1
      rw[List.length_singleton]at this
      omega
     have e2:j - hs.length=0:=by omega
     rw[e1]at hv
     rw[e2]at hy
     cases hv;cases hy
     exact⟨kx,d,tr,rfl,hk⟩
   simp only[av,ab,ao,v3,lk]
   refine NT Sb _ (hs++[z]) _ Xb fb nb (by simp[h1]) st1 (.snoc h3 hz) hn1 hj1 fun v2 S2 X2 f2 n2 c2=>?_
   simp only[List.set_cons_succ,List.set_cons_zero]
   exact⟨v2,_,hs++[z],rfl,X2,f2,n2,by simp[h1],st1,.snoc h3 hz,hn1,hj1,c2,by rw[List.length_append,List.length_singleton];omega⟩
def Kl(js:Vs)(ds:List (Str×Bd))(hs:Vs):Prop:=Fs ds hs/\hs.Nodup/\(∀z∈hs,z∈js)/\∀z∈FS (mq hs) ds,z∈hs
abbrev fR(w:ax):Prop:=∀{S:ay} {js:Vs} {ds:List (Str×Bd)} {Q:bA} {E:bZ},HG js ds->
  (∀p (hs:Vs) S',S p=none->Ext S S'->S' p=some (.lst (hs.map PV.str))->Kl js ds hs->Q (.ref p) S')->w [j7 js ds] S Q E
def qi{xf:ax}(HJ:kH xf):fR (aU 1 (i3 xf)):=by
 intro S js ds Q E hg k
 unfold i3
 refine dG ?_
 rw[show aw 1 [j7 js ds]=[some (j7 js ds)] from rfl]
 simp only[au,aQ,aO,ab,ao,v3,lk]
 refine HJ hg fun p vs hs S1 hp X1 h1 hl hst f1 f2 f3 f4=>?_
 have hjl:=hg.jl
 have hle:=jz hs js f2 f3
 simp only[bT,h1]
 have ev:vs=(vs.zip hs).map Prod.fst:=by rw[List.map_fst_zip];omega
 have eh:(vs.zip hs).map (fun z=>PV.str z.2)=hs.map PV.str:=by
  have:(vs.zip hs).map Prod.snd=hs:=by rw[List.map_snd_zip];omega
  calc _=((vs.zip hs).map Prod.snd).map PV.str:=by rw[List.map_map];rfl
   _=_:=by rw[this]
 have key:dC (.n 0) ci (af ac (af ac (v3 1) (c3 (.int 0))) (af ac (v3 0) (c3 (.int 0)))) (dE 1 [0] [some (j7 js ds)]) (fun S'=>S' p=some (.lst vs)) (fun ys S2=>∀p,S2 p=none->Q (.ref p) (Fr S2 p (.lst ys))) ((vs.zip hs).map Prod.fst) [] S1:=by
  refine bK Prod.fst (fun z=>PV.str z.2) h1 (vs.zip hs) [] (fun z hz=>?_) (by rw[List.length_nil,Nat.zero_add,List.length_zip];exact cI (by omega)) fun q hq=>?_
  ·obtain⟨j,hj⟩:=List.getElem?_of_mem hz
   obtain⟨e1,e2⟩:=List.getElem?_zip_eq_some.mp hj
   obtain⟨kx,d,tr,ez,hk⟩:=hst j _ _ e1 e2
   refine⟨_,rfl,fun Q' q'=>?_⟩
   rw[ez,show j7 js ds = .tup [gr js,.tup (ds.map gS)] from rfl]
   walk_at "x"
   simp only[bW,gr]
   rw[bX (v:=PV.str z.2) (by rw[List.getElem?_map,hk];rfl)]
   exact q'
  ·rw[List.nil_append,eh]
   exact k q hs _ (X1.free hq) (X1.trans (.new hq)) aa ⟨f1,f2,f3,f4⟩
 rw[<-ev]at key
 exact key
def Gf(p:Addr)(S S':ay):Prop:=∀a o,S a=some o->a≠p->S' a=some o
def Gf.refl{p:Addr}{S:ay}:Gf p S S:=fun _ _ h _=>h
def Gf.trans{p:Addr}{S S1 S2:ay}(a:Gf p S S1)(b:Gf p S1 S2):Gf p S S2:=fun x o h n=>b x o (a x o h n) n
def Gf.upd{p:Addr}{S:ay}{o:SO}:Gf p S (Fr S p o):=fun x u h n=>by rw[ap n];exact h
theorem Bd.FK(q:Qs):∀t:Bd,(t.Fx q).length<=t.size
 | .rest=>Nat.zero_le _
 | .pay _ _=>Nat.zero_le _
 | .put _ _=>Nat.le_refl _
 | .use _=>Nat.zero_le _
 | .Fz a=>Nat.le_trans (a.FK q) (Nat.le_succ _)
 | .Fw a b=>by show(a.Fx q++b.Fx q).length<=a.size+b.size+1;rw[List.length_append];have:=a.FK q;have:=b.FK q;omega
 | .FE a b=>by show(a.Fx q++b.Fx q).length<=a.size+b.size+1;rw[List.length_append];have:=a.FK q;have:=b.FK q;omega
 | .FC z m a b=>by
  show((if q z=true then a.Fx q else [])++b.Fx q).length<=a.size+b.size+1
  rw[List.length_append]
  have:=a.FK q;have:=b.FK q
  split
  ·omega
  ·simp;omega
abbrev ir(n:Nat)(w:ax):Prop:=∀{S:ay} {t:Bd} {js us hs fs:Vs} {hl fd:Addr} {Q:bA} {E:bZ},t.dep<=n->t.good js us->l5 js->l5 hs->S hl=some (.lst (hs.map PV.str))->S fd=some (.lst (fs.map PV.str))->hl≠fd->fs.length+t.size<=1000000->
  (∀S',Gf fd S S'->S' fd=some (.lst ((fs++t.Fx (mq hs)).map PV.str))->Q .non S')->w [t.pv,.ref hl,.ref fd] S Q E
def rL:∀z∈(["then","either","take"]:Vs),PyData.strOk z=true:=by decide +kernel
def wa{s0:ax}(n:Nat)(ih:ir n s0):ir (n+1) (aU 3 (gP s0)):=by
 intro S t js us hs fs hl fd Q E hd hg hj hh h1 h2 hne hsz k
 unfold gP
 refine dG ?_
 rw[Bd.Hd,show aw 3 [.tup (.str t.hd::t.tl),.ref hl,.ref fd]=[some (.tup (.str t.hd::t.tl)),some (.ref hl),some (.ref fd)] from rfl]
 refine al fun N hN=>?_
 have leaf:∀S1:ay,t.hd≠("often":Str)->t.hd ∉ (["then","either","take"]:Vs)->Q .non S1->N [some (.tup (.str t.hd::t.tl)),some (.ref hl),some (.ref fd)] S1:=fun S1 ho h3 q=>by
  refine hN _ _ (al fun N hN=>?_)
  simp only[bt,aJ,af,v3,lk,c3,ac,bW,aV,Bool.false_bne,decide_eq_true_eq]
  rw[if_neg ho]
  refine hN _ _ ?_
  simp only[bt,aJ,af,v3,lk,c3,ac,bW,az,ao]
  rw[oD]
  refine bI t.Iu rL ?_
  simp only[h3,decide_false,Bool.false_bne,Bool.false_eq_true,if_false]
  exact q
 simp only[bt,aJ,af,v3,lk,c3,ac,bW,aV,Bool.false_bne,decide_eq_true_eq]
 by_cases Jc:t.hd=("put":Str)
 ·rw[if_pos Jc]
  obtain⟨z,m,rfl⟩:=(Bd.JI t).mp Jc
  simp only[aN,d4,n5,ao,af,v3,lk,c3,ac,cM,Bd.tl,bh,h2,true_and]
  have hs1:(Bd.put z m).size=1:=rfl
  refine⟨Nat.lt_of_lt_of_le (show _ < 1000001 by rw[List.length_map];omega) (by decide),leaf _ (by simp[Bd.hd,aA]) (by simp[Bd.hd,aA]) (k _ .upd ?_)⟩
  rw[aa,List.map_append]
  rfl
 rw[if_neg Jc]
 by_cases Km:t.hd=("often":Str)
 ·obtain⟨a,rfl⟩:=(Bd.IE t).mp Km
  refine hN _ _ (al fun N hN=>?_)
  simp only[bt,aJ,af,v3,lk,c3,ac,bW,aV,Bool.false_bne,decide_eq_true_eq]
  rw[if_pos Km]
  simp only[aN,ab,ao,af,v3,lk,c3,ac,cM,Bd.tl]
  simp only[Bd.dep]at hd
  have hs1:(Bd.Fz a).size=a.size+1:=rfl
  refine ih (by omega) hg hj hh h1 h2 hne (by omega) fun S1 X1 f1=>?_
  refine hN _ _ ?_
  simp only[bt,aJ,af,v3,lk,c3,ac,bW,az,ao]
  rw[oD]
  refine bI (Bd.Fz a).Iu rL ?_
  simp only[Bd.hd,aA,String.reduceEq,List.mem_cons,List.not_mem_nil,or_false,or_self,decide_false,Bool.false_bne,Bool.false_eq_true,if_false]
  exact k S1 X1 f1
 by_cases h3:t.hd∈(["then","either","take"]:Vs)
 ·refine hN _ _ (al fun N hN=>?_)
  simp only[bt,aJ,af,v3,lk,c3,ac,bW,aV,Bool.false_bne,decide_eq_true_eq]
  rw[if_neg Km]
  refine hN _ _ ?_
  simp only[bt,aJ,af,v3,lk,c3,ac,bW,az,ao]
  rw[oD]
  refine bI t.Iu rL ?_
  simp only[h3,decide_true,Bool.false_bne,if_true]
  refine al fun N2 GA=>?_
  -- the second side
  have snd:∀(hd2:List PV) (a b:Bd) (S1:ay) (Ml:Vs),(.str t.hd::t.tl)=hd2++[a.pv,b.pv]->b.dep<=n->b.good js us->Gf fd S S1->S1 fd=some (.lst (Ml.map PV.str))->Ml.length+b.size<=1000000->Ml++b.Fx (mq hs)=fs++t.Fx (mq hs)->N2 [some (.tup (.str t.hd::t.tl)),some (.ref hl),some (.ref fd)] S1:=fun hd2 a b S1 Ml e1 g1 g2 X1 f1 l1 e2=>by
   refine GA _ _ ?_
   simp only[aN,ab,ao,af,v3,lk,c3,ac,ik,b3]
   have e3:Gw (.str t.hd::t.tl) (-1)=some b.pv:=by rw[e1];have:=dr (a:=a.pv) (b:=b.pv) (hd:=hd2) (i:=1) (.inr rfl);simpa using this
   rw[e3]
   refine ih g1 g2 hj hh (X1 _ _ h1 hne) f1 hne l1 fun S2 X2 f2=>?_
   rw[e2]at f2
   exact k S2 (X1.trans X2) f2
  have fst:∀(hd2:List PV) (a b:Bd) (Q':bA),(.str t.hd::t.tl)=hd2++[a.pv,b.pv]->a.dep<=n->a.good js us->fs.length+a.size<=1000000->(∀S1,Gf fd S S1->S1 fd=some (.lst ((fs++a.Fx (mq hs)).map PV.str))->Q' .non S1)->ab s0 [af ac (v3 0) (ik b3 (c3 (.int 2))),v3 1,v3 2] [some (.tup (.str t.hd::t.tl)),some (.ref hl),some (.ref fd)] S Q' dO:=fun hd2 a b Q' e1 g1 g2 l1 kk=>by
   simp only[ab,ao,af,v3,lk,c3,ac,ik,b3]
   have e3:Gw (.str t.hd::t.tl) (-2)=some a.pv:=by rw[e1];have:=dr (a:=a.pv) (b:=b.pv) (hd:=hd2) (i:=0) (.inl rfl);simpa using this
   rw[e3]
   exact ih g1 g2 hj hh h1 h2 hne l1 kk
  simp only[bt,jb,aJ,af,v3,lk,c3,ac,bW,aV,Bool.true_bne,Bool.not_eq_true',decide_eq_false_iff_not,aN]
  have la:∀c:Bd,(c.Fx (mq hs)).length<=c.size:=Bd.FK (mq hs)
  cases t with
  |Fw a b=>
   have hs1:(Bd.Fw a b).size=a.size+b.size+1:=rfl
   simp only[Bd.dep]at hd
   rw[if_pos (by simp[Bd.hd,aA]),if_pos trivial]
   refine fst [.str "then"] a b _ rfl (by omega) hg.1 (by omega) fun S1 X1 f1=>?_
   exact snd [.str "then"] a b S1 _ rfl (by omega) hg.2 X1 f1 (by rw[List.length_append];have:=la a;omega) (by rw[List.append_assoc];rfl)
  |FE a b=>
   have hs1:(Bd.FE a b).size=a.size+b.size+1:=rfl
   simp only[Bd.dep]at hd
   rw[if_pos (by simp[Bd.hd,aA]),if_pos trivial]
   refine fst [.str "either"] a b _ rfl (by omega) hg.1 (by omega) fun S1 X1 f1=>?_
   exact snd [.str "either"] a b S1 _ rfl (by omega) hg.2 X1 f1 (by rw[List.length_append];have:=la a;omega) (by rw[List.append_assoc];rfl)
  |FC z m a b=>
   have hs1:(Bd.FC z m a b).size=a.size+b.size+1:=rfl
   have ep:(Bd.FC z m a b).Fx (mq hs)=(if mq hs z=true then a.Fx (mq hs) else [])++b.Fx (mq hs):=rfl
   simp only[Bd.dep]at hd
   rw[if_neg (by simp[Bd.hd])]
   simp only[Bd.tl,cM]
   refine eG h1 (hj z hg.1) hh ?_
   by_cases hin:z∈hs
   ·simp only[hin,decide_true,Bool.false_bne,if_true]
    rw[show mq hs z=true from decide_eq_true hin,if_pos rfl]at ep
    refine fst [.str "take",.str z,.int m] a b _ rfl (by omega) hg.2.2.2.1 (by omega) fun S1 X1 f1=>?_
    exact snd [.str "take",.str z,.int m] a b S1 _ rfl (by omega) hg.2.2.2.2 X1 f1 (by rw[List.length_append];have:=la a;omega) (by rw[ep,List.append_assoc])
   ·simp only[hin,decide_false,Bool.false_bne,Bool.false_eq_true,if_false]
    rw[show mq hs z=false from decide_eq_false hin,if_neg (by decide),List.nil_append]at ep
    exact snd [.str "take",.str z,.int m] a b S fs rfl (by omega) hg.2.2.2.2 .refl h2 (by omega) (by rw[ep])
  |_=>simp[Bd.hd,aA]at h3
 ·refine leaf S Km h3 (k S .refl ?_)
  have e:t.Fx (mq hs)=[]:=by cases t<;>first|rfl|exact absurd rfl Jc|exact absurd rfl Km|simp[Bd.hd]at h3
  rw[e,List.append_nil]
  exact h2
theorem nA{js:Vs}{ds:List (Str×Bd)}(hg:HG js ds)(q:Qs):∀n,n<=ds.length->(FS q (ds.take n)).length<=60 * n
 |0,_=>by simp[FS]
 |n+1,h=>by
  have ih:=nA hg q n (by omega)
  have hlt:n < ds.length:=by omega
  unfold FS at *
  rw[List.take_succ,List.getElem?_eq_getElem hlt,List.flatMap_append,List.length_append]
  have h1:=Bd.FK q ds[n].2
  have h2:ds[n].2.size<=60:=hg.sz _ (List.getElem_mem hlt)
  simp only[Option.toList_some,List.flatMap_cons,List.flatMap_nil,List.append_nil]
  omega
theorem sI{js:Vs}{ds:List (Str×Bd)}(hg:HG js ds):∀k,∀z∈held ds k,z∈js
 |0,z,h=>by cases h
 |k+1,z,h=>by
  obtain⟨p,hp,hz⟩:=List.mem_flatMap.mp h
  exact p.2.FR (hg.gd p hp) hz
abbrev kf(w:ax):Prop:=∀{S:ay} {js:Vs} {ds:List (Str×Bd)} {Q:bA} {E:bZ},HG js ds->(∀p S',S p=none->Ext S S'->S' p=some (.lst ((held ds js.length).map PV.str))->Q (.ref p) S')->w [j7 js ds] S Q E
def IJ{xp:ax}(KM:ir 6 xp):kf (aU 6 (dI xp)):=by
 intro S js ds Q E hg k
 unfold dI
 refine dG ?_
 rw[show aw 6 [j7 js ds]=[some (.tup [gr js,.tup (ds.map gS)]),none,none,none,none,none] from rfl]
 have hdl:=hg.dl
 refine al fun N hN=>?_
 walk_at "x"
 intro p0 hp0
 have X0:Ext S (Fr S p0 (.lst [])):=.new hp0
 have f0:(Fr S p0 (.lst [])) p0=some (.lst ((held ds 0).map PV.str)):=aa
 generalize Fr S p0 (.lst [])=S0 at X0 f0
 refine hN _ _ (al fun N hN=>?_)
 simp only[bO,aO,af,v3,lk,c3,ac,bW,gr,bT]
 refine bw (fun done σ S'=>∃(p:Addr) (x2 x3 x4 x5:Option PV),σ=[some (.tup [.tup (js.map PV.str),.tup (ds.map gS)]),some (.ref p),x2,x3,x4,x5]/\S p=none/\Ext S S'/\S' p=some (.lst ((held ds done.length).map PV.str))) ⟨p0,_,_,_,_,rfl,hp0,X0,f0⟩ (fun _ _ _ _=>trivial) ?_ ?_
 ·rintro done x rest σ S1 K e ⟨p,x2,x3,x4,x5,rfl,hp,X1,f1⟩ hK
  simp only[Tg.put,List.set_cons_succ,List.set_cons_zero]
  refine al fun N2 GA=>?_
  walk_at "x"
  intro pf hpf
  have Na:p≠pf:=fun h=>by rw[h,hpf]at f1;cases f1
  have KN:S pf=none:=X1.free hpf
  have X2:Ext S (Fr S1 pf (.lst [])):=X1.trans (.new hpf)
  have f2:(Fr S1 pf (.lst [])) p=some (.lst ((held ds done.length).map PV.str)):=by rw[ap Na];exact f1
  have g2:(Fr S1 pf (.lst [])) pf=some (.lst (([]:Vs).map PV.str)):=aa
  generalize Fr S1 pf (.lst [])=S2 at X2 f2 g2
  refine GA _ _ (al fun N2 GA=>?_)
  simp only[bO,aO,af,v3,lk,c3,ac,cM,bT]
  have hJ:l5 (held ds done.length):=fun z hz=>hg.jw z (sI hg _ z hz)
  refine bw (fun F4 σ S'=>∃(x4 x5:Option PV),σ=[some (.tup [.tup (js.map PV.str),.tup (ds.map gS)]),some (.ref p),some x,some (.ref pf),x4,x5]/\F4.length<=ds.length/\Gf pf S2 S'/\S' pf=some (.lst ((FS (mq (held ds done.length)) (ds.take F4.length)).map PV.str))) ⟨_,_,rfl,Nat.zero_le _,.refl,by simpa [FS]using g2⟩ (fun _ _ _ _=>trivial) ?_ ?_
  ·rintro F4 y KZ σ S3 K2 e2 ⟨x4,x5,rfl,hl2,X3,f3⟩ M8
   have hy:(ds.map gS)[F4.length]?=some y:=by rw[e2];simp
   rw[List.getElem?_map]at hy
   cases hd:ds[F4.length]? with
   |none=>rw[hd]at hy;cases hy
   |some q=>
   rw[hd]at hy
   cases hy
   obtain⟨dn,t⟩:=q
   have hlt:F4.length < ds.length:=(List.getElem?_eq_some_iff.mp hd).1
   have hm:(dn,t)∈ds:=List.mem_of_getElem? hd
   simp only[gS,Tg.put,Tg.Fx,List.set_cons_succ,List.set_cons_zero]
   simp only[aN,ab,ao,v3,lk]
   have lb:=nA hg (mq (held ds done.length)) F4.length hl2
   refine KM (hg.dp _ hm) (hg.gd _ hm) hg.jw hJ (X3 _ _ f2 Na) f3 Na (by have:t.size<=60:=hg.sz _ hm;omega) fun S4 X4 f4=>?_
   refine M8 _ _ ⟨_,_,rfl,by rw[List.length_append];exact hlt,X3.trans X4,?_⟩
   rw[f4,List.length_append,List.length_singleton]
   congr 3
   unfold FS
   rw[List.take_succ,hd,List.flatMap_append]
   simp
  ·rintro σ S3 ⟨x4,x5,rfl,hl2,X3,f3⟩
   rw[List.length_map,List.take_length]at f3
   refine GA _ _ ?_
   walk_at "x"
   refine hK _ _ ⟨pf,_,_,_,_,rfl,KN,fun a o h=>X3 a o (X2 a o h) (fun e=>by rw[e,KN]at h;cases h),?_⟩
   rw[f3,List.length_append,List.length_singleton]
   rfl
 ·rintro σ S1 ⟨p,x2,x3,x4,x5,rfl,hp,X1,f1⟩
  refine hN _ _ ?_
  walk_at "x"
  rw[List.length_map]at f1
  exact k p S1 hp X1 f1
noncomputable def Bd.ps(q:Qs):Bd->List PV
 | .rest=>[.tup []]
 | .pay _ _=>[.tup []]
 | .put _ _=>[.tup []]
 | .use _=>[.tup []]
 | .Fz _=>[.tup []]
 | .Fw a b=>(a.ps q).flatMap fun x=>(b.ps q).map fun y=>.tup [x,y]
 | .FE a b=>(a.ps q).map (fun x=>.tup [.int 0,x])++(b.ps q).map fun x=>.tup [.int 1,x]
 | .FC z _ a b=>(if q z then (a.ps q).map (fun x=>.tup [.int 0,x]) else [])++(b.ps q).map fun x=>.tup [.int 1,x]
def qj{α β:Type}(xs:List α)(ys:List β)(f:α->β->PV):(xs.flatMap fun x=>ys.map (f x)).length=xs.length * ys.length:=by
 induction xs with
 |nil=>simp
 |cons x r ih=>rw[List.flatMap_cons,List.length_append,ih,List.length_map,List.length_cons,Nat.succ_mul];omega
theorem Bd.Gg(q:Qs):∀t:Bd,(t.ps q).length<=t.Ft
 | .rest=>Nat.le_refl _
 | .pay _ _=>Nat.le_refl _
 | .put _ _=>Nat.le_refl _
 | .use _=>Nat.le_refl _
 | .Fz _=>Nat.le_refl _
 | .Fw a b=>by show((a.ps q).flatMap fun x=>(b.ps q).map fun y=>_).length<=a.Ft * b.Ft;rw[qj];exact Nat.mul_le_mul (a.Gg q) (b.Gg q)
 | .FE a b=>by
  show((a.ps q).map _++(b.ps q).map _).length<=a.Ft+b.Ft
  rw[List.length_append,List.length_map,List.length_map];exact Nat.add_le_add (a.Gg q) (b.Gg q)
 | .FC z _ a b=>by
  show((if q z=true then (a.ps q).map _ else [])++(b.ps q).map _).length<=a.Ft+b.Ft
  rw[List.length_append,List.length_map]
  have:=a.Gg q;have:=b.Gg q
  split
  ·rw[List.length_map];omega
  ·simp;omega
theorem Bd.Ig:∀t:Bd,1<=t.Ft
 | .rest=>Nat.le_refl _
 | .pay _ _=>Nat.le_refl _
 | .put _ _=>Nat.le_refl _
 | .use _=>Nat.le_refl _
 | .Fz _=>Nat.le_refl _
 | .Fw a b=>Nat.mul_pos a.Ig b.Ig
 | .FE a b=>Nat.le_trans a.Ig (Nat.le_add_right _ _)
 | .FC _ _ a b=>Nat.le_trans a.Ig (Nat.le_add_right _ _)
abbrev gU(n:Nat)(w:ax):Prop:=∀{S:ay} {t:Bd} {js us hs:Vs} {nm:Addr} {Q:bA} {E:bZ},t.dep<=n->t.Ft<=1000->t.good js us->l5 js->l5 hs->S nm=some (.lst (hs.map PV.str))->
  (∀p S',S p=none->Ext S S'->S' p=some (.lst (t.ps (mq hs)))->Q (.ref p) S')->w [t.pv,.ref nm] S Q E
abbrev kg(n:Nat)(w:ax):Prop:=∀{S:ay} {a b:Bd} {js us hs:Vs} {nm:Addr} {Q:bA} {E:bZ},a.dep<=n->b.dep<=n->a.Ft * b.Ft<=1000->(Bd.Fw a b).good js us->l5 js->l5 hs->S nm=some (.lst (hs.map PV.str))->
  (∀p S',S p=none->Ext S S'->S' p=some (.lst ((Bd.Fw a b).ps (mq hs)))->Q (.ref p) S')->w [(Bd.Fw a b).pv,.ref nm] S Q E
def Bf{a b:Bd}(h:a.Ft * b.Ft<=1000):a.Ft<=1000/\b.Ft<=1000:=
 ⟨Nat.le_trans (Nat.le_mul_of_pos_right _ b.Ig) h,Nat.le_trans (Nat.le_mul_of_pos_left _ a.Ig) h⟩
def qk{S:ay}{p:Addr}{xs:List PV}{σ:cC}{i:Int}{fin:List PV->ay->Prop}(h:S p=some (.lst xs))(hl:xs.length<=1000)(f:fin (xs.map fun x=>.tup [.int i,x]) S) :
  dC (.n 0) ci (az [c3 (.int i),v3 0]) (dE 1 [] σ) (fun S'=>S' p=some (.lst xs)) fin xs [] S:=by
 have:=bK (g:=.n 0) (te:=az [c3 (.int i),v3 0]) (σ':=dE 1 [] σ) (keep:=fun S'=>S' p=some (.lst xs)) (fin:=fin) (fun x:PV=>x) (fun x=>.tup [.int i,x]) h xs [] (fun x hx=>⟨_,rfl,fun Q q=>q⟩) (by rw[List.length_nil,Nat.zero_add];exact cI hl) f
 rw[List.map_id']at this
 exact this
def ug{S S1:ay}{xs ys:List PV}{pa pb pf:Addr}{v0 v1 x4:Option PV}{N:cC->ay->Prop}{Q:bA}(hpf:S pf=none)(X1:Ext S S1)(fa:S1 pa=some (.lst xs))(fb:S1 pb=some (.lst ys))(ff:S1 pf=some (.lst []))(na:pa≠pf)(nb:pb≠pf)(hl:xs.length * ys.length<=1000)
  (k:∀(S2:ay) (x:Option PV),Ext S S2->S2 pf=some (.lst (xs.flatMap fun x=>ys.map fun y=>.tup [x,y]))->N [v0,v1,some (.ref pf),some (.ref pb),x] S2) :
  oa (.n 4) (aN (d4 "list" aZ (v3 2) [aQ (aO (v3 3)) (.n 0) ci (az [v3 1,v3 0]) 1 [4]])) { nx:=N,rt:=Q,ex:=dO } (fun S'=>S' pa=some (.lst xs)) xs [v0,v1,some (.ref pf),some (.ref pb),x4] S1:=by
 refine bw (fun done σ S'=>∃(x:Option PV),σ=[v0,v1,some (.ref pf),some (.ref pb),x]/\Ext S S'/\Gf pf S1 S'/\S' pf=some (.lst (done.flatMap fun x=>ys.map fun y=>.tup [x,y]))) ⟨_,rfl,X1,.refl,ff⟩ (fun _ _ _ ⟨_,_,_,XB,_⟩=>XB _ _ fa na) ?_ ?_
 ·rintro done x rest σ S2 K e ⟨y4,rfl,X2,XB,f2⟩ hK
  have hb2:=XB _ _ fb nb
  simp only[Tg.put,List.set_cons_succ,List.set_cons_zero]
  simp only[aN,d4,n5,ao,v3,lk,f2,true_and,aQ,aO,bT,hb2]
  have OR:ys.length<=1000:=by
   have h1:1<=xs.length:=by rw[e,List.length_append,List.length_cons];omega
   exact Nat.le_trans (Nat.le_mul_of_pos_left _ h1) hl
  have key:=bK (g:=.n 0) (te:=az [v3 1,v3 0]) (σ':=dE 1 [4] [v0,v1,some (.ref pf),some (.ref pb),some x]) (keep:=fun S'=>S' pb=some (.lst ys)) (fin:=fun zs S3=>∀q,S3 q=none->aZ (.ref pf) [.ref q] (Fr S3 q (.lst zs)) fun _ S4=>K [v0,v1,some (.ref pf),some (.ref pb),some x] S4) (fun y:PV=>y) (fun y=>.tup [x,y]) hb2 ys [] (fun y hy=>⟨_,rfl,fun Q q=>q⟩) (by rw[List.length_nil,Nat.zero_add];exact cI OR) (by
   intro q hq
   rw[List.nil_append]
   have nq:pf≠q:=fun h=>by rw[h,hq]at f2;cases f2
   simp only[aZ,ap nq,f2,aa]
   have hlen:(done.flatMap fun x=>ys.map fun y=>PV.tup [x,y]).length=done.length * ys.length:=qj done ys fun x y=>.tup [x,y]
   have hle:done.length * ys.length+ys.length<=1000:=by
    have:(done.length+1) * ys.length<=xs.length * ys.length:=Nat.mul_le_mul_right _ (by rw[e,List.length_append,List.length_cons];omega)
    rw[Nat.succ_mul]at this
    omega
   refine⟨cI (by rw[hlen,List.length_map];exact hle),hK _ _ ⟨_,rfl,(X2.trans (.new hq)).put hpf,fun a o h n=>?_,?_⟩⟩
   ·have h2:=XB a o h n
    rw[ap n,ap (fun h'=>by rw[h',hq]at h2;cases h2)]
    exact h2
   ·rw[aa,List.flatMap_append];simp)
  rw[List.map_id']at key
  exact key
 ·rintro σ S2 ⟨x,rfl,X2,XB,f2⟩
  exact k S2 x X2 f2
def wb{s0 s1:ax}(n:Nat)(ih:gU n s1):kg n (aU 5 (b5 s0 s1)):=by
 intro S a b js us hs nm Q E ha hb hp hg hj hh hn k
 obtain⟨OS,OT⟩:=Bf hp
 unfold b5
 refine dG ?_
 rw[show aw 5 [(Bd.Fw a b).pv,.ref nm]=[some (.tup [.str "then",a.pv,b.pv]),some (.ref nm),none,none,none] from rfl]
 refine al fun N hN=>?_
 walk_at "x"
 intro pf hpf
 have X0:Ext S (Fr S pf (.lst [])):=.new hpf
 have f0:(Fr S pf (.lst [])) pf=some (.lst []):=aa
 generalize Fr S pf (.lst [])=S0 at X0 f0
 refine hN _ _ (al fun N hN=>?_)
 walk_at "x"
 simp only[sC]
 refine ih hb OT hg.2 hj hh (X0 _ _ hn) fun pb S1 JX X1 h1=>?_
 refine hN _ _ (al fun N hN=>?_)
 simp only[bO,aO,ab,ao,af,v3,lk,c3,ac,cM]
 refine ih ha OS hg.1 hj hh (X1 _ _ (X0 _ _ hn)) fun pa S2 hpa X2 h2=>?_
 simp only[bT,h2]
 have nb:pb≠pf:=fun h=>by rw[h,f0]at JX;cases JX
 have na:pa≠pf:=fun h=>by rw[h,X1 _ _ f0]at hpa;cases hpa
 have OU:(a.ps (mq hs)).length * (b.ps (mq hs)).length<=1000:=Nat.le_trans (Nat.mul_le_mul (a.Gg _) (b.Gg _)) hp
 refine ug hpf (X0.trans (X1.trans X2)) h2 (X2 _ _ h1) (X2 _ _ (X1 _ _ f0)) na nb OU fun S3 x X3 f3=>?_
 refine hN _ _ ?_
 walk_at "x"
 exact k pf S3 hpf X3 f3
def Jd{s0 s1:ax}(n:Nat)(M7:kg n s0)(ih:gU n s1):gU (n+1) (aU 3 (eE s0 s1)):=by
 intro S t js us hs nm Q E hd hp hg hj hh hn k
 unfold eE
 refine dG ?_
 rw[Bd.Hd,show aw 3 [.tup (.str t.hd::t.tl),.ref nm]=[some (.tup (.str t.hd::t.tl)),some (.ref nm),none] from rfl]
 refine al fun N hN=>?_
 simp only[bt,aJ,af,v3,lk,c3,ac,bW,aV,Bool.false_bne,decide_eq_true_eq]
 by_cases h1:t.hd=("then":Str)
 ·rw[if_pos h1]
  obtain⟨a,b,rfl⟩:=(Bd.ID t).mp h1
  simp only[Bd.dep]at hd
  simp only[au,ab,ao,v3,lk]
  rw[<-Bd.Hd]
  exact M7 (by omega) (by omega) hp hg hj hh hn k
 rw[if_neg h1]
 refine hN _ _ (al fun N hN=>?_)
 walk_at "x"
 simp only[bW]
 rw[show([PV.str "either",PV.str "take"]:List PV)=(["either","take"]:Vs).map PV.str from rfl]
 refine bI t.Iu zp ?_
 by_cases h2:t.hd∈(["either","take"]:Vs)
 ·simp only[h2,decide_true,Bool.true_bne,Bool.not_true,Bool.false_eq_true,if_false]
  refine hN _ _ (al fun N hN=>?_)
  have sides:∀(hd2:List PV) (a b:Bd),(.str t.hd::t.tl)=hd2++[a.pv,b.pv]->Gw (.str t.hd::t.tl) (-1)=some b.pv/\Gw (.str t.hd::t.tl) (-2)=some a.pv:=fun hd2 a b e1=>⟨by rw[e1];have:=dr (a:=a.pv) (b:=b.pv) (hd:=hd2) (i:=1) (.inr rfl);simpa using this,by rw[e1];have:=dr (a:=a.pv) (b:=b.pv) (hd:=hd2) (i:=0) (.inl rfl);simpa using this⟩
  have fin:∀(a b:Bd) (hd2:List PV),(.str t.hd::t.tl)=hd2++[a.pv,b.pv]->a.dep<=n->b.dep<=n->a.Ft+b.Ft<=1000->a.good js us->b.good js us->
    (∀(po:Addr) (S2:ay),S po=none->Ext S S2->S2 po=some (.lst ((b.ps (mq hs)).map fun x=>.tup [.int 1,x]))->N [some (.tup (.str t.hd::t.tl)),some (.ref nm),some (.ref po)] S2)->av 2 (aQ (aO (ab s1 [af ac (v3 0) (ik b3 (c3 (.int 1))),v3 1])) (.n 0) ci (az [c3 (.int 1),v3 0]) 1 []) { nx:=N,rt:=Q,ex:=dO } [some (.tup (.str t.hd::t.tl)),some (.ref nm),none] S:=by
   intro a b hd2 e1 da db Mm ga gb kk
   simp only[av,aQ,aO,ab,ao,af,v3,lk,c3,ac,ik,b3,(sides hd2 a b e1).1]
   refine ih db (by omega) gb hj hh hn fun pb S1 JX X1 f1=>?_
   simp only[bT,f1]
   refine qk f1 (Nat.le_trans (b.Gg _) (by omega)) fun po JY=>?_
   exact kk po _ (X1.free JY) (X1.trans (.new JY)) aa
  have both:∀(a b:Bd) (hd2:List PV) (po:Addr) (S2:ay),(.str t.hd::t.tl)=hd2++[a.pv,b.pv]->a.dep<=n->a.Ft+b.Ft<=1000->a.good js us->S po=none->Ext S S2->S2 po=some (.lst ((b.ps (mq hs)).map fun x=>.tup [.int 1,x]))->t.ps (mq hs)=(a.ps (mq hs)).map (fun x=>.tup [.int 0,x])++(b.ps (mq hs)).map (fun x=>.tup [.int 1,x])->
    au (af aT (aQ (aO (ab s1 [af ac (v3 0) (ik b3 (c3 (.int 2))),v3 1])) (.n 0) ci (az [c3 (.int 0),v3 0]) 1 []) (v3 2)) { nx:=fun _ S'=>Q .non S',rt:=Q,ex:=dO } [some (.tup (.str t.hd::t.tl)),some (.ref nm),some (.ref po)] S2:=by
   intro a b hd2 po S2 e1 da Mm ga JY X2 f2 et
   simp only[au,aQ,aO,ab,ao,af,v3,lk,c3,ac,ik,b3,(sides hd2 a b e1).2]
   refine ih da (by omega) ga hj hh (X2 _ _ hn) fun pa S3 hpa X3 f3=>?_
   simp only[bT,f3]
   have la:=a.Gg (mq hs)
   have lb:=b.Gg (mq hs)
   refine qk f3 (by omega) fun pq hpq=>?_
   have f4:=X3 _ _ f2
   have nq:po≠pq:=fun h=>by rw[h,hpq]at f4;cases f4
   simp only[aT,aa,ap nq,f4]
   refine⟨cI (by rw[List.length_map,List.length_map];omega),fun pr NU=>?_⟩
   have Xq:Ext S (Fr S3 pq (.lst ((a.ps (mq hs)).map fun x=>.tup [.int 0,x]))):=X2.trans (X3.trans (.new hpq))
   exact k pr _ (Xq.free NU) (Xq.trans (.new NU)) (by rw[aa,et])
  cases t with
  |FE a b=>
   simp only[Bd.dep]at hd
   refine fin a b [.str "either"] rfl (by omega) (by omega) hp hg.1 hg.2 fun po S2 JY X2 f2=>hN _ _ (al fun N hN=>?_)
   simp only[Bd.hd]
   walk_at "y"
   refine hN _ _ ?_
   exact both a b [.str "either"] po S2 rfl (by omega) hp hg.1 JY X2 f2 rfl
  |FC z m a b=>
   simp only[Bd.dep]at hd
   refine fin a b [.str "take",.str z,.int m] rfl (by omega) (by omega) hp hg.2.2.2.1 hg.2.2.2.2 fun po S2 JY X2 f2=>hN _ _ (al fun N hN=>?_)
   have ep:(Bd.FC z m a b).ps (mq hs)=(if mq hs z=true then (a.ps (mq hs)).map (fun x=>.tup [.int 0,x]) else [])++(b.ps (mq hs)).map fun x=>.tup [.int 1,x]:=rfl
   simp only[bt,fi,aJ,af,v3,lk,c3,ac,bW,cM,Bd.hd,Bd.tl,aV,Bool.false_bne,decide_true,if_true]
   refine eG (X2 _ _ hn) (hj z hg.1) hh ?_
   by_cases hin:z∈hs
   ·simp only[hin,decide_true,Bool.true_bne,Bool.not_true,Bool.false_eq_true,if_false]
    rw[show mq hs z=true from decide_eq_true hin,if_pos rfl]at ep
    refine hN _ _ ?_
    exact both a b [.str "take",.str z,.int m] po S2 rfl (by omega) hp hg.2.2.2.1 JY X2 f2 ep
   ·simp only[hin,decide_false,Bool.true_bne,Bool.not_false,if_true]
    rw[show mq hs z=false from decide_eq_false hin,if_neg (by decide),List.nil_append]at ep
    walk_at "x"
    exact k po S2 JY X2 (by rw[ep];exact f2)
  |_=>simp[Bd.hd,aA]at h2
 ·simp only[h2,decide_false,Bool.true_bne,Bool.not_false,if_true]
  walk_at "x"
  intro p hp'
  have e:t.ps (mq hs)=[.tup []]:=by cases t<;>first|rfl|exact absurd rfl h1|simp[Bd.hd]at h2
  exact k p _ hp' (.new hp') (by rw[aa,e])
def uh(n:Nat):lz (List.replicate n (.bl true))=some (List.replicate n true):=by
 induction n with
 |zero=>rfl
 |succ n ih=>rw[List.replicate_succ,List.replicate_succ];show(lz (List.replicate n (.bl true))).map _=_;rw[ih];rfl
def iw{x:PV}{S:ay}{Q:bA}{t c:String}(h:o8 S x=some t)(hc:cN c=true)(q:Q (.bl (fE t c)) S):eR [x,.ty c] S Q:=by
 show(match o8 S x with|some t=>cN c=true/\Q (.bl (fE t c)) S|none=>False)
 rw[h];exact⟨hc,q⟩
def we{x:PV}{S:ay}{Q:bA}{t:String}(h:o8 S x=some t)(q:Q (.bl (fE t "list" || (fE t "tuple" || false))) S):eR [x,.tup [.ty "list",.ty "tuple"]] S Q:=by
 show(match o8 S x,AQ [.ty "list",.ty "tuple"]with|some t,some l=>Q (.bl (l.any (fE t))) S|_,_=>False)
 rw[h,show AQ [.ty "list",.ty "tuple"]=some ["list","tuple"] by decide +kernel];exact q
def qm{α:Type}{xs:List α}{p:α×α}(hp:p∈xs.zip xs):p.1∈xs/\p.2=p.1:=by
 induction xs with
 |nil=>cases hp
 |cons y r ih2=>
  rcases List.mem_cons.mp hp with rfl|h
  ·exact⟨List.mem_cons_self,rfl⟩
  ·exact⟨List.mem_cons_of_mem _ (ih2 h).1,(ih2 h).2⟩
theorem Bd.HK(q:Qs):∀t:Bd,∀x∈t.ps q,J9 2 t.dep x
 | .rest,x,h=>by cases List.mem_singleton.mp h;exact .tup (Nat.zero_le _) (fun _ h=>by cases h)
 | .pay _ _,x,h=>by cases List.mem_singleton.mp h;exact .tup (Nat.zero_le _) (fun _ h=>by cases h)
 | .put _ _,x,h=>by cases List.mem_singleton.mp h;exact .tup (Nat.zero_le _) (fun _ h=>by cases h)
 | .use _,x,h=>by cases List.mem_singleton.mp h;exact .tup (Nat.zero_le _) (fun _ h=>by cases h)
 | .Fz a,x,h=>by cases List.mem_singleton.mp h;exact .tup (Nat.zero_le _) (fun _ h=>by cases h)
 | .Fw a b,x,h=>by
  obtain⟨y,hy,h⟩:=List.mem_flatMap.mp h
  obtain⟨z,hz,rfl⟩:=List.mem_map.mp h
  refine .tup (Nat.le_refl _) fun w hw=>?_
  rcases List.mem_cons.mp hw with rfl|hw
  ·exact(a.HK q _ hy).mono (Nat.le_refl _) (Nat.le_max_left _ _)
  ·cases List.mem_singleton.mp hw;exact(b.HK q _ hz).mono (Nat.le_refl _) (Nat.le_max_right _ _)
 | .FE a b,x,h=>by
  rcases List.mem_append.mp h with h|h
  ·obtain⟨y,hy,rfl⟩:=List.mem_map.mp h
   refine .tup (Nat.le_refl _) fun w hw=>?_
   rcases List.mem_cons.mp hw with rfl|hw
   ·exact .int _
   ·cases List.mem_singleton.mp hw;exact(a.HK q _ hy).mono (Nat.le_refl _) (Nat.le_max_left _ _)
  ·obtain⟨y,hy,rfl⟩:=List.mem_map.mp h
   refine .tup (Nat.le_refl _) fun w hw=>?_
   rcases List.mem_cons.mp hw with rfl|hw
   ·exact .int _
   ·cases List.mem_singleton.mp hw;exact(b.HK q _ hy).mono (Nat.le_refl _) (Nat.le_max_right _ _)
 | .FC z m a b,x,h=>by
  rcases List.mem_append.mp h with h|h
  ·split at h
   ·obtain⟨y,hy,rfl⟩:=List.mem_map.mp h
    refine .tup (Nat.le_refl _) fun w hw=>?_
    rcases List.mem_cons.mp hw with rfl|hw
    ·exact .int _
    ·cases List.mem_singleton.mp hw;exact(a.HK q _ hy).mono (Nat.le_refl _) (Nat.le_max_left _ _)
   ·cases h
  ·obtain⟨y,hy,rfl⟩:=List.mem_map.mp h
   refine .tup (Nat.le_refl _) fun w hw=>?_
   rcases List.mem_cons.mp hw with rfl|hw
   ·exact .int _
   ·cases List.mem_singleton.mp hw;exact(b.HK q _ hy).mono (Nat.le_refl _) (Nat.le_max_right _ _)
abbrev gW(w:ax):Prop:=∀{S:ay} {d l:Addr} {most many size:Nat} {Q:bA} {E:bZ},FB S d l->most<=8->1<=many->many<=4->1<=size->size<=60->
  (∀js ds S',Hv 6 js [] ds->1<=ds.length->ds.length<=many->js.length<=8->(∀p∈ds,p.2.Ft+p.2.Fv<=1000)->FB S' d l->Gm d l S S'->Q (j7 js ds) S')->w [.ref d,.int most,.int many,.int size] S Q E
def rM{xw xd xb:ax}(Hj:il xw)(Fu:bF xd)(L5:fO xb):gW (aU 9 (fG xw xd xb)):=by
 intro S0 d l most many size Q E D0 hmo hm1 hm4 hs1 hs2 k
 unfold fG
 refine dG ?_
 rw[show aw 9 [PV.ref d,PV.int most,PV.int many,PV.int size]=[some (.ref d),some (.int most),some (.int many),some (.int size),none,none,none,none,none] from rfl]
 refine al fun N hN=>?_
 walk_at "x"
 refine Hj D0 (by decide) (by decide) fun p ns S hl hnd hw0 _ Kx hpl hp D O0=>?_
 have hl8':ns.length=8:=hl
 have OV:8<=ns.length:=by omega
 have NV:ns.length<=100:=by omega
 have hw:∀z∈ns,IsW z:=fun z hz=>(hw0 z hz).1
 refine hN _ _ ?_
 refine al fun N hN=>?_
 walk_at "x"
 refine Fu (m:=most+1) D (by omega) (by omega) fun r S1 r0 r1 D1 O1=>?_
 obtain⟨j,rfl⟩:∃j:Nat,r=(j:Int):=⟨r.toNat,by omega⟩
 have hp1:=O1 _ _ hp Kx hpl
 rw[hp1]
 dsimp only
 rw[vV (by rw[List.length_map];omega),<-List.map_take]
 intro p2 hp2
 rw[aa]
 dsimp only
 have D2:FB (Fr S1 p2 (.lst ((ns.take j).map PV.str))) d l:=D1.new hp2
 have O2:Gm d l S (Fr S1 p2 (.lst ((ns.take j).map PV.str))):=O1.trans (.new hp2)
 have hp2':=Gm.new (o:=.lst ((ns.take j).map PV.str)) hp2 _ _ hp1 Kx hpl
 generalize Fr S1 p2 (.lst ((ns.take j).map PV.str))=S2 at D2 O2 hp2'
 refine hN _ _ (al fun N hN=>?_)
 walk_at "x"
 intro p3 hp3
 have NW:=D2.free hp3
 refine Fu (D2.new hp3) (by decide) (by decide) fun f S3 f0 f1 D3 O3=>?_
 have e3:=O3 _ _ (aa (S:=S2) (o:=.lst [.int 0,.int 4])) NW.1 NW.2
 have Nc:=O3 _ _ (Gm.new hp3 _ _ hp2' Kx hpl) Kx hpl
 have OW:Gm d l S S3:=O2.trans ((Gm.new hp3).trans O3)
 simp only[e3]
 obtain⟨v,hv,NX⟩:=im (xs:=[PV.int 0,.int 4]) f0 (by simpa using f1)
 rw[hv]
 obtain⟨g,rfl,hg⟩:∃g:Nat,v = .int g/\g<=4:=by
  simp only[List.mem_cons,List.not_mem_nil,or_false]at NX
  rcases NX with rfl|rfl
  ·exact⟨0,rfl,by omega⟩
  ·exact⟨4,rfl,by omega⟩
 refine hN _ _ (al fun N hN=>?_)
 walk_at "x"
 refine Fu (m:=many) D3 (by omega) (by omega) fun r4 S4 a0 a1 D4 O4=>?_
 obtain⟨mm,em⟩:∃mm:Nat,1+r4=(mm:Int):=⟨(1+r4).toNat,by omega⟩
 dsimp only
 rw[em]
 have OX:=O4 _ _ Nc Kx hpl
 refine hN _ _ (al fun N hN=>?_)
 walk_at "x"
 refine⟨by omega,by omega,?_⟩
 rw[Int.toNat_natCast]
 have hjl:(ns.take j).length<=8:=by rw[List.length_take];omega
 refine fo (fun done ys S'=>∃ds:List (Str×Bd),ys=ds.map gS/\ds.length=done.length/\ds.map Prod.fst=(ns.drop g).take done.length/\done.length<=mm/\(∀q∈ds,q.2.good (ns.take j) []/\q.2.dep<=6/\q.2.size<=60/\q.2.Ft+q.2.Fv<=1000)/\FB S' d l/\Gm d l S4 S') ⟨[],rfl,rfl,rfl,Nat.zero_le _,by simp,D4,.refl⟩ ?_ ?_ ?_
 ·rintro done ys S' ⟨ds,rfl,e,_,hd,_⟩
  exact⟨trivial,dR (by rw[List.length_map,e];omega)⟩
 ·rintro done x rest ys S' K e ⟨ds,rfl,e2,e3,hd,hc,D',O'⟩ hK
  obtain⟨rfl,hi⟩:=sD e
  walk_at "x"
  try simp only[ci,if_true]
  have hp':=O' _ _ OX Kx hpl
  simp only[hp']
  have hlt:g+done.length < ns.length:=by omega
  have hat:Gw (ns.map PV.str) ((g:Int)+(done.length:Int))=some (.str ns[g+done.length]):=by
   have:((g:Int)+(done.length:Int))=((g+done.length:Nat):Int):=by omega
   rw[this]
   exact rH (by rw[List.getElem?_map,List.getElem?_eq_getElem hlt];rfl)
  rw[hat]
  dsimp only
  refine⟨CW (by omega) (by omega),L5 D' (by omega) (by omega) (by omega) fun t S5 tg td tz tz2 tp D5 OY=>?_⟩
  have tp':t.Ft+t.Fv<=1000:=by
   have hb:Int.fdiv 24 (mm:Int)<=24:=by
    rw[Int.fdiv_eq_ediv_of_nonneg _ (by omega)]
    exact Int.ediv_le_self _ (by decide)
   rcases tp with h|h<;>omega
  refine hK _ _ ⟨ds++[(ns[g+done.length],t)],by simp[gS],by simp[e2],?_,by rw[List.length_append];exact hi,fun y hy=>?_,D5,O'.trans OY⟩
  ·rw[List.map_append,e3,List.length_append,List.length_singleton,List.take_succ,List.getElem?_drop,List.getElem?_eq_getElem hlt]
   rfl
  ·rcases List.mem_append.mp hy with hy|hy
   ·exact hc y hy
   ·rw[List.mem_singleton.mp hy];exact⟨tg,td,tz,tp'⟩
 rintro ys S5 ⟨ds,rfl,e,ef,_,hds,D5,O5⟩
 rw[fq]at e ef
 intro p6 NY
 refine hN _ _ ?_
 walk_at "x"
 rw[aa]
 dsimp only
 have sub:∀q∈ds,q.1∈ns:=fun q hq=>by
  have:q.1∈ds.map Prod.fst:=List.mem_map.mpr ⟨q,hq,rfl⟩
  rw[ef]at this
  exact List.mem_of_mem_drop (List.mem_of_mem_take this)
 refine k (ns.take j) ds _ ⟨⟨by omega,by omega,fun z hz=>hw z (List.mem_of_mem_take hz),by simp,fun q hq=>hw _ (sub q hq),fun q hq=>(hds q hq).1,fun q hq=>by have:=(hds q hq).2.1;omega,fun q hq=>(hds q hq).2.2.1⟩,hnd.sublist (List.take_sublist _ _),by rw[ef];exact hnd.sublist ((List.take_sublist _ _).trans (List.drop_sublist _ _)),fun q hq=>(hds q hq).2.1⟩ (by omega) (by omega) hjl (fun q hq=>(hds q hq).2.2.2) (D5.new NY) (O0.trans (OW.trans (O4.trans (O5.trans (.new NY)))))
abbrev kh(w:ax):Prop:=∀{S:ay} {d l e:Addr} {js:Vs} {Q:bA} {E:bZ},FB S d l->S e=some (.lst [])->e≠d->e≠l->(∀(t:Bd) S',t.leaf->t.good js []->FB S' d l->Gm d l S S'->Q t.pv S')->w [.ref d,.ref e] S Q E
def wf{wd wc:ax}(Fu:bF wd)(HV:jp wc):kh (aU 4 (dF wd wc)):=by
 intro S d l e js Q E D he hed hel k
 unfold dF
 refine dG ?_
 rw[show aw 4 [PV.ref d,PV.ref e]=[some (.ref d),some (.ref e),none,none] from rfl]
 refine al fun N hN=>?_
 walk_at "x"
 refine Fu D (by decide) (by decide) fun r S1 r0 r1 D1 O1=>?_
 have KO:=O1 _ _ he hed hel
 refine hN _ _ (al fun N hN=>?_)
 walk_at "x"
 simp only[Bool.false_bne,decide_eq_true_eq]
 split
 ·exact k .rest S1 trivial trivial D1 O1
 refine hN _ _ (al fun N hN=>?_)
 walk_at "x"
 simp only[Bool.false_bne,decide_eq_true_eq,KO]
 have pay:wc [.ref d] S1 (fun x S=>Q (.tup [.str "pay",x]) S) dO:=HV D1 fun x y S2 c D2 O2=>k (.pay x y) S2 trivial c D2 (O1.trans O2)
 split
 ·rw[if_pos trivial];exact pay
 ·rw[if_pos (show((([]:List PV).length:Nat):Int)=0 from rfl)];exact pay
structure HP (js:Vs) (ds:List (Str×Bd)):Prop extends HG js ds where
 pc:∀p∈ds,p.2.Ft+p.2.Fv<=1000
def wg{α:Type}{xs:List α}{y:α}:Gw (xs++[y]) (-1)=some y:=by
 unfold Gw qU
 rw[if_neg (by omega),if_pos (by simp;omega)]
 have:(-1+((xs++[y]).length:Int)).toNat=xs.length:=by simp;omega
 rw[this]
 show(xs++[y])[xs.length]?=some y
 simp
def Fl{r n:Nat}(h:r < n):seqIndex? (r:Int) n=some r:=by
 unfold seqIndex?
 simp
 omega
theorem nB{α β:Type}(f:α->β):∀(xs:List α) (i:Nat),(xs.map f).eraseIdx i=(xs.eraseIdx i).map f
 |[],_=>rfl
 |_::_,0=>rfl
 |x::r,i+1=>by simp only[List.map_cons,List.eraseIdx_cons_succ,nB f r i]
def uk{xs:List PV}{i:Nat}(h:i < xs.length):∃y∈xs,Gw xs ((i:Int) - 1)=some y:=by
 cases i with
 |zero=>
  have hne:xs≠[]:=fun e=>by rw[e]at h;cases h
  refine⟨xs.getLast hne,List.getLast_mem hne,?_⟩
  have:=wg (xs:=xs.dropLast) (y:=xs.getLast hne)
  rw[List.dropLast_concat_getLast hne]at this
  exact this
 |succ i=>
  have e:(((i+1:Nat):Int) - 1)=(i:Int):=by omega
  exact⟨xs[i],List.getElem_mem _,by rw[e];exact rH (List.getElem?_eq_getElem (by omega))⟩
structure CB (js:Vs) (t:Bd):Prop where
 g:t.good js []
 d:t.dep<=3
 s:t.size<=5
 p:t.Ft+t.Fv<=9
structure CI (js:Vs) (t:Bd):Prop where
 g:t.good js []
 d:t.dep<=2
 s:t.size<=3
 p:t.Ft<=2
 r:t.Fv=0
def Bd.G3{t:Bd}(h:t.leaf):t.Ft=1/\t.Fv=0:=by cases t<;>first|exact⟨rfl,rfl⟩|exact h.elim
theorem CI.put{js:Vs}{z:Str}{m:Int}(hz:z∈js)(h0:1<=m)(h1:m<=9):CI js (.put z m):=⟨⟨hz,h0,h1⟩,by simp[Bd.dep],by simp[Bd.size],by simp[Bd.Ft],rfl⟩
theorem CI.FC{js:Vs}{z y:Str}{m m':Int}{f:Bd}(hz:z∈js)(h0:1<=m)(h1:m<=9)(hy:y∈js)(h2:1<=m')(h3:m'<=9)(hl:f.leaf)(hg:f.good js []):CI js (.FC y m' (.put z m) f):=
 ⟨⟨hy,h2,h3,⟨hz,h0,h1⟩,hg⟩,by simp only[Bd.dep,(Bd.FX hl).1];decide,by simp only[Bd.size,(Bd.FX hl).2];decide,by simp only[Bd.Ft,(Bd.G3 hl).1];decide,by simp only[Bd.Fv,(Bd.G3 hl).2]⟩
def CI.cb{js:Vs}{t:Bd}(h:CI js t):CB js t:=⟨h.g,by have:=h.d;omega,by have:=h.s;omega,by have:=h.p;have:=h.r;omega⟩
theorem CI.Fw{js:Vs}{t f:Bd}(h:CI js t)(hl:f.leaf)(hg:f.good js []):CB js (.Fw f t):=
 ⟨⟨hg,h.g⟩,by have:=h.d;have:=(Bd.FX hl).1;simp only[Bd.dep];omega,by have:=h.s;have:=(Bd.FX hl).2;simp only[Bd.size];omega,by have:=h.p;simp only[Bd.Ft,Bd.Fv,(Bd.G3 hl).1,(Bd.G3 hl).2,h.r];omega⟩
theorem CI.FE{js:Vs}{t f:Bd}(h:CI js t)(hl:f.leaf)(hg:f.good js []):CB js (.FE f t):=
 ⟨⟨hg,h.g⟩,by have:=h.d;have:=(Bd.FX hl).1;simp only[Bd.dep];omega,by have:=h.s;have:=(Bd.FX hl).2;simp only[Bd.size];omega,by have:=h.p;simp only[Bd.Ft,Bd.Fv,(Bd.G3 hl).1,(Bd.G3 hl).2,h.r];omega⟩
theorem CI.Fz{js:Vs}{t:Bd}(h:CI js t):CB js (.Fz t):=
 ⟨h.g,by have:=h.d;simp only[Bd.dep];omega,by have:=h.s;simp only[Bd.size];omega,by have:=h.p;have:=h.r;simp only[Bd.Ft,Bd.Fv];omega⟩
def Kl.ok{js:Vs}{ds:List (Str×Bd)}{hs:Vs}(h:Kl js ds hs)(hj:l5 js):l5 hs:=fun z hz=>hj z (h.2.2.1 z hz)
def yG{js:Vs}{ds:List (Str×Bd)}{hs:Vs}(h:Kl js ds hs):mq (held ds js.length)=mq hs:=yE h.1 h.2.1 h.2.2.1 h.2.2.2
noncomputable def Bd.Jp:Bd->Bd | .Fz a=>a|t=>t
noncomputable def Bd.G4(q:Qs)(t:Bd)(r:Bool):List (Bd×Bool):=(t.pr q r).filter fun p=>p.1.Hl
abbrev Nb:=(Bd×Bool)×Nat
noncomputable def mC(q:Qs)(t:Bd):List Nb:=(t.G4 q true).zipIdx.filter fun c=>c.1.2
noncomputable def C1(q:Qs)(c:Nb):List PV:=(c.1.1.Jp.ps q).map fun x=>.tup [.int (c.2:Int),x]
noncomputable def Bd.Lu(q:Qs)(t:Bd):List PV:=(mC q t).flatMap (C1 q)
theorem dS(q:Qs):∀(t:Bd) (r:Bool),((t.G4 q r).map fun p=>p.1.Jp.Ft).sum=t.Fv
 | .rest,_=>rfl
 | .pay _ _,_=>rfl
 | .put _ _,_=>rfl
 | .use _,_=>rfl
 | .Fz a,r=>by
  show(((Bd.Fz a,r)::a.G4 q r).map fun p=>p.1.Jp.Ft).sum=a.Ft+a.Fv
  rw[List.map_cons,List.sum_cons,dS q a r];rfl
 | .Fw a b,r=>by
  show((((a.pr q r++b.pr q r).filter fun p=>p.1.Hl)).map fun p=>p.1.Jp.Ft).sum=a.Fv+b.Fv
  rw[List.filter_append,List.map_append,List.sum_append_nat]
  have h1:=dS q a r;have h2:=dS q b r;unfold Bd.G4 at h1 h2;rw[h1,h2]
 | .FE a b,r=>by
  show((((a.pr q r++b.pr q r).filter fun p=>p.1.Hl)).map fun p=>p.1.Jp.Ft).sum=a.Fv+b.Fv
  rw[List.filter_append,List.map_append,List.sum_append_nat]
  have h1:=dS q a r;have h2:=dS q b r;unfold Bd.G4 at h1 h2;rw[h1,h2]
 | .FC z m a b,r=>by
  show((((a.pr q (r&&q z)++b.pr q r).filter fun p=>p.1.Hl)).map fun p=>p.1.Jp.Ft).sum=a.Fv+b.Fv
  rw[List.filter_append,List.map_append,List.sum_append_nat]
  have h1:=dS q a (r&&q z);have h2:=dS q b r;unfold Bd.G4 at h1 h2;rw[h1,h2]
theorem qo(q:Qs):∀(l:List (Bd×Bool)) (n:Nat),(((l.zipIdx n).filter fun c=>c.1.2).flatMap (C1 q)).length<=(l.map fun p=>p.1.Jp.Ft).sum
 |[],_=>Nat.zero_le _
 |p::l,n=>by
  rw[List.zipIdx_cons,List.map_cons,List.sum_cons]
  have h1:=qo q l (n+1)
  have h2:(C1 q (p,n)).length<=p.1.Jp.Ft:=by unfold C1;rw[List.length_map];exact Bd.Gg q _
  rw[List.filter_cons]
  split
  ·rw[List.flatMap_cons,List.length_append];omega
  ·omega
def qp{α:Type}(f:α->List PV)(xs:List α)(k:Nat):((xs.take k).flatMap f).length<=(xs.flatMap f).length:=by
 have e:xs.flatMap f=(xs.take k).flatMap f++(xs.drop k).flatMap f:=by rw[<-List.flatMap_append,List.take_append_drop]
 rw[e,List.length_append];omega
def Bd.Kn(q:Qs)(t:Bd):(t.Lu q).length<=t.Fv:=by
 have:=qo q (t.G4 q true) 0
 rw[dS]at this
 exact this
def sJ{q:Qs}{t:Bd}{r:Bool}{p:Bd×Bool}(h:p∈t.G4 q r):∃a,p.1 = .Fz a:=by
 have:=(List.mem_filter.mp h).2
 cases e:p.1<;>rw[e]at this<;>first|exact⟨_,rfl⟩|cases this
theorem kI(q:Qs)(js us:Vs):∀(t:Bd) (r:Bool) (p:Bd×Bool),p∈t.pr q r->(t.good js us->p.1.good js us)/\p.1.dep<=t.dep/\p.1.size<=t.size
 | .rest,r,p,h=>by rw[List.mem_singleton.mp h];exact⟨id,Nat.le_refl _,Nat.le_refl _⟩
 | .pay _ _,r,p,h=>by rw[List.mem_singleton.mp h];exact⟨id,Nat.le_refl _,Nat.le_refl _⟩
 | .put _ _,r,p,h=>by rw[List.mem_singleton.mp h];exact⟨id,Nat.le_refl _,Nat.le_refl _⟩
 | .use _,r,p,h=>by rw[List.mem_singleton.mp h];exact⟨id,Nat.le_refl _,Nat.le_refl _⟩
 | .Fz a,r,p,h=>by
  rcases List.mem_cons.mp h with rfl|h
  ·exact⟨id,Nat.le_refl _,Nat.le_refl _⟩
  ·obtain⟨h1,h2,h3⟩:=kI q js us a r p h
   exact⟨fun g=>h1 g,by simp only[Bd.dep];omega,by simp only[Bd.size];omega⟩
 | .Fw a b,r,p,h=>by
  rcases List.mem_cons.mp h with rfl|h
  ·exact⟨id,Nat.le_refl _,Nat.le_refl _⟩
  rcases List.mem_append.mp h with h|h
  ·obtain⟨h1,h2,h3⟩:=kI q js us a r p h
   exact⟨fun g=>h1 g.1,by simp only[Bd.dep];omega,by simp only[Bd.size];omega⟩
  ·obtain⟨h1,h2,h3⟩:=kI q js us b r p h
   exact⟨fun g=>h1 g.2,by simp only[Bd.dep];omega,by simp only[Bd.size];omega⟩
 | .FE a b,r,p,h=>by
  rcases List.mem_cons.mp h with rfl|h
  ·exact⟨id,Nat.le_refl _,Nat.le_refl _⟩
  rcases List.mem_append.mp h with h|h
  ·obtain⟨h1,h2,h3⟩:=kI q js us a r p h
   exact⟨fun g=>h1 g.1,by simp only[Bd.dep];omega,by simp only[Bd.size];omega⟩
  ·obtain⟨h1,h2,h3⟩:=kI q js us b r p h
   exact⟨fun g=>h1 g.2,by simp only[Bd.dep];omega,by simp only[Bd.size];omega⟩
 | .FC z m a b,r,p,h=>by
  rcases List.mem_cons.mp h with rfl|h
  ·exact⟨id,Nat.le_refl _,Nat.le_refl _⟩
  rcases List.mem_append.mp h with h|h
  ·obtain⟨h1,h2,h3⟩:=kI q js us a _ p h
   exact⟨fun g=>h1 g.2.2.2.1,by simp only[Bd.dep];omega,by simp only[Bd.size];omega⟩
  ·obtain⟨h1,h2,h3⟩:=kI q js us b r p h
   exact⟨fun g=>h1 g.2.2.2.2,by simp only[Bd.dep];omega,by simp only[Bd.size];omega⟩
theorem wj:∀{xs:List Nat} {x:Nat},x∈xs->x<=xs.sum
 |y::r,x,h=>by
  rw[List.sum_cons]
  rcases List.mem_cons.mp h with rfl|h
  ·omega
  ·have:=wj h;omega
def Bg{q:Qs}{js us:Vs}{t:Bd}{r:Bool}{p:Bd×Bool}(h:p∈t.G4 q r)(g:t.good js us):p.1.Jp.good js us/\p.1.Jp.dep<=t.dep/\p.1.Jp.Ft<=t.Fv:=by
 obtain⟨a,ea⟩:=sJ h
 obtain⟨h1,h2,_⟩:=kI q js us t r p (List.mem_filter.mp h).1
 refine⟨by have:=h1 g;rw[ea]at this ⊢;exact this,by rw[ea]at h2 ⊢;simp only[Bd.dep]at h2;simp only[Bd.Jp];omega,?_⟩
 rw[<-dS q t r]
 exact wj (List.mem_map.mpr ⟨p,h,rfl⟩)
theorem cY{α:Type}{g:Tg}{tc:jS}{te:aW}{σ':cC}{keep:ay->Prop}{fin:List PV->ay->Prop}{S:ay}(enc f:α->PV)(c:α->Bool)(hk:keep S):∀(xs:List α) (ys:List PV),
  (∀x∈xs,∃σ2,g.put (enc x) σ'=some σ2/\(∀K:Bool->ay->Prop,K (c x) S->tc σ2 S K dO)/\(c x=true->∀Q:bA,Q (f x) S->te σ2 S Q dO))->ys.length+xs.length<=sizeLine->fin (ys++(xs.filter c).map f) S->dC g tc te σ' keep fin (xs.map enc) ys S
 |[],ys,_,hl,hf=>⟨hk,by simpa using hl,by simpa using hf⟩
 |x::r,ys,h,hl,hf=>by
  obtain⟨σ2,e,h1,h2⟩:=h x (by simp)
  refine⟨hk,by simp at hl;omega,?_⟩
  rw[e]
  refine h1 _ ?_
  by_cases hc:c x=true
  ·rw[if_pos hc]
   refine h2 hc _ (cY enc f c hk r (ys++[f x]) (fun y hy=>h y (by simp[hy])) (by simp at hl ⊢;omega) ?_)
   rw[List.filter_cons_of_pos hc]at hf
   simpa using hf
  ·rw[if_neg hc]
   refine cY enc f c hk r ys (fun y hy=>h y (by simp[hy])) (by simp at hl;omega) ?_
   rw[List.filter_cons_of_neg hc]at hf
   exact hf
def oH{α:Type}(enc:α->PV)(xs:List α):L3.aK (xs.map enc)=xs.zipIdx.map fun c=>.tup [.int (c.2:Int),enc c.1]:=by
 unfold L3.aK
 rw[List.mapIdx_eq_zipIdx_map,List.zipIdx_map,List.map_map]
 rfl
noncomputable def wk(c:Nb):PV:=.tup [.int (c.2:Int),c.1.1.Jp.pv]
abbrev l_(w:ax):Prop:=∀{S:ay} {t:Bd} {js us hs:Vs} {nm:Addr} {Q:bA} {E:bZ},t.dep<=6->t.size<=900->t.good js us->l5 js->l5 hs->S nm=some (.lst (hs.map PV.str))->
  (∀p S',S p=none->Ext S S'->S' p=some (.lst ((mC (mq hs) t).map wk))->Q (.ref p) S')->w [t.pv,.ref nm] S Q E
def Je{xp:ax}(Jy:l8 6 xp):l_ (aU 3 (cU xp)):=by
 intro S t js us hs nm Q E hd hz hg hj hh hn k
 unfold cU
 refine dG ?_
 rw[show aw 3 [t.pv,.ref nm]=[some t.pv,some (.ref nm),none] from rfl]
 refine al fun N hN=>?_
 simp only[av,aQ,aO,j3,ao,v3,lk,List.cons_append,List.nil_append]
 refine Jy hd hz hg hj hh hn fun p S1 hp X1 f1=>?_
 simp only[bT,f1]
 have hpl:=t.GB (mq hs) true
 refine cY fQ fQ (fun p=>p.1.Hl) f1 (t.pr (mq hs) true) [] (fun x hx=>⟨_,rfl,?_,fun _ Q q=>q⟩) (cI (by rw[List.length_nil,Nat.zero_add,hpl];omega)) ?_
 ·intro K hK
  have e:fQ x = .tup [.tup (.str x.1.hd::x.1.tl),.bl x.2]:=by unfold fQ;rw[Bd.Hd]
  simp only[aJ,af,v3,lk,c3,ac,e,dE,List.reduceReplicate,List.map_nil,List.append_nil,List.set_cons_zero,bW,aV,Bool.false_bne]
  have e2:decide (x.1.hd=("often":Str))=x.1.Hl:=by cases x.1<;>simp[Bd.hd,aA,Bd.Hl]
  rw[e2]
  exact hK
 intro p2 hp2
 rw[List.nil_append]
 have X2:Ext S1 (Fr S1 p2 (.lst ((t.G4 (mq hs) true).map fQ))):=.new hp2
 have f2:(Fr S1 p2 (.lst ((t.G4 (mq hs) true).map fQ))) p2=some (.lst ((t.G4 (mq hs) true).map fQ)):=aa
 show N _ (Fr S1 p2 (.lst ((t.G4 (mq hs) true).map fQ)))
 generalize Fr S1 p2 (.lst ((t.G4 (mq hs) true).map fQ))=S2 at X2 f2
 refine hN _ _ ?_
 simp only[au,aQ,dB,v3,lk,List.set_cons_zero,List.set_cons_succ,f2]
 rw[oH]
 have hol:(t.G4 (mq hs) true).length<=900:=Nat.le_trans (List.length_filter_le _ _) (by rw[hpl];exact hz)
 refine cY (fun c:Nb=>.tup [.int (c.2:Int),fQ c.1]) wk (fun c=>c.1.2) f2 (t.G4 (mq hs) true).zipIdx [] (fun c hc=>⟨_,rfl,?_,?_⟩) (cI (by rw[List.length_nil,Nat.zero_add,List.length_zipIdx];omega)) ?_
 ·intro K hK
  simp only[aJ,af,v3,lk,c3,ac,fQ,dE,List.reduceReplicate,List.map_nil,List.append_nil,List.set_cons_zero,List.set_cons_succ,cM]
  exact hK
 ·intro hc2 Q q
  obtain⟨a,ea⟩:=sJ (p:=c.1) (List.fst_mem_of_mem_zipIdx hc)
  simp only[az,ao,af,v3,lk,c3,ac,fQ,dE,List.reduceReplicate,List.map_nil,List.append_nil,List.set_cons_zero,List.set_cons_succ,bW,cM,ea,Bd.pv]
  have:wk c = .tup [.int (c.2:Int),a.pv]:=by unfold wk;rw[ea];rfl
  rw[this]at q
  exact q
 intro p3 hp3
 rw[List.nil_append]
 exact k p3 _ ((X1.trans X2).free hp3) ((X1.trans X2).trans (.new hp3)) aa
noncomputable def mD(p:Bd×Bool):PV:=if p.2 then p.1.Jp.pv else .non
abbrev gX(n:Nat)(w:ax):Prop:=∀{S:ay} {t:Bd} {js us hs:Vs} {nm:Addr} {r:Bool} {Q:bA} {E:bZ},t.dep<=n->t.size<=900->t.good js us->l5 js->l5 hs->S nm=some (.lst (hs.map PV.str))->
  (∀p S',S p=none->Ext S S'->S' p=some (.lst ((t.G4 (mq hs) r).map mD))->Q (.ref p) S')->w [t.pv,.ref nm,.bl r] S Q E
def oI(q:Qs)(t:Bd)(r:Bool):(t.G4 q r).length<=t.size:=Nat.le_trans (List.length_filter_le _ _) (Nat.le_of_eq (t.GB q r))
def yH{s0:ax}(n:Nat)(ih:gX n s0):gX (n+1) (aU 4 (eW s0)):=by
 intro S t js us hs nm r Q E hd hz hg hj hh hn k
 unfold eW
 refine dG ?_
 rw[Bd.Hd,show aw 4 [.tup (.str t.hd::t.tl),.ref nm,.bl r]=[some (.tup (.str t.hd::t.tl)),some (.ref nm),some (.bl r),none] from rfl]
 refine al fun N hN=>?_
 simp only[av,bc,ao,List.set_cons_zero,List.set_cons_succ]
 intro pf hpf
 have X0:Ext S (Fr S pf (.lst [])):=.new hpf
 have f0:(Fr S pf (.lst [])) pf=some (.lst []):=aa
 generalize Fr S pf (.lst [])=S0 at X0 f0
 have hn0:=X0 _ _ hn
 refine hN _ _ (al fun N hN=>?_)
 -- one more call behind what is found
 have call:∀(a:Bd) (r':Bool) (os:List (Bd×Bool)) (S1:ay) (N':ay->Prop),a.dep<=n->a.size<=900->os.length+a.size<=900->a.good js us->Ext S S1->S1 pf=some (.lst (os.map mD))->(∀S2,Ext S S2->S2 pf=some (.lst ((os++a.G4 (mq hs) r').map mD))->N' S2)->
   s0 [a.pv,.ref nm,.bl r'] S1 (fun v S2=>aZ (.ref pf) [v] S2 fun _ S3=>N' S3) dO:=by
  intro a r' os S1 N' da za ho ga X1 f1 kk
  refine ih da za ga hj hh (X1 _ _ hn) fun p2 S2 hp2 X2 f2=>?_
  have OZ:=X2 _ _ f1
  simp only[aZ,OZ,f2]
  refine⟨cI (by rw[List.length_map,List.length_map];have:=oI (mq hs) a r';omega),kk _ ((X1.trans X2).put hpf) (by rw[aa,List.map_append])⟩
 have last:∀(os:List (Bd×Bool)) (S1:ay),Ext S S1->S1 pf=some (.lst (os.map mD))->t.G4 (mq hs) r=os->au (v3 3) { nx:=fun _ S'=>Q .non S',rt:=Q,ex:=dO } [some (.tup (.str t.hd::t.tl)),some (.ref nm),some (.bl r),some (.ref pf)] S1:=by
  intro os S1 X1 f1 e
  simp only[au,v3,lk]
  exact k pf S1 hpf X1 (by rw[f1,e])
 simp only[bt,aJ,af,v3,lk,c3,ac,bW,aV,Bool.false_bne,decide_eq_true_eq]
 by_cases h1:t.hd=("often":Str)
 ·rw[if_pos h1]
  cases t with
  |Fz a=>
   simp only[Bd.dep]at hd
   simp only[Bd.size]at hz
   refine al fun N2 GA=>?_
   simp only[Bd.hd,Bd.tl,aN,d4,n5,ao,af,bc,ak,v3,lk,c3,ac,cM,f0,true_and]
   intro p1 hp1
   have n1:pf≠p1:=fun h=>by rw[h,hp1]at f0;cases f0
   simp only[gE,aa]
   have hat:Gw [PV.non,a.pv] (if r=true then 1 else 0)=some (mD (.Fz a,r)):=by cases r<;>rfl
   rw[hat]
   simp only[bh,ap n1,f0]
   refine⟨by decide,?_⟩
   have X1:Ext S (Fr (Fr S0 p1 (.lst [.non,a.pv])) pf (.lst ([]++[mD (.Fz a,r)]))):=(X0.trans (.new hp1)).put hpf
   have f1:(Fr (Fr S0 p1 (.lst [.non,a.pv])) pf (.lst ([]++[mD (.Fz a,r)]))) pf=some (.lst ([(Bd.Fz a,r)].map mD)):=aa
   generalize Fr (Fr S0 p1 (.lst [.non,a.pv])) pf (.lst ([]++[mD (.Fz a,r)]))=S1 at X1 f1
   refine GA _ _ ?_
   simp only[aN,d4,n5,ao,af,ab,v3,lk,c3,ac,cM,f1,true_and]
   refine call a r [(.Fz a,r)] S1 (fun S'=>N [some (.tup (.str (Bd.Fz a).hd::(Bd.Fz a).tl)),some (.ref nm),some (.bl r),some (.ref pf)] S') (by omega) (by omega) (by rw[List.length_singleton];omega) hg X1 f1 fun S2 X2 f2=>?_
   refine hN _ _ (al fun N hN=>?_)
   simp only[bt,aJ,af,v3,lk,c3,ac,bW,az,ao]
   rw[show([PV.str "then",PV.str "either",PV.str "take"]:List PV)=(["then","either","take"]:Vs).map PV.str from rfl]
   refine bI (Bd.Fz a).Iu ft ?_
   rw[show decide ((Bd.Fz a).hd∈(["then","either","take"]:Vs))=false by simp[Bd.hd,aA]]
   simp only[Bool.false_bne,Bool.false_eq_true,if_false,aL]
   refine hN _ _ ?_
   exact last _ S2 X2 f2 rfl
  |_=>simp[Bd.hd,aA]at h1
 rw[if_neg h1]
 simp only[aL]
 refine hN _ _ (al fun N hN=>?_)
 simp only[bt,aJ,af,v3,lk,c3,ac,bW,az,ao]
 rw[show([PV.str "then",PV.str "either",PV.str "take"]:List PV)=(["then","either","take"]:Vs).map PV.str from rfl]
 refine bI t.Iu ft ?_
 rw[Bool.false_bne]
 by_cases h3:t.hd∈(["then","either","take"]:Vs)
 ·rw[decide_eq_true h3]
  simp only[if_true]
  have sides:∀(hd2:List PV) (a b:Bd),(.str t.hd::t.tl)=hd2++[a.pv,b.pv]->Gw (.str t.hd::t.tl) (-1)=some b.pv/\Gw (.str t.hd::t.tl) (-2)=some a.pv:=fun hd2 a b e1=>⟨by rw[e1];have:=dr (a:=a.pv) (b:=b.pv) (hd:=hd2) (i:=1) (.inr rfl);simpa using this,by rw[e1];have:=dr (a:=a.pv) (b:=b.pv) (hd:=hd2) (i:=0) (.inl rfl);simpa using this⟩
  have both:∀(a b:Bd) (hd2:List PV) (r':Bool),(.str t.hd::t.tl)=hd2++[a.pv,b.pv]->a.dep<=n->b.dep<=n->a.size+b.size<=900->a.good js us->b.good js us->t.G4 (mq hs) r=a.G4 (mq hs) r'++b.G4 (mq hs) r->
    (∀(S1:ay) (Q1:bA),S1 nm=some (.lst (hs.map PV.str))->Q1 (.bl r') S1->bH (v3 2) (mx (af (aV true) (af ac (v3 0) (c3 (.int 0))) (c3 (.str "take"))) (af (jU false) (af ac (v3 0) (c3 (.int 1))) (v3 1))) [some (.tup (.str t.hd::t.tl)),some (.ref nm),some (.bl r),some (.ref pf)] S1 Q1 dO)->
    ai (aN (d4 "list" aZ (v3 3) [ab s0 [af ac (v3 0) (ik b3 (c3 (.int 2))),v3 1,bH (v3 2) (mx (af (aV true) (af ac (v3 0) (c3 (.int 0))) (c3 (.str "take"))) (af (jU false) (af ac (v3 0) (c3 (.int 1))) (v3 1)))]]))
     (aN (d4 "list" aZ (v3 3) [ab s0 [af ac (v3 0) (ik b3 (c3 (.int 1))),v3 1,v3 2]])) { nx:=N,rt:=Q,ex:=dO } [some (.tup (.str t.hd::t.tl)),some (.ref nm),some (.bl r),some (.ref pf)] S0:=by
   intro a b hd2 r' e1 da db Me ga gb et hr
   obtain⟨sb,sa⟩:=sides hd2 a b e1
   refine al fun N2 GA=>?_
   simp only[aN,d4,n5,ao,ab,af,ik,b3,v3,lk,c3,ac,f0,true_and,sa]
   refine hr S0 _ hn0 ?_
   refine call a r' [] S0 (fun S'=>N2 [some (.tup (.str t.hd::t.tl)),some (.ref nm),some (.bl r),some (.ref pf)] S') da (by omega) (by rw[List.length_nil];omega) ga X0 f0 fun S1 X1 f1=>?_
   refine GA _ _ ?_
   simp only[aN,d4,n5,ao,ab,af,ik,b3,v3,lk,c3,ac,f1,true_and,sb]
   refine call b r _ S1 (fun S'=>N [some (.tup (.str t.hd::t.tl)),some (.ref nm),some (.bl r),some (.ref pf)] S') db (by omega) (by rw[List.nil_append];have:=oI (mq hs) a r';omega) gb X1 f1 fun S2 X2 f2=>?_
   refine hN _ _ ?_
   exact last _ S2 X2 f2 (by rw[et,List.nil_append])
  cases t with
  |Fw a b=>
   simp only[Bd.dep]at hd
   simp only[Bd.size]at hz
   refine both a b [.str "then"] r rfl (by omega) (by omega) (by omega) hg.1 hg.2 (by show((a.pr (mq hs) r++b.pr (mq hs) r).filter _)=_;rw[List.filter_append];rfl) fun S1 Q1 h1 q1=>?_
   have en:decide (("then":Str) = "take")=false:=by decide
   simp only[bH,mx,af,v3,lk,c3,ac,bW,aV,Bd.hd,en,Bool.true_bne,Bool.not_false,if_true]
   cases r
   ·exact q1
   ·exact q1
  |FE a b=>
   simp only[Bd.dep]at hd
   simp only[Bd.size]at hz
   refine both a b [.str "either"] r rfl (by omega) (by omega) (by omega) hg.1 hg.2 (by show((a.pr (mq hs) r++b.pr (mq hs) r).filter _)=_;rw[List.filter_append];rfl) fun S1 Q1 h1 q1=>?_
   have en:decide (("either":Str) = "take")=false:=by decide
   simp only[bH,mx,af,v3,lk,c3,ac,bW,aV,Bd.hd,en,Bool.true_bne,Bool.not_false,if_true]
   cases r
   ·exact q1
   ·exact q1
  |FC z m a b=>
   simp only[Bd.dep]at hd
   simp only[Bd.size]at hz
   refine both a b [.str "take",.str z,.int m] (r&&mq hs z) rfl (by omega) (by omega) (by omega) hg.2.2.2.1 hg.2.2.2.2 (by show((a.pr (mq hs) (r&&mq hs z)++b.pr (mq hs) r).filter _)=_;rw[List.filter_append];rfl) fun S1 Q1 h1 q1=>?_
   simp only[bH,mx,af,v3,lk,c3,ac,bW,cM,aV,Bd.hd,Bd.tl,decide_true,Bool.true_bne,Bool.not_true,Bool.false_eq_true,if_false]
   cases r
   ·exact q1
   ·simp only[if_true]
    refine eG h1 (hj z hg.1) hh ?_
    rw[Bool.false_bne]
    exact q1
  |_=>simp[Bd.hd,aA]at h3
 ·rw[decide_eq_false h3]
  simp only[Bool.false_eq_true,if_false,aL]
  refine hN _ _ ?_
  refine last [] S0 X0 f0 ?_
  cases t<;>first|rfl|exact absurd rfl h1|simp[Bd.hd]at h3
def zq{n:Nat}(h:n<=1000000):n<=sizeLine:=Nat.le_trans h (by decide)
inductive JE (S:ay):Nat->PV->PV->Prop
 |non {n:Nat}:JE S (n+1) .non .non
 |int {n:Nat} (i:Int):JE S (n+1) (.int i) (.int i)
 |bl {n:Nat} (b:Bool):JE S (n+1) (.bl b) (.bl b)
 |str {n:Nat} (z:Str):JE S (n+1) (.str z) (.str z)
 |tup {n:Nat} {xs ys:List PV}:xs.length=ys.length->xs.length<=1000000->(∀p∈xs.zip ys,JE S n p.1 p.2)->JE S (n+1) (.tup xs) (.tup ys)
 |lst {n:Nat} {a b:Addr} {xs ys:List PV}:S a=some (.lst xs)->S b=some (.lst ys)->xs.length=ys.length->xs.length<=1000000->(∀p∈xs.zip ys,JE S n p.1 p.2)->JE S (n+1) (.ref a) (.ref b)
def JE.mono{S S':ay}{n:Nat}{v w:PV}(h:JE S n v w)(X:Ext S S'):JE S' n v w:=by
 induction h with
 |non=>exact .non
 |int i=>exact .int i
 |bl b=>exact .bl b
 |str z=>exact .str z
 |tup e l _ ih=>exact .tup e l fun p hp=>ih p hp
 |lst h1 h2 e l _ ih=>exact .lst (X _ _ h1) (X _ _ h2) e l fun p hp=>ih p hp
abbrev cZ(n:Nat)(f:ax):Prop:=∀{S:ay} {v w:PV} {Q:bA} {E:bZ},JE S n v w->(∀S',Ext S S'->Q (.bl true) S')->f [v,w] S Q E
def rN{s0:ax}{n:Nat}(ih:cZ n s0){S:ay}{xs ys:List PV}{σ:cC}{keep:ay->Prop}{Q:bA}(hk:∀S',Ext S S'->keep S')(hl:xs.length<=1000000)(hx:∀p∈xs.zip ys,JE S n p.1 p.2)(k:∀S',Ext S S'->Q (.bl true) S') :
  dC (.tp (.cons (.n 0) (.cons (.n 1) .nil))) ci (ab s0 [v3 0,v3 1]) (dE 2 [] σ) keep (fun zs S2=>∀p,S2 p=none->vt [.ref p] (Fr S2 p (.lst zs)) Q) (bu xs ys) [] S:=by
 have hlz:(bu xs ys).length<=xs.length:=by simp[bu];omega
 refine fo (fun done zs S'=>Ext S S'/\done.length<=(bu xs ys).length/\zs=List.replicate done.length (.bl true)) ⟨.refl,Nat.zero_le _,rfl⟩ (fun done zs S' ⟨X,l,e⟩=>⟨hk S' X,zq (by rw[e,List.length_replicate];omega)⟩) ?_ ?_
 ·rintro done x rest zs S' K e ⟨X,l,rfl⟩ hK
  have hm:x∈bu xs ys:=by rw[e];simp
  obtain⟨p,hp,rfl⟩:=List.mem_map.mp hm
  simp only[Tg.put,Tg.Fx,dE,List.reduceReplicate,List.map_nil,List.append_nil,List.set_cons_zero,List.set_cons_succ,ci,if_true,ab,ao,v3,lk]
  refine ih ((hx p hp).mono X) fun S2 X2=>hK _ _ ⟨X.trans X2,?_,?_⟩
  ·have:(bu xs ys).length=done.length+(rest.length+1):=by rw[e,List.length_append,List.length_cons]
   rw[List.length_append,List.length_singleton];omega
  ·rw[List.length_append,List.length_singleton,List.replicate_succ']
 ·rintro zs S' ⟨X,_,rfl⟩ p hp
  simp only[vt,aa,uh]
  rw[show(List.replicate (bu xs ys).length true).all id=true by simp]
  exact k _ (X.trans (.new hp))
def eJ{s0:ax}{S:ay}{v:PV}{t:String}{Q:bA}(h:o8 S v=some t)(hn:(fE t "list" || (fE t "tuple" || false))=false)(q:∀Q2:bA,Q2 (.bl true) S->aV false v v S Q2)(k:Q (.bl true) S) :
  b6 s0 { nx:=fun _ S'=>Q .non S',rt:=Q,ex:=dO } [some v,some v] S:=by
 unfold b6
 refine al fun N hN=>?_
 simp only[bt,aJ,ak,ao,v3,lk,c3,az]
 refine we h ?_
 rw[hn]
 simp only[Bool.false_eq_true,if_false,aL]
 refine hN _ _ ?_
 simp only[au,bH,af,ak,ao,v3,lk,c3]
 refine iw h (by decide +kernel) (iw h (by decide +kernel) ?_)
 refine(show aV false (.bl (fE t "bool")) (.bl (fE t "bool")) S _ from ?_)
 rw[show ∀(b:Bool) (Q3:bA),aV false (.bl b) (.bl b) S Q3=Q3 (.bl (false != decide (b=b))) S from fun b Q3=>rfl]
 rw[Bool.false_bne,decide_eq_true rfl]
 dsimp only
 rw[if_pos rfl]
 exact q _ k
def ma{s0:ax}{n:Nat}(ih:cZ n s0){S:ay}{v w:PV}{xs ys:List PV}{t:String}{Q:bA}(h1:o8 S v=some t)(h2:o8 S w=some t)(ht:t = "list" \/ t = "tuple")(l1:∀Q2:bA,Q2 (.int xs.length) S->bx [v] S Q2)(l2:∀Q2:bA,Q2 (.int ys.length) S->bx [w] S Q2)
  {keep:ay->Prop} (hz:∀R:Dx->ay->Prop,R ⟨bu xs ys,keep⟩ S->nv (v3 0) (v3 1) [some v,some w] S R dO) (hk:∀S',Ext S S'->keep S') (e:xs.length=ys.length) (l:xs.length<=1000000) (hx:∀p∈xs.zip ys,JE S n p.1 p.2) (k:∀S',Ext S S'->Q (.bl true) S') :
  b6 s0 { nx:=fun _ S'=>Q .non S',rt:=Q,ex:=dO } [some v,some w] S:=by
 unfold b6
 refine al fun N hN=>?_
 simp only[bt,aJ,ak,ao,v3,lk,c3,az]
 refine we h2 ?_
 rw[show(fE t "list" || (fE t "tuple" || false))=true by rcases ht with rfl|rfl<;>decide +kernel]
 simp only[if_true]
 refine al fun N2 GA=>?_
 simp only[bt,jb,aJ,af,ak,ao,v3,lk,c3]
 refine iw h1 (by decide +kernel) (iw h2 (by decide +kernel) ?_)
 simp only[aV,decide_true,Bool.true_bne,Bool.not_true,Bool.false_eq_true,if_false]
 refine iw h1 (by decide +kernel) (iw h2 (by decide +kernel) ?_)
 simp only[aV,decide_true,Bool.true_bne,Bool.not_true,Bool.false_eq_true,if_false,aL]
 refine GA _ _ ?_
 simp only[au,bH,af,ak,ao,v3,lk]
 refine l1 _ (l2 _ ?_)
 simp only[e,aV,Bool.false_bne,decide_true,if_true,aQ]
 refine hz _ ?_
 exact rN ih hk l hx k
def ul{s0:ax}(n:Nat)(ih:cZ n s0):cZ (n+1) (aU 2 (b6 s0)):=by
 intro S v w Q E h k
 refine dG ?_
 rw[show aw 2 [v,w]=[some v,some w] from rfl]
 cases h with
 |non=>exact eJ (t:="NoneType") rfl (by decide +kernel) (fun Q2 q=>⟨.none,.none,.non,.non,by decide +kernel,by decide +kernel,by decide +kernel,q⟩) (k _ .refl)
 |int i=>exact eJ (t:="int") rfl (by decide +kernel) (fun Q2 q=>by simp only[aV,decide_true];exact q) (k _ .refl)
 |bl b=>exact eJ (t:="bool") rfl (by decide +kernel) (fun Q2 q=>by simp only[aV,decide_true];exact q) (k _ .refl)
 |str z=>exact eJ (t:="str") rfl (by decide +kernel) (fun Q2 q=>by simp only[aV,decide_true];exact q) (k _ .refl)
 |@tup _ xs ys e l hx=>exact ma ih (t:="tuple") rfl rfl (.inr rfl) (fun Q2 q=>q) (fun Q2 q=>q) (fun R r=>r) (fun _ _=>trivial) e l hx k
 |@lst _ a b xs ys h1 h2 e l hx=>
  refine ma ih (t:="list") (keep:=fun S'=>S' a=some (.lst xs)/\S' b=some (.lst ys)) (by simp only[o8,h1]) (by simp only[o8,h2]) (.inl rfl) (fun Q2 q=>by simp only[bx,h1];exact q) (fun Q2 q=>by simp only[bx,h2];exact q) (fun R r=>?_) (fun S' X=>⟨X _ _ h1,X _ _ h2⟩) e l hx k
  simp only[nv,v3,lk,h1,h2]
  exact r
structure J_ (S0 S:ay) (d l p po pb:Addr) (W O B:List PV):Prop where
 D:FB S d l
 w:S p=some (.lst W)
 o:S po=some (.lst O)
 b:S pb=some (.lst B)
 n:p≠d/\p≠l/\po≠d/\po≠l/\pb≠d/\pb≠l/\p≠pb/\po≠pb
 x:Gm d l S0 S
 f:S0 pb=none
def J_.Ka{S0 S S':ay}{d l p po pb:Addr}{W O B:List PV}(h:J_ S0 S d l p po pb W O B)(D':FB S' d l)(X:Gm d l S S'):J_ S0 S' d l p po pb W O B:=
 ⟨D',X _ _ h.w h.n.1 h.n.2.1,X _ _ h.o h.n.2.2.1 h.n.2.2.2.1,X _ _ h.b h.n.2.2.2.2.1 h.n.2.2.2.2.2.1,h.n,h.x.trans X,h.f⟩
theorem J_.new{S0 S:ay}{d l p po pb q:Addr}{W O B:List PV}{o:SO}(h:J_ S0 S d l p po pb W O B)(hq:S q=none):J_ S0 (Fr S q o) d l p po pb W O B:=
 h.Ka (h.D.new hq) (.new hq)
theorem J_.put{S0 S:ay}{d l p po pb:Addr}{W O B B':List PV}(h:J_ S0 S d l p po pb W O B):J_ S0 (Fr S pb (.lst B')) d l p po pb W O B':=
 ⟨h.D.upd h.n.2.2.2.2.1 h.n.2.2.2.2.2.1,by rw[ap h.n.2.2.2.2.2.2.1];exact h.w,by rw[ap h.n.2.2.2.2.2.2.2];exact h.o,aa,h.n,h.x.put h.f,h.f⟩
noncomputable def gu:PV->PV
 | .tup (x::_)=>x
 |v=>v
noncomputable def cQ:PV->PV
 | .tup [_,y]=>y
 |v=>v
noncomputable def nm:PV->Int
 | .int i=>i
 |_=>0
noncomputable def DA:PV->List PV
 | .tup xs=>xs
 |_=>[]
noncomputable def cnt:Bd->PV->Nat
 | .rest,_=>0
 | .pay _ _,_=>1
 | .put _ _,_=>2
 | .use _,_=>1
 | .Fw a b,v=>cnt a (gu v)+cnt b (cQ v)
 | .FE a b,v=>(if nm (gu v)=0 then cnt a (cQ v) else cnt b (cQ v))+1
 | .FC _ _ a b,v=>(if nm (gu v)=0 then cnt a (cQ v) else cnt b (cQ v))+2
 | .Fz a,v=>(DA v).foldl (fun k g=>k+(nm (gu g)).toNat * (cnt a (cQ g)+1)) 0+1
def Bh{a b c d u v:Nat}(h1:c<=2 * a * 4 ^ u)(h2:d<=2 * b * 4 ^ v):c+d<=2 * (a+b+1) * 4 ^ (u+v):=by
 have q1:=Nat.mul_le_mul_left (2 * a) (Nat.pow_le_pow_right (n:=4) (by decide) (show u<=u+v by omega))
 have q2:=Nat.mul_le_mul_left (2 * b) (Nat.pow_le_pow_right (n:=4) (by decide) (show v<=u+v by omega))
 rw[show 2 * (a+b+1)=2 * a+2 * b+2 by omega,Nat.add_mul,Nat.add_mul]
 omega
def Bi{a n c u:Nat}(hn:a+1<=n)(h:c<=2 * a * 4 ^ u):c+2<=2 * n * 4 ^ u:=by
 have q:=Nat.mul_le_mul_right (4 ^ u) (show 2 * a+2<=2 * n by omega)
 rw[Nat.add_mul]at q
 have:=Nat.pow_pos (n:=u) (show 0 < 4 by decide)
 omega
def Bj{s c k m u v:Nat}(h1:k+1<=2 * (s+1) * 4 ^ u)(h2:c<=2 * s * 4 ^ v)(hm:m<=3):k+m * (c+1)+1<=2 * (s+1) * 4 ^ (u+1+v):=by
 have a1:=Nat.pow_pos (n:=u) (show 0 < 4 by decide)
 have b1:=Nat.pow_pos (n:=v) (show 0 < 4 by decide)
 rw[Nat.pow_add,Nat.pow_add,Nat.pow_one]
 generalize 4 ^ u=A at *
 generalize 4 ^ v=B at *
 have q0:c+1<=2 * (s+1) * B:=by rw[show 2 * (s+1)=2 * s+2 by omega,Nat.add_mul];omega
 have q1:=Nat.mul_le_mul_right (c+1) hm
 have q2:2 * (s+1) * A<=2 * (s+1) * (A * B):=Nat.mul_le_mul_left _ (Nat.le_mul_of_pos_right A b1)
 have q3:2 * (s+1) * B<=2 * (s+1) * (A * B):=Nat.mul_le_mul_left _ (Nat.le_mul_of_pos_left B a1)
 have q4:2 * (s+1) * (A * 4 * B)=4 * (2 * (s+1) * (A * B)):=by rw[Nat.mul_right_comm A 4 B,<-Nat.mul_assoc,Nat.mul_comm]
 omega
abbrev jA(n:Nat)(w:ax):Prop:=∀{S:ay} {d l x:Addr} {t:Bd} {left:Int} {Q:bA} {E:bZ},FB S d l->S x=some (.lst [.int left])->x≠d->x≠l->0<=left->t.dep<=n->
  (∀v S' left',aR t v=true->cA (2 ^ 60) v=true->cnt t v<=2 * t.size * 4 ^ (left - left').toNat->0<=left'->left'<=left->FB S' d l->S' x=some (.lst [.int left'])->HH d l x S S'->Q v S')->w [.ref d,t.pv,.ref x] S Q E
def Bl {xd s0 : ax} (Fu : bF xd) (n : Nat) (ih : jA n s0) : jA (n + 1) (aU 7 (fI xd s0)) := by
 intro S d l x t left Q E D hx hxd I_ h0 hd k
 unfold fI
 refine dG ?_
 rw [show aw 7 [PV.ref d, t.pv, PV.ref x] = [some (.ref d), some t.pv, some (.ref x), none, none, none, none] from rfl]
 refine al fun N hN => ?_
 simp only [bt, aJ, af, v3, lk, c3]
 rw [Bd.Hd]
 simp only [ac, bW, aV, Bool.false_bne, decide_eq_true_eq]
 by_cases ht : t.hd = ("then" : Str)
 ·rw [if_pos ht]
  obtain ⟨a, b, rfl⟩ := (Bd.ID t).mp ht
  simp only [Bd.dep] at hd
  walk_at "y"
  simp only [Bd.tl, cM, sC]
  refine ih (t := a) D hx hxd I_ h0 (by omega) fun v1 S1 l1 i1 n1 c1 q0 q1 D1 x1 O1 => ?_
  refine ih (t := b) D1 x1 hxd I_ q0 (by omega) fun v2 S2 l2 i2 n2 c2 r0 r1 D2 x2 O2 => ?_
  exact k (.tup [v1, v2]) S2 l2 (by rw [ju, i1, i2]; rfl) (lU n1 n2) (by rw [show (left - l2).toNat = (left - l1).toNat + (l1 - l2).toNat by omega]; exact Bh c1 c2) r0 (by omega) D2 x2 (O1.trans O2)
 rw [if_neg ht]
 refine hN _ _ (al fun N hN => ?_)
 simp only [bt, jb, aJ, af, v3, lk, c3]
 simp only [ac, bW, aV, Bool.false_bne, decide_eq_true_eq]
 have two : ∀ (hd2 : List PV) (a b : Bd) (N' : cC -> ay -> Prop), .str t.hd :: t.tl = hd2 ++ [a.pv, b.pv] -> a.dep <= n -> b.dep <= n -> t.size = a.size + b.size + 1 -> (∀ (i : Int) y, cnt t (.tup [.int i, y]) <= (if i = 0 then cnt a y else cnt b y) + 2) -> (∀ (i : Int) y, aR t (.tup [.int i, y]) = if i = 0 then aR a y else if i = 1 then aR b y else false) ->
   ai (av 4 (ab xd [v3 0, c3 (.int 2)])) (au (az [v3 4, ab s0 [v3 0, af ac (v3 1) (af bv (v3 4) (c3 (.int 2))), v3 2]])) { nx := N', rt := Q, ex := dO } [some (.ref d), some (.tup (.str t.hd :: t.tl)), some (.ref x), none, none, none, none] S := by
  intro hd2 a b N' e hda hdb hsz NZ N0
  rw [e]
  refine al fun N2 GA => ?_
  walk_at "x"
  refine Fu D (by decide) (by decide) fun i S1 i0 i1 D1 O1 => ?_
  refine GA _ _ ?_
  have hi : i = 0 \/ i = 1 := by omega
  walk_at "x"
  rw [dr hi]
  have go : ∀ c : Bd, c.dep <= n -> c.size + 1 <= t.size -> (∀ y, cnt t (.tup [.int i, y]) <= cnt c y + 2) -> (∀ y, aR t (.tup [.int i, y]) = aR c y) -> s0 [.ref d, c.pv, .ref x] S1 (fun v S2 => Q (.tup [.int i, v]) S2) dO := fun c hc hc2 cc ec => by
   refine ih (t := c) D1 (O1 _ _ hx hxd I_) hxd I_ h0 hc fun v1 S2 l1 j1 n1 c1 q0 q1 D2 x1 O2 => ?_
   exact k (.tup [.int i, v1]) S2 l1 (by rw [ec, j1]) (lU (p8 (by rcases hi with rfl | rfl <;> decide)) n1) (Nat.le_trans (cc v1) (Bi hc2 c1)) q0 q1 D2 x1 (O1.x.trans O2)
  rcases hi with rfl | rfl
  ·exact go a hda (by omega) (fun y => NZ 0 y) fun y => by rw [N0]; rfl
  ·exact go b hdb (by omega) (fun y => NZ 1 y) fun y => by rw [N0]; rfl
 by_cases he : t.hd = ("either" : Str)
 ·rw [if_pos he, if_pos trivial]
  cases t with
  | FE a b => simp only [Bd.dep] at hd; exact two [.str "either"] a b _ rfl (by omega) (by omega) rfl (fun _ _ => Nat.le_succ _) (fun _ _ => rfl)
  | _ => simp [Bd.hd, aA] at he
 rw [if_neg he]
 by_cases hk : t.hd = ("take" : Str)
 ·rw [if_pos hk]
  cases t with
  | FC z mm a b => simp only [Bd.dep] at hd; exact two [.str "take", .str z, .int mm] a b _ rfl (by omega) (by omega) rfl (fun _ _ => Nat.le_refl _) (fun _ _ => rfl)
  | _ => simp [Bd.hd, aA] at hk
 rw [if_neg hk]
 refine hN _ _ (al fun N hN => ?_)
 walk_at "x"
 intro pf hpf
 have K0 := D.free hpf
 have hpx : pf ≠ x := fun h => by rw [h, hx] at hpf; cases hpf
 have D1 : FB (Fr S pf (.lst [])) d l := D.new hpf
 have x1 : (Fr S pf (.lst [])) x = some (.lst [.int left]) := by rw [ap hpx.symm]; exact hx
 have O1 : HH d l x S (Fr S pf (.lst [])) := (Gm.new hpf).x
 have f1 : (Fr S pf (.lst [])) pf = some (.lst []) := aa
 generalize Fr S pf (.lst []) = S1 at D1 x1 O1 f1
 refine hN _ _ (al fun N hN => ?_)
 simp only [bO, jY, af, ab, ao, ak, v3, lk, c3]
 refine Fu D1 (by decide) (by decide) fun r S2 r0 r1 D2 O2 => ?_
 have x2 := O2 _ _ x1 hxd I_
 have f2 := O2 _ _ f1 K0.1 K0.2
 have L6 := O1.trans (O2.x (x := x))
 simp only [ac, bW, aV, gE, bS, Bool.false_bne, decide_eq_true_eq]
 by_cases ho : t.hd = ("often" : Str)
 ·rw [if_pos ho]
  refine ⟨t4 (by omega) (by omega), by omega, by omega, ?_⟩
  obtain ⟨a, rfl⟩ := (Bd.IE t).mp ho
  simp only [Bd.dep] at hd
  obtain ⟨rr, er⟩ : ∃ rr : Nat, r * 1 = (rr : Int) := ⟨r.toNat, by omega⟩
  rw [er, Int.toNat_natCast]
  refine bw (fun done σ S' => ∃ (vs : List PV) (l2 : Int) (x6 : Option PV), σ = [some (.ref d), some (Bd.Fz a).pv, some (.ref x), none, none, some (.ref pf), x6] /\ vs.length <= done.length /\ done.length <= rr /\ (∀ v ∈ vs, oz a v = true /\ cA (2 ^ 60) v = true) /\ cnt (.Fz a) (.tup vs) <= 2 * (a.size + 1) * 4 ^ (left - l2).toNat /\ 0 <= l2 /\ l2 <= left /\ FB S' d l /\ S' x = some (.lst [.int l2]) /\ S' pf = some (.lst vs) /\ HH d l x S S') ⟨[], left, _, rfl, Nat.le_refl _, Nat.zero_le _, by simp, by rw [Int.sub_self]; show 1 <= 2 * (a.size + 1) * 1; omega, h0, Int.le_refl _, D2, x2, f2, L6⟩ (fun _ _ _ _ => trivial) ?_ ?_
  ·rintro done y rest σ S3 K e ⟨vs, l2, x6, rfl, hv, hdl, hvs, hc, q0, q1, D3, x3, f3, O3⟩ hK
   obtain ⟨rfl, hi⟩ := sD e
   simp only [Tg.put, List.set_cons_succ, List.set_cons_zero]
   simp only [bt, aJ, af, v3, lk, c3, ac, x3, bW, o9, dz, decide_eq_true_eq]
   by_cases hl2 : 0 < l2
   ·rw [if_pos hl2]
    refine al fun N2 GA => ?_
    walk_at "x"
    simp only [x3, bW, qU]
    have e1 : (if (0 : Int) <= 0 then if (0 : Int) < (([PV.int l2] : List PV).length : Nat) then some (0 : Int).toNat else none else if -((([PV.int l2] : List PV).length : Nat) : Int) <= 0 then some (0 + ((([PV.int l2] : List PV).length : Nat) : Int)).toNat else none) = some 0 := rfl
    rw [e1]
    dsimp only
    have D4 : FB (Fr S3 x (.lst [.int (l2 - 1)])) d l := D3.upd hxd I_
    have x4 : (Fr S3 x (.lst [.int (l2 - 1)])) x = some (.lst [.int (l2 - 1)]) := aa
    have f4 : (Fr S3 x (.lst [.int (l2 - 1)])) pf = some (.lst vs) := by rw [ap hpx]; exact f3
    have O4 : HH d l x S (Fr S3 x (.lst [.int (l2 - 1)])) := O3.trans .upd
    refine GA _ _ ?_
    show aN _ _ _ (Fr S3 x (.lst [.int (l2 - 1)]))
    generalize Fr S3 x (.lst [.int (l2 - 1)]) = S4 at D4 x4 f4 O4
    walk_at "x"
    refine ⟨by rw [f4]; trivial, Fu D4 (by decide) (by decide) fun m S5 m0 m1 D5 O5 => ?_⟩
    dsimp only
    unfold Bd.pv
    simp only [cM]
    refine ih (t := a) D5 (O5 _ _ x4 hxd I_) hxd I_ (by omega) (by omega) fun v S6 l6 i6 n6 c6 a0 a1 D6 x6 O6 => ?_
    have f6 := O6 _ _ (O5 _ _ f4 K0.1 K0.2) K0.1 K0.2 hpx
    simp only [f6]
    refine ⟨Nat.lt_of_lt_of_le (show _ < 1000 by omega) (by decide), ?_⟩
    refine hK _ _ ⟨vs ++ [.tup [.int (1 + m), v]], l6, _, rfl, by simp; omega, by rw [List.length_append]; exact hi, fun w hw => ?_, ?_, a0, by omega, D6.upd K0.1 K0.2, by rw [ap hpx.symm]; exact x6, aa, ?_⟩
    ·rcases List.mem_append.mp hw with hw | hw
     ·exact hvs w hw
     ·rw [List.mem_singleton.mp hw]
      exact ⟨by simp [oz, i6]; omega, lU (p8 (by omega)) n6⟩
    ·rw [show (left - l6).toNat = (left - l2).toNat + 1 + (l2 - 1 - l6).toNat by omega]
     show (vs ++ [PV.tup [.int (1 + m), v]]).foldl _ 0 + 1 <= _
     rw [List.foldl_append]
     exact Bj hc c6 (show (1 + m).toNat <= 3 by omega)
    ·intro b o hb h1 h2 h3
     have O8 : b ≠ pf := fun h => by rw [h, hpf] at hb; cases hb
     rw [ap O8]
     exact O6 _ _ (O5 _ _ (O4 _ _ hb h1 h2 h3) h1 h2) h1 h2 h3
   ·rw [if_neg hl2]
    exact hK _ _ ⟨vs, l2, _, rfl, by simp; omega, by rw [List.length_append]; exact hi, hvs, hc, q0, q1, D3, x3, f3, O3⟩
  ·rintro σ S3 ⟨vs, l2, x6, rfl, hv, hdl, hvs, hc, q0, q1, D3, x3, f3, O3⟩
   refine hN _ _ ?_
   walk_at "x"
   simp only [f3]
   refine k (.tup vs) S3 l2 ?_ (vY fun v hv => (hvs v hv).2) hc q0 q1 D3 x3 O3
   rw [p7, List.all_eq_true]
   exact fun v hv => (hvs v hv).1
 ·rw [if_neg ho]
  refine ⟨t4 (by omega) (by omega), by omega, by omega, ?_⟩
  rw [Int.mul_zero]
  refine ⟨trivial, ?_⟩
  refine hN _ _ ?_
  walk_at "x"
  simp only [f2]
  have hp : t.plain = true := by
   cases t with
   | Fz a => exact absurd rfl ho
   | Fw => exact absurd rfl ht
   | FE => exact absurd rfl he
   | FC => exact absurd rfl hk
   | _ => rfl
  refine k (.tup []) S2 left (by rw [lS hp]; rfl) rfl (by rw [Int.sub_self]; cases t <;> first | (simp [cnt, Bd.size]; done) | (cases hp)) h0 (Int.le_refl _) D2 x2 L6
noncomputable def kU(q:Qs):Bd->PV->Bool
 | .Fw a b,v=>kU q a (gu v)&&kU q b (cQ v)
 | .FE a b,v=>if nm (gu v)=0 then kU q a (cQ v) else kU q b (cQ v)
 | .FC z _ a b,v=>if nm (gu v)=0 then q z&&kU q a (cQ v) else kU q b (cQ v)
 | .Fz a,v=>(DA v).all fun g=>kU q a (cQ g)
 |_,_=>true
noncomputable def Hw:Bd->PV->List (Str×Int)
 | .put z m,_=>[(z,m)]
 | .Fw a b,v=>Hw a (gu v)++Hw b (cQ v)
 | .FE a b,v=>if nm (gu v)=0 then Hw a (cQ v) else Hw b (cQ v)
 | .FC z m a b,v=>if nm (gu v)=0 then (z,0 - m)::Hw a (cQ v) else Hw b (cQ v)
 | .Fz a,v=>(DA v).flatMap fun g=>Hw a (cQ g)
 |_,_=>[]
def C2{q:Qs}{js:Vs}:∀(t:Bd) (v:PV),t.good js []->aR t v=true->(∀p∈Hw t v,p.2 < 0->q p.1=true)->kU q t v=true:=by
 intro t
 induction t with
 |rest=>intro v _ _ _;rfl
 |pay x y=>intro v _ _ _;rfl
 |put z m=>intro v _ _ _;rfl
 |use z=>intro v _ _ _;rfl
 |Fw a b FL F5=>
  intro v g h hm
  obtain⟨x,y,rfl,hx,hy⟩:=cj h
  show(kU q a x&&kU q b y)=true
  rw[FL x g.1 hx fun p hp=>hm p (List.mem_append.mpr (.inl hp)),F5 y g.2 hy fun p hp=>hm p (List.mem_append.mpr (.inr hp))]
  rfl
 |FE a b FL F5=>
  intro v g h hm
  obtain⟨i,y,rfl,hy⟩:=ck h
  rcases hy with⟨rfl,hy⟩|⟨rfl,hy⟩
  ·exact FL y g.1 hy hm
  ·exact F5 y g.2 hy hm
 |FC z m a b FL F5=>
  intro v g h hm
  obtain⟨i,y,rfl,hy⟩:=cm h
  rcases hy with⟨rfl,hy⟩|⟨rfl,hy⟩
  ·show(q z&&kU q a y)=true
   have h1:q z=true:=hm (z,0 - m) (List.mem_cons_self) (by have:=g.2.1;show 0 - m < 0;omega)
   rw[h1,FL y g.2.2.2.1 hy fun p hp=>hm p (List.mem_cons_of_mem _ hp)]
   rfl
  ·exact F5 y g.2.2.2.2 hy hm
 |Fz a FL=>
  intro v g h hm
  obtain⟨xs,rfl,hx⟩:=cX h
  show(xs.all fun g=>kU q a (cQ g))=true
  rw[List.all_eq_true]
  intro u hu
  obtain⟨m,y,rfl,_,hy⟩:=cO (List.all_eq_true.mp hx u hu)
  exact FL y g hy fun p hp=>hm p (List.mem_flatMap.mpr ⟨_,hu,hp⟩)
noncomputable def Ht:Bd->Nat
 | .Fz a=>Ht a+1
 | .Fw a b=>Ht a+Ht b
 | .FE a b=>Ht a+Ht b
 | .FC _ _ a b=>Ht a+Ht b
 |_=>0
def ix(q:Qs)(a b:Bd)(r s:Bool):(a.pr q r++b.pr q s).filter (fun p=>p.1.Hl)=a.G4 q r++b.G4 q s:=List.filter_append ..
theorem cr(q:Qs):∀(t:Bd) (r:Bool),(t.G4 q r).length=Ht t
 | .rest,_=>rfl
 | .pay _ _,_=>rfl
 | .put _ _,_=>rfl
 | .use _,_=>rfl
 | .Fz a,r=>by show((Bd.Fz a,r)::a.G4 q r).length=_;rw[List.length_cons,cr q a r];rfl
 | .Fw a b,r=>by show((a.pr q r++b.pr q r).filter fun p=>p.1.Hl).length=_;rw[ix,List.length_append,cr q a r,cr q b r];rfl
 | .FE a b,r=>by show((a.pr q r++b.pr q r).filter fun p=>p.1.Hl).length=_;rw[ix,List.length_append,cr q a r,cr q b r];rfl
 | .FC z m a b,r=>by show((a.pr q (r&&q z)++b.pr q r).filter fun p=>p.1.Hl).length=_;rw[ix,List.length_append,cr q a _,cr q b r];rfl
noncomputable def fS:Bd->PV->PV
 | .Fw a b,v=>.tup [fS a (gu v),fS b (cQ v)]
 | .FE a b,v=>.tup [gu v,if nm (gu v)=0 then fS a (cQ v) else fS b (cQ v)]
 | .FC _ _ a b,v=>.tup [gu v,if nm (gu v)=0 then fS a (cQ v) else fS b (cQ v)]
 |_,_=>.tup []
abbrev Gi:=Nat×PV×Int×Bd
noncomputable def G5:Bd->PV->Nat->Int->List Gi
 | .Fw a b,v,k,m=>G5 a (gu v) k m++G5 b (cQ v) (k+Ht a) m
 | .FE a b,v,k,m=>if nm (gu v)=0 then G5 a (cQ v) k m else G5 b (cQ v) (k+Ht a) m
 | .FC _ _ a b,v,k,m=>if nm (gu v)=0 then G5 a (cQ v) k m else G5 b (cQ v) (k+Ht a) m
 | .Fz a,v,k,m=>(DA v).flatMap fun g=>G5 a (cQ g) (k+1) (m * nm (gu g))++[(k,fS a (cQ g),m * nm (gu g),a)]
 |_,_,_,_=>[]
def wm{q:Qs}:∀(t:Bd) (v:PV),kU q t v=true->aR t v=true->fS t v∈t.ps q:=by
 intro t
 induction t with
 |rest=>intro v _ _;exact List.mem_singleton.mpr rfl
 |pay x y=>intro v _ _;exact List.mem_singleton.mpr rfl
 |put z m=>intro v _ _;exact List.mem_singleton.mpr rfl
 |use z=>intro v _ _;exact List.mem_singleton.mpr rfl
 |Fz a _=>intro v _ _;exact List.mem_singleton.mpr rfl
 |Fw a b FL F5=>
  intro v o h
  obtain⟨x,y,rfl,hx,hy⟩:=cj h
  obtain⟨o1,o2⟩:=Bool.and_eq_true_iff.mp (show(kU q a x&&kU q b y)=true from o)
  exact List.mem_flatMap.mpr ⟨_,FL x o1 hx,List.mem_map.mpr ⟨_,F5 y o2 hy,rfl⟩⟩
 |FE a b FL F5=>
  intro v o h
  obtain⟨i,y,rfl,hy⟩:=ck h
  rcases hy with⟨rfl,hy⟩|⟨rfl,hy⟩
  ·exact List.mem_append.mpr (.inl (List.mem_map.mpr ⟨_,FL y o hy,rfl⟩))
  ·exact List.mem_append.mpr (.inr (List.mem_map.mpr ⟨_,F5 y o hy,rfl⟩))
 |FC z m a b FL F5=>
  intro v o h
  obtain⟨i,y,rfl,hy⟩:=cm h
  rcases hy with⟨rfl,hy⟩|⟨rfl,hy⟩
  ·obtain⟨o1,o2⟩:=Bool.and_eq_true_iff.mp (show(q z&&kU q a y)=true from o)
   refine List.mem_append.mpr (.inl ?_)
   rw[if_pos o1]
   exact List.mem_map.mpr ⟨_,FL y o2 hy,rfl⟩
  ·exact List.mem_append.mpr (.inr (List.mem_map.mpr ⟨_,F5 y o hy,rfl⟩))
def Bm{α:Type}{xs ys:List α}{j:Nat}{x:α}(h:xs[j]?=some x):(xs++ys)[j]?=some x:=by rw[List.getElem?_append_left (List.getElem?_eq_some_iff.mp h).1];exact h
def Bn{α:Type}{xs ys:List α}{n j:Nat}{x:α}(hn:xs.length=n)(h:ys[j]?=some x):(xs++ys)[n+j]?=some x:=by rw[List.getElem?_append_right (by omega),show n+j - xs.length=j by omega];exact h
def Bo{q:Qs}:∀(t:Bd) (v:PV) (k:Nat) (m:Int),kU q t v=true->aR t v=true->∀g∈G5 t v k m,∃j,g.1=k+j/\(t.G4 q true)[j]?=some (.Fz g.2.2.2,true)/\g.2.1∈g.2.2.2.ps q:=by
 intro t
 induction t with
 |rest=>intro v k m _ _ g h;cases h
 |pay x y=>intro v k m _ _ g h;cases h
 |put z m=>intro v k m _ _ g h;cases h
 |use z=>intro v k m _ _ g h;cases h
 |Fw a b FL F5=>
  intro v k m o h g hg
  obtain⟨x,y,rfl,hx,hy⟩:=cj h
  obtain⟨o1,o2⟩:=Bool.and_eq_true_iff.mp (show(kU q a x&&kU q b y)=true from o)
  have e:(Bd.Fw a b).G4 q true=a.G4 q true++b.G4 q true:=ix q a b true true
  rw[e]
  rcases List.mem_append.mp hg with hg|hg
  ·obtain⟨j,h1,h2,h3⟩:=FL x k m o1 hx g hg
   exact⟨j,h1,Bm h2,h3⟩
  ·obtain⟨j,h1,h2,h3⟩:=F5 y (k+Ht a) m o2 hy g hg
   exact⟨Ht a+j,by omega,Bn (cr q a true) h2,h3⟩
 |FE a b FL F5=>
  intro v k m o h g hg
  obtain⟨i,y,rfl,hy⟩:=ck h
  have e:(Bd.FE a b).G4 q true=a.G4 q true++b.G4 q true:=ix q a b true true
  rw[e]
  rcases hy with⟨rfl,hy⟩|⟨rfl,hy⟩
  ·obtain⟨j,h1,h2,h3⟩:=FL y k m o hy g hg
   exact⟨j,h1,Bm h2,h3⟩
  ·obtain⟨j,h1,h2,h3⟩:=F5 y (k+Ht a) m o hy g hg
   exact⟨Ht a+j,by omega,Bn (cr q a true) h2,h3⟩
 |FC z n a b FL F5=>
  intro v k m o h g hg
  obtain⟨i,y,rfl,hy⟩:=cm h
  have e:(Bd.FC z n a b).G4 q true=a.G4 q (true&&q z)++b.G4 q true:=ix q a b _ true
  rw[e]
  rcases hy with⟨rfl,hy⟩|⟨rfl,hy⟩
  ·obtain⟨o1,o2⟩:=Bool.and_eq_true_iff.mp (show(q z&&kU q a y)=true from o)
   obtain⟨j,h1,h2,h3⟩:=FL y k m o2 hy g hg
   rw[o1]
   exact⟨j,h1,Bm h2,h3⟩
  ·obtain⟨j,h1,h2,h3⟩:=F5 y (k+Ht a) m o hy g hg
   exact⟨Ht a+j,by omega,Bn (cr q a _) h2,h3⟩
 |Fz a FL=>
  intro v k m o h g hg
  obtain⟨xs,rfl,hx⟩:=cX h
  have e:(Bd.Fz a).G4 q true=(.Fz a,true)::a.G4 q true:=rfl
  rw[e]
  obtain⟨u,hu,hg⟩:=List.mem_flatMap.mp hg
  obtain⟨n,y,rfl,_,hy⟩:=cO (List.all_eq_true.mp hx u hu)
  have o2:kU q a y=true:=List.all_eq_true.mp (show(xs.all fun g=>kU q a (cQ g))=true from o) _ hu
  rcases List.mem_append.mp hg with hg|hg
  ·obtain⟨j,h1,h2,h3⟩:=FL y (k+1) (m * n) o2 hy g hg
   exact⟨j+1,by omega,by rw[List.getElem?_cons_succ];exact h2,h3⟩
  ·rw[List.mem_singleton.mp hg]
   exact⟨0,rfl,rfl,wm a y o2 hy⟩
def yI:∀(t:Bd) (v:PV) (k:Nat) (m:Int),aR t v=true->0<=m->∀g∈G5 t v k m,0<=g.2.2.1:=by
 intro t
 induction t with
 |rest=>intro v k m _ _ g h;cases h
 |pay x y=>intro v k m _ _ g h;cases h
 |put z m=>intro v k m _ _ g h;cases h
 |use z=>intro v k m _ _ g h;cases h
 |Fw a b FL F5=>
  intro v k m h hm g hg
  obtain⟨x,y,rfl,hx,hy⟩:=cj h
  rcases List.mem_append.mp hg with hg|hg
  ·exact FL x _ _ hx hm g hg
  ·exact F5 y _ _ hy hm g hg
 |FE a b FL F5=>
  intro v k m h hm g hg
  obtain⟨i,y,rfl,hy⟩:=ck h
  rcases hy with⟨rfl,hy⟩|⟨rfl,hy⟩
  ·exact FL y _ _ hy hm g hg
  ·exact F5 y _ _ hy hm g hg
 |FC z n a b FL F5=>
  intro v k m h hm g hg
  obtain⟨i,y,rfl,hy⟩:=cm h
  rcases hy with⟨rfl,hy⟩|⟨rfl,hy⟩
  ·exact FL y _ _ hy hm g hg
  ·exact F5 y _ _ hy hm g hg
 |Fz a FL=>
  intro v k m h hm g hg
  obtain⟨xs,rfl,hx⟩:=cX h
  obtain⟨u,hu,hg⟩:=List.mem_flatMap.mp hg
  obtain⟨n,y,rfl,hn,hy⟩:=cO (List.all_eq_true.mp hx u hu)
  have hp:0<=m * n:=Int.mul_nonneg hm (by omega)
  rcases List.mem_append.mp hg with hg|hg
  ·exact FL y _ _ hy hp g hg
  ·rw[List.mem_singleton.mp hg];exact hp
noncomputable def sm(l:Vu):Int:=l.foldr (fun a b=>a+b) 0
theorem wn:∀(a b:Vu),sm (a++b)=sm a+sm b
 |[],b=>(Int.zero_add _).symm
 |x::a,b=>by show x+sm (a++b)=x+sm a+sm b;rw[wn a b,Int.add_assoc]
structure DB (js:Vs) (f:Ty->Int):Prop where
 jn:∀t u:Ty,t.Ok js->u.Ok js->f (t.join u)=f t+f u
 ag:∀(t:Ty) (m:Int),f (t.again m)=f t * m
 z:f (z0 js)=0
def rO:∀(t:Bd) (v:PV),aR t v=true->aR t (fS t v)=true:=by
 intro t
 induction t with
 |rest=>intro v _;rfl
 |pay x y=>intro v _;rfl
 |put z m=>intro v _;rfl
 |use z=>intro v _;rfl
 |Fz a _=>intro v _;rfl
 |Fw a b FL F5=>
  intro v h
  obtain⟨x,y,rfl,hx,hy⟩:=cj h
  show aR (.Fw a b) (.tup [fS a x,fS b y])=true
  rw[ju,FL x hx,F5 y hy];rfl
 |FE a b FL F5=>
  intro v h
  obtain⟨i,y,rfl,hy⟩:=ck h
  rcases hy with⟨rfl,hy⟩|⟨rfl,hy⟩
  ·exact FL y hy
  ·exact F5 y hy
 |FC z m a b FL F5=>
  intro v h
  obtain⟨i,y,rfl,hy⟩:=cm h
  rcases hy with⟨rfl,hy⟩|⟨rfl,hy⟩
  ·exact FL y hy
  ·exact F5 y hy
noncomputable def ki(js:Vs)(f:Ty->Int)(l:List Gi):Int:=sm (l.map fun g=>g.2.2.1 * f (g.2.2.2.FQ js g.2.1))
def jB(js:Vs)(f:Ty->Int)(a b:List Gi):ki js f (a++b)=ki js f a+ki js f b:=by unfold ki;rw[List.map_append,wn]
def yJ{js:Vs}{f:Ty->Int}(L:DB js f):∀(t:Bd) (v:PV) (k:Nat) (m:Int),t.good js []->aR t v=true->m * f (t.FQ js v)=m * f (t.FQ js (fS t v))+ki js f (G5 t v k m):=by
 intro t
 induction t with
 |rest=>intro v k m _ _;exact(Int.add_zero _).symm
 |pay x y=>intro v k m _ _;exact(Int.add_zero _).symm
 |put z n=>intro v k m _ _;exact(Int.add_zero _).symm
 |use z=>intro v k m _ _;exact(Int.add_zero _).symm
 |Fw a b FL F5=>
  intro v k m g h
  obtain⟨x,y,rfl,hx,hy⟩:=cj h
  show m * f ((a.FQ js x).join (b.FQ js y))=m * f ((a.FQ js (fS a x)).join (b.FQ js (fS b y)))+ki js f (G5 a x k m++G5 b y (k+Ht a) m)
  rw[L.jn _ _ (bp a x g.1 hx) (bp b y g.2 hy),L.jn _ _ (bp a _ g.1 (rO a x hx)) (bp b _ g.2 (rO b y hy)),jB,Int.mul_add,Int.mul_add,FL x k m g.1 hx,F5 y (k+Ht a) m g.2 hy]
  omega
 |FE a b FL F5=>
  intro v k m g h
  obtain⟨i,y,rfl,hy⟩:=ck h
  rcases hy with⟨rfl,hy⟩|⟨rfl,hy⟩
  ·exact FL y k m g.1 hy
  ·exact F5 y _ m g.2 hy
 |FC z n a b FL F5=>
  intro v k m g h
  obtain⟨i,y,rfl,hy⟩:=cm h
  rcases hy with⟨rfl,hy⟩|⟨rfl,hy⟩
  ·show m * f (Ty.join (0,sF js z (-n) n) (a.FQ js y))=m * f (Ty.join (0,sF js z (-n) n) (a.FQ js (fS a y)))+ki js f (G5 a y k m)
   have o:Ty.Ok js (0,sF js z (-n) n):=oF (by have:=g.2.1;omega)
   rw[L.jn _ _ o (bp a y g.2.2.2.1 hy),L.jn _ _ o (bp a _ g.2.2.2.1 (rO a y hy)),Int.mul_add,Int.mul_add,FL y k m g.2.2.2.1 hy]
   omega
  ·exact F5 y _ m g.2.2.2.2 hy
 |Fz a FL=>
  intro v k m g h
  obtain⟨xs,rfl,hx⟩:=cX h
  show m * f ((xs.map (Be js fun y=>a.FQ js y)).foldl Ty.join (z0 js))=m * f (z0 js)+ki js f (xs.flatMap _)
  rw[L.z,Int.mul_zero,Int.zero_add]
  have key:∀(xs:List PV) (T:Ty),T.Ok js->(∀u∈xs,oz a u=true)->m * f ((xs.map (Be js fun y=>a.FQ js y)).foldl Ty.join T)=m * f T+ki js f (xs.flatMap fun g=>G5 a (cQ g) (k+1) (m * nm (gu g))++[(k,fS a (cQ g),m * nm (gu g),a)]):=by
   intro xs
   induction xs with
   |nil=>intro T _ _;exact(Int.add_zero _).symm
   |cons u xs ih=>
    intro T oT hu
    obtain⟨n,y,rfl,hn,hy⟩:=cO (hu u (by simp))
    have oy:=(bp a y g hy).again hn
    rw[List.map_cons,List.foldl_cons,show Be js (fun y=>a.FQ js y) (.tup [.int n,y])=(a.FQ js y).again n from rfl,ih _ (oT.join oy) fun w hw=>hu w (by simp[hw]),List.flatMap_cons,jB,jB]
    rw[L.jn _ _ oT oy,L.ag,Int.mul_add]
    have e:=FL y (k+1) (m * n) g hy
    have e2:m * (f (a.FQ js y) * n)=m * n * f (a.FQ js y):=by rw[Int.mul_comm (f _) n,Int.mul_assoc]
    rw[e2,e]
    show m * f T+(m * n * f (a.FQ js (fS a y))+ki js f (G5 a y (k+1) (m * n)))+_=m * f T+(ki js f (G5 a y (k+1) (m * n))+(m * n * f (a.FQ js (fS a y))+0)+_)
    omega
  have:=key xs (z0 js) (lV js) fun u hu=>List.all_eq_true.mp hx u hu
  rw[L.z,Int.mul_zero,Int.zero_add]at this
  exact this
def wo(js:Vs):DB js fun t=>t.1:=⟨fun _ _ _ _=>rfl,fun _ _=>rfl,rfl⟩
def yK(js:Vs)(i:Nat):DB js fun t=>(t.2.map (·.1)).getD i 0:=by
 refine⟨fun t u ot ou=>?_,fun t m=>?_,?_⟩
 ·have:∀(a b:List (Int×Int)) (i:Nat),a.length=b.length->((List.zipWith jn a b).map (·.1)).getD i 0=(a.map (·.1)).getD i 0+(b.map (·.1)).getD i 0:=fun a=>by
   induction a with
   |nil=>intro b i h;rw[List.length_nil]at h;rw[List.eq_nil_of_length_eq_zero h.symm];rfl
   |cons p a ih=>
    intro b i h
    cases b with
    |nil=>cases h
    |cons r b=>
     cases i with
     |zero=>rfl
     |succ i=>simpa using ih b i (by simpa using h)
  exact this t.2 u.2 i (by rw[ot.1,ou.1])
 ·show((t.2.map (ag m)).map (·.1)).getD i 0=(t.2.map (·.1)).getD i 0 * m
  rw[List.map_map]
  have:∀(a:List (Int×Int)) (i:Nat),(a.map ((·.1) ∘ ag m)).getD i 0=(a.map (·.1)).getD i 0 * m:=fun a=>by
   induction a with
   |nil=>intro i;simp
   |cons p a ih=>
    intro i
    cases i with
    |zero=>rfl
    |succ i=>simpa using ih i
  exact this t.2 i
 ·have:∀(js:Vs) (i:Nat),((zl js).map (·.1)).getD i 0=0:=fun js=>by
   induction js with
   |nil=>intro i;simp[zl]
   |cons j js ih=>
    intro i
    cases i with
    |zero=>rfl
    |succ i=>simpa [zl]using ih i
  exact this js i
def wq(q:Qs):∀t:Bd,(t.ps q).Nodup:=by
 have inj:∀(i:Int),Function.Injective fun x:PV=>PV.tup [.int i,x]:=fun i x y h=>by injection h with h;injection h with _ h;injection h
 have two:∀(xs ys:List PV),xs.Nodup->ys.Nodup->(xs.map (fun x=>PV.tup [.int 0,x])++ys.map fun x=>PV.tup [.int 1,x]).Nodup:=fun xs ys h1 h2=>by
  refine List.nodup_append.mpr ⟨List.Pairwise.map _ (fun a b h e=>h (inj 0 e)) h1,List.Pairwise.map _ (fun a b h e=>h (inj 1 e)) h2,fun a ha b hb e=>?_⟩
  obtain⟨x,_,rfl⟩:=List.mem_map.mp ha
  obtain⟨y,_,rfl⟩:=List.mem_map.mp hb
  injection e with e;injection e with e _;injection e with e;cases e
 intro t
 induction t with
 |rest=>exact List.nodup_cons.mpr ⟨by simp,List.nodup_nil⟩
 |pay x y=>exact List.nodup_cons.mpr ⟨by simp,List.nodup_nil⟩
 |put z m=>exact List.nodup_cons.mpr ⟨by simp,List.nodup_nil⟩
 |use z=>exact List.nodup_cons.mpr ⟨by simp,List.nodup_nil⟩
 |Fz a _=>exact List.nodup_cons.mpr ⟨by simp,List.nodup_nil⟩
 |Fw a b FL F5=>
  show((a.ps q).flatMap fun x=>(b.ps q).map fun y=>PV.tup [x,y]).Nodup
  generalize a.ps q=xs at FL
  induction xs with
  |nil=>exact List.nodup_nil
  |cons x xs ih=>
   have h:=List.nodup_cons.mp FL
   rw[List.flatMap_cons]
   refine List.nodup_append.mpr ⟨List.Pairwise.map _ (fun a b h e=>h (by injection e with e;injection e with _ e;injection e)) F5,ih h.2,fun u hu w hw e=>?_⟩
   obtain⟨y,_,rfl⟩:=List.mem_map.mp hu
   obtain⟨x',hx',hw⟩:=List.mem_flatMap.mp hw
   obtain⟨y',_,rfl⟩:=List.mem_map.mp hw
   injection e with e;injection e with e _
   exact h.1 (e▸hx')
 |FE a b FL F5=>exact two _ _ FL F5
 |FC z m a b FL F5=>
  show((if q z=true then (a.ps q).map (fun x=>PV.tup [.int 0,x]) else [])++(b.ps q).map fun x=>PV.tup [.int 1,x]).Nodup
  by_cases h:q z=true
  ·rw[if_pos h];exact two _ _ FL F5
  ·rw[if_neg h];exact List.Pairwise.map _ (fun a b h e=>h (inj 1 e)) F5
theorem kj{α β:Type}{p:β->Bool}{f:α->List β}:∀{l:List α} {x:α},x∈l->l.Nodup->(∀y∈l,y≠x->(f y).filter p=[])->(l.flatMap f).filter p=(f x).filter p
 |y::l,x,h,hn,hf=>by
  have hn':=List.nodup_cons.mp hn
  rw[List.flatMap_cons,List.filter_append]
  by_cases e:y=x
  ·subst e
   have:(l.flatMap f).filter p=[]:=by
    rw[List.filter_eq_nil_iff]
    intro b hb
    obtain⟨z,hz,hb⟩:=List.mem_flatMap.mp hb
    exact List.filter_eq_nil_iff.mp (hf z (by simp[hz]) fun e=>hn'.1 (e▸hz)) b hb
   rw[this,List.append_nil]
  ·rw[hf y (by simp) e,List.nil_append]
   exact kj (by simpa [Ne.symm e]using h) hn'.2 fun z hz=>hf z (by simp[hz])
theorem qq{α:Type}{p:α->Bool}:∀{l:List α} {x:α},x∈l->l.Nodup->(∀y∈l,p y=true↔y=x)->l.filter p=[x]
 |y::l,x,h,hn,hf=>by
  have hn':=List.nodup_cons.mp hn
  by_cases e:y=x
  ·subst e
   rw[List.filter_cons_of_pos ((hf y (by simp)).mpr rfl),List.filter_eq_nil_iff.mpr fun z hz hp=>hn'.1 (((hf z (List.mem_cons_of_mem _ hz)).mp hp)▸hz)]
  ·rw[List.filter_cons_of_neg fun hp=>e ((hf y (by simp)).mp hp)]
   exact qq (by simpa [Ne.symm e]using h) hn'.2 fun z hz=>hf z (by simp[hz])
abbrev c_(w:ax):Prop:=∀{S:ay} {d l:Addr} {Q:bA} {E:bZ},FB S d l->(∀js ds S',HP js ds->1<=ds.length->FB S' d l->Gm d l S S'->Q (j7 js ds) S')->w [.ref d] S Q E
def um{xw xd xl:ax}(Hj:il xw)(Fu:bF xd)(Gk:kh xl):c_ (aU 10 (fL xw xd xl)):=by
 intro S0 d l Q E D0 k
 unfold fL
 refine dG ?_
 rw[show aw 10 [PV.ref d]=[some (.ref d),none,none,none,none,none,none,none,none,none] from rfl]
 refine al fun N hN=>?_
 walk_at "x"
 refine Hj D0 (by decide) (by decide) fun p ns S hl hnd hw0 _ Kx hpl hp D O0=>?_
 have OV:ns.length=8:=hl
 refine hN _ _ (al fun N hN=>?_)
 walk_at "x"
 refine Fu D (by decide) (by decide) fun r S1 r0 r1 D1 O1=>?_
 obtain⟨j,ej⟩:∃j:Nat,1+r=(j:Int):=⟨(1+r).toNat,by omega⟩
 have hp1:=O1 _ _ hp Kx hpl
 dsimp only
 rw[ej,hp1]
 dsimp only
 rw[vV (by rw[List.length_map];omega),<-List.map_take]
 have hj4:j<=4:=by omega
 have hj1:1<=j:=by omega
 intro p2 hp2
 have n2:=D1.free hp2
 have D2:FB (Fr S1 p2 (.lst ((ns.take j).map PV.str))) d l:=D1.new hp2
 have f2:(Fr S1 p2 (.lst ((ns.take j).map PV.str))) p2=some (.lst ((ns.take j).map PV.str)):=aa
 have Mn:p≠p2:=fun h=>by rw[h,hp2]at hp1;cases hp1
 have hp2':(Fr S1 p2 (.lst ((ns.take j).map PV.str))) p=some (.lst (ns.map PV.str)):=by rw[ap Mn];exact hp1
 have Nd:=(O0.trans O1).free hp2 n2.1 n2.2
 have L6:Gm d l S0 (Fr S1 p2 (.lst ((ns.take j).map PV.str))):=O0.trans (O1.trans (.new hp2))
 generalize Fr S1 p2 (.lst ((ns.take j).map PV.str))=S2 at D2 f2 hp2' L6
 have Nf:(ns.take j).length=j:=by rw[List.length_take];omega
 have N1:∀z∈ns.take j,IsW z:=fun z hz=>(hw0 z (List.mem_of_mem_take hz)).1
 generalize ns.take j=js at f2 Nf N1
 refine hN _ _ (al fun N hN=>?_)
 walk_at "x"
 simp only[f2]
 refine hN _ _ (al fun N hN=>?_)
 simp only[List.set_cons_zero,List.set_cons_succ,av,aQ,aO,v3,lk,bT]
 refine fo (fun done ys S'=>∃os rs:List Str,ys=os.map PV.str/\os.length=done.length/\rs.length+done.length=j/\(∀z∈os,z∈js)/\(∀z∈rs,z∈js)/\FB S' d l/\S' p2=some (.lst (rs.map PV.str))/\S' p=some (.lst (ns.map PV.str))/\Gm d l S0 S') ⟨[],js,rfl,rfl,Nf,by simp,fun z h=>h,D2,f2,hp2',L6⟩ ?_ ?_ ?_
 ·rintro done ys S' ⟨os,rs,rfl,e,l1,_⟩
  exact⟨trivial,cI (by rw[List.length_map,e];omega)⟩
 ·rintro done x rest ys S' K e ⟨os,rs,rfl,e1,e2,ho,hr,D',f',w',O'⟩ hK
  have hlen:done.length < j:=by
   have:(js.map PV.str).length=done.length+(rest.length+1):=by rw[e,List.length_append,List.length_cons]
   rw[List.length_map]at this
   omega
  simp only[Tg.put,dE,List.reduceReplicate,List.map_cons,List.map_nil,List.cons_append,List.nil_append,List.set_cons_zero,List.set_cons_succ,lk,ci,if_true,d4,n5,ao,ab,ak,v3,bx,f',true_and,List.length_map,List.getElem?_cons_zero,List.getElem?_cons_succ,Option.join]
  refine Fu D' (by omega) (by omega) fun r S3 r0 r1 D3 O3=>?_
  obtain⟨i,rfl⟩:∃i:Nat,r=(i:Int):=⟨r.toNat,by omega⟩
  have hi:i < rs.length:=by omega
  have f3:=O3 _ _ f' n2.1 n2.2
  simp only[pN,f3,List.length_map,Fl hi,List.getElem?_map,List.getElem?_eq_getElem hi,Option.map_some]
  refine⟨by omega,by omega,hK _ _ ⟨os++[rs[i]],rs.eraseIdx i,by rw[List.map_append];rfl,by rw[List.length_append,List.length_append,e1];rfl,?_,?_,?_,D3.upd n2.1 n2.2,?_,?_,(O'.trans O3).put Nd⟩⟩
  ·rw[List.length_eraseIdx_of_lt hi,List.length_append,List.length_singleton];omega
  ·intro z hz
   rcases List.mem_append.mp hz with h|h
   ·exact ho z h
   ·rw[List.mem_singleton.mp h];exact hr _ (List.getElem_mem hi)
  ·exact fun z hz=>hr z (List.mem_of_mem_eraseIdx hz)
  ·rw[aa,nB]
  ·rw[ap Mn];exact O3 _ _ w' Kx hpl
 rintro ys S3 ⟨os,rs,rfl,eo,_,ho,_,D3,_,w3,O3⟩ po JY
 rw[List.length_map,Nf]at eo
 have N4:=D3.free JY
 have Ng:p≠po:=fun h=>by rw[h,JY]at w3;cases w3
 refine hN _ _ (al fun N hN=>?_)
 walk_at "x"
 intro pb JX
 have D4:=(D3.new (o:=.lst (os.map PV.str)) JY)
 have LG:=D4.free JX
 have H0:J_ S0 (Fr (Fr S3 po (.lst (os.map PV.str))) pb (.lst [])) d l p po pb (ns.map PV.str) (os.map PV.str) (([]:List Bd).map Bd.pv):=by
  have a:(Fr S3 po (.lst (os.map PV.str))) p=some (.lst (ns.map PV.str)):=by rw[ap Ng];exact w3
  have b:(Fr S3 po (.lst (os.map PV.str))) po=some (.lst (os.map PV.str)):=aa
  have n1:p≠pb:=fun h=>by rw[h,JX]at a;cases a
  have n2:po≠pb:=fun h=>by rw[<-h,b]at JX;cases JX
  exact⟨D4.new JX,by rw[ap n1];exact a,by rw[ap n2];exact b,aa,⟨Kx,hpl,N4.1,N4.2,LG.1,LG.2,n1,n2⟩,(O3.trans (.new JY)).trans (.new JX),(O3.trans (.new JY)).free JX LG.1 LG.2⟩
 generalize Fr (Fr S3 po (.lst (os.map PV.str))) pb (.lst [])=S4 at H0
 refine hN _ _ (al fun N hN=>?_)
 simp only[bO,dB,v3,lk,List.set_cons_zero,List.set_cons_succ,H0.o]
 refine bw (fun done σ S'=>∃(bs:List Bd) (x4 x7 x8 x9:Option PV),σ=[some (.ref d),some (.ref p),some (.ref p2),some (.tup (js.map PV.str)),x4,some (.ref po),some (.ref pb),x7,x8,x9]/\J_ S0 S' d l p po pb (ns.map PV.str) (os.map PV.str) (bs.map Bd.pv)/\bs.length=done.length/\done.length<=j/\∀t∈bs,CB js t) ⟨[],_,_,_,_,rfl,H0,rfl,Nat.zero_le _,by simp⟩ (fun _ _ _ ⟨_,_,_,_,_,_,H,_⟩=>H.o) ?_ ?_
 ·rintro done x rest σ S' K e ⟨bs,x4,x7,x8,x9,rfl,H,lb,lj,hb⟩ hK
  obtain⟨y,rfl,hy⟩:=fu e
  obtain⟨z,hz,rfl⟩:∃z,os[done.length]?=some z/\.str z=y:=by rw[List.getElem?_map]at hy;exact Option.map_eq_some_iff.mp hy
  have hlt:done.length < os.length:=(List.getElem?_eq_some_iff.mp hz).1
  have Ls:z∈js:=ho z (List.mem_of_getElem? hz)
  simp only[Tg.put,Tg.Fx,List.set_cons_zero,List.set_cons_succ]
  refine al fun N2 GA=>?_
  simp only[av,az,ao,af,ab,v3,lk,c3]
  refine Fu H.D (by decide) (by decide) fun r1 S1 a0 a1 D1 O1=>?_
  have H1:=H.Ka D1 O1
  simp only[aT,List.set_cons_zero,List.set_cons_succ]
  refine GA _ _ (al fun N2 GA=>?_)
  have next:∀(t:Bd) (S2:ay),CI js t->J_ S0 S2 d l p po pb (ns.map PV.str) (os.map PV.str) (bs.map Bd.pv)->N2 [some (.ref d),some (.ref p),some (.ref p2),some (.tup (js.map PV.str)),some (.str z),some (.ref po),some (.ref pb),some (.int done.length),some t.pv,x9] S2:=by
   intro t S2 ht H2
   refine GA _ _ (al fun N3 LF=>?_)
   simp only[av,bc,az,ao,ab,v3,lk,c3]
   intro e1 KO
   have n1:=H2.D.free KO
   refine Gk (js:=js) (H2.new KO).D aa n1.1 n1.2 fun f1 S3 l1 g1 D3 O3=>?_
   have H3:=(H2.new KO).Ka D3 O3
   intro e2 Nh
   have n2:=H3.D.free Nh
   refine Gk (js:=js) (H3.new Nh).D aa n2.1 n2.2 fun f2 S4 l2 g2 D4 O4=>?_
   have H4:=(H3.new Nh).Ka D4 O4
   intro p9 hp9
   have n9:=H4.D.free hp9
   have H5:=H4.new (o:=.lst [.tup [.str "then",f1.pv,t.pv],.tup [.str "often",t.pv],.tup [.str "either",f2.pv,t.pv]]) hp9
   have f5:(Fr S4 p9 (.lst [.tup [.str "then",f1.pv,t.pv],.tup [.str "often",t.pv],.tup [.str "either",f2.pv,t.pv]])) p9=some (.lst [.tup [.str "then",f1.pv,t.pv],.tup [.str "often",t.pv],.tup [.str "either",f2.pv,t.pv]]):=aa
   refine LF _ _ ?_
   generalize Fr S4 p9 (.lst [.tup [.str "then",f1.pv,t.pv],.tup [.str "often",t.pv],.tup [.str "either",f2.pv,t.pv]])=S5 at H5 f5
   simp only[List.set_cons_zero,List.set_cons_succ,aN,d4,n5,ao,af,ab,ak,bc,v3,lk,c3,bx,aT,H5.b,true_and,List.length_map]
   refine Fu (m:=(bs.length:Int)+1) H5.D (by omega) (by omega) fun r6 S6 b0 b1 D6 O6=>?_
   have H6:=H5.Ka D6 O6
   have f6:=O6 _ _ f5 n9.1 n9.2
   simp only[ac,f6,bW,cM,sC]
   intro p10 Lv
   have N5:=H6.D.free Lv
   refine Fu (H6.new Lv).D (by decide) (by decide) fun r7 S7 c0 c1 D7 O7=>?_
   have H7:=(H6.new Lv).Ka D7 O7
   have f7:=O7 _ _ (aa (S:=S6)) N5.1 N5.2
   simp only[f7]
   obtain⟨v,hv,hm⟩:=im (xs:=[t.pv,.tup [.str "then",f1.pv,t.pv],.tup [.str "often",t.pv],.tup [.str "either",f2.pv,t.pv]]) c0 (by simpa using c1)
   rw[hv]
   obtain⟨u,hu,rfl⟩:∃u,CB js u/\u.pv=v:=by
    simp only[List.mem_cons,List.not_mem_nil,or_false]at hm
    rcases hm with rfl|rfl|rfl|rfl
    ·exact⟨t,ht.cb,rfl⟩
    ·exact⟨_,ht.Fw l1 g1,rfl⟩
    ·exact⟨_,ht.Fz,rfl⟩
    ·exact⟨_,ht.FE l2 g2,rfl⟩
   simp only[k7,H7.b]
   refine⟨b0,by rw[List.length_map];omega,Nat.lt_of_lt_of_le (show(bs.map Bd.pv).length < 5 by rw[List.length_map];omega) (by decide),?_⟩
   refine hK _ _ ⟨bs.take r6.toNat++u::bs.drop r6.toNat,_,_,_,_,rfl,?_,?_,?_,?_⟩
   ·rw[List.map_append,List.map_cons,List.map_take,List.map_drop]
    exact H7.put
   ·rw[List.length_append,List.length_cons,List.length_take,List.length_drop,List.length_append,List.length_singleton];omega
   ·rw[List.length_append,List.length_singleton];omega
   ·intro w hw
    rcases List.mem_append.mp hw with h|h
    ·exact hb w (List.mem_of_mem_take h)
    ·rcases List.mem_cons.mp h with rfl|h
     ·exact hu
     ·exact hb w (List.mem_of_mem_drop h)
  have take:∀(S2:ay),J_ S0 S2 d l p po pb (ns.map PV.str) (os.map PV.str) (bs.map Bd.pv)->av 8 (az [c3 (.str "take"),af ac (v3 5) (af bv (v3 7) (c3 (.int 1))),af aT (c3 (.int 1)) (ab xd [v3 0,c3 (.int 9)]),v3 8,ab xl [v3 0,bc []]]) { nx:=N2,rt:=Q,ex:=dO,ct:=K,bk:=N } [some (.ref d),some (.ref p),some (.ref p2),some (.tup (js.map PV.str)),some (.str z),some (.ref po),some (.ref pb),some (.int done.length),some (.tup [.str "put",.str z,.int (1+r1)]),x9] S2:=by
   intro S2 H2
   obtain⟨y,hy,ey⟩:=uk (xs:=os.map PV.str) (i:=done.length) (by rw[List.length_map];exact hlt)
   obtain⟨y,O9,rfl⟩:=List.mem_map.mp hy
   simp only[av,az,ao,af,ab,bc,v3,lk,c3,bv,ac,dz,H2.o,ey]
   refine Fu H2.D (by decide) (by decide) fun r2 S3 b0 b1 D3 O3=>?_
   have H3:=H2.Ka D3 O3
   simp only[aT]
   intro e1 KO
   have n1:=H3.D.free KO
   refine Gk (js:=js) (H3.new KO).D aa n1.1 n1.2 fun f S4 O_ hgf D4 O4=>?_
   have H4:=(H3.new KO).Ka D4 O4
   exact next (.FC y (1+r2) (.put z (1+r1)) f) S4 (.FC Ls (by omega) (by omega) (ho y O9) (by omega) (by omega) O_ hgf) H4
  simp only[bt,jb,aJ,af,ak,ao,ab,v3,lk,c3,o9,dz,decide_eq_true_eq]
  split
  ·rw[if_pos trivial];exact take S1 H1
  ·refine Fu H1.D (by decide) (by decide) fun r2 S2 b0 b1 D2 O2=>?_
   have H2:=H1.Ka D2 O2
   simp only[aV,Bool.false_bne,decide_eq_true_eq]
   split
   ·exact take S2 H2
   ·simp only[aL]
    exact next (.put z (1+r1)) S2 (.put Ls (by omega) (by omega)) H2
 ·rintro σ S5 ⟨bs,x4,x7,x8,x9,rfl,H,lb,lj,hb⟩
  refine hN _ _ ?_
  have Kv:bs.length<=4:=by omega
  simp only[au,az,ao,ak,aQ,dB,v3,lk,H.b]
  refine fo (fun done ys S'=>S'=S5/\∃es:List (Str×Bd),ys=es.map gS/\es.length=done.length/\done.length<=bs.length/\∀q∈es,q.2∈bs) ⟨rfl,[],rfl,rfl,Nat.zero_le _,by simp⟩ ?_ ?_ ?_
  ·rintro done ys S' ⟨rfl,es,rfl,e,l1,_⟩
   exact⟨H.b,cI (by rw[List.length_map,e];omega)⟩
  ·rintro done x rest ys S' K e ⟨rfl,es,rfl,e2,l1,he⟩ hK
   obtain⟨y,rfl,hy⟩:=fu e
   obtain⟨t,ht,rfl⟩:∃t,bs[done.length]?=some t/\t.pv=y:=by rw[List.getElem?_map]at hy;exact Option.map_eq_some_iff.mp hy
   have hlt:done.length < bs.length:=(List.getElem?_eq_some_iff.mp ht).1
   have h8:4+done.length < ns.length:=by omega
   have hat:Gw (ns.map PV.str) (4+(done.length:Int))=some (.str ns[4+done.length]):=by
    rw[show(4+(done.length:Int))=((4+done.length:Nat):Int) by omega]
    exact rH (by rw[List.getElem?_map,List.getElem?_eq_getElem h8];rfl)
   simp only[Tg.put,Tg.Fx,dE,List.reduceReplicate,List.map_cons,List.map_nil,List.cons_append,List.nil_append,List.set_cons_zero,List.set_cons_succ,lk,ci,if_true,az,ao,af,c3,v3,aT,ac,List.getElem?_cons_zero,List.getElem?_cons_succ,Option.join,H.w,hat]
   refine hK _ _ ⟨rfl,es++[(ns[4+done.length],t)],by rw[List.map_append];rfl,by rw[List.length_append,List.length_append,e2];rfl,by rw[List.length_append,List.length_singleton];omega,fun q hq=>?_⟩
   rcases List.mem_append.mp hq with h|h
   ·exact he q h
   ·rw[List.mem_singleton.mp h];exact List.mem_of_getElem? ht
  ·rintro ys S' ⟨rfl,es,rfl,e,_,he⟩ pl hpl
   simp only[bo,pK,aa]
   have hel:es.length<=1000:=by
    rw[e];unfold L3.aK;rw[List.length_mapIdx,List.length_map];omega
   refine k js es _ ⟨⟨fun z hz=>lN (N1 z hz),by omega,hel,fun q hq=>(hb _ (he q hq)).g,fun q hq=>by have:=(hb _ (he q hq)).d;omega,fun q hq=>by have:=(hb _ (he q hq)).s;omega⟩,fun q hq=>by have:=(hb _ (he q hq)).p;omega⟩ (by
    have h1:(js.map PV.str).length=js.length:=List.length_map _
    have h2:(L3.aK (os.map PV.str)).length=os.length:=by unfold L3.aK;rw[List.length_mapIdx,List.length_map]
    rw[e];unfold L3.aK;rw[List.length_mapIdx,List.length_map];omega) (H.D.new hpl) (H.x.trans (.new hpl))
end C
namespace G33
open PySem L2 L3
noncomputable def bb(i:Nat):Stmt:=PySem.Challenge.pw_dueworth_k33_whole_traces_are_lines.main.body.getD i (.Pass ⟨0,0,0,0⟩)
structure Txt (P:Program) (w:World) (K:Vo) (mg:Vr):Prop where
 o_sides_of:a_ K mg "sides_of" (bb 2) ["body"]
 o_parts_in:a_ K mg "parts_in" (bb 3) ["body"]
 o_parts:a_ K mg "parts" (bb 4) ["body"]
 o_chosen:a_ K mg "chosen" (bb 6) ["body","trace"]
 o_plain_trace:a_ K mg "plain_trace" (bb 7) ["body"]
 o_led_to_part:a_ K mg "led_to_part" (bb 8) ["body","place","trace"]
 o_parts_reached:pX K mg "parts_reached" (bb 10) ["body","names","reached"]
 o_next_step:a_ K mg "next_step" (bb 11) ["house","names"]
 o_filling:a_ K mg "filling" (bb 12) ["house"]
 o_fillable:a_ K mg "fillable" (bb 13) ["house"]
 o_passes_of_then:a_ K mg "passes_of_then" (bb 15) ["body","names"]
 o_passes_of:a_ K mg "passes_of" (bb 16) ["body","names"]
 o_oftens_come_to:a_ K mg "oftens_come_to" (bb 17) ["body","names"]
 o_common:a_ K mg "common" (bb 19) ["one","other"]
 o_fraction:a_ K mg "fraction" (bb 20) ["top","bottom"]
 o_plus:a_ K mg "plus" (bb 21) ["one","other"]
 o_times:a_ K mg "times" (bb 22) ["one","other"]
 o_things_of:a_ K mg "things_of" (bb 24) ["jars","name","things"]
 o_added:a_ K mg "added" (bb 25) ["one","other"]
 o_multiplied:a_ K mg "multiplied" (bb 26) ["one","many"]
 o_no_tally:a_ K mg "no_tally" (bb 27) ["jars"]
 o_behind:a_ K mg "behind" (bb 28) ["one","other"]
 o_again:a_ K mg "again" (bb 29) ["one","many"]
 o_tally_of_often:a_ K mg "tally_of_often" (bb 30) ["jars","body","goings"]
 o_tally_of_take:a_ K mg "tally_of_take" (bb 31) ["jars","body"]
 o_tally_of:a_ K mg "tally_of" (bb 32) ["jars","body","trace"]
 o_tally:a_ K mg "tally" (bb 33) ["house","d","trace"]
 o_numbered_bodies:a_ K mg "numbered_bodies" (bb 35) ["body","names"]
 o_lines:a_ K mg "lines" (bb 36) ["house"]
 o__law_deal:a_ K mg "_law_deal" (bb 38) ["_law_script","_law_base"]
 o__law_draw:a_ K mg "_law_draw" (bb 39) ["_law_deal_here","_law_many"]
 o__law_words:a_ K mg "_law_words" (bb 40) ["_law_deal_here","_law_many"]
 o__law_low:a_ K mg "_law_low" (bb 41) ["_law_top","_law_bottom"]
 o__law_plus:a_ K mg "_law_plus" (bb 42) ["_law_one","_law_other"]
 o__law_times:a_ K mg "_law_times" (bb 43) ["_law_one","_law_many"]
 o__law_cost:a_ K mg "_law_cost" (bb 44) ["_law_deal_here"]
 o__law_leaf:a_ K mg "_law_leaf" (bb 45) ["_law_deal_here","_law_jars"]
 o__law_body:a_ K mg "_law_body" (bb 46) ["_law_deal_here","_law_jars","_law_left","_law_down"]
 o__law_pass_count:a_ K mg "_law_pass_count" (bb 47) ["_law_body_here"]
 o__law_round_count:a_ K mg "_law_round_count" (bb 48) ["_law_body_here"]
 o__law_deed_body:a_ K mg "_law_deed_body" (bb 49) ["_law_deal_here","_law_jars","_law_most_parts","_law_most_lines"]
 o__law_house:a_ K mg "_law_house" (bb 50) ["_law_deal_here","_law_most_jars","_law_most_deeds","_law_most_parts"]
 o__law_trace:a_ K mg "_law_trace" (bb 51) ["_law_deal_here","_law_body_here","_law_left"]
 o__law_puts:a_ K mg "_law_puts" (bb 52) ["_law_body_here","_law_held","_law_found"]
 o__law_fillable:a_ K mg "_law_fillable" (bb 53) ["_law_house_here"]
 o__law_alike:a_ K mg "_law_alike" (bb 54) ["_law_found","_law_due"]
 o__law_number:a_ K mg "_law_number" (bb 55) ["_law_one"]
 o__law_follows:a_ K mg "_law_follows" (bb 56) ["_law_body_here","_law_trace_here","_law_moves"]
 o__law_is_going:a_ K mg "_law_is_going" (bb 57) ["_law_body_here","_law_one","_law_moves"]
 o__law_oftens:a_ K mg "_law_oftens" (bb 58) ["_law_body_here","_law_held","_law_there"]
 o__law_chain:a_ K mg "_law_chain" (bb 59) ["_law_deal_here"]
 o__law_any_house:a_ K mg "_law_any_house" (bb 60) ["_law_deal_here"]
 o__law_strip:a_ K mg "_law_strip" (bb 61) ["_law_body_here","_law_trace_here","_law_at","_law_many","_law_found"]
 o__law_line_of:a_ K mg "_law_line_of" (bb 62) ["_law_some","_law_d","_law_number_here","_law_trace_here"]
 o__law_right:a_ K mg "_law_right" (bb 63) ["_law_house_here","_law_some","_law_d","_law_trace_here"]
 L7:mg "abs" = none
 L8:mg "all" = none
 JK:mg "bool" = none
 FN:mg "enumerate" = none
 JZ:mg "int" = none
 Fy:mg "isinstance" = none
 FM:mg "len" = none
 Jf:mg "list" = none
 J3:mg "max" = none
 Hu:mg "range" = none
 JL:mg "reversed" = none
 FD:mg "tuple" = none
 Jz:mg "zip" = none
 Jg:∃a,mg "SIDES_FROM" = some (.ref a)/\KD P w K a (C.k_SIDES_FROM.map fun kv=>(kv.1,V.int kv.2))
section
variable {P:Program} {w:World} {K:Vo} {mg:Vr} {base:Heap}
def Ew:(["step","house"]:Vs).Nodup:=by decide +kernel
def Ex:(["other","one"]:Vs).Nodup:=by decide +kernel
def C3:(["trace"]:Vs).Nodup:=by decide +kernel
def Ey:(["found"]:Vs).Nodup:=by decide +kernel
def C4:(["number","found"]:Vs).Nodup:=by decide +kernel
def Ez:(["jar","name","things"]:Vs).Nodup:=by decide +kernel
def C5:(["left","right"]:Vs).Nodup:=by decide +kernel
def EA:(["number","many"]:Vs).Nodup:=by decide +kernel
def Bp:(["effect","first","second"]:Vs).Nodup:=by decide +kernel
def C6:(["effect","asked","many"]:Vs).Nodup:=by decide +kernel
def zr:(["_law_one"]:Vs).Nodup:=by decide +kernel
def C7:(["_law_k","_law_deal_here","_law_letters"]:Vs).Nodup:=by decide +kernel
def C8:(["_law_j","_law_deal_here","_law_letters"]:Vs).Nodup:=by decide +kernel
def C9:(["_law_k","_law_deal_here","_law_first","_law_jars","_law_many","_law_most_parts","_law_words_here"]:Vs).Nodup:=by decide +kernel
def zt:(["_law_one","_law_other"]:Vs).Nodup:=by decide +kernel
def C_:(["_law_one","_law_body_here","_law_moves"]:Vs).Nodup:=by decide +kernel
def Dd:(["_law_jar","_law_deal_here","_law_left"]:Vs).Nodup:=by decide +kernel
def zu:(["_law_k","_law_body_here","_law_words_here"]:Vs).Nodup:=by decide +kernel
def De:(["_law_row","_law_d","_law_number_here","_law_trace_here"]:Vs).Nodup:=by decide +kernel
def zv:(["_law_jar","_law_many","_law_held"]:Vs).Nodup:=by decide +kernel
def zw:(["_law_a","_law_b","_law_many"]:Vs).Nodup:=by decide +kernel
def fT:ax:=aU 1 C.iV
def kJ(T:Txt P w K mg):FH P w K mg base 1 "sides_of" 1 fT:=dk ["body"] T.o_sides_of (fun _ _ _ _ _ _ _ hr nd=>(aj (aq (dQ (ad 0) (eQ (Fi hr T.Jg (aF hr (ad 0)) (cB bL T.FM (l1 (ad 0))))) gC)))) rfl
noncomputable def fU:Nat->ax
 |0=>mj
 |n+1=>aU 3 (C.iW fT (fU n))
def md:ax:=fU 12
def qr(T:Txt P w K mg):FH P w K mg base 13 "parts_in" 1 md:=kS (b:=1) (r:=fU) T.o_parts_in (fun n R0=>dk ["body","found","side"] T.o_parts_in (fun _ _ _ _ _ _ _ hr nd=>(ae (s4 1 nd (bg (l1 (ad 0))))
  (ae (cP PassesOwn.never rfl (bU (c4 (kJ T) hr (l1 (ad 0)))) (gn 2 nd) (aj (bz (mB cV d5 (ad 1) (l1 (c4 R0 hr (l1 (ad 2))))))))
  (aj (aq (ad 1)))))) rfl) rfl rfl 12
def oJ:ax:=aU 1 (C.om md)
def wt(T:Txt P w K mg):FH P w K mg base 14 "parts" 1 oJ:=dk ["body"] T.o_parts (fun _ _ _ _ _ _ _ hr nd=>(aj (aq (cB bL T.FM (l1 (c4 (qr T) hr (l1 (ad 0)))))))) rfl
def me:ax:=aU 2 C.lG
def uo(T:Txt P w K mg):FH P w K mg base 1 "chosen" 2 me:=dk ["body","trace"] T.o_chosen (fun _ _ _ _ _ _ _ hr nd=>(aj (aq (eF hr (ad 0) (aC aI (gA bR ah) (aF hr (ad 1))))))) rfl
noncomputable def du:Nat->ax
 |0=>mj
 |n+1=>aU 1 (C.eU (du n))
def iJ:ax:=du 12
def gY(T:Txt P w K mg):FH P w K mg base 12 "plain_trace" 1 iJ:=kS (b:=0) (r:=du) T.o_plain_trace (fun n R0=>dk ["body"] T.o_plain_trace (fun _ _ _ _ _ _ _ hr nd=>(ae (aY (dZ hr (aF hr (ad 0)) ar) (aj (aq (aB (lc (c4 R0 hr (l1 (aF hr (ad 0)))) (l1 (c4 R0 hr (l1 (aF hr (ad 0))))))))) aE)
  (ae (aY (dZ hr (aF hr (ad 0)) ar) (aj (aq (aB (lc ah (l1 (c4 R0 hr (l1 (aF hr (ad 0))))))))) aE)
  (ae (aY (dZ hr (aF hr (ad 0)) ar) (aj (aq (aB (lc ah (l1 (c4 R0 hr (l1 (aF hr (ad 0))))))))) aE)
  (aj (aq (aB bQ))))))) rfl) rfl rfl 12
noncomputable def dv:Nat->ax
 |0=>mj
 |n+1=>aU 8 (C.eV oJ iJ (dv n))
def iK:ax:=dv 12
def mf(T:Txt P w K mg):FH P w K mg base 26 "led_to_part" 3 iK:=kS (b:=14) (r:=dv) T.o_led_to_part (fun n R0=>dk ["body","place","trace","one","other","second","side","inner"] T.o_led_to_part (fun _ _ _ _ _ _ _ hr nd=>(ae (aY (dZ hr (ad 1) ah) (aj (aq (ad 2))) aE)
  (ae (aY (dZ hr (aF hr (ad 0)) ar) (aj (aq (aB (l1 (aB (lc ah (l1 (c4 R0 hr (lc (aF hr (ad 0)) (lc (aC cG (ad 1) ah) (l1 (ad 2)))))))))))) aE)
  (ae (s4 3 nd (eF hr (ad 0) (gA bR ah)))
  (ae (s4 4 nd (eF hr (ad 0) (gA bR ah)))
  (ae (s4 5 nd (aC aI ah (c4 (wt T) hr (l1 (ad 3)))))
  (ae (s4 6 nd (vm (bd lE (ad 1) (ad 5) (aP _)) ah ah))
  (ae (s4 7 nd (vm (dZ hr (ad 6) ah) (c4 R0 hr (lc (ad 3) (lc (aC cG (ad 1) ah) (l1 (ad 2))))) (c4 R0 hr (lc (ad 4) (lc (aC cG (ad 1) (ad 5)) (l1 (ad 2)))))))
  (ae (aY (zn hr (aF hr (ad 0)) ar) (aj (aq (aB (lc (ad 6) (l1 (ad 7)))))) aE)
  (ae (aY (dZ hr (ad 6) ah) (aj (aq (aB (lc (ad 7) (l1 (c4 (gY T) hr (l1 (ad 4)))))))) aE)
  (aj (aq (aB (lc (c4 (gY T) hr (l1 (ad 3))) (l1 (ad 7)))))))))))))))) rfl) rfl rfl 12
noncomputable def cu:Nat->ax
 |0=>mj
 |n+1=>aU 7 (C.dJ fT (cu n))
def dL:ax:=cu 12
def fx(T:Txt P w K mg):KL P w K mg base 13 "parts_reached" 3 dL:=CU (b:=1) (r:=cu) T.o_parts_reached (fun n R0=>Fj ["body","names","reached","found","number","side","shut"] T.o_parts_reached (fun _ _ _ _ _ _ _ hr nd=>(ae (s4 3 nd (bg (l1 (aB (lc (ad 0) (l1 (ad 2)))))))
  (ae (cP PassesOwn.never rfl (iS rfl rfl T.FN (by decide +kernel) (l1 (c4 (kJ T) hr (l1 (ad 0))))) (pP rfl (aM (gn 4 nd) (aM (gn 5 nd) dA))) (ae (s4 6 nd (kE (fh (gB (fm hr)) (aF hr (ad 0)) ar (aP _)) (kE (fh (gB (fm hr)) (ad 4) ah (aP _)) (kD (fh (fj (eC hr)) (aF hr (ad 0)) (ad 1) rfl)))))
  (aj (bz (mB cV d5 (ad 3) (l1 (Fk R0 hr (lc (ad 5) (lc (ad 1) (l1 (kE (ad 2) (kD (zi (ad 6))))))))))))))
  (aj (aq (ad 3)))))) rfl) rfl rfl 12
def gZ:ax:=aU 7 (C.gQ dL iK)
def jC(T:Txt P w K mg):FH P w K mg base 27 "next_step" 2 gZ:=dk ["house","names","d","deed","place","found","part"] T.o_next_step (fun _ _ _ _ _ _ _ hr nd=>(ae (cP PassesOwn.never rfl (iS rfl rfl T.FN (by decide +kernel) (l1 (aF hr (ad 0)))) (pP rfl (aM (gn 2 nd) (aM (gn 3 nd) dA))) (aj (cP PassesOwn.never rfl (iS rfl rfl T.FN (by decide +kernel) (l1 (cD (fx T) hr (lc (aF hr (ad 3)) (l1 (ad 1)))))) (pP rfl (aM (gn 4 nd) (aM (gn 5 nd) dA))) (ae (s4 6 nd (aF hr (ad 5)))
  (aj (aY (nW (jg (iE (aF hr (ad 5))) (jg (dZ hr (aF hr (ad 6)) ar) (iR (bd (fj (eC hr)) (aF hr (ad 6)) (ad 1) rfl))))) (aj (aq (aB (lc (CT PySem.F.plainAttrs_tuple PySem.F.slot_tuple_index PySem.F.type_tuple_index vL rfl (aF hr (ad 0)) (l1 (aF hr (ad 6)))) (lc (ad 2) (l1 (c4 (mf T) hr (lc (aF hr (ad 3)) (lc (ad 4) (l1 (aB bQ))))))))))) aE))))))
  (aj (aq ly)))) rfl
def nC:ax:=aU 4 (C.j4 gZ)
def rP(T:Txt P w K mg):FH P w K mg base 28 "filling" 1 nC:=dk ["house","found","names","step"] T.o_filling (fun _ _ _ _ _ _ _ hr nd=>(ae (s4 1 nd (bg bQ))
  (ae (s4 2 nd (bg bQ))
  (ae (s4 3 nd (c4 (jC T) hr (lc (ad 0) (l1 (ad 2)))))
  (ae (jk PassesOwn.never (bd vn (ad 3) ly (aP _)) (ae (bz (mB b7 cF (ad 1) (l1 (ad 3))))
  (ae (bz (mB b7 cF (ad 2) (l1 (eF hr (aF hr (ad 0)) (aF hr (ad 3))))))
  (aj (s4 3 nd (c4 (jC T) hr (lc (ad 0) (l1 (ad 2)))))))))
  (aj (aq (ad 1)))))))) rfl
def i7:ax:=aU 1 (C.i3 nC)
def qu(T:Txt P w K mg):FH P w K mg base 29 "fillable" 1 i7:=dk ["house"] T.o_fillable (fun _ _ _ _ _ _ _ hr nd=>(aj (aq (tZ ["house"] 1 [0] ["step","house"] (bU (c4 (rP T) hr (l1 (ad 0)))) (fun _=>(gn 0 Ew)) (fun _=>dD) (fun _=>(eF hr (aF hr (ad 1)) (aF hr (ad 0)))))))) rfl
noncomputable def bi:Nat->ax×ax
 |0=>(mj,mj)
 |n+1=>(aU 5 (C.b5 (bi n).1 (bi n).2),aU 3 (C.eE (bi n).1 (bi n).2))
def de(n:Nat):ax:=(bi n).1
def g_(n:Nat):ax:=(bi n).2
def jD(T:Txt P w K mg)(n:Nat){s0 s1:ax}(R0:FH P w K mg base (0+n) "passes_of_then" 2 s0)(R1:FH P w K mg base (0+n) "passes_of" 2 s1):FH P w K mg base (0+n+1) "passes_of_then" 2 (aU 5 (C.b5 s0 s1)):=dk ["body","names","found","seconds","one"] T.o_passes_of_then (fun _ _ _ _ _ _ _ hr nd=>(ae (s4 2 nd (bg bQ))
  (ae (s4 3 nd (c4 R1 hr (lc (aF hr (ad 0)) (l1 (ad 1)))))
  (ae (cP PassesOwn.never rfl (bU (c4 R1 hr (lc (aF hr (ad 0)) (l1 (ad 1))))) (gn 4 nd) (aj (bz (mB cV d5 (ad 2) (l1 (tZ ["one"] 1 [4] ["other","one"] (bU (ad 3)) (fun _=>(gn 0 Ex)) (fun _=>dD) (fun _=>(aB (lc (ad 1) (l1 (ad 0)))))))))))
  (aj (aq (ad 2))))))) rfl
def oK(T:Txt P w K mg)(n:Nat){s0 s1:ax}(R0:FH P w K mg base (0+n) "passes_of_then" 2 s0)(R1:FH P w K mg base (0+n) "passes_of" 2 s1):FH P w K mg base (0+n+1) "passes_of" 2 (aU 3 (C.eE s0 s1)):=dk ["body","names","others"] T.o_passes_of (fun _ _ _ _ _ _ _ hr nd=>(ae (aY (dZ hr (aF hr (ad 0)) ar) (aj (aq (c4 R0 hr (lc (ad 0) (l1 (ad 1)))))) aE)
  (ae (aY (bd (fj (eC hr)) (aF hr (ad 0)) (aB (lc ar (l1 ar))) rfl) (aj (aq (bg (l1 (aB bQ))))) aE)
  (ae (wY [] 1 [] ["trace"] 2 nd (bU (c4 R1 hr (lc (eF hr (ad 0) (gA bR ah)) (l1 (ad 1))))) (fun _=>(gn 0 C3)) (fun _=>dD) (fun _=>(aB (lc ah (l1 (ad 0))))))
  (ae (aY (nW (jg (dZ hr (aF hr (ad 0)) ar) (iR (bd (fj (eC hr)) (aF hr (ad 0)) (ad 1) rfl)))) (aj (aq (ad 2))) aE)
  (aj (aq (aC aI (tZ [] 1 [] ["trace"] (bU (c4 R1 hr (lc (eF hr (ad 0) (gA bR ah)) (l1 (ad 1))))) (fun _=>(gn 0 C3)) (fun _=>dD) (fun _=>(aB (lc ah (l1 (ad 0)))))) (ad 2))))))))) rfl
theorem d6(T:Txt P w K mg):∀n:Nat,FH P w K mg base (0+n) "passes_of_then" 2 (de n)/\FH P w K mg base (0+n) "passes_of" 2 (g_ n)
 |0=>⟨.zero T.o_passes_of_then,.zero T.o_passes_of⟩
 |n+1=>let ⟨h0,h1⟩:=d6 T n;⟨jD T n h0 h1,oK T n h0 h1⟩
def kK:ax:=g_ 12
def oM(T:Txt P w K mg):FH P w K mg base 12 "passes_of" 2 kK:=(d6 T 12).2
def df:ax:=aU 3 (C.cU dL)
def jE(T:Txt P w K mg):FH P w K mg base 14 "oftens_come_to" 2 df:=dk ["body","names","oftens"] T.o_oftens_come_to (fun _ _ _ _ _ _ _ hr nd=>(ae (wY [] 1 [] ["found"] 2 nd (bU (cD (fx T) hr (lc (ad 0) (l1 (ad 1))))) (fun _=>(gn 0 Ey)) (fun _=>(m_ (dZ hr (aF hr (aF hr (ad 0))) ar))) (fun _=>(ad 0)))
  (aj (aq (tZ [] 2 [] ["number","found"] (iS rfl rfl T.FN (by decide +kernel) (l1 (ad 2))) (fun _=>(pP rfl (aM (gn 0 C4) (aM (gn 1 C4) dA)))) (fun _=>(m_ (iE (aF hr (ad 1))))) (fun _=>(aB (lc (ad 0) (l1 (aF hr (aF hr (ad 1)))))))))))) rfl
def qv:ax:=aU 3 C.lF
def uq(T:Txt P w K mg):FH P w K mg base 1 "common" 2 qv:=dk ["one","other","left"] T.o_common (fun _ _ _ _ _ _ _ hr nd=>(ae (jk PassesOwn.never (zn hr (ad 1) ah) (ae (s4 2 nd (aC gq (ad 0) (ad 1)))
  (ae (s4 0 nd (ad 1))
  (aj (s4 1 nd (ad 2))))))
  (aj (aq (cB CC T.L7 (l1 (ad 0))))))) rfl
def i8:ax:=aU 3 (C.iX qv)
def kL(T:Txt P w K mg):FH P w K mg base 2 "fraction" 2 i8:=dk ["top","bottom","part"] T.o_fraction (fun _ _ _ _ _ _ _ hr nd=>(ae (s4 2 nd (c4 (uq T) hr (lc (ad 0) (l1 (ad 1)))))
  (ae (aY (bd lE (ad 1) ah (aP _)) (aj (s4 2 nd (gA bR (ad 2)))) aE)
  (aj (aq (aB (lc (aC j0 (ad 0) (ad 2)) (l1 (aC j0 (ad 1) (ad 2)))))))))) rfl
def rQ:ax:=aU 2 (C.rF i8)
def yL(T:Txt P w K mg):FH P w K mg base 3 "plus" 2 rQ:=dk ["one","other"] T.o_plus (fun _ _ _ _ _ _ _ hr nd=>(aj (aq (c4 (kL T) hr (lc (aC aI (aC bn (aF hr (ad 0)) (aF hr (ad 1))) (aC bn (aF hr (ad 1)) (aF hr (ad 0)))) (l1 (aC bn (aF hr (ad 0)) (aF hr (ad 1))))))))) rfl
def oN:ax:=aU 2 (C.oi i8)
def wu(T:Txt P w K mg):FH P w K mg base 3 "times" 2 oN:=dk ["one","other"] T.o_times (fun _ _ _ _ _ _ _ hr nd=>(aj (aq (c4 (kL T) hr (lc (aC bn (aF hr (ad 0)) (aF hr (ad 1))) (l1 (aC bn (aF hr (ad 0)) (aF hr (ad 1))))))))) rfl
def eL:ax:=aU 3 C.gM
def fV(T:Txt P w K mg):FH P w K mg base 1 "things_of" 3 eL:=dk ["jars","name","things"] T.o_things_of (fun _ _ _ _ _ _ _ hr nd=>(aj (aq (cT cq T.FD (l1 (tZ ["things","name"] 1 [1,2] ["jar","name","things"] (bU (ad 0)) (fun _=>(gn 0 Ez)) (fun _=>dD) (fun _=>(vm (dZ hr (ad 0) (ad 1)) (ad 2) ah)))))))) rfl
def sK:ax:=aU 2 C.oj
def wv(T:Txt P w K mg):FH P w K mg base 1 "added" 2 sK:=dk ["one","other"] T.o_added (fun _ _ _ _ _ _ _ hr nd=>(aj (aq (cT cq T.FD (l1 (tZ [] 2 [] ["left","right"] (zm rfl rfl rfl T.Jz (by decide +kernel) (lc (ad 0) (l1 (ad 1)))) (fun _=>(pP rfl (aM (gn 0 C5) (aM (gn 1 C5) dA)))) (fun _=>dD) (fun _=>(aC aI (ad 0) (ad 1))))))))) rfl
def jF:ax:=aU 2 C.fH
def mE(T:Txt P w K mg):FH P w K mg base 1 "multiplied" 2 jF:=dk ["one","many"] T.o_multiplied (fun _ _ _ _ _ _ _ hr nd=>(aj (aq (cT cq T.FD (l1 (tZ ["many"] 1 [1] ["number","many"] (bU (ad 0)) (fun _=>(gn 0 EA)) (fun _=>dD) (fun _=>(aC bn (ad 0) (ad 1))))))))) rfl
def d8:ax:=aU 1 C.iY
def kM(T:Txt P w K mg):FH P w K mg base 1 "no_tally" 1 d8:=dk ["jars"] T.o_no_tally (fun _ _ _ _ _ _ _ hr nd=>(aj (aq (aB (lc (aB (lc ah (l1 ah))) (lc (aC sA (aB (l1 ah)) (cB bL T.FM (l1 (ad 0)))) (l1 (aC sA (aB (l1 ah)) (cB bL T.FM (l1 (ad 0))))))))))) rfl
def fy:ax:=aU 3 (C.lI sK rQ)
def kl(T:Txt P w K mg):FH P w K mg base 4 "behind" 2 fy:=dk ["one","other","demand"] T.o_behind (fun _ _ _ _ _ _ _ hr nd=>(ae (wY [] 3 [] ["effect","first","second"] 2 nd (A2 rfl rfl rfl T.Jz (by decide +kernel) (lc (aF hr (ad 0)) (lc (aF hr (ad 0)) (l1 (aF hr (ad 1)))))) (fun _=>(pP rfl (aM (gn 0 Bp) (aM (gn 1 Bp) (aM (gn 2 Bp) dA))))) (fun _=>dD) (fun _=>(cB (n4 rfl) T.J3 (lc (ad 1) (l1 (aC cG (ad 2) (ad 0)))))))
  (aj (aq (aB (lc (c4 (yL T) hr (lc (aF hr (ad 0)) (l1 (aF hr (ad 1))))) (lc (c4 (wv T) hr (lc (aF hr (ad 0)) (l1 (aF hr (ad 1))))) (l1 (cT cq T.FD (l1 (ad 2))))))))))) rfl
def k9:ax:=aU 3 (C.ol jF oN)
def ww(T:Txt P w K mg):FH P w K mg base 4 "again" 2 k9:=dk ["one","many","demand"] T.o_again (fun _ _ _ _ _ _ _ hr nd=>(ae (wY ["many"] 2 [1] ["effect","asked","many"] 2 nd (zm rfl rfl rfl T.Jz (by decide +kernel) (lc (aF hr (ad 0)) (l1 (aF hr (ad 0))))) (fun _=>(pP rfl (aM (gn 0 C6) (aM (gn 1 C6) dA)))) (fun _=>dD) (fun _=>(aC aI (ad 1) (cB (n4 rfl) T.J3 (lc ah (l1 (aC bn (gA bR (ad 0)) (aC cG (ad 2) ah))))))))
  (aj (aq (aB (lc (c4 (wu T) hr (lc (aF hr (ad 0)) (l1 (aB (lc (ad 1) (l1 ah)))))) (lc (c4 (mE T) hr (lc (aF hr (ad 0)) (l1 (ad 1)))) (l1 (cT cq T.FD (l1 (ad 2))))))))))) rfl
def cv:ax:=aU 2 (C.dH eL)
def km(T:Txt P w K mg):FH P w K mg base 2 "tally_of_take" 2 cv:=dk ["jars","body"] T.o_tally_of_take (fun _ _ _ _ _ _ _ hr nd=>(aj (aq (aB (lc (aB (lc ah (l1 ah))) (lc (c4 (fV T) hr (lc (ad 0) (lc (aF hr (ad 1)) (l1 (gA bR (aF hr (ad 1))))))) (l1 (c4 (fV T) hr (lc (ad 0) (lc (aF hr (ad 1)) (l1 (aF hr (ad 1))))))))))))) rfl
noncomputable def bj:Nat->ax×ax
 |0=>(mj,mj)
 |n+1=>(aU 5 (C.b4 d8 fy k9 (bj n).1 (bj n).2),aU 6 (C.fK d8 eL fy me cv (bj n).1 (bj n).2))
def dg(n:Nat):ax:=(bj n).1
def i9(n:Nat):ax:=(bj n).2
def jG(T:Txt P w K mg)(n:Nat){s0 s1:ax}(R0:FH P w K mg base (4+n) "tally_of_often" 3 s0)(R1:FH P w K mg base (4+n) "tally_of" 3 s1):FH P w K mg base (4+n+1) "tally_of_often" 3 (aU 5 (C.b4 d8 fy k9 s0 s1)):=dk ["jars","body","goings","found","going"] T.o_tally_of_often (fun _ _ _ _ _ _ _ hr nd=>(ae (s4 3 nd (c4 (kM T) hr (l1 (ad 0))))
  (ae (cP PassesOwn.never rfl (bU (ad 2)) (gn 4 nd) (aj (s4 3 nd (c4 (kl T) hr (lc (ad 3) (l1 (c4 (ww T) hr (lc (c4 R1 hr (lc (ad 0) (lc (aF hr (ad 1)) (l1 (aF hr (ad 4)))))) (l1 (aF hr (ad 4)))))))))))
  (aj (aq (ad 3)))))) rfl
def qw(T:Txt P w K mg)(n:Nat){s0 s1:ax}(R0:FH P w K mg base (4+n) "tally_of_often" 3 s0)(R1:FH P w K mg base (4+n) "tally_of" 3 s1):FH P w K mg base (4+n+1) "tally_of" 3 (aU 6 (C.fK d8 eL fy me cv s0 s1)):=dk ["jars","body","trace","head","nothing","side"] T.o_tally_of (fun _ _ _ _ _ _ _ hr nd=>(ae (s4 3 nd (aF hr (ad 1)))
  (ae (s4 4 nd (c4 (kM T) hr (l1 (ad 0))))
  (ae (aY (dZ hr (ad 3) ar) (aj (aq (aB (lc (aF hr (ad 1)) (lc (aF hr (ad 4)) (l1 (aF hr (ad 4)))))))) aE)
  (ae (aY (dZ hr (ad 3) ar) (aj (aq (aB (lc (aF hr (ad 4)) (lc (c4 (fV T) hr (lc (ad 0) (lc (aF hr (ad 1)) (l1 (aF hr (ad 1)))))) (l1 (aF hr (ad 4)))))))) aE)
  (ae (aY (dZ hr (ad 3) ar) (aj (aq (c4 (kl T) hr (lc (c4 R1 hr (lc (ad 0) (lc (aF hr (ad 1)) (l1 (aF hr (ad 2)))))) (l1 (c4 R1 hr (lc (ad 0) (lc (aF hr (ad 1)) (l1 (aF hr (ad 2))))))))))) aE)
  (ae (aY (dZ hr (ad 3) ar) (aj (aq (c4 R0 hr (lc (ad 0) (lc (ad 1) (l1 (ad 2))))))) aE)
  (ae (aY (bd (fj (eC hr)) (ad 3) (aB (lc ar (l1 ar))) rfl) (aj (aq (ad 4))) aE)
  (ae (s4 5 nd (c4 R1 hr (lc (ad 0) (lc (c4 (uo T) hr (lc (ad 1) (l1 (ad 2)))) (l1 (aF hr (ad 2)))))))
  (ae (aY (nW (jg (dZ hr (ad 3) ar) (iR (dZ hr (aF hr (ad 2)) ah)))) (aj (aq (c4 (kl T) hr (lc (c4 (km T) hr (lc (ad 0) (l1 (ad 1)))) (l1 (ad 5)))))) aE)
  (aj (aq (ad 5))))))))))))) rfl
theorem d9(T:Txt P w K mg):∀n:Nat,FH P w K mg base (4+n) "tally_of_often" 3 (dg n)/\FH P w K mg base (4+n) "tally_of" 3 (i9 n)
 |0=>⟨.zero T.o_tally_of_often,.zero T.o_tally_of⟩
 |n+1=>let ⟨h0,h1⟩:=d9 T n;⟨jG T n h0 h1,qw T n h0 h1⟩
def i_:ax:=i9 12
def kN(T:Txt P w K mg):FH P w K mg base 16 "tally_of" 3 i_:=(d9 T 12).2
def oO:ax:=aU 3 (C.oq i_)
def wx(T:Txt P w K mg):FH P w K mg base 17 "tally" 3 oO:=dk ["house","d","trace"] T.o_tally (fun _ _ _ _ _ _ _ hr nd=>(aj (aq (c4 (kN T) hr (lc (aF hr (ad 0)) (lc (aF hr (eF hr (aF hr (ad 0)) (ad 1))) (l1 (ad 2)))))))) rfl
def cJ(Ih:ax):bB:=(au (af aT (bc [(az [(c3 .non),(v3 0)])]) (ab Ih [(v3 0),(v3 1)])))
def cK:ax:=aU 2 (cJ df)
def ja(T:Txt P w K mg):FH P w K mg base 15 "numbered_bodies" 2 cK:=dk ["body","names"] T.o_numbered_bodies (fun _ _ _ _ _ _ _ hr nd=>(aj (aq (aC aI (bg (l1 (aB (lc ly (l1 (ad 0)))))) (c4 (jE T) hr (lc (ad 0) (l1 (ad 1)))))))) rfl
def oP(JM HX JA HE:ax):bB:=(ai (av 1 (ab JM [(v3 0)]))
  (ai (av 2 (bc []))
  (ai (bO (dB (af ac (v3 0) (c3 (.int 1)))) (.tp (.cons (.n 3) (.cons (.n 4) .nil))) (bO (aO (ab HX [(af ac (v3 4) (c3 (.int 1))),(v3 1)])) (.tp (.cons (.n 5) (.cons (.n 6) .nil))) (bO (aO (ab JA [(v3 6),(v3 1)])) (.n 7) (ai (av 8 (ab HE [(af ac (v3 0) (c3 (.int 0))),(v3 6),(v3 7)]))
  (aN (d4 "list" bh (v3 2) [(az [(v3 3),(v3 5),(af ac (v3 8) (c3 (.int 0))),(af ac (v3 8) (c3 (.int 1))),(v3 7)])]))))))
  (au (ak bo [(v3 2)])))))
def oQ:ax:=aU 9 (oP i7 cK kK i_)
def wy(T:Txt P w K mg):FH P w K mg base 30 "lines" 1 oQ:=dk ["house","names","found","d","deed","number","body","trace","gone"] T.o_lines (fun _ _ _ _ _ _ _ hr nd=>(ae (s4 1 nd (c4 (qu T) hr (l1 (ad 0))))
  (ae (s4 2 nd (bg bQ))
  (ae (cP PassesOwn.never rfl (iS rfl rfl T.FN (by decide +kernel) (l1 (aF hr (ad 0)))) (pP rfl (aM (gn 3 nd) (aM (gn 4 nd) dA))) (aj (cP PassesOwn.never rfl (bU (c4 (ja T) hr (lc (aF hr (ad 4)) (l1 (ad 1))))) (pP rfl (aM (gn 5 nd) (aM (gn 6 nd) dA))) (aj (cP PassesOwn.never rfl (bU (c4 (oM T) hr (lc (ad 6) (l1 (ad 1))))) (gn 7 nd) (ae (s4 8 nd (c4 (kN T) hr (lc (aF hr (ad 0)) (lc (ad 6) (l1 (ad 7))))))
  (aj (bz (mB b7 cF (ad 2) (l1 (aB (lc (ad 3) (lc (ad 5) (lc (aF hr (ad 8)) (lc (aF hr (ad 8)) (l1 (ad 7)))))))))))))))))
  (aj (aq (cT cq T.FD (l1 (ad 2))))))))) rfl
def kO:ax:=aU 5 C.gH
def oR(T:Txt P w K mg):FH P w K mg base 1 "_law_deal" 2 kO:=dk ["_law_script","_law_base","_law_one","_law_some","_law_number_here"] T.o__law_deal (fun _ _ _ _ _ _ _ hr nd=>(ae (wY [] 1 [] ["_law_one"] 3 nd (bU (dQ (ad 0) (eQ (ad 1)) (eQ ah))) (fun _=>(gn 0 zr)) (fun _=>dD) (fun _=>(cB (n4 rfl) T.J3 (lc (ad 0) (l1 (aC cG ah (ad 0)))))))
  (ae (s4 4 nd (aC aI ah (ad 1)))
  (ae (cP PassesOwn.never rfl (bU (ad 3)) (gn 2 nd) (aj (s4 4 nd (aC gq (aC aI (aC bn (ad 4) ah) (aC gq (ad 2) ah)) ah))))
  (aj (aq (AY (oh ar (ad 4) (oh ar ah (oh ar (A0 tL rfl (tZ [] 1 [] ["_law_one"] (bU (ad 3)) (fun _=>(gn 0 zr)) (fun _=>(m_ (bd Em (ad 0) (aC CL ah ah) (aP _)))) (fun _=>(ad 0))) rfl T.Jf rfl T.JL) AX)))))))))) rfl
def w__law_draw:ax:=aU 5 C.gJ
def am(T:Txt P w K mg):FH P w K mg base 1 "_law_draw" 2 w__law_draw:=dk ["_law_deal_here","_law_many","_law_number_here","_law_one","_law_other"] T.o__law_draw (fun _ _ _ _ _ _ _ hr nd=>(ae (jk PassesOwn.never (nW (jg (dZ hr (eF hr (ad 0) ar) ah) (iR (bd pU (cB bL T.FM (l1 (eF hr (ad 0) ar))) ah (aP _))))) (aj (m9 (yo hr) (Ev vN zk (eF hr (ad 0) ar)) (ad 0) ar)))
  (ae (s4 2 nd (eF hr (ad 0) ar))
  (ae (aY (bd pU (ad 2) ah (aP _)) (ae (m9 (yo hr) (aC j0 (ad 2) (ad 1)) (ad 0) ar)
  (aj (aq (aC gq (ad 2) (ad 1))))) aE)
  (ae (s4 3 nd (aC gq (aC aI (aC bn (eF hr (ad 0) ar) ah) ah) ah))
  (ae (m9 (yo hr) (aC gq (aC aI (aC bn (ad 3) ah) ah) ah) (ad 0) ar)
  (ae (s4 4 nd (aC gq (aC bn (eF hr (ad 0) ar) (eF hr (ad 0) ar)) ah))
  (aj (aq (aC gq (aC aI (aC bn (aC gq (aC bn (ad 3) (ad 3)) ah) ah) (ad 4)) (ad 1))))))))))) rfl
def dU:ax:=aU 11 (C.fF w__law_draw)
def iL(T:Txt P w K mg):FH P w K mg base 2 "_law_words" 2 dU:=dk ["_law_deal_here","_law_many","_law_letters","_law_taken","_law_k","_law_core","_law_at","_law_turn","_law_near","_law_found","_law_name"] T.o__law_words (fun _ _ _ _ _ _ _ hr nd=>(ae (s4 2 nd ar)
  (ae (s4 3 nd (bg (lc ar (lc ar (lc ar (lc ar (lc ar (lc ar (lc ar (lc ar (lc ar (l1 ar))))))))))))
  (ae (s4 5 nd (mB sB vz ar (l1 (tZ ["_law_letters","_law_deal_here"] 1 [0,2] ["_law_k","_law_deal_here","_law_letters"] (fk rfl rfl T.Hu (l1 (c4 (am T) hr (lc (ad 0) (l1 ah))))) (fun _=>(gn 0 C7)) (fun _=>dD) (fun _=>(eF hr (ad 2) (c4 (am T) hr (lc (ad 1) (l1 ah)))))))))
  (ae (yh (i:=6) (j:=7) (k:=8) rfl nd rfl rfl rfl rfl rfl rfl (aB (lc (c4 (am T) hr (lc (ad 0) (l1 (aC aI (cB bL T.FM (l1 (ad 5))) ah)))) (lc (c4 (am T) hr (lc (ad 0) (l1 ah))) (l1 (fh (gB (fm hr)) (c4 (am T) hr (lc (ad 0) (l1 ah))) ah (aP _)))))))
  (ae (s4 9 nd (bg bQ))
  (ae (cP PassesOwn.never rfl (fk rfl rfl T.Hu (l1 (ad 1))) (gn 4 nd) (ae (s4 10 nd (aC aI (aC aI (dQ (ad 5) gC (eQ (ad 6))) (eF hr (ad 2) (aC gq (aC aI (ad 7) (ad 4)) ah))) (dQ (ad 5) (eQ (ad 6)) gC)))
  (ae (aY (m6 (iE (ad 8))) (aj (s4 10 nd (mB sB vz ar (l1 (tZ ["_law_letters","_law_deal_here"] 1 [0,2] ["_law_j","_law_deal_here","_law_letters"] (fk rfl rfl T.Hu (l1 (aC aI ah (c4 (am T) hr (lc (ad 0) (l1 ah)))))) (fun _=>(gn 0 C8)) (fun _=>dD) (fun _=>(eF hr (ad 2) (c4 (am T) hr (lc (ad 1) (l1 ah)))))))))) aE)
  (ae (jk PassesOwn.never (nW (iz (bd (kG (eC hr)) (ad 10) (ad 3) rfl) (gm (bd (kG (eC hr)) (ad 10) (ad 9) rfl)))) (aj (s4 10 nd (aC aI (eF hr (ad 2) (aC gq (aC aI (mB vO yg (ad 2) (l1 (aF hr (ad 10)))) ah) ah)) (dQ (ad 10) (eQ ah) gC)))))
  (aj (bz (mB b7 cF (ad 9) (l1 (ad 10)))))))))
  (aj (aq (ad 9)))))))))) rfl
def d_:ax:=aU 4 C.iU
def hG(T:Txt P w K mg):FH P w K mg base 1 "_law_low" 2 d_:=dk ["_law_top","_law_bottom","_law_one","_law_other"] T.o__law_low (fun _ _ _ _ _ _ _ hr nd=>(ae (vB (i:=2) (j:=3) rfl nd rfl rfl (by decide) rfl rfl (lc (cB (n4 rfl) T.J3 (lc (ad 0) (l1 (aC cG ah (ad 0))))) (l1 (ad 1))))
  (ae (jk PassesOwn.never (bd pU (ad 3) ah (aP _)) (aj (vB (i:=2) (j:=3) rfl nd rfl rfl (by decide) rfl rfl (lc (ad 3) (l1 (aC gq (ad 2) (ad 3)))))))
  (aj (aq (aB (lc (aC j0 (ad 0) (ad 2)) (l1 (aC j0 (ad 1) (ad 2)))))))))) rfl
def hU:ax:=aU 2 (C.gN d_)
def oS(T:Txt P w K mg):FH P w K mg base 2 "_law_plus" 2 hU:=dk ["_law_one","_law_other"] T.o__law_plus (fun _ _ _ _ _ _ _ hr nd=>(aj (aq (c4 (hG T) hr (lc (aC aI (aC bn (aF hr (ad 0)) (aF hr (ad 1))) (aC bn (aF hr (ad 1)) (aF hr (ad 0)))) (l1 (aC bn (aF hr (ad 0)) (aF hr (ad 1))))))))) rfl
def fW(Gz:ax):bB:=(au (ab Gz [(af bS (af ac (v3 0) (c3 (.int 0))) (v3 1)),(af ac (v3 0) (c3 (.int 1)))]))
def jH:ax:=aU 2 (fW d_)
def mF(T:Txt P w K mg):FH P w K mg base 2 "_law_times" 2 jH:=dk ["_law_one","_law_many"] T.o__law_times (fun _ _ _ _ _ _ _ hr nd=>(aj (aq (c4 (hG T) hr (lc (aC bn (aF hr (ad 0)) (ad 1)) (l1 (aF hr (ad 0)))))))) rfl
def hV:ax:=aU 2 (C.gK w__law_draw d_)
def oU(T:Txt P w K mg):FH P w K mg base 2 "_law_cost" 1 hV:=dk ["_law_deal_here","_law_form"] T.o__law_cost (fun _ _ _ _ _ _ _ hr nd=>(ae (s4 1 nd (c4 (am T) hr (lc (ad 0) (l1 ah))))
  (ae (aY (dZ hr (ad 1) ah) (aj (aq (aB (lc ah (l1 ah))))) aE)
  (ae (aY (bd lE (ad 1) ah (aP _)) (aj (aq (aB (lc (aC aI ah (c4 (am T) hr (lc (ad 0) (l1 ah)))) (l1 ah))))) aE)
  (aj (aq (c4 (hG T) hr (lc (c4 (am T) hr (lc (ad 0) (l1 ah))) (l1 (aC aI ah (c4 (am T) hr (lc (ad 0) (l1 ah))))))))))))) rfl
def cz:ax:=aU 4 (C.dF w__law_draw hV)
def b8(T:Txt P w K mg):FH P w K mg base 3 "_law_leaf" 2 cz:=dk ["_law_deal_here","_law_jars","_law_form","_law_many"] T.o__law_leaf (fun _ _ _ _ _ _ _ hr nd=>(ae (s4 2 nd (c4 (am T) hr (lc (ad 0) (l1 ah))))
  (ae (aY (dZ hr (ad 2) ah) (aj (aq (aB (l1 ar)))) aE)
  (ae (aY (nW (iz (bd lE (ad 2) ah (aP _)) (gm (dZ hr (cB bL T.FM (l1 (ad 1))) ah)))) (aj (aq (aB (lc ar (l1 (c4 (oU T) hr (l1 (ad 0)))))))) aE)
  (ae (s4 3 nd (eF hr (bg (lc ah (lc ah (l1 (aC aI ah (c4 (am T) hr (lc (ad 0) (l1 ah)))))))) (c4 (am T) hr (lc (ad 0) (l1 ah)))))
  (aj (aq (aB (lc ar (lc (eF hr (ad 1) (c4 (am T) hr (lc (ad 0) (l1 (cB bL T.FM (l1 (ad 1))))))) (l1 (ad 3)))))))))))) rfl
noncomputable def eM:Nat->ax
 |0=>mj
 |n+1=>aU 8 (C.gL w__law_draw cz (eM n))
def kP:ax:=eM 12
def oV(T:Txt P w K mg):FH P w K mg base 15 "_law_body" 4 kP:=kS (b:=3) (r:=eM) T.o__law_body (fun n R0=>dk ["_law_deal_here","_law_jars","_law_left","_law_down","_law_form","_law_one","_law_other","_law_many"] T.o__law_body (fun _ _ _ _ _ _ _ hr nd=>(ae (s4 4 nd (c4 (am T) hr (lc (ad 0) (l1 ah))))
  (ae (aY (nW (iz (dZ hr (ad 3) ah) (iz (bd lE (aF hr (ad 2)) ah (aP _)) (gm (bd lE (ad 4) ah (aP _)))))) (aj (aq (c4 (b8 T) hr (lc (ad 0) (l1 (ad 1)))))) aE)
  (ae (aY (bd lE (ad 4) ah (aP _)) (ae (m9 (yo hr) (aC cG (aF hr (ad 2)) ah) (ad 2) ah)
  (aj (aq (aB (lc ar (l1 (c4 R0 hr (lc (ad 0) (lc (ad 1) (lc (ad 2) (l1 (aC cG (ad 3) ah)))))))))))) aE)
  (ae (m9 (yo hr) (aC cG (aF hr (ad 2)) ah) (ad 2) ah)
  (ae (s4 5 nd (c4 R0 hr (lc (ad 0) (lc (ad 1) (lc (ad 2) (l1 (aC cG (ad 3) ah)))))))
  (ae (s4 6 nd (c4 R0 hr (lc (ad 0) (lc (ad 1) (lc (ad 2) (l1 (aC cG (ad 3) ah)))))))
  (ae (aY (bd lE (ad 4) ah (aP _)) (aj (aq (aB (lc ar (lc (ad 5) (l1 (ad 6))))))) aE)
  (ae (aY (nW (iz (dZ hr (ad 4) ah) (gm (dZ hr (cB bL T.FM (l1 (ad 1))) ah)))) (aj (aq (aB (lc ar (lc (ad 5) (l1 (ad 6))))))) aE)
  (ae (s4 7 nd (eF hr (bg (lc ah (lc ah (lc ah (l1 (aC aI ah (c4 (am T) hr (lc (ad 0) (l1 ah))))))))) (c4 (am T) hr (lc (ad 0) (l1 ah)))))
  (aj (aq (aB (lc ar (lc (eF hr (ad 1) (c4 (am T) hr (lc (ad 0) (l1 (cB bL T.FM (l1 (ad 1))))))) (lc (ad 7) (lc (ad 5) (l1 (ad 6))))))))))))))))))) rfl) rfl rfl 12
noncomputable def bM:Nat->ax
 |0=>mj
 |n+1=>aU 1 (C.cH (bM n))
def bN:ax:=bM 12
def ee(T:Txt P w K mg):FH P w K mg base 12 "_law_pass_count" 1 bN:=kS (b:=0) (r:=bM) T.o__law_pass_count (fun n R0=>dk ["_law_body_here"] T.o__law_pass_count (fun _ _ _ _ _ _ _ hr nd=>(ae (aY (dZ hr (aF hr (ad 0)) ar) (aj (aq (aC bn (c4 R0 hr (l1 (aF hr (ad 0)))) (c4 R0 hr (l1 (aF hr (ad 0))))))) aE)
  (ae (aY (nW (iz (dZ hr (aF hr (ad 0)) ar) (gm (dZ hr (aF hr (ad 0)) ar)))) (aj (aq (aC aI (c4 R0 hr (l1 (eF hr (ad 0) (gA bR ah)))) (c4 R0 hr (l1 (eF hr (ad 0) (gA bR ah))))))) aE)
  (aj (aq ah))))) rfl) rfl rfl 12
noncomputable def bG:Nat->ax
 |0=>mj
 |n+1=>aU 1 (C.cx bN (bG n))
def eg:ax:=bG 12
def iA(T:Txt P w K mg):FH P w K mg base 24 "_law_round_count" 1 eg:=kS (b:=12) (r:=bG) T.o__law_round_count (fun n R0=>dk ["_law_body_here"] T.o__law_round_count (fun _ _ _ _ _ _ _ hr nd=>(ae (aY (dZ hr (aF hr (ad 0)) ar) (aj (aq (aC aI (c4 (ee T) hr (l1 (aF hr (ad 0)))) (c4 R0 hr (l1 (aF hr (ad 0))))))) aE)
  (ae (aY (bd (kG (eC hr)) (aF hr (ad 0)) (aB (lc ar (lc ar (l1 ar)))) rfl) (aj (aq (aC aI (c4 R0 hr (l1 (eF hr (ad 0) (gA bR ah)))) (c4 R0 hr (l1 (eF hr (ad 0) (gA bR ah))))))) aE)
  (aj (aq ah))))) rfl) rfl rfl 12
def dh:ax:=aU 5 (C.cS kP bN eg cz)
def jI(T:Txt P w K mg):FH P w K mg base 25 "_law_deed_body" 4 dh:=dk ["_law_deal_here","_law_jars","_law_most_parts","_law_most_lines","_law_body_here"] T.o__law_deed_body (fun _ _ _ _ _ _ _ hr nd=>(ae (s4 4 nd (c4 (oV T) hr (lc (ad 0) (lc (ad 1) (lc (bg (l1 (aC cG (ad 2) ah))) (l1 ah))))))
  (ae (aY (bd pU (aC aI (c4 (ee T) hr (l1 (ad 4))) (c4 (iA T) hr (l1 (ad 4)))) (ad 3) (aP _)) (aj (s4 4 nd (aB (lc ar (lc (aB (lc ar (l1 (c4 (b8 T) hr (lc (ad 0) (l1 (ad 1))))))) (l1 (c4 (b8 T) hr (lc (ad 0) (l1 (ad 1)))))))))) aE)
  (aj (aq (ad 4)))))) rfl
def fX:ax:=aU 9 (C.fG dU w__law_draw dh)
def mG(T:Txt P w K mg):FH P w K mg base 26 "_law_house" 4 fX:=dk ["_law_deal_here","_law_most_jars","_law_most_deeds","_law_most_parts","_law_words_here","_law_jars","_law_first","_law_many","_law_deeds"] T.o__law_house (fun _ _ _ _ _ _ _ hr nd=>(ae (s4 4 nd (c4 (iL T) hr (lc (ad 0) (l1 ah))))
  (ae (s4 5 nd (cT cq T.FD (l1 (dQ (ad 4) gC (eQ (c4 (am T) hr (lc (ad 0) (l1 (aC aI (ad 1) ah)))))))))
  (ae (s4 6 nd (eF hr (bg (lc ah (l1 ah))) (c4 (am T) hr (lc (ad 0) (l1 ah)))))
  (ae (s4 7 nd (aC aI ah (c4 (am T) hr (lc (ad 0) (l1 (ad 2))))))
  (ae (wY ["_law_words_here","_law_most_parts","_law_many","_law_jars","_law_first","_law_deal_here"] 1 [0,6,5,7,3,4] ["_law_k","_law_deal_here","_law_first","_law_jars","_law_many","_law_most_parts","_law_words_here"] 8 nd (fk rfl rfl T.Hu (l1 (ad 7))) (fun _=>(gn 0 C9)) (fun _=>dD) (fun _=>(aB (lc (eF hr (ad 6) (aC aI (ad 2) (ad 0))) (l1 (c4 (jI T) hr (lc (ad 1) (lc (ad 3) (lc (ad 5) (l1 (aC j0 ah (ad 4))))))))))))
  (aj (aq (aB (lc (ad 5) (l1 (cT cq T.FD (l1 (ad 8)))))))))))))) rfl
noncomputable def dW:Nat->ax
 |0=>mj
 |n+1=>aU 7 (C.fI w__law_draw (dW n))
def fY:ax:=dW 12
def mH(T:Txt P w K mg):FH P w K mg base 13 "_law_trace" 3 fY:=kS (b:=1) (r:=dW) T.o__law_trace (fun n R0=>dk ["_law_deal_here","_law_body_here","_law_left","_law_one","_law_side","_law_found","_law_k"] T.o__law_trace (fun _ _ _ _ _ _ _ hr nd=>(ae (aY (dZ hr (aF hr (ad 1)) ar) (ae (s4 3 nd (c4 R0 hr (lc (ad 0) (lc (aF hr (ad 1)) (l1 (ad 2))))))
  (aj (aq (aB (lc (ad 3) (l1 (c4 R0 hr (lc (ad 0) (lc (aF hr (ad 1)) (l1 (ad 2))))))))))) aE)
  (ae (aY (nW (iz (dZ hr (aF hr (ad 1)) ar) (gm (dZ hr (aF hr (ad 1)) ar)))) (ae (s4 4 nd (c4 (am T) hr (lc (ad 0) (l1 ah))))
  (aj (aq (aB (lc (ad 4) (l1 (c4 R0 hr (lc (ad 0) (lc (eF hr (ad 1) (aC cG (ad 4) ah)) (l1 (ad 2))))))))))) aE)
  (ae (s4 5 nd (bg bQ))
  (ae (cP PassesOwn.never rfl (fk rfl rfl T.Hu (l1 (aC bn (c4 (am T) hr (lc (ad 0) (l1 ah))) (cT vq T.JZ (l1 (fh (gB (fm hr)) (aF hr (ad 1)) ar (aP _))))))) (gn 6 nd) (aj (aY (bd pU (aF hr (ad 2)) ah (aP _)) (ae (m9 (yo hr) (aC cG (aF hr (ad 2)) ah) (ad 2) ah)
  (aj (bz (mB b7 cF (ad 5) (l1 (aB (lc (aC aI ah (c4 (am T) hr (lc (ad 0) (l1 ah)))) (l1 (c4 R0 hr (lc (ad 0) (lc (aF hr (ad 1)) (l1 (ad 2))))))))))))) aE)))
  (aj (aq (cT cq T.FD (l1 (ad 5)))))))))) rfl) rfl rfl 12
noncomputable def eN:Nat->ax
 |0=>mj
 |n+1=>aU 3 (C.gP (eN n))
def kQ:ax:=eN 12
def oW(T:Txt P w K mg):FH P w K mg base 12 "_law_puts" 3 kQ:=kS (b:=0) (r:=eN) T.o__law_puts (fun n R0=>dk ["_law_body_here","_law_held","_law_found"] T.o__law_puts (fun _ _ _ _ _ _ _ hr nd=>(ae (aY (dZ hr (aF hr (ad 0)) ar) (aj (bz (mB b7 cF (ad 2) (l1 (aF hr (ad 0)))))) aE)
  (ae (aY (dZ hr (aF hr (ad 0)) ar) (aj (bz (c4 R0 hr (lc (aF hr (ad 0)) (lc (ad 1) (l1 (ad 2))))))) aE)
  (aj (aY (bd (kG (eC hr)) (aF hr (ad 0)) (aB (lc ar (lc ar (l1 ar)))) rfl) (ae (aY (nW (iz (zn hr (aF hr (ad 0)) ar) (gm (bd (kG (eC hr)) (aF hr (ad 0)) (ad 1) rfl)))) (aj (bz (c4 R0 hr (lc (eF hr (ad 0) (gA bR ah)) (lc (ad 1) (l1 (ad 2))))))) aE)
  (aj (bz (c4 R0 hr (lc (eF hr (ad 0) (gA bR ah)) (lc (ad 1) (l1 (ad 2)))))))) aE))))) rfl) rfl rfl 12
def dM:ax:=aU 6 (C.dI kQ)
def kn(T:Txt P w K mg):FH P w K mg base 13 "_law_fillable" 1 dM:=dk ["_law_house_here","_law_held","_law_turn","_law_found","_law_name","_law_body_here"] T.o__law_fillable (fun _ _ _ _ _ _ _ hr nd=>(ae (s4 1 nd (bg bQ))
  (ae (cP PassesOwn.never rfl (bU (aF hr (ad 0))) (gn 2 nd) (ae (s4 3 nd (bg bQ))
  (ae (cP PassesOwn.never rfl (bU (aF hr (ad 0))) (pP rfl (aM (gn 4 nd) (aM (gn 5 nd) dA))) (aj (bz (c4 (oW T) hr (lc (ad 5) (lc (ad 1) (l1 (ad 3))))))))
  (aj (s4 1 nd (ad 3))))))
  (aj (aq (ad 1)))))) rfl
noncomputable def dX:Nat->ax
 |0=>mj
 |n+1=>aU 2 (C.b6 (dX n))
def jJ:ax:=dX 12
def mI(T:Txt P w K mg):FH P w K mg base 12 "_law_alike" 2 jJ:=kS (b:=0) (r:=dX) T.o__law_alike (fun n R0=>dk ["_law_found","_law_due"] T.o__law_alike (fun _ _ _ _ _ _ _ hr nd=>(ae (aY (iE (cB gF T.Fy (lc (ad 1) (l1 (aB (lc (uz T.Jf) (l1 (uz T.FD)))))))) (ae (aY (nW (iz (zn hr (cB gF T.Fy (lc (ad 0) (l1 (uz T.Jf)))) (cB gF T.Fy (lc (ad 1) (l1 (uz T.Jf))))) (gm (zn hr (cB gF T.Fy (lc (ad 0) (l1 (uz T.FD)))) (cB gF T.Fy (lc (ad 1) (l1 (uz T.FD)))))))) (aj (aq lx)) aE)
  (aj (aq (kE (fh (gB (fm hr)) (cB bL T.FM (l1 (ad 0))) (cB bL T.FM (l1 (ad 1))) (aP _)) (kD (cB (CD rfl) T.L8 (l1 (tZ [] 2 [] ["_law_one","_law_other"] (vM rfl rfl rfl T.Jz (by decide +kernel) (lc (ad 0) (l1 (ad 1)))) (fun _=>(pP rfl (aM (gn 0 zt) (aM (gn 1 zt) dA)))) (fun _=>dD) (fun _=>(c4 R0 hr (lc (ad 0) (l1 (ad 1))))))))))))) aE)
  (aj (aq (kE (fh (gB (fm hr)) (cB gF T.Fy (lc (ad 0) (l1 (uz T.JK)))) (cB gF T.Fy (lc (ad 1) (l1 (uz T.JK)))) (aP _)) (kD (fh (gB (fm hr)) (ad 0) (ad 1) (aP _)))))))) rfl) rfl rfl 12
def eY:bB:=(au (bH (ak eR [(v3 0),(c3 (.ty "int"))]) (kC (ak eR [(v3 0),(c3 (.ty "bool"))]))))
def cp:ax:=aU 1 eY
def hW(T:Txt P w K mg):FH P w K mg base 1 "_law_number" 1 cp:=dk ["_law_one"] T.o__law_number (fun _ _ _ _ _ _ _ hr nd=>(aj (aq (kE (cB gF T.Fy (lc (ad 0) (l1 (uz T.JZ)))) (kD (zi (cB gF T.Fy (lc (ad 0) (l1 (uz T.JK)))))))))) rfl
def cL(GP s0 s1:ax):bB:=(ai (bt (iQ (aJ (ak eR [(v3 1),(c3 (.ty "tuple"))]))) (au (c3 (.bl false))) aL)
  (ai (bt (aJ (af (jU false) (af ac (v3 0) (c3 (.int 0))) (az [(c3 (.str "rest")),(c3 (.str "pay")),(c3 (.str "put"))]))) (ai (aN (d4 "list" aZ (v3 2) [(af bS (bc [(cg (v3 0) (pL (c3 (.int 1))) rA)]) (ak gE [(af (aV false) (af ac (v3 0) (c3 (.int 0))) (c3 (.str "put")))]))]))
  (au (af (aV false) (v3 1) (az [])))) aL)
  (ai (bt (aJ (af (aV false) (af ac (v3 0) (c3 (.int 0))) (c3 (.str "often")))) (ai (av 3 (aQ (aO (v3 1)) (.n 0) (aJ (ab s1 [(v3 1),(v3 0),(v3 2)])) (v3 0) 1 [0,2]))
  (au (af (aV false) (ak bx [(v3 3)]) (ak bx [(v3 1)])))) aL)
  (ai (bt (aJ (af (aV true) (ak bx [(v3 1)]) (c3 (.int 2)))) (au (c3 (.bl false))) aL)
  (ai (bt (aJ (af (aV false) (af ac (v3 0) (c3 (.int 0))) (c3 (.str "then")))) (au (bH (ab s0 [(af ac (v3 0) (c3 (.int 1))),(af ac (v3 1) (c3 (.int 0))),(v3 2)]) (ab s0 [(af ac (v3 0) (c3 (.int 2))),(af ac (v3 1) (c3 (.int 1))),(v3 2)]))) aL)
  (ai (bt (jb (iQ (aJ (ab GP [(af ac (v3 1) (c3 (.int 0)))]))) (jb (aJ (af nk (af ac (v3 1) (c3 (.int 0))) (c3 (.int 0)))) (aJ (af o9 (af ac (v3 1) (c3 (.int 0))) (c3 (.int 1)))))) (au (c3 (.bl false))) aL)
  (ai (bt (fi (aJ (af (aV false) (af ac (v3 0) (c3 (.int 0))) (c3 (.str "take")))) (aJ (af (aV false) (af ac (v3 1) (c3 (.int 0))) (c3 (.int 0))))) (aN (d4 "list" bh (v3 2) [(az [(af ac (v3 0) (c3 (.int 1))),(af bv (c3 (.int 0)) (af ac (v3 0) (c3 (.int 2))))])])) aL)
  (au (ab s0 [(af ac (v3 0) (af bv (af ac (v3 1) (c3 (.int 0))) (c3 (.int 2)))),(af ac (v3 1) (c3 (.int 1))),(v3 2)])))))))))
def cw(GP s0 s1:ax):bB:=(ai (bt (jb (iQ (aJ (ak eR [(v3 1),(c3 (.ty "tuple"))]))) (jb (aJ (af (aV true) (ak bx [(v3 1)]) (c3 (.int 2)))) (jb (iQ (aJ (ab GP [(af ac (v3 1) (c3 (.int 0)))]))) (aJ (af nk (af ac (v3 1) (c3 (.int 0))) (c3 (.int 1))))))) (au (c3 (.bl false))) aL)
  (au (ab s0 [(af ac (v3 0) (c3 (.int 1))),(af ac (v3 1) (c3 (.int 1))),(v3 2)])))
noncomputable def bC:Nat->ax×ax
 |0=>(mj,mj)
 |n+1=>(aU 4 (cL cp (bC n).1 (bC n).2),aU 3 (cw cp (bC n).1 (bC n).2))
def eu(n:Nat):ax:=(bC n).1
def dN(n:Nat):ax:=(bC n).2
def kW(T:Txt P w K mg)(n:Nat){s0 s1:ax}(R0:FH P w K mg base (1+n) "_law_follows" 3 s0)(R1:FH P w K mg base (1+n) "_law_is_going" 3 s1):FH P w K mg base (1+n+1) "_law_follows" 3 (aU 4 (cL cp s0 s1)):=dk ["_law_body_here","_law_trace_here","_law_moves","_law_good"] T.o__law_follows (fun _ _ _ _ _ _ _ hr nd=>(ae (aY (m6 (iE (cB gF T.Fy (lc (ad 1) (l1 (uz T.FD)))))) (aj (aq lx)) aE)
  (ae (aY (bd (kG (eC hr)) (aF hr (ad 0)) (aB (lc ar (lc ar (l1 ar)))) rfl) (ae (bz (mB cV d5 (ad 2) (l1 (aC bn (bg (l1 (dQ (ad 0) (eQ ah) gC))) (cT vq T.JZ (l1 (fh (gB (fm hr)) (aF hr (ad 0)) ar (aP _))))))))
  (aj (aq (fh (gB (fm hr)) (ad 1) (aB bQ) (aP _))))) aE)
  (ae (aY (dZ hr (aF hr (ad 0)) ar) (ae (wY ["_law_moves","_law_body_here"] 1 [0,2] ["_law_one","_law_body_here","_law_moves"] 3 nd (bU (ad 1)) (fun _=>(gn 0 C_)) (fun _=>(m_ (iE (c4 R1 hr (lc (ad 1) (lc (ad 0) (l1 (ad 2)))))))) (fun _=>(ad 0)))
  (aj (aq (fh (gB (fm hr)) (cB bL T.FM (l1 (ad 3))) (cB bL T.FM (l1 (ad 1))) (aP _))))) aE)
  (ae (aY (zn hr (cB bL T.FM (l1 (ad 1))) ah) (aj (aq lx)) aE)
  (ae (aY (dZ hr (aF hr (ad 0)) ar) (aj (aq (kE (c4 R0 hr (lc (aF hr (ad 0)) (lc (aF hr (ad 1)) (l1 (ad 2))))) (kD (c4 R0 hr (lc (aF hr (ad 0)) (lc (aF hr (ad 1)) (l1 (ad 2))))))))) aE)
  (ae (aY (nW (iz (m6 (iE (c4 (hW T) hr (l1 (aF hr (ad 1)))))) (iz (bd lE (aF hr (ad 1)) ah (aP _)) (gm (bd pU (aF hr (ad 1)) ah (aP _)))))) (aj (aq lx)) aE)
  (ae (aY (nW (jg (dZ hr (aF hr (ad 0)) ar) (iR (dZ hr (aF hr (ad 1)) ah)))) (aj (bz (mB b7 cF (ad 2) (l1 (aB (lc (aF hr (ad 0)) (l1 (aC cG ah (aF hr (ad 0)))))))))) aE)
  (aj (aq (c4 R0 hr (lc (eF hr (ad 0) (aC cG (aF hr (ad 1)) ah)) (lc (aF hr (ad 1)) (l1 (ad 2))))))))))))))) rfl
def ko(T:Txt P w K mg)(n:Nat){s0 s1:ax}(R0:FH P w K mg base (1+n) "_law_follows" 3 s0)(R1:FH P w K mg base (1+n) "_law_is_going" 3 s1):FH P w K mg base (1+n+1) "_law_is_going" 3 (aU 3 (cw cp s0 s1)):=dk ["_law_body_here","_law_one","_law_moves"] T.o__law_is_going (fun _ _ _ _ _ _ _ hr nd=>(ae (aY (nW (iz (m6 (iE (cB gF T.Fy (lc (ad 1) (l1 (uz T.FD)))))) (iz (zn hr (cB bL T.FM (l1 (ad 1))) ah) (iz (m6 (iE (c4 (hW T) hr (l1 (aF hr (ad 1)))))) (gm (bd lE (aF hr (ad 1)) ah (aP _))))))) (aj (aq lx)) aE)
  (aj (aq (c4 R0 hr (lc (aF hr (ad 0)) (lc (aF hr (ad 1)) (l1 (ad 2))))))))) rfl
theorem fz(T:Txt P w K mg):∀n:Nat,FH P w K mg base (1+n) "_law_follows" 3 (eu n)/\FH P w K mg base (1+n) "_law_is_going" 3 (dN n)
 |0=>⟨.zero T.o__law_follows,.zero T.o__law_is_going⟩
 |n+1=>let ⟨h0,h1⟩:=fz T n;⟨kW T n h0 h1,ko T n h0 h1⟩
def eA:ax:=eu 12
def kX(T:Txt P w K mg):FH P w K mg base 13 "_law_follows" 3 eA:=(fz T 12).1
noncomputable def dy:Nat->ax
 |0=>mj
 |n+1=>aU 4 (C.eW (dy n))
def eZ:ax:=dy 12
def hZ(T:Txt P w K mg):FH P w K mg base 12 "_law_oftens" 3 eZ:=kS (b:=0) (r:=dy) T.o__law_oftens (fun n R0=>dk ["_law_body_here","_law_held","_law_there","_law_found"] T.o__law_oftens (fun _ _ _ _ _ _ _ hr nd=>(ae (s4 3 nd (bg bQ))
  (ae (aY (dZ hr (aF hr (ad 0)) ar) (ae (bz (mB b7 cF (ad 3) (l1 (eF hr (bg (lc ly (l1 (aF hr (ad 0))))) (cT vq T.JZ (l1 (ad 2)))))))
  (aj (bz (mB cV d5 (ad 3) (l1 (c4 R0 hr (lc (aF hr (ad 0)) (lc (ad 1) (l1 (ad 2)))))))))) aE)
  (ae (aY (bd (kG (eC hr)) (aF hr (ad 0)) (aB (lc ar (lc ar (l1 ar)))) rfl) (ae (bz (mB cV d5 (ad 3) (l1 (c4 R0 hr (lc (eF hr (ad 0) (gA bR ah)) (lc (ad 1) (l1 (kE (ad 2) (kD (Ei (fh (zj (fm hr)) (aF hr (ad 0)) ar (aP _)) (kD (fh (kG (eC hr)) (aF hr (ad 0)) (ad 1) rfl))))))))))))
  (aj (bz (mB cV d5 (ad 3) (l1 (c4 R0 hr (lc (eF hr (ad 0) (gA bR ah)) (lc (ad 1) (l1 (ad 2)))))))))) aE)
  (aj (aq (ad 3))))))) rfl) rfl rfl 12
def fZ:ax:=aU 10 (C.fL dU w__law_draw cz)
def mJ(T:Txt P w K mg):FH P w K mg base 4 "_law_chain" 1 fZ:=dk ["_law_deal_here","_law_words_here","_law_left","_law_jars","_law_jar","_law_order","_law_bodies","_law_k","_law_body_here","_law_more"] T.o__law_chain (fun _ _ _ _ _ _ _ hr nd=>(ae (s4 1 nd (c4 (iL T) hr (lc (ad 0) (l1 ah))))
  (ae (s4 2 nd (dQ (ad 1) gC (eQ (aC aI ah (c4 (am T) hr (lc (ad 0) (l1 ah)))))))
  (ae (s4 3 nd (cT cq T.FD (l1 (ad 2))))
  (ae (wY ["_law_left","_law_deal_here"] 1 [0,2] ["_law_jar","_law_deal_here","_law_left"] 5 nd (bU (ad 3)) (fun _=>(gn 0 Dd)) (fun _=>dD) (fun _=>(mB vN zk (ad 2) (l1 (c4 (am T) hr (lc (ad 1) (l1 (cB bL T.FM (l1 (ad 2))))))))))
  (ae (s4 6 nd (bg bQ))
  (ae (cP PassesOwn.never rfl (iS rfl rfl T.FN (by decide +kernel) (l1 (ad 5))) (pP rfl (aM (gn 7 nd) (aM (gn 4 nd) dA))) (ae (s4 8 nd (aB (lc ar (lc (ad 4) (l1 (aC aI ah (c4 (am T) hr (lc (ad 0) (l1 ah)))))))))
  (ae (aY (nW (iz (bd pU (ad 7) ah (aP _)) (gm (dZ hr (c4 (am T) hr (lc (ad 0) (l1 ah))) ah)))) (aj (s4 8 nd (aB (lc ar (lc (eF hr (ad 5) (aC cG (ad 7) ah)) (lc (aC aI ah (c4 (am T) hr (lc (ad 0) (l1 ah)))) (lc (ad 8) (l1 (c4 (b8 T) hr (lc (ad 0) (l1 (bg bQ)))))))))))) aE)
  (ae (s4 9 nd (bg (lc (aB (lc ar (lc (c4 (b8 T) hr (lc (ad 0) (l1 (bg bQ)))) (l1 (ad 8))))) (lc (aB (lc ar (l1 (ad 8)))) (l1 (aB (lc ar (lc (c4 (b8 T) hr (lc (ad 0) (l1 (bg bQ)))) (l1 (ad 8))))))))))
  (aj (bz (mB tY vH (ad 6) (lc (c4 (am T) hr (lc (ad 0) (l1 (aC aI (cB bL T.FM (l1 (ad 6))) ah)))) (l1 (eF hr (bg (lc (ad 8) (lc (aF hr (ad 9)) (lc (aF hr (ad 9)) (l1 (aF hr (ad 9))))))) (c4 (am T) hr (lc (ad 0) (l1 ah)))))))))))))
  (aj (aq (aB (lc (ad 3) (l1 (cT cq T.FD (l1 (tZ ["_law_words_here"] 2 [1] ["_law_k","_law_body_here","_law_words_here"] (iS rfl rfl T.FN (by decide +kernel) (l1 (ad 6))) (fun _=>(pP rfl (aM (gn 0 zu) (aM (gn 1 zu) dA)))) (fun _=>dD) (fun _=>(aB (lc (eF hr (ad 2) (aC aI ah (ad 0))) (l1 (ad 1)))))))))))))))))))) rfl
def di(Fq Jh Ji:ax):bB:=(ai (bt (aJ (af (aV false) (ab Fq [(v3 0),(c3 (.int 3))]) (c3 (.int 0)))) (au (ab Jh [(v3 0)])) aL)
  (au (ab Ji [(v3 0),(c3 (.int 4)),(c3 (.int 4)),(c3 (.int 20))])))
def dj:ax:=aU 1 (di w__law_draw fZ fX)
def jK(T:Txt P w K mg):FH P w K mg base 27 "_law_any_house" 1 dj:=dk ["_law_deal_here"] T.o__law_any_house (fun _ _ _ _ _ _ _ hr nd=>(ae (aY (dZ hr (c4 (am T) hr (lc (ad 0) (l1 ah))) ah) (aj (aq (c4 (mJ T) hr (l1 (ad 0))))) aE)
  (aj (aq (c4 (mG T) hr (lc (ad 0) (lc ah (lc ah (l1 ah))))))))) rfl
def f_(Hz s0:ax):bB:=(ai (bt (aJ (af (aV false) (af ac (v3 0) (c3 (.int 0))) (c3 (.str "then")))) (ai (av 5 (af aT (v3 2) (ak bx [(ab Hz [(af ac (v3 0) (c3 (.int 1))),(bc []),(c3 (.bl false))])])))
  (ai (av 6 (ab s0 [(af ac (v3 0) (c3 (.int 1))),(af ac (v3 1) (c3 (.int 0))),(v3 2),(v3 3),(v3 4)]))
  (au (az [(v3 6),(ab s0 [(af ac (v3 0) (c3 (.int 2))),(af ac (v3 1) (c3 (.int 1))),(v3 5),(v3 3),(v3 4)])])))) aL)
  (ai (bt (aJ (af (aV false) (af ac (v3 0) (c3 (.int 0))) (c3 (.str "often")))) (bO (aO (v3 1)) (.tp (.cons (.n 7) (.cons (.n 6) .nil))) (aN (d4 "list" bh (v3 4) [(az [(v3 2),(ab s0 [(af ac (v3 0) (c3 (.int 1))),(v3 6),(af aT (v3 2) (c3 (.int 1))),(af bS (v3 3) (v3 7)),(v3 4)]),(af bS (v3 3) (v3 7))])]))) aL)
  (ai (bt (jb (aJ (af (aV false) (af ac (v3 0) (c3 (.int 0))) (c3 (.str "either")))) (aJ (af (aV false) (af ac (v3 0) (c3 (.int 0))) (c3 (.str "take"))))) (ai (av 8 (af ac (bc [(v3 2),(af aT (v3 2) (ak bx [(ab Hz [(af ac (v3 0) (ik b3 (c3 (.int 2)))),(bc []),(c3 (.bl false))])]))]) (af ac (v3 1) (c3 (.int 0)))))
  (au (az [(af ac (v3 1) (c3 (.int 0))),(ab s0 [(af ac (v3 0) (af bv (af ac (v3 1) (c3 (.int 0))) (c3 (.int 2)))),(af ac (v3 1) (c3 (.int 1))),(v3 8),(v3 3),(v3 4)])]))) aL)
  (au (az [])))))
noncomputable def dY:Nat->ax
 |0=>mj
 |n+1=>aU 9 (f_ eZ (dY n))
def jL:ax:=dY 12
def mK(T:Txt P w K mg):FH P w K mg base 24 "_law_strip" 5 jL:=kS (b:=12) (r:=dY) T.o__law_strip (fun n R0=>dk ["_law_body_here","_law_trace_here","_law_at","_law_many","_law_found","_law_after","_law_one","_law_often","_law_place"] T.o__law_strip (fun _ _ _ _ _ _ _ hr nd=>(ae (aY (dZ hr (aF hr (ad 0)) ar) (ae (s4 5 nd (aC aI (ad 2) (cB bL T.FM (l1 (c4 (hZ T) hr (lc (aF hr (ad 0)) (lc (bg bQ) (l1 lx))))))))
  (ae (s4 6 nd (c4 R0 hr (lc (aF hr (ad 0)) (lc (aF hr (ad 1)) (lc (ad 2) (lc (ad 3) (l1 (ad 4))))))))
  (aj (aq (aB (lc (ad 6) (l1 (c4 R0 hr (lc (aF hr (ad 0)) (lc (aF hr (ad 1)) (lc (ad 5) (lc (ad 3) (l1 (ad 4)))))))))))))) aE)
  (ae (aY (dZ hr (aF hr (ad 0)) ar) (aj (cP PassesOwn.never rfl (bU (ad 1)) (pP rfl (aM (gn 7 nd) (aM (gn 6 nd) dA))) (aj (bz (mB b7 cF (ad 4) (l1 (aB (lc (ad 2) (lc (c4 R0 hr (lc (aF hr (ad 0)) (lc (ad 6) (lc (aC aI (ad 2) ah) (lc (aC bn (ad 3) (ad 7)) (l1 (ad 4))))))) (l1 (aC bn (ad 3) (ad 7)))))))))))) aE)
  (ae (aY (nW (iz (dZ hr (aF hr (ad 0)) ar) (gm (dZ hr (aF hr (ad 0)) ar)))) (ae (s4 8 nd (eF hr (bg (lc (ad 2) (l1 (aC aI (ad 2) (cB bL T.FM (l1 (c4 (hZ T) hr (lc (eF hr (ad 0) (gA bR ah)) (lc (bg bQ) (l1 lx)))))))))) (aF hr (ad 1))))
  (aj (aq (aB (lc (aF hr (ad 1)) (l1 (c4 R0 hr (lc (eF hr (ad 0) (aC cG (aF hr (ad 1)) ah)) (lc (aF hr (ad 1)) (lc (ad 8) (lc (ad 3) (l1 (ad 4))))))))))))) aE)
  (aj (aq (aB bQ))))))) rfl) rfl rfl 12
def eB:bB:=(ai (av 4 (aQ (aO (v3 0)) (.n 0) (fi (aJ (af (aV false) (af ac (v3 0) (c3 (.int 0))) (v3 1))) (fi (aJ (af (aV false) (af ac (v3 0) (c3 (.int 1))) (v3 2))) (aJ (af (aV false) (af ac (v3 0) (c3 (.int 4))) (v3 3))))) (v3 0) 1 [1,2,3]))
  (ai (bt (aJ (af (aV true) (ak bx [(v3 4)]) (c3 (.int 1)))) (au (c3 .non)) aL)
  (au (af ac (v3 4) (c3 (.int 0))))))
def h_:ax:=aU 5 eB
def kY(T:Txt P w K mg):FH P w K mg base 1 "_law_line_of" 4 h_:=dk ["_law_some","_law_d","_law_number_here","_law_trace_here","_law_found"] T.o__law_line_of (fun _ _ _ _ _ _ _ hr nd=>(ae (wY ["_law_trace_here","_law_number_here","_law_d"] 1 [1,2,3] ["_law_row","_law_d","_law_number_here","_law_trace_here"] 4 nd (bU (ad 0)) (fun _=>(gn 0 De)) (fun _=>(m_ (nW (jg (dZ hr (aF hr (ad 0)) (ad 1)) (jg (dZ hr (aF hr (ad 0)) (ad 2)) (iR (dZ hr (aF hr (ad 0)) (ad 3)))))))) (fun _=>(ad 0)))
  (ae (aY (zn hr (cB bL T.FM (l1 (ad 4))) ah) (aj (aq ly)) aE)
  (aj (aq (aF hr (ad 4))))))) rfl
def gf(IK Iy Jj IL JB Jk Jl KP:ax):bB:=(ai (av 4 (af ac (af ac (af ac (v3 0) (c3 (.int 1))) (v3 2)) (c3 (.int 1))))
  (ai (av 5 (bc []))
  (ai (aN (ab IK [(v3 4),(v3 3),(v3 5)]))
  (ai (av 6 (ab Iy [(v3 0)]))
  (ai (bt (aJ (af o9 (ak bx [(aQ (aO (v3 5)) (.tp (.cons (.n 0) (.cons (.n 1) .nil))) (fi (aJ (af nk (v3 1) (c3 (.int 0)))) (aJ (af (jU true) (v3 0) (v3 2)))) (v3 0) 2 [6])]) (c3 (.int 0)))) (au (c3 (.bl true))) aL)
  (ai (av 8 (bc []))
  (ai (av 9 (ab Jj [(v3 4),(v3 3),(c3 (.int 0)),(c3 (.int 1)),(v3 8)]))
  (ai (pO 10 11 (az [(c3 (.int 0)),(c3 (.int 1))]) (af bS (bc [(c3 (.int 0))]) (ak bx [(af ac (v3 0) (c3 (.int 0)))])))
  (ai (bO (aO (af aT (bc [(az [(c3 .non),(v3 9),(c3 (.int 1))])]) (v3 8))) (.tp (.cons (.n 12) (.cons (.n 13) (.cons (.n 7) .nil)))) (ai (av 14 (ab IL [(v3 1),(v3 2),(v3 12),(v3 13)]))
  (ai (bt (aJ (af (ux false) (v3 14) (c3 .non))) (au (c3 (.bl false))) aL)
  (ai (av 10 (ab JB [(v3 10),(ab Jk [(af ac (v3 14) (c3 (.int 2))),(v3 7)])]))
  (av 11 (aQ (nv (v3 11) (af ac (v3 14) (c3 (.int 3)))) (.tp (.cons (.n 0) (.cons (.n 1) .nil))) ci (af aT (v3 0) (af bS (v3 2) (v3 1))) 2 [7]))))))
  (au (ab Jl [(cg (ab KP [(v3 0),(v3 2),(v3 3)]) rA (pL (c3 (.int 2)))),(az [(v3 10),(ak bo [(v3 11)])])])))))))))))
def gg:ax:=aU 15 (gf eA dM jL h_ hU jH jJ oO)
def mL(T:Txt P w K mg):FH P w K mg base 25 "_law_right" 4 gg:=dk ["_law_house_here","_law_some","_law_d","_law_trace_here","_law_body_here","_law_moves","_law_held","_law_many","_law_goings","_law_plain","_law_cost_here","_law_effect","_law_number_here","_law_one","_law_row"] T.o__law_right (fun _ _ _ _ _ _ _ hr nd=>(ae (s4 4 nd (aF hr (eF hr (aF hr (ad 0)) (ad 2))))
  (ae (s4 5 nd (bg bQ))
  (ae (bz (c4 (kX T) hr (lc (ad 4) (lc (ad 3) (l1 (ad 5))))))
  (ae (s4 6 nd (c4 (kn T) hr (l1 (ad 0))))
  (ae (aY (bd pU (cB bL T.FM (l1 (tZ ["_law_held"] 2 [6] ["_law_jar","_law_many","_law_held"] (bU (ad 5)) (fun _=>(pP rfl (aM (gn 0 zv) (aM (gn 1 zv) dA)))) (fun _=>(m_ (nW (jg (bd lE (ad 1) ah (aP _)) (iR (bd (fj (eC hr)) (ad 0) (ad 2) rfl)))))) (fun _=>(ad 0))))) ah (aP _)) (aj (aq lx)) aE)
  (ae (s4 8 nd (bg bQ))
  (ae (s4 9 nd (c4 (mK T) hr (lc (ad 4) (lc (ad 3) (lc ah (lc ah (l1 (ad 8))))))))
  (ae (vB (i:=10) (j:=11) rfl nd rfl rfl (by decide) rfl rfl (lc (aB (lc ah (l1 ah))) (l1 (aC bn (bg (l1 ah)) (cB bL T.FM (l1 (aF hr (ad 0))))))))
  (ae (cP PassesOwn.never rfl (bU (aC aI (bg (l1 (aB (lc ly (lc (ad 9) (l1 ah)))))) (ad 8))) (pP rfl (aM (gn 12 nd) (aM (gn 13 nd) (aM (gn 7 nd) dA)))) (ae (s4 14 nd (c4 (kY T) hr (lc (ad 1) (lc (ad 2) (lc (ad 12) (l1 (ad 13)))))))
  (ae (aY (bd Cy (ad 14) ly (aP _)) (aj (aq lx)) aE)
  (ae (s4 10 nd (c4 (oS T) hr (lc (ad 10) (l1 (c4 (mF T) hr (lc (aF hr (ad 14)) (l1 (ad 7))))))))
  (aj (wY ["_law_many"] 2 [7] ["_law_a","_law_b","_law_many"] 11 nd (vM rfl rfl rfl T.Jz (by decide +kernel) (lc (ad 11) (l1 (aF hr (ad 14))))) (fun _=>(pP rfl (aM (gn 0 zw) (aM (gn 1 zw) dA)))) (fun _=>dD) (fun _=>(aC aI (ad 0) (aC bn (ad 2) (ad 1))))))))))
  (aj (aq (c4 (mI T) hr (lc (dQ (c4 (wx T) hr (lc (ad 0) (lc (ad 2) (l1 (ad 3))))) gC (eQ ah)) (l1 (aB (lc (ad 10) (l1 (cT cq T.FD (l1 (ad 11))))))))))))))))))))) rfl
def wA(JC Ii KQ Fq Jm Jn:ax):bB:=(ai (av 1 (ab JC [(v3 0),(c3 (.int 0))]))
  (ai (av 2 (ab Ii [(v3 1)]))
  (ai (av 3 (ab KQ [(v3 2)]))
  (ai (bO (jY (c3 (.int 10))) (.n 4) (ai (av 5 (ab Fq [(v3 1),(ak bx [(af ac (v3 2) (c3 (.int 1)))])]))
  (bt (iQ (aJ (ab Jm [(v3 2),(v3 3),(v3 5),(ab Jn [(v3 1),(af ac (af ac (af ac (v3 2) (c3 (.int 1))) (v3 5)) (c3 (.int 1))),(bc [(c3 (.int 8))])])]))) (au (c3 (.bl false))) aL)))
  (au (c3 (.bl true)))))))
def qx:ax:=aU 6 (wA kO dj oQ w__law_draw gg fY)
def Bq(T:Txt P w K mg){f:Addr}{fd:FuncData}(O:Dz K mg "law" (bb 64) ["_law_script"] f fd):Kw P w K mg base 31 f fd ["_law_script"] qx:=Fh ["_law_script","_law_deal_here","_law_house_here","_law_some","_law_turn","_law_d"] O (fun _ _ _ _ _ _ _ hr nd=>(ae (s4 1 nd (c4 (oR T) hr (lc (ad 0) (l1 ah))))
  (ae (s4 2 nd (c4 (jK T) hr (l1 (ad 1))))
  (ae (s4 3 nd (c4 (wy T) hr (l1 (ad 2))))
  (ae (cP PassesOwn.never rfl (fk rfl rfl T.Hu (l1 ah)) (gn 4 nd) (ae (s4 5 nd (c4 (am T) hr (lc (ad 1) (l1 (cB bL T.FM (l1 (aF hr (ad 2))))))))
  (aj (aY (m6 (iE (c4 (mL T) hr (lc (ad 2) (lc (ad 3) (lc (ad 5) (l1 (c4 (mH T) hr (lc (ad 1) (lc (aF hr (eF hr (aF hr (ad 2)) (ad 5))) (l1 (bg (l1 ah))))))))))))) (aj (aq lx)) aE))))
  (aj (aq lx))))))) rfl
end
end G33
namespace G33
open PySem L2 L3 Wd
open C
theorem iM(q:Qs):∀(t:Bd) (v:PV),v∈t.ps q->aR t v=true/\cA (2 ^ 60) v=true
 | .rest,v,h=>by rw[List.mem_singleton.mp h];exact⟨rfl,rfl⟩
 | .pay _ _,v,h=>by rw[List.mem_singleton.mp h];exact⟨rfl,rfl⟩
 | .put _ _,v,h=>by rw[List.mem_singleton.mp h];exact⟨rfl,rfl⟩
 | .use _,v,h=>by rw[List.mem_singleton.mp h];exact⟨rfl,rfl⟩
 | .Fz _,v,h=>by rw[List.mem_singleton.mp h];exact⟨rfl,rfl⟩
 | .Fw a b,v,h=>by
  unfold Bd.ps at h
  obtain⟨x,hx,hv⟩:=List.mem_flatMap.mp h
  obtain⟨y,hy,rfl⟩:=List.mem_map.mp hv
  obtain⟨a1,a2⟩:=iM q a x hx
  obtain⟨b1,b2⟩:=iM q b y hy
  refine⟨?_,by simp only[cA,intBs,a2,b2,Bool.and_true]⟩
  rw[ju,a1,b1]
  rfl
 | .FE a b,v,h=>by
  unfold Bd.ps at h
  rcases List.mem_append.mp h with h|h
  ·obtain⟨x,hx,rfl⟩:=List.mem_map.mp h
   obtain⟨a1,a2⟩:=iM q a x hx
   exact⟨by rw[lP,if_pos rfl];exact a1,by simp only[cA,intBs,a2,Bool.and_true];decide⟩
  ·obtain⟨x,hx,rfl⟩:=List.mem_map.mp h
   obtain⟨a1,a2⟩:=iM q b x hx
   exact⟨by rw[lP,if_neg (by decide),if_pos rfl];exact a1,by simp only[cA,intBs,a2,Bool.and_true];decide⟩
 | .FC z m a b,v,h=>by
  unfold Bd.ps at h
  rcases List.mem_append.mp h with h|h
  ·split at h
   ·obtain⟨x,hx,rfl⟩:=List.mem_map.mp h
    obtain⟨a1,a2⟩:=iM q a x hx
    exact⟨by rw[lQ,if_pos rfl];exact a1,by simp only[cA,intBs,a2,Bool.and_true];decide⟩
   ·cases h
  ·obtain⟨x,hx,rfl⟩:=List.mem_map.mp h
   obtain⟨a1,a2⟩:=iM q b x hx
   exact⟨by rw[lQ,if_neg (by decide),if_pos rfl];exact a1,by simp only[cA,intBs,a2,Bool.and_true];decide⟩
noncomputable def nE(q:Qs)(t:Bd):List (PV×Bd):=(.non,t)::(mC q t).map fun c=>(.int (c.2:Int),c.1.1.Jp)
noncomputable def wB(x:PV×Bd):PV:=.tup [x.1,x.2.pv]
def yM(q:Qs)(t:Bd):(nE q t).map wB = .tup [.non,t.pv]::(mC q t).map wk:=by
 unfold nE
 rw[List.map_cons,List.map_map]
 rfl
def k_{q:Qs}{t:Bd}{js us:Vs}(g:t.good js us){x:PV×Bd}(h:x∈nE q t):x.2.good js us/\x.2.dep<=t.dep/\x.2.Ft<=t.Ft+t.Fv:=by
 rcases List.mem_cons.mp h with rfl|h
 ·exact⟨g,Nat.le_refl _,Nat.le_add_right _ _⟩
 ·obtain⟨c,hc,rfl⟩:=List.mem_map.mp h
  obtain⟨a,b,e⟩:=Bg (List.fst_mem_of_mem_zipIdx (List.mem_filter.mp hc).1) g
  exact⟨a,b,by show c.1.1.Jp.Ft<=_;omega⟩
def ur(q:Qs)(t:Bd):(mC q t).length<=t.size:=by
 unfold mC
 refine Nat.le_trans (List.length_filter_le _ _) ?_
 rw[List.length_zipIdx]
 exact oI q t true
abbrev rR(w:ax):Prop:=∀{S:ay} {t:Bd} {js us hs:Vs} {nm:Addr} {Q:bA} {E:bZ},t.dep<=6->t.size<=900->t.good js us->l5 js->l5 hs->S nm=some (.lst (hs.map PV.str))->
  (∀p S',S p=none->Ext S S'->S' p=some (.lst ((nE (mq hs) t).map wB))->Q (.ref p) S')->w [t.pv,.ref nm] S Q E
def Ko{xo:ax}(Je:l_ xo):rR (aU 2 (cJ xo)):=by
 intro S t js us hs nm Q E hd hz hg hj hh hn k
 unfold cJ
 refine dG ?_
 rw[show aw 2 [t.pv,.ref nm]=[some t.pv,some (.ref nm)] from rfl]
 simp only[au,af,bc,az,ab,ao,v3,c3,lk]
 intro p1 hp1
 have X1:Ext S (Fr S p1 (.lst [.tup [.non,t.pv]])):=.new hp1
 have f1:(Fr S p1 (.lst [.tup [.non,t.pv]])) p1=some (.lst [.tup [.non,t.pv]]):=aa
 generalize Fr S p1 (.lst [.tup [.non,t.pv]])=S1 at X1 f1
 refine Je hd hz hg hj hh (X1 _ _ hn) fun p2 S2 hp2 X2 f2=>?_
 simp only[aT,X2 _ _ f1,f2]
 refine⟨cI (by have:=ur (mq hs) t;simp only[List.length_cons,List.length_nil,List.length_map];omega),fun p3 hp3=>?_⟩
 exact k p3 _ ((X1.trans X2).free hp3) (X1.trans (X2.trans (.new hp3))) (by rw[aa,yM];rfl)
noncomputable def oX(js:Vs)(d:Nat)(x:PV×Bd)(v:PV):PV:=.tup [.int (d:Int),x.1,cf (x.2.FQ js v).1,.tup (x.2.FQ js v).es,v]
noncomputable def wC(q:Qs)(js:Vs)(d:Nat)(x:PV×Bd):List PV:=(x.2.ps q).map (oX js d x)
noncomputable def gh(q:Qs)(js:Vs)(d:Nat)(t:Bd):List PV:=(nE q t).flatMap (wC q js d)
noncomputable def ut(q:Qs)(js:Vs)(ds:List (Str×Bd)):List PV:=ds.zipIdx.flatMap fun p=>gh q js p.2 p.1.2
def rT(q:Qs)(js:Vs)(d:Nat)(t:Bd):(gh q js d t).length<=t.Ft+t.Fv:=by
 unfold gh nE
 rw[List.flatMap_cons,List.length_append]
 have h1:(wC q js d (.non,t)).length<=t.Ft:=by unfold wC;rw[List.length_map];exact t.Gg q
 have h2:(((mC q t).map fun c=>((.int (c.2:Int),c.1.1.Jp):PV×Bd)).flatMap (wC q js d)).length=(t.Lu q).length:=by
  unfold Bd.Lu
  rw[List.flatMap_map,List.length_flatMap,List.length_flatMap]
  congr 1
  refine List.map_congr_left fun c _=>?_
  unfold wC C1
  rw[List.length_map,List.length_map]
 have:=t.Kn q
 omega
def nF{α:Type}(f:α->List PV){xs:List α}{k:Nat}{x:α}(h:xs[k]?=some x):(xs.take (k+1)).flatMap f=(xs.take k).flatMap f++f x:=by
 rw[List.take_succ,h,List.flatMap_append]
 simp
theorem sL{α:Type}(f:α->List PV)(m:Nat):∀xs:List α,(∀x∈xs,(f x).length<=m)->(xs.flatMap f).length<=xs.length * m
 |[],_=>by simp
 |x::r,h=>by
  rw[List.flatMap_cons,List.length_append,List.length_cons,Nat.succ_mul]
  have:=h x (by simp)
  have:=sL f m r fun y hy=>h y (by simp[hy])
  omega
def sM{q:Qs}{js:Vs}{ds:List (Str×Bd)}(hP:HP js ds):(ut q js ds).length<=1000000:=by
 unfold ut
 refine Nat.le_trans (sL _ 1000 _ fun p hp=>?_) ?_
 ·have hm:=List.fst_mem_of_mem_zipIdx hp
  exact Nat.le_trans (rT q js p.2 p.1.2) (hP.pc _ hm)
 ·rw[List.length_zipIdx];have:=hP.dl;omega
abbrev kq(w:ax):Prop:=∀{S:ay} {js:Vs} {ds:List (Str×Bd)} {Q:bA} {E:bZ},HP js ds->(∀hs S',Kl js ds hs->Ext S S'->Q (.tup (ut (mq hs) js ds)) S')->w [j7 js ds] S Q E
def IM{xf xn xp xt:ax}(KR:fR xf)(Ko:rR xn)(Jd:gU 6 xp)(IH:iq 6 xt):kq (aU 9 (oP xf xn xp xt)):=by
 intro S js ds Q E hP k
 unfold oP
 refine dG ?_
 rw[show aw 9 [j7 js ds]=[some (.tup [.tup (js.map PV.str),.tup (ds.map gS)]),none,none,none,none,none,none,none,none] from rfl]
 refine al fun N hN=>?_
 simp only[av,ab,ao,v3,lk]
 refine KR hP.toHG fun nm hs S1 hnm X1 Ni hf=>?_
 have hh:=hf.ok hP.jw
 refine hN _ _ (al fun N hN=>?_)
 simp only[av,bc,ao,List.set_cons_zero,List.set_cons_succ]
 intro pf hpf
 have X2:Ext S1 (Fr S1 pf (.lst [])):=.new hpf
 have f2:(Fr S1 pf (.lst [])) pf=some (.lst []):=aa
 have Nj:=X2 _ _ Ni
 have KN:=X1.free hpf
 have Nk:nm≠pf:=fun h=>by rw[h,hpf]at Ni;cases Ni
 have N6:Ext S (Fr S1 pf (.lst [])):=X1.trans X2
 generalize Fr S1 pf (.lst [])=S2 at X2 f2 Nj N6
 have tot:=sM (q:=mq hs) hP
 refine hN _ _ (al fun N hN=>?_)
 simp only[bO,dB,af,v3,lk,c3,ac,cM]
 refine bw (fun done σ S'=>∃(x3 x4 x5 x6 x7 x8:Option PV),σ=[some (.tup [.tup (js.map PV.str),.tup (ds.map gS)]),some (.ref nm),some (.ref pf),x3,x4,x5,x6,x7,x8]/\Ext S S'/\Gf pf S2 S'/\S' pf=some (.lst ((ds.zipIdx.take done.length).flatMap fun p=>gh (mq hs) js p.2 p.1.2))) ⟨_,_,_,_,_,_,rfl,N6,.refl,f2⟩ (fun _ _ _ _=>trivial) ?_ ?_
 ·rintro done x rest σ S3 K e ⟨x3,x4,x5,x6,x7,x8,rfl,X3,B3,f3⟩ hK
  obtain⟨y,rfl,hy⟩:=fu e
  obtain⟨⟨z,t⟩,ht,rfl⟩:∃q,ds[done.length]?=some q/\gS q=y:=by rw[List.getElem?_map]at hy;exact Option.map_eq_some_iff.mp hy
  have hm:(z,t)∈ds:=List.mem_of_getElem? ht
  have hgd:t.good js []:=hP.gd _ hm
  have NR:t.dep<=6:=hP.dp _ hm
  have Mm:t.Ft+t.Fv<=1000:=hP.pc _ hm
  have hsz:t.size<=60:=hP.sz _ hm
  have Pa:ds.zipIdx[done.length]?=some ((z,t),done.length):=by rw[List.getElem?_zipIdx,ht];simp
  have Nl:=nF (fun p:(Str×Bd)×Nat=>gh (mq hs) js p.2 p.1.2) Pa
  have Lw:((ds.zipIdx.take (done.length+1)).flatMap fun p=>gh (mq hs) js p.2 p.1.2).length<=1000000:=Nat.le_trans (qp _ _ _) tot
  rw[Nl,List.length_append]at Lw
  generalize (ds.zipIdx.take done.length).flatMap (fun p=>gh (mq hs) js p.2 p.1.2)=acc at f3 Lw Nl
  simp only[gS,Tg.put,Tg.Fx,List.set_cons_zero,List.set_cons_succ,aO,ab,ao,af,v3,lk,c3,ac,cM]
  refine Ko NR (by omega) hgd hP.jw hh (B3 _ _ Nj Nk) fun pb S4 JX X4 f4=>?_
  have LG:pb≠pf:=fun h=>by rw[h,f3]at JX;cases JX
  have Pb:=X4 _ _ f3
  simp only[bT,f4]
  refine bw (fun F4 σ S'=>∃(x5 x6 x7 x8:Option PV),σ=[some (.tup [.tup (js.map PV.str),.tup (ds.map gS)]),some (.ref nm),some (.ref pf),some (.int (done.length:Int)),some (.tup [.str z,t.pv]),x5,x6,x7,x8]/\Ext S S'/\Gf pf S4 S'/\S' pf=some (.lst (acc++((nE (mq hs) t).take F4.length).flatMap (wC (mq hs) js done.length)))) ⟨_,_,_,_,rfl,X3.trans X4,.refl,by simpa using Pb⟩ (fun _ _ _ ⟨_,_,_,_,_,_,B,_⟩=>B _ _ f4 LG) ?_ ?_
  ·rintro F4 x KZ σ S5 K5 e5 ⟨x5,x6,x7,x8,rfl,X5,B5,f5⟩ Pc
   have hget:((nE (mq hs) t).map wB)[F4.length]?=some x:=by rw[e5];simp
   obtain⟨c,hc,rfl⟩:∃c,(nE (mq hs) t)[F4.length]?=some c/\wB c=x:=by rw[List.getElem?_map]at hget;exact Option.map_eq_some_iff.mp hget
   obtain⟨gc,dc,pc⟩:=k_ hgd (List.mem_of_getElem? hc)
   have Nm:=nF (wC (mq hs) js done.length) hc
   have N8:(((nE (mq hs) t).take (F4.length+1)).flatMap (wC (mq hs) js done.length)).length<=(gh (mq hs) js done.length t).length:=qp _ _ _
   rw[Nm,List.length_append]at N8
   generalize ((nE (mq hs) t).take F4.length).flatMap (wC (mq hs) js done.length)=Pd at f5 Nm N8
   simp only[wB,Tg.put,Tg.Fx,List.set_cons_zero,List.set_cons_succ,aO,ab,ao,v3,lk]
   refine Jd (by omega) (by omega) gc hP.jw hh (B5 _ _ (X4 _ _ (B3 _ _ Nj Nk)) Nk) fun pp S6 hpp X6 f6=>?_
   have Ng:pp≠pf:=fun h=>by rw[h,f5]at hpp;cases hpp
   have Pe:=X6 _ _ f5
   simp only[bT,f6]
   have Pf:(wC (mq hs) js done.length c).length=(c.2.ps (mq hs)).length:=List.length_map _
   refine bw (fun J4 σ S'=>∃(x7 x8:Option PV),σ=[some (.tup [.tup (js.map PV.str),.tup (ds.map gS)]),some (.ref nm),some (.ref pf),some (.int (done.length:Int)),some (.tup [.str z,t.pv]),some c.1,some c.2.pv,x7,x8]/\J4.length<=(c.2.ps (mq hs)).length/\Ext S S'/\Gf pf S6 S'/\S' pf=some (.lst (acc++Pd++J4.map (oX js done.length c)))) ⟨_,_,rfl,Nat.zero_le _,X5.trans X6,.refl,by simpa using Pe⟩ (fun _ _ _ ⟨_,_,_,_,_,B,_⟩=>B _ _ f6 Ng) ?_ ?_
   ·rintro J4 v N9 σ S7 K7 e7 ⟨x7,x8,rfl,l7,X7,B7,f7⟩ Pg
    have hv:v∈c.2.ps (mq hs):=by rw[e7];simp
    have Ph:J4.length+1<=(c.2.ps (mq hs)).length:=by rw[e7,List.length_append,List.length_cons];omega
    obtain⟨v1,v2⟩:=iM (mq hs) c.2 v hv
    simp only[Tg.put,List.set_cons_zero,List.set_cons_succ]
    refine al fun N7 Pi=>?_
    simp only[av,ab,ao,af,v3,lk,c3,ac,bW]
    refine IH (by have:=hP.jl;omega) gc v1 v2 (by omega) fun S8 X8=>?_
    refine Pi _ _ ?_
    have Pj:=X8 _ _ f7
    simp only[aN,d4,n5,az,ao,af,v3,lk,c3,ac,Ty.pv,bW,cM,List.set_cons_zero,List.set_cons_succ,Pj,true_and,bh]
    refine⟨Nat.lt_of_le_of_lt (show _<=1000000 by simp only[List.length_append,List.length_map];dsimp only at Lw;omega) (by decide),Pg _ _ ⟨_,_,rfl,by rw[List.length_append];exact Ph,(X7.trans X8).put KN,(B7.trans fun a o h n=>X8 a o h).trans .upd,?_⟩⟩
    rw[aa,List.map_append,<-List.append_assoc]
    rfl
   ·rintro σ S7 ⟨x7,x8,rfl,l7,X7,B7,f7⟩
    refine Pc _ _ ⟨_,_,_,_,rfl,X7,(B5.trans fun a o h n=>X6 a o h).trans B7,?_⟩
    rw[f7,List.length_append,List.length_singleton,Nm,List.append_assoc]
    rfl
  ·rintro σ S5 ⟨x5,x6,x7,x8,rfl,X5,B5,f5⟩
   refine hK _ _ ⟨_,_,_,_,_,_,rfl,X5,(B3.trans fun a o h n=>X4 a o h).trans B5,?_⟩
   rw[f5,List.length_map,List.take_length,List.length_append,List.length_singleton,Nl]
   rfl
 ·rintro σ S3 ⟨x3,x4,x5,x6,x7,x8,rfl,X3,B3,f3⟩
  refine hN _ _ ?_
  walk_at "x"
  simp only[f3]
  have:(L3.aK (ds.map gS)).length=ds.zipIdx.length:=by simp[L3.aK]
  rw[this,List.take_length]
  exact k hs S3 hf X3
def qy{c:jS}{t u:bB}{v:Bool}{σ:cC}{S:ay}{D:m5}(h:∀Q E,Q v S->c σ S Q E)(qt:v=true->t D σ S)(qf:v=false->u D σ S):bt c t u D σ S:=by
 refine h _ _ ?_
 cases v with
 |true=>exact qt rfl
 |false=>exact qf rfl
def rV{t:Bd}{v:PV}(hp:t.plain=true)(h:aR t v=true):v = .tup []:=by
 cases v with
 |tup xs=>rw[lS hp,decide_eq_true_eq]at h;rw[h]
 |_=>cases t<;>first|(cases hp;done)|(cases h)
noncomputable def cs(a:Bd)(k:Nat)(xs:List PV):Nat:=xs.foldl (fun k g=>k+(nm (gu g)).toNat * (cnt a (cQ g)+1)) k
theorem zx(a:Bd):∀(xs:List PV) (k:Nat),k<=cs a k xs
 |[],k=>Nat.le_refl _
 |x::xs,k=>Nat.le_trans (Nat.le_add_right _ _) (zx a xs _)
def rW(a:Bd)(k:Nat)(xs ys:List PV):cs a k (xs++ys)=cs a (cs a k xs) ys:=List.foldl_append
def oY{a:Bd}{k:Nat}{xs done rest:List PV}{m:Int}{y:PV}(e:xs=done ++ .tup [.int m,y]::rest)(hm:1<=m):cs a k done+cnt a y+1<=cs a k (done++[.tup [.int m,y]])/\cs a k (done++[.tup [.int m,y]])<=cs a k xs:=by
 constructor
 ·rw[rW]
  show _<=cs a k done+m.toNat * (cnt a y+1)
  have:cnt a y+1<=m.toNat * (cnt a y+1):=Nat.le_mul_of_pos_left _ (by omega)
  omega
 ·rw[e,show done++PV.tup [.int m,y]::rest=(done++[.tup [.int m,y]])++rest by simp,rW a k _ rest]
  exact zx a rest _
noncomputable def mM(p:Str×Int):PV:=.tup [.str p.1,.int p.2]
noncomputable def rX(g:Gi):PV:=.tup [.int (g.1:Int),g.2.1,.int g.2.2.1]
def gi:∀(t:Bd) (v:PV) (k:Nat) (m:Int),aR t v=true->(Hw t v).length<=cnt t v/\(G5 t v k m).length<=cnt t v:=by
 intro t
 induction t with
 |rest=>intro v k m _;exact⟨Nat.zero_le _,Nat.zero_le _⟩
 |pay x y=>intro v k m _;exact⟨Nat.zero_le _,Nat.zero_le _⟩
 |use z=>intro v k m _;exact⟨Nat.zero_le _,Nat.zero_le _⟩
 |put z n=>intro v k m _;exact⟨show 1<=2 by decide,Nat.zero_le _⟩
 |Fw a b FL F5=>
  intro v k m h
  obtain⟨x,y,rfl,hx,hy⟩:=cj h
  have p:=FL x k m hx;have q:=F5 y (k+Ht a) m hy
  show(Hw a x++Hw b y).length<=cnt a x+cnt b y/\(G5 a x k m++G5 b y (k+Ht a) m).length<=cnt a x+cnt b y
  rw[List.length_append,List.length_append];omega
 |FE a b FL F5=>
  intro v k m h
  obtain⟨i,y,rfl,hy⟩:=ck h
  rcases hy with⟨rfl,hy⟩|⟨rfl,hy⟩
  ·have p:=FL y k m hy
   exact⟨Nat.le_succ_of_le p.1,Nat.le_succ_of_le p.2⟩
  ·have p:=F5 y (k+Ht a) m hy
   exact⟨Nat.le_succ_of_le p.1,Nat.le_succ_of_le p.2⟩
 |FC z n a b FL F5=>
  intro v k m h
  obtain⟨i,y,rfl,hy⟩:=cm h
  rcases hy with⟨rfl,hy⟩|⟨rfl,hy⟩
  ·have p:=FL y k m hy
   exact⟨by show(Hw a y).length+1<=cnt a y+2;omega,by show(G5 a y k m).length<=cnt a y+2;omega⟩
  ·have p:=F5 y (k+Ht a) m hy
   exact⟨by show(Hw b y).length<=cnt b y+2;omega,by show(G5 b y (k+Ht a) m).length<=cnt b y+2;omega⟩
 |Fz a FL=>
  intro v k m h
  obtain⟨xs,rfl,hx⟩:=cX h
  show(xs.flatMap fun g=>Hw a (cQ g)).length<=cs a 0 xs+1/\(xs.flatMap fun g=>G5 a (cQ g) (k+1) (m * nm (gu g))++[(k,fS a (cQ g),m * nm (gu g),a)]).length<=cs a 0 xs+1
  have key:∀(xs:List PV) (n:Nat),(∀u∈xs,oz a u=true)->(xs.flatMap fun g=>Hw a (cQ g)).length+n<=cs a n xs/\(xs.flatMap fun g=>G5 a (cQ g) (k+1) (m * nm (gu g))++[(k,fS a (cQ g),m * nm (gu g),a)]).length+n<=cs a n xs:=by
   intro xs
   induction xs with
   |nil=>intro n _;exact⟨by simp[cs],by simp[cs]⟩
   |cons u xs ih=>
    intro n hu
    obtain⟨j,y,rfl,hj,hy⟩:=cO (hu u (by simp))
    have p:=FL y (k+1) (m * j) hy
    have q:=ih (n+j.toNat * (cnt a y+1)) fun w hw=>hu w (by simp[hw])
    have r:cnt a y+1<=j.toNat * (cnt a y+1):=Nat.le_mul_of_pos_left _ (by omega)
    have e:cs a n (.tup [.int j,y]::xs)=cs a (n+j.toNat * (cnt a y+1)) xs:=rfl
    rw[e,List.flatMap_cons,List.flatMap_cons,List.length_append,List.length_append,List.length_append]
    show(Hw a y).length+_+n<=_/\(G5 a y (k+1) (m * j)).length+1+_+n<=_
    omega
  have:=key xs 0 fun u hu=>List.all_eq_true.mp hx u hu
  omega
abbrev oZ(w:ax):Prop:=∀{S:ay} {i:Int} {Q:bA} {E:bZ},Q (.bl true) S->w [.int i] S Q E
def HL:oZ (aU 1 eY):=by
 intro S i Q E k
 unfold eY
 refine dG ?_
 rw[show aw 1 [PV.int i]=[some (.int i)] from rfl]
 simp only[au,bH,kC,ak,ao,v3,lk,c3,A8,A9,if_true,Bool.not_false]
 exact k
abbrev iy(n:Nat)(w:ax):Prop:=∀{S:ay} {js:Vs} {t:Bd} {v:PV} {mv:Addr} {ms:List PV} {Q:bA} {E:bZ},t.dep<=n->t.good js []->aR t v=true->S mv=some (.lst ms)->ms.length+cnt t v<=16000000->(∀S',Gf mv S S'->S' mv=some (.lst (ms++(Hw t v).map mM))->Q (.bl true) S')->w [t.pv,v,.ref mv] S Q E
abbrev o0(n:Nat)(w:ax):Prop:=∀{S:ay} {js:Vs} {a:Bd} {g:PV} {mv:Addr} {ms:List PV} {Q:bA} {E:bZ},a.dep<=n->a.good js []->oz a g=true->S mv=some (.lst ms)->ms.length+cnt a (cQ g)<=16000000->(∀S',Gf mv S S'->S' mv=some (.lst (ms++(Hw a (cQ g)).map mM))->Q (.bl true) S')->w [(Bd.Fz a).pv,g,.ref mv] S Q E
def Br{xn s0 s1:ax}(HL:oZ xn)(n:Nat)(ih:iy n s0):o0 n (aU 3 (cw xn s0 s1)):=by
 intro S js a g mv ms Q E hd hg hv hm hc k
 obtain⟨m,y,rfl,h1,hy⟩:=cO hv
 unfold cw
 refine dG ?_
 rw[show aw 3 [(Bd.Fz a).pv,.tup [.int m,y],.ref mv]=[some (Bd.Fz a).pv,some (.tup [.int m,y]),some (.ref mv)] from rfl]
 refine al fun N hN=>?_
 refine qy (v:=false) (fun Q E q=>?_) (fun h=>nomatch h) (fun _=>hN _ _ ?_)
 ·simp only[jb,iQ,aJ,ak,af,ao,v3,lk,c3,vW,Bool.not_true,Bool.false_eq_true,if_false,bx,aV,List.length_cons,List.length_nil,ab,ac,bW]
  simp only[Nat.zero_add,Nat.reduceAdd,Int.cast_ofNat_Int,decide_true,bne_self_eq_false,Bool.false_eq_true,if_false]
  refine HL ?_
  simp only[Bool.not_true,Bool.false_eq_true,if_false,nk,dz]
  rw[decide_eq_false (by omega)]
  exact q
 ·simp only[au,ab,ao,af,v3,lk,c3,ac,Bd.pv,cM]
  exact ih hd hg hy hm hc k
def sN{n:Nat}(h:n<=16000000):n<=sizeLine:=Nat.le_trans h (by decide)
def Bs:∀z∈(["rest","pay","put"]:Vs),PyData.strOk z=true:=by decide +kernel
def JN{xn s0 s1:ax}(HL:oZ xn)(n:Nat)(ih:iy n s0)(ih1:o0 n s1):iy (n+1) (aU 4 (cL xn s0 s1)):=by
 intro S js t v mv ms Q E hd hg hv hm hc k
 have hcl:=(gi t v 0 0 hv).1
 unfold cL
 refine dG ?_
 rw[show aw 4 [t.pv,v,.ref mv]=[some t.pv,some v,some (.ref mv),none] from rfl]
 obtain⟨xs,rfl⟩:∃xs,v = .tup xs:=by
  cases t with
  |Fw a b=>obtain⟨x,y,rfl,_⟩:=cj hv;exact⟨_,rfl⟩
  |FE a b=>obtain⟨i,y,rfl,_⟩:=ck hv;exact⟨_,rfl⟩
  |FC z m a b=>obtain⟨i,y,rfl,_⟩:=cm hv;exact⟨_,rfl⟩
  |Fz a=>obtain⟨xs,rfl,_⟩:=cX hv;exact⟨_,rfl⟩
  |_=>exact⟨_,rV rfl hv⟩
 refine al fun N hN=>?_
 refine qy (v:=false) (fun Q E q=>by simp only[iQ,aJ,ak,ao,v3,lk,c3,vW,Bool.not_true];exact q) (fun h=>nomatch h) (fun _=>hN _ _ (al fun N hN=>?_))
 rw[Bd.Hd]
 refine qy (v:=decide (t.hd∈(["rest","pay","put"]:Vs))) (fun Q E q=>?_) (fun h=>?_) (fun h=>hN _ _ (al fun N hN=>?_))
 ·simp only[aJ,af,v3,lk,c3,ac,bW,az,ao]
  rw[show([PV.str "rest",PV.str "pay",PV.str "put"]:List PV)=(["rest","pay","put"]:Vs).map PV.str from rfl]
  refine bI (Bd.Iu _) Bs ?_
  rw[Bool.false_bne]
  exact q
 ·have h:=of_decide_eq_true h
  have hx:xs=[]:=by
   have hp:t.plain=true:=by cases t<;>first|rfl|(simp[Bd.hd,aA]at h;done)
   have:=rV hp hv
   injection this
  subst hx
  refine al fun N2 GA=>?_
  simp only[aN,d4,ao,af,bc,cg,pL,rA,v3,lk,c3,pM,n5,hm,true_and]
  intro p1 hp1
  have Pk:mv≠p1:=fun h=>by rw[h,hp1]at hm;cases hm
  simp only[ak,ao,af,v3,lk,c3,ac,bW,aV,gE,bS,aa,Bool.false_bne,decide_eq_true_eq]
  have fin:∀(ys:List PV) (S2:ay),Ext S S2->S2 mv=some (.lst ms)->(∀p2,S2 p2=none->aZ (.ref mv) [.ref p2] (Fr S2 p2 (.lst ys)) (fun _ S3=>N2 [some (.tup (.str t.hd::t.tl)),some (.tup []),some (.ref mv),none] S3))\/ys≠(Hw t (.tup [])).map mM:=by
   intro ys S2 X2 f2
   by_cases e:ys=(Hw t (.tup [])).map mM
   ·refine .inl fun p2 hp2=>?_
    have Mn:mv≠p2:=fun h=>by rw[h,hp2]at f2;cases f2
    simp only[aZ,aa,ap Mn,f2]
    refine⟨sN (by rw[e,List.length_map];omega),GA _ _ ?_⟩
    simp only[au,af,v3,lk,az,ao]
    refine⟨.tuple [],.tuple [],.tup .nil,.tup .nil,by simp[PyData.canLay0,PyData.canLayAll0],by simp[PyData.canLay0,PyData.canLayAll0],by simp[PyData.depth,PyData.depthAll],?_⟩
    rw[show(false != PyData.eqv (.tuple []) (.tuple []))=true by simp[PyData.eqv,PyData.eqvAll]]
    refine k _ (fun b o hb nb=>?_) (by rw[aa,e])
    have h2:=X2 _ _ hb
    rw[ap nb,ap (fun e=>by rw[e,hp2]at h2;cases h2)]
    exact h2
   ·exact .inr e
  have X1:Ext S (Fr S p1 (.lst [.tup (He (.str t.hd::t.tl) (some 1) none)])):=.new hp1
  have f1:(Fr S p1 (.lst [.tup (He (.str t.hd::t.tl) (some 1) none)])) mv=some (.lst ms):=by rw[ap Pk];exact hm
  generalize Fr S p1 (.lst [.tup (He (.str t.hd::t.tl) (some 1) none)])=S1 at X1 f1
  cases t with
  |put z m=>
   rw[if_pos (show(Bd.put z m).hd=Str.ofString "put" from rfl)]
   refine⟨by decide,by decide,by show 1 * 1<=sizeLine;decide,fun p2 hp2=>?_⟩
   rcases fin [.tup [.str z,.int m]] S1 X1 f1 with q|q
   ·exact q p2 hp2
   ·exact absurd rfl q
  |rest=>
   rw[if_neg (by simp[Bd.hd,aA])]
   refine⟨by decide,by decide,by show 1 * 0<=sizeLine;decide,fun p2 hp2=>?_⟩
   rcases fin [] S1 X1 f1 with q|q
   ·exact q p2 hp2
   ·exact absurd rfl q
  |pay x y=>
   rw[if_neg (by simp[Bd.hd,aA])]
   refine⟨by decide,by decide,by show 1 * 0<=sizeLine;decide,fun p2 hp2=>?_⟩
   rcases fin [] S1 X1 f1 with q|q
   ·exact q p2 hp2
   ·exact absurd rfl q
  |_=>simp[Bd.hd,aA]at h
 have h:=of_decide_eq_false h
 refine qy (v:=decide (t.hd=("often":Str))) (fun Q E q=>by simp only[aJ,af,v3,lk,c3,ac,bW,aV,Bool.false_bne];exact q) (fun h2=>?_) (fun h2=>hN _ _ (al fun N hN=>?_))
 ·obtain⟨a,rfl⟩:=(Bd.IE t).mp (of_decide_eq_true h2)
  obtain⟨xs',e',hx⟩:=cX hv
  injection e' with e'
  subst e'
  simp only[Bd.dep]at hd
  have hc:ms.length+(cs a 0 xs+1)<=16000000:=hc
  refine al fun N2 GA=>?_
  simp only[av,aQ,aO,v3,lk,bT]
  refine fo (fun done ys S'=>ys=done/\Gf mv S S'/\done.length<=xs.length/\S' mv=some (.lst (ms++(done.flatMap fun g=>Hw a (cQ g)).map mM))/\(done.flatMap fun g=>Hw a (cQ g)).length<=cs a 0 done/\done.length<=cs a 0 done/\cs a 0 done<=16000000) ⟨rfl,.refl,Nat.zero_le _,by simpa using hm,Nat.le_refl _,Nat.le_refl _,Nat.zero_le _⟩ ?_ ?_ ?_
  ·rintro done ys S' ⟨rfl,_,hl,_,_,r3,r4⟩
   exact⟨trivial,sN (by omega)⟩
  ·rintro done x rest ys S2 K e ⟨rfl,X2,hl,f2,r2,r3,r4⟩ hK
   have e:xs=ys++x::rest:=e
   have Pl:x∈xs:=by rw[e];simp
   have hgo:=List.all_eq_true.mp hx x Pl
   obtain⟨m,y,rfl,h1,hy⟩:=cO hgo
   obtain⟨q1,q2⟩:=oY (a:=a) (k:=0) e h1
   have q3:=(gi a y 0 0 hy).1
   simp only[dE,List.replicate_succ,List.replicate_zero,List.map_cons,List.map_nil,List.cons_append,List.nil_append,lk,Tg.put,List.set_cons_zero]
   simp only[aJ,ab,ao,v3,lk]
   rw[show(PV.tup (.str (Bd.Fz a).hd::(Bd.Fz a).tl))=(Bd.Fz a).pv from rfl]
   refine ih1 (by omega) hg hgo f2 (by rw[List.length_append,List.length_map];show _+cnt a y<=_;omega) fun S3 X3 f3=>?_
   simp only[if_true]
   have ef:([PV.tup [.int m,y]].flatMap fun g=>Hw a (cQ g))=Hw a y:=by simp[cQ]
   refine hK _ _ ⟨rfl,X2.trans X3,?_,?_,?_,?_,by omega⟩
   ·have:=congrArg List.length e;simp at this ⊢;omega
   ·rw[f3,List.flatMap_append,List.map_append,List.append_assoc,ef];rfl
   ·rw[List.flatMap_append,List.length_append,ef];omega
   ·rw[List.length_append,List.length_singleton];omega
  ·rintro ys S2 ⟨rfl,X2,hl,f2,r2,r3,_⟩
   intro p hp
   have np:mv≠p:=fun h=>by rw[h,hp]at f2;cases f2
   simp only[List.set_cons_succ,List.set_cons_zero]
   refine GA _ _ ?_
   simp only[au,af,ak,ao,v3,lk,bx,aa,aV,decide_true,Bool.false_bne]
   exact k _ (fun b o hb nb=>by have h2:=X2 _ _ hb nb;rw[ap (fun e=>by rw[e,hp]at h2;cases h2)];exact h2) (by rw[ap np];exact f2)
 have h2:=of_decide_eq_false h2
 obtain⟨x,y,rfl⟩:∃x y,xs=[x,y]:=by
  cases t with
  |Fw a b=>obtain⟨x,y,e,_⟩:=cj hv;injection e with e;exact⟨x,y,e⟩
  |FE a b=>obtain⟨i,y,e,_⟩:=ck hv;injection e with e;exact⟨_,y,e⟩
  |FC z m a b=>obtain⟨i,y,e,_⟩:=cm hv;injection e with e;exact⟨_,y,e⟩
  |Fz a=>exact absurd rfl h2
  |use z=>exact absurd (show z∈[] from hg) (by simp)
  |_=>simp[Bd.hd,aA]at h
 refine qy (v:=false) (fun Q E q=>by simp only[aJ,af,ak,ao,v3,lk,c3,bx,aV,List.length_cons,List.length_nil];exact q) (fun h=>nomatch h) (fun _=>hN _ _ (al fun N hN=>?_))
 refine qy (v:=decide (t.hd=("then":Str))) (fun Q E q=>by simp only[aJ,af,v3,lk,c3,ac,bW,aV,Bool.false_bne];exact q) (fun h3=>?_) (fun h3=>hN _ _ (al fun N hN=>?_))
 ·obtain⟨a,b,rfl⟩:=(Bd.ID t).mp (of_decide_eq_true h3)
  obtain⟨x',y',e,hx,hy⟩:=cj hv
  injection e with e;injection e with e1 e;injection e with e2 _
  subst e1 e2
  have hc:ms.length+(cnt a x+cnt b y)<=16000000:=hc
  simp only[Bd.dep]at hd
  have q1:=(gi a x 0 0 hx).1
  simp only[au,bH,ab,ao,af,v3,lk,c3,ac,Bd.tl,bW,cM,sC]
  refine ih (by omega) hg.1 hx hm (by omega) fun S1 X1 f1=>?_
  simp only[if_true]
  refine ih (by omega) hg.2 hy f1 (by rw[List.length_append,List.length_map];omega) fun S2 X2 f2=>k S2 (X1.trans X2) ?_
  rw[f2]
  show some (SO.lst _)=some (.lst (ms++(Hw a x++Hw b y).map mM))
  rw[List.map_append,List.append_assoc]
 have h3:=of_decide_eq_false h3
 have side:∀(i:Int) (y:PV) (hd2:List PV) (a b:Bd) (S1:ay) (N:cC->ay->Prop),(i=0\/i=1)->.str t.hd::t.tl=hd2++[a.pv,b.pv]->∀c:Bd,(if i=0 then a.pv else b.pv)=c.pv->c.dep<=n->c.good js []->aR c y=true->∀ms',S1 mv=some (.lst ms')->ms'.length+cnt c y<=16000000->(∀S',Gf mv S1 S'->S' mv=some (.lst (ms'++(Hw c y).map mM))->Q (.bl true) S')->
   au (ab s0 [af ac (v3 0) (af bv (af ac (v3 1) (c3 (.int 0))) (c3 (.int 2))),af ac (v3 1) (c3 (.int 1)),v3 2]) { nx:=N,rt:=Q,ex:=dO } [some (.tup (.str t.hd::t.tl)),some (.tup [.int i,y]),some (.ref mv),none] S1:=by
  intro i y hd2 a b S1 N hi e c ec d1 d2 d3 ms' f1 l1 kk
  simp only[au,ab,ao,af,v3,lk,c3,ac,bW,cM,bv,dz]
  rw[e,dr hi,ec]
  exact ih d1 d2 d3 f1 l1 kk
 cases t with
 |FE a b=>
  obtain⟨i,y',e,hy⟩:=ck hv
  injection e with e;injection e with e1 e;injection e with e2 _
  subst e1 e2
  simp only[Bd.dep]at hd
  have hi:i=0\/i=1:=by rcases hy with⟨h,_⟩|⟨h,_⟩<;>omega
  refine qy (v:=false) (fun Q E q=>?_) (fun h=>nomatch h) (fun _=>hN _ _ (al fun N hN=>?_))
  ·simp only[jb,iQ,aJ,af,ab,ao,v3,lk,c3,ac,bW]
   refine HL ?_
   simp only[Bool.not_true,Bool.false_eq_true,if_false,nk,o9,dz]
   rw[decide_eq_false (by omega),decide_eq_false (by omega)]
   exact q
  refine qy (v:=false) (fun Q E q=>by simp only[fi,aJ,af,v3,lk,c3,ac,bW,aV,Bd.hd,aA,String.reduceEq,decide_false,Bool.false_bne,Bool.false_eq_true,if_false];exact q) (fun h=>nomatch h) (fun _=>hN _ _ ?_)
  rcases hy with⟨rfl,hy⟩|⟨rfl,hy⟩
  ·exact side 0 y [.str "either"] a b S _ (.inl rfl) rfl a rfl (by omega) hg.1 hy ms hm (by have hc:ms.length+(cnt a y+1)<=16000000:=hc;omega) k
  ·exact side 1 y [.str "either"] a b S _ (.inr rfl) rfl b rfl (by omega) hg.2 hy ms hm (by have hc:ms.length+(cnt b y+1)<=16000000:=hc;omega) k
 |FC z m a b=>
  obtain⟨i,y',e,hy⟩:=cm hv
  injection e with e;injection e with e1 e;injection e with e2 _
  subst e1 e2
  simp only[Bd.dep]at hd
  have hi:i=0\/i=1:=by rcases hy with⟨h,_⟩|⟨h,_⟩<;>omega
  refine qy (v:=false) (fun Q E q=>?_) (fun h=>nomatch h) (fun _=>hN _ _ (al fun N hN=>?_))
  ·simp only[jb,iQ,aJ,af,ab,ao,v3,lk,c3,ac,bW]
   refine HL ?_
   simp only[Bool.not_true,Bool.false_eq_true,if_false,nk,o9,dz]
   rw[decide_eq_false (by omega),decide_eq_false (by omega)]
   exact q
  rcases hy with⟨rfl,hy⟩|⟨rfl,hy⟩
  ·have hc:ms.length+(cnt a y+2)<=16000000:=hc
   refine qy (v:=true) (fun Q E q=>by simp only[fi,aJ,af,v3,lk,c3,ac,bW,aV,Bd.hd,decide_true,Bool.false_bne,if_true];exact q) (fun _=>?_) (fun h=>nomatch h)
   simp only[aN,d4,ao,af,az,v3,lk,c3,ac,Bd.tl,cM,sC,bv,dz,n5,bh,hm,true_and]
   refine⟨Nat.lt_of_le_of_lt (show _<=16000000 by omega) (by decide),hN _ _ ?_⟩
   refine side 0 y [.str "take",.str z,.int m] a b _ _ (.inl rfl) rfl a rfl (by omega) hg.2.2.2.1 hy _ aa (by rw[List.length_append];simp;omega) fun S2 X2 f2=>k S2 (Gf.upd.trans X2) ?_
   rw[f2,List.append_assoc]
   rfl
  ·refine qy (v:=false) (fun Q E q=>by simp only[fi,aJ,af,v3,lk,c3,ac,bW,aV,Bd.hd,decide_true,Int.reduceEq,decide_false,Bool.false_bne,if_true];exact q) (fun h=>nomatch h) (fun _=>hN _ _ ?_)
   exact side 1 y [.str "take",.str z,.int m] a b S _ (.inr rfl) rfl b rfl (by omega) hg.2.2.2.2 hy ms hm (by have hc:ms.length+(cnt b y+2)<=16000000:=hc;omega) k
 |Fw a b=>exact absurd rfl h3
 |Fz a=>exact absurd rfl h2
 |use z=>exact absurd (show z∈[] from hg) (by simp)
 |_=>simp[Bd.hd,aA]at h
def Ext.b{p:Addr}{S S':ay}(X:Ext S S'):Gf p S S':=fun a o h _=>X a o h
abbrev ld(n:Nat)(w:ax):Prop:=∀{S:ay} {js:Vs} {t:Bd} {v:PV} {k:Nat} {m:Int} {fd:Addr} {fs:List PV} {Q:bA} {E:bZ},t.dep<=n->t.size<=900->t.good js []->l5 js->aR t v=true->cA (2 ^ 60) v=true->S fd=some (.lst fs)->fs.length+cnt t v<=16000000->(∀S',Gf fd S S'->S' fd=some (.lst (fs++(G5 t v k m).map rX))->Q (fS t v) S')->w [t.pv,v,.int (k:Int),.int m,.ref fd] S Q E
def EB{a b:PV}{hd:List PV}:Gw (hd++[a,b]) (-2)=some a:=by
 have:=dr (a:=a) (b:=b) (hd:=hd) (i:=0) (.inl rfl)
 simpa using this
def JO{xo s0:ax}(Lx:gX 6 xo)(n:Nat)(hn6:n<=6)(ih:ld n s0):ld (n+1) (aU 9 (f_ xo s0)):=by
 intro S js t v k m fd fs Q E hd hz hg hj hv hib hf hc kk
 unfold f_
 refine dG ?_
 rw[Bd.Hd,show aw 9 [.tup (.str t.hd::t.tl),v,.int (k:Int),.int m,.ref fd]=[some (.tup (.str t.hd::t.tl)),some v,some (.int (k:Int)),some (.int m),some (.ref fd),none,none,none,none] from rfl]
 have Fz:∀(a:Bd) (Q':bA) (p:Addr),a.dep<=6->a.size<=900->a.good js []->S p=none->(∀p' S2,Ext S S2->S2 p'=some (.lst ((a.G4 (mq []) false).map mD))->Q' (.ref p') S2)->xo [a.pv,.ref p,.bl false] (Fr S p (.lst [])) Q' dO:=fun a Q' p h1 h2 h3 hp q=>
  Lx (hs:=[]) h1 h2 h3 hj (fun z h=>by cases h) aa fun p' S2 _ X2 f2=>q p' S2 ((Ext.new hp).trans X2) f2
 refine al fun N hN=>?_
 refine qy (v:=decide (t.hd=("then":Str))) (fun Q E q=>by simp only[aJ,af,v3,lk,c3,ac,bW,aV,Bool.false_bne];exact q) (fun h1=>?_) (fun h1=>hN _ _ (al fun N hN=>?_))
 ·clear hN
  obtain⟨a,b,rfl⟩:=(Bd.ID t).mp (of_decide_eq_true h1)
  obtain⟨x,y,rfl,hx,hy⟩:=cj hv
  simp only[Bd.dep]at hd
  simp only[Bd.size]at hz
  have hc:fs.length+(cnt a x+cnt b y)<=16000000:=hc
  have q1:=(gi a x k m hx).2
  have ib:=bJ hib
  have kk:∀S',Gf fd S S'->S' fd=some (.lst (fs++(G5 a x k m++G5 b y (k+Ht a) m).map rX))->Q (.tup [fS a x,fS b y]) S':=kk
  simp only[Bd.tl]
  generalize (Bd.Fw a b).hd=w
  refine al fun N2 GA=>?_
  simp only[av,af,ak,ao,ab,bc,v3,lk,c3,ac,cM]
  intro p hp
  refine Fz a _ p (by omega) (by omega) hg.1 hp fun p' S1 X1 f1=>?_
  simp only[bx,f1,aT,List.length_map,cr,List.set_cons_succ,List.set_cons_zero]
  rw[show(k:Int)+(Ht a:Int)=((k+Ht a:Nat):Int) by omega]
  refine GA _ _ (al fun N2 GA=>?_)
  simp only[av,ab,ao,af,v3,lk,c3,ac,bW,cM]
  refine ih (by omega) (by omega) hg.1 hj hx (ib x (by simp)) (X1 _ _ hf) (by omega) fun S2 X2 f2=>?_
  simp only[List.set_cons_succ,List.set_cons_zero]
  refine GA _ _ ?_
  simp only[au,az,ab,ao,af,v3,lk,c3,ac,cM,sC]
  refine ih (by omega) (by omega) hg.2 hj hy (ib y (by simp)) f2 (by rw[List.length_append,List.length_map];omega) fun S3 X3 f3=>kk S3 ((Ext.b X1).trans (X2.trans X3)) ?_
  rw[f3,List.map_append,List.append_assoc]
 have h1:=of_decide_eq_false h1
 refine qy (v:=decide (t.hd=("often":Str))) (fun Q E q=>by simp only[aJ,af,v3,lk,c3,ac,bW,aV,Bool.false_bne];exact q) (fun h2=>?_) (fun h2=>hN _ _ (al fun N hN=>?_))
 ·obtain⟨a,rfl⟩:=(Bd.IE t).mp (of_decide_eq_true h2)
  obtain⟨xs,rfl,hx⟩:=cX hv
  simp only[Bd.dep]at hd
  simp only[Bd.size]at hz
  have hc:fs.length+(cs a 0 xs+1)<=16000000:=hc
  simp only[bO,aO,v3,lk,bT]
  refine bw (fun done σ S'=>∃x6 x7,σ=[some (.tup [.str "often",a.pv]),some (.tup xs),some (.int (k:Int)),some (.int m),some (.ref fd),none,x6,x7,none]/\Gf fd S S'/\S' fd=some (.lst (fs++(done.flatMap fun g=>G5 a (cQ g) (k+1) (m * nm (gu g))++[(k,fS a (cQ g),m * nm (gu g),a)]).map rX))/\(done.flatMap fun g=>G5 a (cQ g) (k+1) (m * nm (gu g))++[(k,fS a (cQ g),m * nm (gu g),a)]).length<=cs a 0 done) ⟨_,_,rfl,.refl,by simpa using hf,Nat.le_refl _⟩ (fun _ _ _ _=>trivial) ?_ ?_
  ·rintro done u rest σ S1 K e ⟨x6,x7,rfl,X1,f1,r1⟩ hK
   have e:xs=done++u::rest:=e
   have N_:u∈xs:=by rw[e];simp
   obtain⟨j,y,rfl,h1,hy⟩:=cO (List.all_eq_true.mp hx u N_)
   obtain⟨q1,q2⟩:=oY (a:=a) (k:=0) e h1
   have q3:=(gi a y (k+1) (m * j) hy).2
   have iu:=bJ hib _ N_
   have ij:=bJ iu (.int j) (by simp)
   simp only[cA,decide_eq_true_eq]at ij
   have ef:([PV.tup [.int j,y]].flatMap fun g=>G5 a (cQ g) (k+1) (m * nm (gu g))++[(k,fS a (cQ g),m * nm (gu g),a)])=G5 a y (k+1) (m * j)++[(k,fS a y,m * j,a)]:=by simp[gu,cQ,nm]
   rw[List.flatMap_append,ef]at hK
   generalize (done.flatMap fun g=>G5 a (cQ g) (k+1) (m * nm (gu g))++[(k,fS a (cQ g),m * nm (gu g),a)])=G at f1 r1 hK
   simp only[Tg.put,Tg.Fx,List.set_cons_succ,List.set_cons_zero]
   simp only[aN,d4,ao,az,ab,af,v3,lk,c3,ac,cM,n5,f1,true_and,aT,bS]
   refine⟨kT (by omega) (by omega),?_⟩
   rw[show(k:Int)+1=((k+1:Nat):Int) by omega]
   refine ih (by omega) (by omega) hg hj hy (bJ iu y (by simp)) f1 (by rw[List.length_append,List.length_map];omega) fun S2 X2 f2=>?_
   refine⟨kT (by omega) (by omega),?_⟩
   simp only[bh,f2]
   refine⟨Nat.lt_of_le_of_lt (show _<=16000000 by rw[List.length_append,List.length_append,List.length_map,List.length_map];omega) (by decide),?_⟩
   refine hK _ _ ⟨_,_,rfl,(X1.trans X2).trans Gf.upd,?_,?_⟩
   ·rw[aa,List.map_append,List.map_append,List.append_assoc,List.append_assoc]
    rfl
   ·rw[List.length_append,List.length_append,List.length_singleton]
    omega
  ·rintro σ S1 ⟨x6,x7,rfl,X1,f1,r1⟩
   refine hN _ _ (al fun N hN=>?_)
   refine qy (v:=false) (fun Q E q=>by simp only[jb,aJ,af,v3,lk,c3,ac,bW,aV,aA,String.reduceEq,decide_false,Bool.false_bne,Bool.false_eq_true,if_false];exact q) (fun h=>nomatch h) (fun _=>hN _ _ ?_)
   simp only[au,az,ao]
   exact kk S1 X1 f1
 have h2:=of_decide_eq_false h2
 have two:∀(hd2:List PV) (a b c:Bd) (i:Int) (y:PV) (N:cC->ay->Prop),.str t.hd::t.tl=hd2++[a.pv,b.pv]->(i=0\/i=1)->a.dep<=6->a.size<=900->a.good js []->c.dep<=n->c.size<=900->c.good js []->(if i=0 then a.pv else b.pv)=c.pv->aR c y=true->cA (2 ^ 60) y=true->fs.length+cnt c y<=16000000->
   (∀S',Gf fd S S'->S' fd=some (.lst (fs++(G5 c y (if i=0 then k else k+Ht a) m).map rX))->Q (.tup [.int i,fS c y]) S')->
   ai (av 8 (af ac (bc [v3 2,af aT (v3 2) (ak bx [ab xo [af ac (v3 0) (ik b3 (c3 (.int 2))),bc [],c3 (.bl false)]])]) (af ac (v3 1) (c3 (.int 0))))) (au (az [af ac (v3 1) (c3 (.int 0)),ab s0 [af ac (v3 0) (af bv (af ac (v3 1) (c3 (.int 0))) (c3 (.int 2))),af ac (v3 1) (c3 (.int 1)),v3 8,v3 3,v3 4]])) { nx:=N,rt:=Q,ex:=dO } [some (.tup (.str t.hd::t.tl)),some (.tup [.int i,y]),some (.int (k:Int)),some (.int m),some (.ref fd),none,none,none,none] S:=by
  intro hd2 a b c i y N e hi a1 a2 a3 c1 c2 Pm ec hy ib hcc fin
  rw[e]
  refine al fun N2 GA=>?_
  simp only[av,af,bc,ak,ao,ab,ik,b3,v3,lk,c3,ac,EB]
  intro p hp
  refine Fz a _ p a1 a2 a3 hp fun p' S1 X1 f1=>?_
  simp only[bx,f1,aT,List.length_map,cr]
  rw[show(k:Int)+(Ht a:Int)=((k+Ht a:Nat):Int) by omega]
  intro p2 hp2
  have X2:Ext S (Fr S1 p2 (.lst [.int (k:Int),.int ((k+Ht a:Nat):Int)])):=X1.trans (.new hp2)
  have hf2:=X2 _ _ hf
  simp only[aa]
  generalize Fr S1 p2 (.lst [.int (k:Int),.int ((k+Ht a:Nat):Int)])=S2 at X2 hf2
  have key:Gw [PV.int (k:Int),.int ((k+Ht a:Nat):Int)] i=some (.int ((if i=0 then k else k+Ht a:Nat):Int)):=by
   rcases hi with rfl|rfl
   ·exact bW
   ·exact cM
  simp only[bW,key,List.set_cons_succ,List.set_cons_zero]
  refine GA _ _ ?_
  simp only[au,az,ab,ao,af,v3,lk,c3,ac,bW,cM,bv,dz]
  rw[dr hi,ec]
  exact ih c1 c2 Pm hj hy ib hf2 hcc fun S3 X3 f3=>fin S3 ((Ext.b X2).trans X3) f3
 refine qy (v:=decide (t.hd=("either":Str)) || decide (t.hd=("take":Str))) (fun Q E q=>?_) (fun h3=>?_) (fun h3=>hN _ _ ?_)
 ·simp only[jb,aJ,af,v3,lk,c3,ac,bW,aV,Bool.false_bne]
  by_cases h:t.hd=("either":Str)
  ·rw[decide_eq_true h]at q ⊢
   exact q
  ·rw[decide_eq_false h]at q ⊢
   exact q
 ·cases t with
  |FE a b=>
   obtain⟨i,y,rfl,hy⟩:=ck hv
   simp only[Bd.dep]at hd
   simp only[Bd.size]at hz
   have ib:=bJ hib y (by simp)
   rcases hy with⟨rfl,hy⟩|⟨rfl,hy⟩
   ·exact two [.str "either"] a b a 0 y _ rfl (.inl rfl) (by omega) (by omega) hg.1 (by omega) (by omega) hg.1 rfl hy ib (by have hc:fs.length+(cnt a y+1)<=16000000:=hc;omega) kk
   ·exact two [.str "either"] a b b 1 y _ rfl (.inr rfl) (by omega) (by omega) hg.1 (by omega) (by omega) hg.2 rfl hy ib (by have hc:fs.length+(cnt b y+1)<=16000000:=hc;omega) kk
  |FC z w a b=>
   obtain⟨i,y,rfl,hy⟩:=cm hv
   simp only[Bd.dep]at hd
   simp only[Bd.size]at hz
   have ib:=bJ hib y (by simp)
   rcases hy with⟨rfl,hy⟩|⟨rfl,hy⟩
   ·exact two [.str "take",.str z,.int w] a b a 0 y _ rfl (.inl rfl) (by omega) (by omega) hg.2.2.2.1 (by omega) (by omega) hg.2.2.2.1 rfl hy ib (by have hc:fs.length+(cnt a y+2)<=16000000:=hc;omega) kk
   ·exact two [.str "take",.str z,.int w] a b b 1 y _ rfl (.inr rfl) (by omega) (by omega) hg.2.2.2.1 (by omega) (by omega) hg.2.2.2.2 rfl hy ib (by have hc:fs.length+(cnt b y+2)<=16000000:=hc;omega) kk
  |_=>simp[Bd.hd,aA]at h3
 ·have hp:fS t v = .tup []/\G5 t v k m=[]:=by
   cases t with
   |Fw a b=>exact absurd rfl h1
   |Fz a=>exact absurd rfl h2
   |FE a b=>simp[Bd.hd,aA]at h3
   |FC z w a b=>simp[Bd.hd,aA]at h3
   |_=>exact⟨rfl,rfl⟩
  rw[hp.1,hp.2]at kk
  simp only[au,az,ao]
  exact kk S .refl (by rw[hf];show _=some (SO.lst (fs++[]));rw[List.append_nil])
mutual
noncomputable def pd:PV->PyData
 | .int i=>.int i
 | .tup xs=>.tuple (pds xs)
 |_=>.none
noncomputable def pds:List PV->List PyData
 |[]=>[]
 |x::r=>pd x::pds r
end
theorem wD{n:Nat}:∀{xs:List PV},(∀x∈xs,(∀S,Dat S x (pd x))/\(pd x).canLay0=true/\(pd x).depth<=n)->(∀S,Dats S xs (pds xs))/\PyData.canLayAll0 (pds xs)=true/\PyData.depthAll (pds xs)<=n
 |[],_=>⟨fun _=>.nil,by simp[pds,PyData.canLayAll0],by simp[pds,PyData.depthAll]⟩
 |x::xs,h=>by
  obtain⟨a,b,c⟩:=h x (by simp)
  obtain⟨a',b',c'⟩:=wD (xs:=xs) fun y hy=>h y (by simp[hy])
  exact⟨fun S=>.cons (a S) (a' S),by simp[pds,PyData.canLayAll0,b,b'],by simp only[pds,PyData.depthAll];exact Nat.max_le.mpr ⟨c,c'⟩⟩
def zy{L n:Nat}{v:PV}(h:J9 L n v):(∀S,Dat S v (pd v))/\(pd v).canLay0=true/\(pd v).depth<=n:=by
 induction h with
 |int i=>exact⟨fun _=>.int i,by simp[pd,PyData.canLay0],by simp[pd,PyData.depth]⟩
 |tup hl _ ih=>
  obtain⟨a,b,c⟩:=wD ih
  exact⟨fun S=>.tup (a S),by simpa [pd,PyData.canLay0]using b,by simp only[pd,PyData.depth];omega⟩
theorem wE:∀{xs ys:List PV},(∀x∈xs,∀y∈ys,(PyData.eqv (pd x) (pd y)=true↔x=y))->(PyData.eqvAll (pds xs) (pds ys)=true↔xs=ys)
 |[],[],_=>by simp[pds,PyData.eqvAll]
 |[],_::_,_=>by simp[pds,PyData.eqvAll]
 |_::_,[],_=>by simp[pds,PyData.eqvAll]
 |x::xs,y::ys,h=>by
  have h1:=h x (by simp) y (by simp)
  have h2:=wE (xs:=xs) (ys:=ys) fun a ha b hb=>h a (by simp[ha]) b (by simp[hb])
  simp[pds,PyData.eqvAll,h1,h2]
def Df{L n:Nat}{v:PV}(h:J9 L n v):∀{M m:Nat} {w:PV},J9 M m w->(PyData.eqv (pd v) (pd w)=true↔v=w):=by
 induction h with
 |int i=>intro M m w hw;cases hw<;>simp[pd,PyData.eqv]
 |tup hl _ ih=>
  intro M m w hw
  cases hw with
  |int j=>simp[pd,PyData.eqv]
  |tup _ hy=>
   have:=wE fun a ha b hb=>ih a ha (hy b hb)
   simp[pd,PyData.eqv,this]
open Classical in
def Bt{L n:Nat}{v w:PV}{S:ay}{Q:bA}(hv:J9 L n v)(hw:J9 L n w)(hn:n<=100)(ht:∃xs,v = .tup xs)(q:Q (.bl (decide (v=w))) S):aV false v w S Q:=by
 obtain⟨a,b,c⟩:=zy hv
 obtain⟨a',b',c'⟩:=zy hw
 obtain⟨xs,rfl⟩:=ht
 refine⟨pd (.tup xs),pd w,a S,a' S,b,b',Nat.le_trans (Nat.min_le_left _ _) (by omega),?_⟩
 have e:PyData.eqv (pd (.tup xs)) (pd w)=decide (PV.tup xs=w):=by
  have:=Df hv hw
  by_cases h:PV.tup xs=w
  ·rw[decide_eq_true h];exact this.mpr h
  ·rw[decide_eq_false h];exact Bool.eq_false_iff.mpr fun k=>h (this.mp k)
 rw[e,Bool.false_bne]
 exact q
def Nu(v:PV):Prop:=v = .non\/∃i,v = .int i
open Classical in
def zz{v w:PV}{S:ay}{Q:bA}(hv:Nu v)(hw:Nu w)(q:Q (.bl (decide (v=w))) S):aV false v w S Q:=by
 rcases hv with rfl|⟨i,rfl⟩<;>rcases hw with rfl|⟨j,rfl⟩
 ·exact⟨.none,.none,.non,.non,by simp[PyData.canLay0],by simp[PyData.canLay0],by simp[PyData.depth],by simpa [PyData.eqv]using q⟩
 ·exact⟨.none,.int j,.non,.int j,by simp[PyData.canLay0],by simp[PyData.canLay0],by simp[PyData.depth],by simpa [PyData.eqv]using q⟩
 ·exact⟨.int i,.none,.int i,.non,by simp[PyData.canLay0],by simp[PyData.canLay0],by simp[PyData.depth],by simpa [PyData.eqv]using q⟩
 ·show Q (.bl (false != decide (i=j))) S
  rw[Bool.false_bne]
  have e:decide (PV.int i=PV.int j)=decide (i=j):=by
   by_cases h:i=j
   ·subst h;simp
   ·rw[decide_eq_false h];exact decide_eq_false fun k=>h (by injection k)
  rw[<-e]
  exact q
theorem mh{α:Type}:∀(l:List α) (k:Nat),(l.zipIdx k).Nodup
 |[],_=>List.nodup_nil
 |x::l,k=>by
  rw[List.zipIdx_cons]
  refine List.nodup_cons.mpr ⟨fun h=>?_,mh l (k+1)⟩
  have:=List.le_snd_of_mem_zipIdx h
  simp at this
  omega
def wF{α:Type}{l:List α}{a b:α×Nat}(ha:a∈l.zipIdx)(hb:b∈l.zipIdx)(e:a.2=b.2):a=b:=by
 obtain⟨x,i⟩:=a
 obtain⟨y,j⟩:=b
 have h1:=List.mem_zipIdx_iff_getElem?.mp ha
 have h2:=List.mem_zipIdx_iff_getElem?.mp hb
 simp only at e h1 h2
 subst e
 rw[h1]at h2
 cases h2
 rfl
abbrev Ky:=Nat×(PV×Bd)×PV
noncomputable def keys(q:Qs)(ds:List (Str×Bd)):List Ky:=ds.zipIdx.flatMap fun p=>(nE q p.1.2).flatMap fun x=>(x.2.ps q).map fun v=>(p.2,x,v)
def qz(q:Qs)(js:Vs)(ds:List (Str×Bd)):ut q js ds=(keys q ds).map fun y=>oX js y.1 y.2.1 y.2.2:=by
 unfold ut keys gh wC
 simp only[List.map_flatMap,List.map_map]
 rfl
def Bu{q:Qs}{t:Bd}{x:PV×Bd}(h:x∈nE q t):Nu x.1:=by
 rcases List.mem_cons.mp h with rfl|h
 ·exact .inl rfl
 ·obtain⟨c,_,rfl⟩:=List.mem_map.mp h
  exact .inr ⟨_,rfl⟩
def qA{q:Qs}{t:Bd}{a b:Nb}(ha:a∈mC q t)(hb:b∈mC q t)(e:a.2=b.2):a=b:=wF (List.mem_filter.mp ha).1 (List.mem_filter.mp hb).1 e
def yN{q:Qs}{t:Bd}{x y:PV×Bd}(hx:x∈nE q t)(hy:y∈nE q t)(e:x.1=y.1):x=y:=by
 rcases List.mem_cons.mp hx with rfl|hx<;>rcases List.mem_cons.mp hy with rfl|hy
 ·rfl
 ·obtain⟨c,_,rfl⟩:=List.mem_map.mp hy;cases e
 ·obtain⟨c,_,rfl⟩:=List.mem_map.mp hx;cases e
 ·obtain⟨c,hc,rfl⟩:=List.mem_map.mp hx
  obtain⟨d,hd,rfl⟩:=List.mem_map.mp hy
  have e:PV.int (c.2:Int) = .int (d.2:Int):=e
  injection e with e
  rw[qA hc hd (by omega)]
def uu(q:Qs)(t:Bd):(nE q t).Nodup:=by
 refine List.nodup_cons.mpr ⟨fun h=>?_,?_⟩
 ·obtain⟨c,_,e⟩:=List.mem_map.mp h
  injection e with e _;cases e
 ·have hn:(mC q t).Nodup:=List.Pairwise.filter _ (mh _ _)
  have:∀l:List Nb,l.Nodup->(∀a∈l,∀b∈l,a.2=b.2->a=b)->(l.map fun c=>(PV.int (c.2:Int),c.1.1.Jp)).Nodup:=fun l=>by
   induction l with
   |nil=>intro _ _;exact List.nodup_nil
   |cons c l ih=>
    intro h1 h2
    have h1':=List.nodup_cons.mp h1
    rw[List.map_cons]
    refine List.nodup_cons.mpr ⟨fun h=>?_,ih h1'.2 fun a ha b hb=>h2 a (by simp[ha]) b (by simp[hb])⟩
    obtain⟨d,hd,e⟩:=List.mem_map.mp h
    injection e with e _;injection e with e
    exact h1'.1 (h2 d (by simp[hd]) c (by simp) (by omega)▸hd)
  exact this _ hn fun a ha b hb e=>qA ha hb e
open Classical in
def wG{q:Qs}{ds:List (Str×Bd)}{d:Nat}{z:Str}{t:Bd}{x:PV×Bd}{tr:PV}(hd:ds[d]?=some (z,t))(hx:x∈nE q t)(ht:tr∈x.2.ps q):(keys q ds).filter (fun y=>decide (y.1=d)&&(decide (y.2.1.1=x.1)&&decide (y.2.2=tr)))=[(d,x,tr)]:=by
 have hm:((z,t),d)∈ds.zipIdx:=List.mem_zipIdx_iff_getElem?.mpr hd
 unfold keys
 rw[kj hm (mh _ _) fun y hy hne=>?_]
 ·show((nE q t).flatMap fun x=>(x.2.ps q).map fun v=>(d,x,v)).filter _=_
  rw[kj hx (uu q t) fun y hy hne=>?_]
  ·rw[List.filter_map,qq ht (wq q x.2) fun v hv=>?_]
   ·rfl
   ·simp
  ·rw[List.filter_eq_nil_iff]
   intro u hu
   obtain⟨v,_,rfl⟩:=List.mem_map.mp hu
   have:¬y.1=x.1:=fun e=>hne (yN hy hx e)
   simp[this]
 ·rw[List.filter_eq_nil_iff]
  intro u hu
  obtain⟨x',_,hu⟩:=List.mem_flatMap.mp hu
  obtain⟨v,_,rfl⟩:=List.mem_map.mp hu
  have:¬y.2=d:=fun e=>hne (wF hy hm e)
  simp[this]
def qB{q:Qs}{js:Vs}{ds:List (Str×Bd)}(hP:HP js ds){y:Ky}(h:y∈keys q ds):Nu y.2.1.1/\J9 2 6 y.2.2/\∃xs,y.2.2 = .tup xs:=by
 obtain⟨p,hp,h⟩:=List.mem_flatMap.mp h
 obtain⟨x,hx,h⟩:=List.mem_flatMap.mp h
 obtain⟨v,hv,rfl⟩:=List.mem_map.mp h
 have hm:=List.fst_mem_of_mem_zipIdx hp
 obtain⟨_,dx,_⟩:=k_ (hP.gd _ hm) hx
 refine⟨Bu hx,(x.2.HK q v hv).mono (Nat.le_refl _) (Nat.le_trans dx (hP.dp _ hm)),?_⟩
 have:=(iM q x.2 v hv).1
 cases h:x.2 with
 |Fw a b=>rw[h]at this;obtain⟨_,_,rfl,_⟩:=cj this;exact⟨_,rfl⟩
 |FE a b=>rw[h]at this;obtain⟨_,_,rfl,_⟩:=ck this;exact⟨_,rfl⟩
 |FC _ _ a b=>rw[h]at this;obtain⟨_,_,rfl,_⟩:=cm this;exact⟨_,rfl⟩
 |Fz a=>rw[h]at this;obtain⟨_,rfl,_⟩:=cX this;exact⟨_,rfl⟩
 |_=>rw[h]at this;exact⟨_,rV rfl this⟩
abbrev qC(w:ax):Prop:=∀{S:ay} {q:Qs} {js:Vs} {ds:List (Str×Bd)} {d:Nat} {z:Str} {t:Bd} {x:PV×Bd} {tr:PV} {Q:bA} {E:bZ},HP js ds->ds[d]?=some (z,t)->x∈nE q t->tr∈x.2.ps q->(∀S',Ext S S'->Q (oX js d x tr) S')->w [.tup (ut q js ds),.int (d:Int),x.1,tr] S Q E
open Classical in
def Jo:qC (aU 5 eB):=by
 intro S q js ds d z t x tr Q E hP hd hx ht k
 have hm:((z,t),d)∈ds.zipIdx:=List.mem_zipIdx_iff_getElem?.mpr hd
 have hk:(d,x,tr)∈keys q ds:=List.mem_flatMap.mpr ⟨_,hm,List.mem_flatMap.mpr ⟨x,hx,List.mem_map.mpr ⟨tr,ht,rfl⟩⟩⟩
 obtain⟨n1,t1,_⟩:=qB hP hk
 have hl:=sM (q:=q) hP
 unfold eB
 refine dG ?_
 rw[show aw 5 [.tup (ut q js ds),.int (d:Int),x.1,tr]=[some (.tup (ut q js ds)),some (.int (d:Int)),some x.1,some tr,none] from rfl]
 refine al fun N hN=>?_
 simp only[av,aQ,aO,v3,lk,bT]
 rw[qz]
 refine cY (fun y:Ky=>oX js y.1 y.2.1 y.2.2) (fun y=>oX js y.1 y.2.1 y.2.2) (fun y=>decide (y.1=d)&&(decide (y.2.1.1=x.1)&&decide (y.2.2=tr))) trivial (keys q ds) [] (fun y hy=>⟨_,rfl,fun K kk=>?_,fun _ Q q=>?_⟩) ?_ ?_
 ·obtain⟨n2,t2,e2⟩:=qB hP hy
  simp only[dE,List.replicate_succ,List.replicate_zero,List.map_cons,List.map_nil,List.cons_append,List.nil_append,lk,Tg.put,List.set_cons_zero,fi,aJ,af,v3,c3,oX,ac,bW,cM,EQ]
  refine zz (.inr ⟨_,rfl⟩) (.inr ⟨_,rfl⟩) ?_
  have e0:decide (PV.int ((y.1:Nat):Int)=PV.int (d:Int))=decide (y.1=d):=by
   by_cases h:y.1=d
   ·rw[h];simp
   ·rw[decide_eq_false h,decide_eq_false (fun k=>h (by injection k with k;omega))]
  rw[e0]
  by_cases h:y.1=d
  ·rw[decide_eq_true h]at kk ⊢
   simp only[if_true,Bool.true_and]at kk ⊢
   refine zz n2 n1 ?_
   by_cases h2:y.2.1.1=x.1
   ·rw[decide_eq_true h2]at kk ⊢
    simp only[if_true,Bool.true_and]at kk ⊢
    refine Bt t2 t1 (by decide) e2 ?_
    exact kk
   ·rw[decide_eq_false h2]at kk ⊢
    simpa using kk
  ·rw[decide_eq_false h]at kk ⊢
   simpa using kk
 ·simp only[dE,List.replicate_succ,List.replicate_zero,List.map_cons,List.map_nil,List.cons_append,List.nil_append,lk,Tg.put,List.set_cons_zero,v3]
  exact q
 ·rw[List.length_nil,Nat.zero_add]
  have:=qz q js ds
  exact zq (by rw[this,List.length_map]at hl;exact hl)
 ·intro p hp
  rw[wG hd hx ht]
  simp only[List.map_cons,List.map_nil,List.nil_append,List.set_cons_succ,List.set_cons_zero]
  refine hN _ _ (al fun N hN=>?_)
  refine qy (v:=false) (fun Q E q=>by simp only[aJ,af,ak,ao,v3,lk,c3,bx,aa,aV,List.length_cons,List.length_nil];exact q) (fun h=>nomatch h) (fun _=>hN _ _ ?_)
  simp only[au,af,v3,lk,c3,ac,aa,bW]
  exact k _ (.new hp)
def Bv:∀(t:Bd) (v:PV) (k:Nat) (m:Int),aR t v=true->0<=m->∀g∈G5 t v k m,g.2.2.1<=m * (cnt t v:Int):=by
 have up:∀{m:Int} {a b:Nat} {x:Int},0<=m->a<=b->x<=m * (a:Int)->x<=m * (b:Int):=fun h1 h2 h3=>Int.le_trans h3 (Int.mul_le_mul_of_nonneg_left (by omega) h1)
 intro t
 induction t with
 |rest=>intro v k m _ _ g h;cases h
 |pay x y=>intro v k m _ _ g h;cases h
 |put z m=>intro v k m _ _ g h;cases h
 |use z=>intro v k m _ _ g h;cases h
 |Fw a b FL F5=>
  intro v k m h hm g hg
  obtain⟨x,y,rfl,hx,hy⟩:=cj h
  rcases List.mem_append.mp hg with hg|hg
  ·exact up hm (show cnt a x<=cnt a x+cnt b y by omega) (FL x _ _ hx hm g hg)
  ·exact up hm (show cnt b y<=cnt a x+cnt b y by omega) (F5 y _ _ hy hm g hg)
 |FE a b FL F5=>
  intro v k m h hm g hg
  obtain⟨i,y,rfl,hy⟩:=ck h
  rcases hy with⟨rfl,hy⟩|⟨rfl,hy⟩
  ·exact up hm (show cnt a y<=cnt a y+1 by omega) (FL y _ _ hy hm g hg)
  ·exact up hm (show cnt b y<=cnt b y+1 by omega) (F5 y _ _ hy hm g hg)
 |FC z n a b FL F5=>
  intro v k m h hm g hg
  obtain⟨i,y,rfl,hy⟩:=cm h
  rcases hy with⟨rfl,hy⟩|⟨rfl,hy⟩
  ·exact up hm (show cnt a y<=cnt a y+2 by omega) (FL y _ _ hy hm g hg)
  ·exact up hm (show cnt b y<=cnt b y+2 by omega) (F5 y _ _ hy hm g hg)
 |Fz a FL=>
  intro v k m h hm g hg
  obtain⟨xs,rfl,hx⟩:=cX h
  obtain⟨u,hu,hg⟩:=List.mem_flatMap.mp hg
  obtain⟨j,y,rfl,hj,hy⟩:=cO (List.all_eq_true.mp hx u hu)
  obtain⟨l,r,e⟩:=List.append_of_mem hu
  have q2:=(oY (a:=a) (k:=0) e hj).2
  have q3:j.toNat * (cnt a y+1)<=cs a 0 xs:=by
   refine Nat.le_trans ?_ q2
   rw[rW]
   show _<=cs a 0 l+j.toNat * (cnt a y+1)
   omega
  have q4:m * j * ((cnt a y+1:Nat):Int)<=m * ((cs a 0 xs+1:Nat):Int):=by
   rw[Int.mul_assoc]
   refine Int.mul_le_mul_of_nonneg_left ?_ hm
   have:j * ((cnt a y+1:Nat):Int)=((j.toNat * (cnt a y+1):Nat):Int):=by rw[Int.natCast_mul];congr 1;omega
   omega
  have hp:0<=m * j:=Int.mul_nonneg hm (by omega)
  show g.2.2.1<=m * ((cs a 0 xs+1:Nat):Int)
  rcases List.mem_append.mp hg with hg|hg
  ·exact Int.le_trans (up hp (show cnt a y<=cnt a y+1 by omega) (FL y _ _ hy hp g hg)) q4
  ·rw[List.mem_singleton.mp hg]
   refine Int.le_trans ?_ q4
   show m * j<=m * j * ((cnt a y+1:Nat):Int)
   have:=Int.mul_le_mul_of_nonneg_left (show(1:Int)<=((cnt a y+1:Nat):Int) by omega) hp
   omega
def Bw{js:Vs}:∀(t:Bd) (v:PV),t.good js []->aR t v=true->∀p∈Hw t v,p.1∈js:=by
 intro t
 induction t with
 |rest=>intro v _ _ p h;cases h
 |pay x y=>intro v _ _ p h;cases h
 |use z=>intro v _ _ p h;cases h
 |put z m=>intro v g _ p h;rw[List.mem_singleton.mp h];exact g.1
 |Fw a b FL F5=>
  intro v g h p hp
  obtain⟨x,y,rfl,hx,hy⟩:=cj h
  rcases List.mem_append.mp hp with hp|hp
  ·exact FL x g.1 hx p hp
  ·exact F5 y g.2 hy p hp
 |FE a b FL F5=>
  intro v g h p hp
  obtain⟨i,y,rfl,hy⟩:=ck h
  rcases hy with⟨rfl,hy⟩|⟨rfl,hy⟩
  ·exact FL y g.1 hy p hp
  ·exact F5 y g.2 hy p hp
 |FC z m a b FL F5=>
  intro v g h p hp
  obtain⟨i,y,rfl,hy⟩:=cm h
  rcases hy with⟨rfl,hy⟩|⟨rfl,hy⟩
  ·rcases List.mem_cons.mp hp with rfl|hp
   ·exact g.1
   ·exact FL y g.2.2.2.1 hy p hp
  ·exact F5 y g.2.2.2.2 hy p hp
 |Fz a FL=>
  intro v g h p hp
  obtain⟨xs,rfl,hx⟩:=cX h
  obtain⟨u,hu,hp⟩:=List.mem_flatMap.mp hp
  obtain⟨j,y,rfl,hj,hy⟩:=cO (List.all_eq_true.mp hx u hu)
  exact FL y g hy p hp
abbrev mi(w:ax):Prop:=∀{S:ay} {n m:Int} {Q:bA} {E:bZ},0<=m->m < 2 ^ 60->Q (cf (n * m)) S->w [cf n,.int m] S Q E
def uv{xl:ax}(HF:jo xl):mi (aU 2 (fW xl)):=by
 intro S n m Q E h0 h1 k
 unfold fW
 refine dG ?_
 rw[show aw 2 [cf n,.int m]=[some (cf n),some (.int m)] from rfl]
 unfold cf
 simp only[au,ab,ao,af,v3,lk,c3,ac,bW,cM,bS]
 refine⟨kT (by omega) (by omega),?_⟩
 have hb:=eX n
 refine HF hb.1 (Nat.lt_of_le_of_lt (show _<=2520 by omega) (by decide +kernel)) ?_
 have:=p_ n m
 rw[Int.mul_one]at this
 rw[this]
 exact k
abbrev Im:=PV×Gi
noncomputable def qD(y:Im):PV:=.tup [y.1,y.2.2.1,.int y.2.2.2.1]
noncomputable def JF(t:Bd)(v:PV):List Im:=(.non,(0,fS t v,1,t))::(G5 t v 0 1).map fun g=>(.int (g.1:Int),g)
noncomputable def EC(i:Nat)(T:Ty):Int:=(T.2.map (·.1)).getD i 0
noncomputable def kZ(js:Vs)(f:Ty->Int)(l:List Im):Int:=ki js f (l.map (·.2))
noncomputable def qE(js:Vs)(l:List Im):List Int:=(List.range js.length).map fun i=>kZ js (EC i) l
def qF(js:Vs)(f:Ty->Int)(l:List Im)(y:Im):kZ js f (l++[y])=kZ js f l+y.2.2.2.1 * f (y.2.2.2.2.FQ js y.2.2.1):=by
 unfold kZ
 rw[List.map_append,jB]
 congr 1
 exact Int.add_zero _
def sO{js:Vs}{f:Ty->Int}(L:DB js f){t:Bd}{v:PV}(g:t.good js [])(h:aR t v=true):kZ js f (JF t v)=f (t.FQ js v):=by
 have e:=yJ L t v 0 1 g h
 rw[Int.one_mul,Int.one_mul]at e
 rw[e]
 unfold kZ JF
 rw[List.map_cons,List.map_map]
 show 1 * f (t.FQ js (fS t v))+ki js f ((G5 t v 0 1).map fun g=>g)=_
 rw[Int.one_mul,List.map_id']
def wH{q:Qs}{t:Bd}{v:PV}(o:kU q t v=true)(h:aR t v=true):∀y∈JF t v,(y.1,y.2.2.2.2)∈nE q t/\y.2.2.1∈y.2.2.2.2.ps q/\0<=y.2.2.2.1/\(y.2.2.2.1<=1\/y.2.2.2.1<=cnt t v):=by
 intro y hy
 rcases List.mem_cons.mp hy with rfl|hy
 ·exact⟨List.mem_cons_self,wm t v o h,show(0:Int)<=1 by decide,.inl (Int.le_refl _)⟩
 ·obtain⟨g,hg,rfl⟩:=List.mem_map.mp hy
  obtain⟨j,e1,e2,e3⟩:=Bo t v 0 1 o h g hg
  refine⟨List.mem_cons_of_mem _ (List.mem_map.mpr ⟨((.Fz g.2.2.2,true),g.1),?_,rfl⟩),e3,yI t v 0 1 h (by decide) g hg,.inr ?_⟩
  ·refine List.mem_filter.mpr ⟨List.mem_zipIdx_iff_getElem?.mpr ?_,rfl⟩
   rw[e1,Nat.zero_add]
   exact e2
  ·have:=Bv t v 0 1 h (by decide) g hg
   rw[Int.one_mul]at this
   exact this
theorem nG(f:Nat->Int)(m:Int):∀(l:Vu) (k:Nat),(((List.range' k l.length).map f).zip l).map (fun z=>z.1+m * z.2)=(List.range' k l.length).map fun i=>f i+m * l.getD (i - k) 0
 |[],_=>rfl
 |x::l,k=>by
  rw[List.length_cons,List.range'_succ,List.map_cons,List.zip_cons_cons,List.map_cons,List.map_cons,nG f m l (k+1)]
  congr 1
  ·simp
  ·refine List.map_congr_left fun i hi=>?_
   have:=(List.mem_range'_1.mp hi).1
   rw[show i - k=(i - (k+1))+1 by omega,List.getD_cons_succ]
def wI{js:Vs}{l:List Im}{y:Im}(hl:(y.2.2.2.2.FQ js y.2.2.1).2.length=js.length):((qE js l).zip ((y.2.2.2.2.FQ js y.2.2.1).2.map (·.1))).map (fun z=>z.1+y.2.2.2.1 * z.2)=qE js (l++[y]):=by
 have:=nG (fun i=>kZ js (EC i) l) y.2.2.2.1 ((y.2.2.2.2.FQ js y.2.2.1).2.map (·.1)) 0
 rw[List.length_map,hl]at this
 unfold qE
 rw[List.range_eq_range',this]
 exact List.map_congr_left fun i _=>by rw[qF];rfl
def yO{js:Vs}{t:Bd}{v:PV}(g:t.good js [])(h:aR t v=true):qE js (JF t v)=(t.FQ js v).2.map (·.1):=by
 have hl:=(bp t v g h).1
 have e:qE js (JF t v)=(List.range js.length).map fun i=>((t.FQ js v).2.map (·.1)).getD i 0:=List.map_congr_left fun i _=>sO (yK js i) g h
 rw[e,<-hl,<-List.length_map (f:=(·.1)) (as:=(t.FQ js v).2)]
 generalize (t.FQ js v).2.map (·.1)=l
 refine List.ext_getElem? fun i=>?_
 rw[List.getElem?_map]
 by_cases hi:i < l.length
 ·rw[List.getElem?_range hi,List.getElem?_eq_getElem hi]
  simp[List.getD,List.getElem?_eq_getElem hi]
 ·rw[List.getElem?_eq_none (by simp;omega),List.getElem?_eq_none (by omega)]
  rfl
def wJ{js:Vs}{q:Qs}{t:Bd}{v:PV}(g:t.good js [])(o:kU q t v=true)(h:aR t v=true){l r:List Im}(e:JF t v=l++r):0<=kZ js (fun T=>T.1) l:=by
 have:∀l:List Im,(∀y∈l,y∈JF t v)->0<=kZ js (fun T=>T.1) l:=fun l=>by
  induction l with
  |nil=>intro _;exact Int.le_refl _
  |cons y l ih=>
   intro hl
   obtain⟨h1,h2,h3,_⟩:=wH o h y (hl y (by simp))
   have h4:=(bp y.2.2.2.2 y.2.2.1 (k_ g h1).1 (iM q _ _ h2).1).2.1
   show 0<=y.2.2.2.1 * (y.2.2.2.2.FQ js y.2.2.1).1+kZ js (fun T=>T.1) l
   have:=Int.mul_nonneg h3 h4
   have:=ih fun y hy=>hl y (by simp[hy])
   omega
 exact this l fun y hy=>by rw[e];simp[hy]
structure Ak (js:Vs) (ds:List (Str×Bd)) (d:Nat) (z:Str) (t:Bd) (v:PV):Prop where
 hp:HP js ds
 at_:ds[d]?=some (z,t)
 tr:aR t v=true
 ib:cA (2 ^ 60) v=true
 cn:cnt t v<=15000000
def Bx{S:ay}{js:Vs}{n:Int}{l:Vu}(hl:l.length<=1000):JE S 12 (.tup [cf n,.tup (l.map PV.int)]) (.tup [cf n,.tup (l.map PV.int)]):=by
 have K1:∀(l:Vu),l.length<=1000->JE S 11 (.tup (l.map PV.int)) (.tup (l.map PV.int)):=fun l hl=>by
  refine .tup rfl (by rw[List.length_map];omega) fun p hp=>?_
  obtain⟨hm,e⟩:=qm hp
  rw[e]
  obtain⟨y,_,hy⟩:=List.mem_map.mp hm
  rw[<-hy]
  exact .int _
 refine .tup rfl (show 2<=1000000 by decide) fun p hp=>?_
 obtain⟨hm,e⟩:=qm hp
 rw[e]
 simp only[List.mem_cons,List.not_mem_nil,or_false]at hm
 rcases hm with h|h
 ·rw[h];exact K1 [M3.bP n 2520,M3.bq n 2520] (show 2<=1000 by decide)
 ·rw[h];exact K1 l hl
abbrev kr(w:ax):Prop:=∀{S:ay} {js:Vs} {ds:List (Str×Bd)} {d:Nat} {z:Str} {t:Bd} {v:PV} {Q:bA} {E:bZ},Ak js ds d z t v->(∀S',Ext S S'->Q (.bl true) S')->w [j7 js ds,.tup (ut (mq (held ds js.length)) js ds),.int (d:Int),v] S Q E
def IN{x0 x1 x2 x3 x4 x5 x6 x7:ax}(JN:iy 6 x0)(IJ:kf x1)(JO:ld 6 x2)(Jo:qC x3)(HW:fw x4)(Hm:mi x5)(Kp:cZ 12 x6)(II:ke x7):kr (aU 15 (gf x0 x1 x2 x3 x4 x5 x6 x7)):=by
 intro S js ds d z t v Q E A k
 have hP:=A.hp
 have hm:(z,t)∈ds:=List.mem_of_getElem? A.at_
 have hg:=hP.gd _ hm
 have Nn:=hP.dp _ hm
 have hsz:t.size<=60:=hP.sz _ hm
 have cn:=A.cn
 unfold gf
 refine dG ?_
 rw[show aw 15 [j7 js ds,.tup (ut (mq (held ds js.length)) js ds),.int (d:Int),v]=[some (.tup [gr js,.tup (ds.map gS)]),some (.tup (ut (mq (held ds js.length)) js ds)),some (.int (d:Int)),some v,none,none,none,none,none,none,none,none,none,none,none] from rfl]
 generalize hq:mq (held ds js.length)=q
 refine al fun N hN=>?_
 simp only[av,af,v3,lk,c3,ac,cM]
 rw[bX (v:=gS (z,t)) (by rw[List.getElem?_map,A.at_];rfl)]
 unfold gS
 simp only[cM,List.set_cons_succ,List.set_cons_zero]
 refine hN _ _ (al fun N hN=>?_)
 simp only[av,bc,ao]
 intro pm Oc
 have X1:Ext S (Fr S pm (.lst [])):=.new Oc
 have f1:(Fr S pm (.lst [])) pm=some (.lst []):=aa
 generalize Fr S pm (.lst [])=S1 at X1 f1
 simp only[List.set_cons_succ,List.set_cons_zero]
 refine hN _ _ (al fun N hN=>?_)
 simp only[aN,ab,ao,v3,lk]
 refine JN Nn hg A.tr f1 (by show 0+_<=_;omega) fun S2 X2 f2=>?_
 rw[List.nil_append]at f2
 have E2:Ext S S2:=fun b o h=>X2 _ _ (X1 _ _ h) fun e=>by rw[e,Oc]at h;cases h
 refine hN _ _ (al fun N hN=>?_)
 simp only[av,ab,ao,v3,lk]
 refine IJ (js:=js) (ds:=ds) hP.toHG fun ph S3 hph X3 f3=>?_
 have E3:=E2.trans X3
 have g3:=X3 _ _ f2
 simp only[List.set_cons_succ,List.set_cons_zero]
 have hh:l5 (held ds js.length):=fun w hw=>hP.jw w (sI hP.toHG _ w hw)
 refine hN _ _ (al fun N hN=>?_)
 simp only[bt,aJ,af,ak,ao,aQ,aO,v3,lk,c3,bT,g3]
 refine cY mM (fun p=>.str p.1) (fun p=>decide (p.2 < 0)&&!decide (p.1∈held ds js.length)) g3 (Hw t v) [] (fun p hp=>⟨_,rfl,fun K kk=>?_,fun _ Q q=>?_⟩) ?_ fun pc Mm=>?_
 ·simp only[dE,List.replicate_succ,List.replicate_zero,List.map_cons,List.map_nil,List.cons_append,List.nil_append,lk,Tg.put,Tg.Fx,mM,List.set_cons_zero,List.set_cons_succ,fi,aJ,af,v3,c3,nk,dz]
  by_cases h:p.2 < 0
  ·rw[decide_eq_true h]at kk ⊢
   simp only[if_true,Bool.true_and]at kk ⊢
   refine eG f3 (hP.jw _ (Bw t v hg A.tr p hp)) hh ?_
   rw[Bool.true_bne]
   exact kk
  ·rw[decide_eq_false h]at kk ⊢
   simpa using kk
 ·simp only[dE,List.replicate_succ,List.replicate_zero,List.map_cons,List.map_nil,List.cons_append,List.nil_append,lk,Tg.put,Tg.Fx,mM,List.set_cons_zero,List.set_cons_succ,v3]
  exact q
 ·have:=(gi t v 0 0 A.tr).1
  exact sN (by rw[List.length_nil];omega)
 have X4:Ext S3 (Fr S3 pc (.lst ([]++((Hw t v).filter fun p=>decide (p.2 < 0)&&!decide (p.1∈held ds js.length)).map fun p=>.str p.1))):=.new Mm
 simp only[bx,aa,o9,dz]
 have E4:=E3.trans X4
 by_cases hb:(Hw t v).filter (fun p=>decide (p.2 < 0)&&!decide (p.1∈held ds js.length))=[]
 ·rw[decide_eq_false (by rw[hb];simp)]
  simp only[Bool.false_eq_true,if_false,aL]
  have o:kU q t v=true:=C2 t v hg A.tr fun p hp h=>by
   have:=List.filter_eq_nil_iff.mp hb p hp
   rw[decide_eq_true h,Bool.true_and]at this
   rw[<-hq]
   simpa [mq]using this
  generalize Fr S3 pc (.lst ([]++((Hw t v).filter fun p=>decide (p.2 < 0)&&!decide (p.1∈held ds js.length)).map fun p=>.str p.1))=S4 at E4
  refine hN _ _ (al fun N hN=>?_)
  simp only[av,bc,ao]
  intro pg Od
  have f5:(Fr S4 pg (.lst [])) pg=some (.lst []):=aa
  have X5:Ext S4 (Fr S4 pg (.lst [])):=.new Od
  generalize Fr S4 pg (.lst [])=S5 at f5 X5
  simp only[List.set_cons_succ,List.set_cons_zero]
  refine hN _ _ (al fun N hN=>?_)
  simp only[av,ab,ao,v3,lk,c3]
  refine JO (k:=0) (m:=1) Nn (by omega) hg hP.jw A.tr A.ib f5 (by show 0+_<=_;omega) fun S6 X6 f6=>?_
  rw[List.nil_append]at f6
  have E6:Ext S S6:=fun b o h=>X6 _ _ (X5 _ _ (E4 _ _ h)) fun e=>by have:=E4 _ _ h;rw[e,Od]at this;cases this
  simp only[List.set_cons_succ,List.set_cons_zero]
  refine hN _ _ (al fun N hN=>?_)
  simp only[pO,az,ao,af,bc,ak,v3,lk,c3,ac,bW,gr,bx,List.length_map]
  intro pz Pn
  simp only[bS,aa]
  refine⟨by omega,by have:=hP.jl;omega,cI (by have:=hP.jl;simp;omega),fun pe Po=>?_⟩
  rw[show(List.replicate ((js.length:Int).toNat) [PV.int 0]).flatten=(qE js []).map PV.int by
   rw[List.flatten_replicate_singleton,Int.toNat_natCast]
   unfold qE
   rw[List.map_map]
   have:∀n k,List.replicate n (PV.int 0)=(List.range' k n).map (PV.int ∘ fun i=>kZ js (EC i) []):=fun n=>by
    induction n with
    |zero=>intro k;rfl
    |succ n ih=>intro k;rw[List.replicate_succ,List.range'_succ,List.map_cons,ih (k+1)];rfl
   rw[List.range_eq_range']
   exact this _ _]
  have hz6:=fun b o (h:S b=some o)=>E6 _ _ h
  have X7:Ext S6 (Fr (Fr S6 pz (.lst [.int 0])) pe (.lst ((qE js []).map PV.int))):=(Ext.new Pn).trans (.new Po)
  have f7:(Fr (Fr S6 pz (.lst [.int 0])) pe (.lst ((qE js []).map PV.int))) pe=some (.lst ((qE js []).map PV.int)):=aa
  generalize Fr (Fr S6 pz (.lst [.int 0])) pe (.lst ((qE js []).map PV.int))=S7 at X7 f7
  have g7:=X7 _ _ f6
  have E7:=E6.trans X7
  rw[oE]
  simp only[List.set_cons_succ,List.set_cons_zero]
  refine hN _ _ (al fun N hN=>?_)
  simp only[bO,aO,af,bc,az,ao,v3,lk,c3]
  intro pa hpa
  have na:pg≠pa:=fun e=>by rw[e,hpa]at g7;cases g7
  simp only[aT,aa,ap na,g7]
  have room:=(gi t v 0 1 A.tr).2
  refine⟨sN (by simp;omega),fun pl hpl=>?_⟩
  simp only[bT,aa]
  have X8:Ext S7 (Fr (Fr S7 pa (.lst [.tup [.non,fS t v,.int 1]])) pl (.lst ([.tup [.non,fS t v,.int 1]]++(G5 t v 0 1).map rX))):=(Ext.new hpa).trans (.new hpl)
  have e8:([.tup [.non,fS t v,.int 1]]++(G5 t v 0 1).map rX:List PV)=(JF t v).map qD:=by
   unfold JF
   rw[List.map_cons,List.map_map]
   rfl
  have f8:(Fr (Fr S7 pa (.lst [.tup [.non,fS t v,.int 1]])) pl (.lst ([.tup [.non,fS t v,.int 1]]++(G5 t v 0 1).map rX))) pl=some (.lst ((JF t v).map qD)):=by rw[aa,e8]
  rw[e8]
  rw[e8]at X8 f8
  generalize Fr (Fr S7 pa (.lst [.tup [.non,fS t v,.int 1]])) pl (.lst ((JF t v).map qD))=S8 at X8 f8
  have E8:=E7.trans X8
  refine bw (fun done σ S'=>∃(ys zs:List Im) (x7 No Np Nq:Option PV) (pe:Addr),JF t v=ys++zs/\done.length=ys.length/\σ=[some (.tup [.tup (js.map PV.str),.tup (ds.map gS)]),some (.tup (ut q js ds)),some (.int (d:Int)),some v,some t.pv,some (.ref pm),some (.ref ph),x7,some (.ref pg),some (fS t v),some (cf (kZ js (fun T=>T.1) ys)),some (.ref pe),No,Np,Nq]/\S' pl=some (.lst ((JF t v).map qD))/\S' pe=some (.lst ((qE js ys).map PV.int))/\Ext S S') ⟨[],_,_,_,_,_,pe,rfl,rfl,rfl,f8,X8 _ _ f7,E8⟩ (fun done σ S' ⟨_,_,_,_,_,_,_,_,_,_,h,_⟩=>h) ?_ ?_
  ·rintro done u rest σ S9 K e ⟨ys,zs,Pp,No,Np,Nq,Pq,ey,ed,rfl,f9,g9,E9⟩ hK
   have e:(JF t v).map qD=done++u::rest:=e
   have e2:((JF t v).map qD)[ys.length]?=some u:=by rw[e,<-ed];simp
   cases zs with
   |nil=>rw[ey]at e2;simp at e2
   |cons y zs=>
   obtain rfl:qD y=u:=by rw[ey]at e2;simpa using e2
   have Pr:y∈JF t v:=by rw[ey];simp
   obtain⟨h1,h2,h3,h4⟩:=wH o A.tr y Pr
   have ok:=bp y.2.2.2.2 y.2.2.1 (k_ hg h1).1 (iM q _ _ h2).1
   have big:y.2.2.2.1 < 2 ^ 60:=by rcases h4 with h|h<;>omega
   have pos:=wJ hg o A.tr ey
   unfold qD
   simp only[Tg.put,Tg.Fx,List.set_cons_succ,List.set_cons_zero]
   refine al fun N2 GA=>?_
   simp only[av,ab,ao,v3,lk]
   refine Jo hP A.at_ h1 h2 fun Ps LH=>?_
   simp only[List.set_cons_succ,List.set_cons_zero]
   refine GA _ _ (al fun N2 GA=>?_)
   refine qy (v:=false) (fun Q E q=>by simp only[oX,aJ,af,v3,lk,c3,ux,Bool.false_bne];exact q) (fun h=>nomatch h) (fun _=>GA _ _ (al fun N2 GA=>?_))
   simp only[oX,av,ab,ao,af,v3,lk,c3,ac,sC]
   refine Hm h3 big ?_
   refine HW pos (Int.mul_nonneg ok.2.1 h3) ?_
   rw[Int.mul_comm (y.2.2.2.2.FQ js y.2.2.1).1,<-qF js (fun T=>T.1) ys y]
   simp only[List.set_cons_succ,List.set_cons_zero]
   refine GA _ _ ?_
   have Oe:=LH _ _ g9
   have Pt:(y.2.2.2.2.FQ js y.2.2.1).es=((y.2.2.2.2.FQ js y.2.2.1).2.map (·.1)).map PV.int:=by unfold Ty.es;rw[List.map_map];rfl
   simp only[av,aQ,nv,af,v3,lk,c3,ac,EO,Oe]
   rw[Pt,show bu ((qE js ys).map PV.int) (((y.2.2.2.2.FQ js y.2.2.1).2.map (·.1)).map PV.int)=((qE js ys).zip ((y.2.2.2.2.FQ js y.2.2.1).2.map (·.1))).map fun z=>.tup [.int z.1,.int z.2] by unfold bu;rw[List.zip_map,List.map_map];rfl]
   refine bK (fun z:Int×Int=>PV.tup [.int z.1,.int z.2]) (fun z=>.int (z.1+y.2.2.2.1 * z.2)) Oe _ [] (fun z hz=>⟨_,rfl,fun Q q=>?_⟩) ?_ fun p hp=>?_
   ·simp only[dE,List.replicate_succ,List.replicate_zero,List.map_cons,List.map_nil,List.cons_append,List.nil_append,lk,Tg.put,Tg.Fx,List.set_cons_zero,List.set_cons_succ,af,v3,bS,aT]
    exact⟨t4 (by omega) (by omega),q⟩
   ·rw[List.length_nil,Nat.zero_add,List.length_zip]
    exact cI (by have:=hP.jl;simp[qE];omega)
   ·rw[List.nil_append]
    have es:=wI (l:=ys) (y:=y) ok.1
    have Pu:((qE js ys).zip ((y.2.2.2.2.FQ js y.2.2.1).2.map (·.1))).map (fun z=>PV.int (z.1+y.2.2.2.1 * z.2))=(qE js (ys++[y])).map PV.int:=by rw[<-es,List.map_map];rfl
    rw[Pu]
    simp only[List.set_cons_succ,List.set_cons_zero]
    have Nr:=LH _ _ f9
    exact hK _ _ ⟨ys++[y],zs,_,_,_,_,p,by rw[ey];simp,by simp[ed],rfl,by rw[ap (fun e=>by rw[e,hp]at Nr;cases Nr)];exact Nr,aa,(E9.trans LH).trans (.new hp)⟩
  ·rintro σ S9 ⟨ys,zs,Pp,No,Np,Nq,Pq,ey,ed,rfl,f9,g9,E9⟩
   obtain rfl:zs=[]:=by have h1:=congrArg List.length ey;rw[List.length_map]at ed;rw[List.length_append]at h1;exact List.eq_nil_of_length_eq_zero (by omega)
   rw[List.append_nil]at ey
   subst ey
   refine hN _ _ ?_
   simp only[au,ab,cg,rA,pL,ao,az,ak,v3,lk,c3]
   rw[show(PV.tup [.tup (js.map PV.str),.tup (ds.map gS)])=j7 js ds from rfl]
   refine II (us:=[]) hP.jl A.at_ hg A.tr A.ib Nn fun Ps LH=>?_
   unfold Ty.pv
   simp only[pM,bo,pK,LH _ _ g9]
   rw[show He [cf (t.FQ js v).1,PV.tup (t.FQ js v).es,.tup (t.FQ js v).dm] none (some 2)=[cf (t.FQ js v).1,.tup (t.FQ js v).es] from rfl,sO (wo js) hg A.tr,yO hg A.tr,
    show(t.FQ js v).es=((t.FQ js v).2.map (·.1)).map PV.int by unfold Ty.es;rw[List.map_map];rfl]
   exact Kp (Bx (js:=js) (by rw[List.length_map,(bp t v hg A.tr).1];exact hP.jl)) fun Pv Pw=>k Pv (E9.trans (LH.trans Pw))
 ·rw[decide_eq_true (by have:0 < ((Hw t v).filter fun p=>decide (p.2 < 0)&&!decide (p.1∈held ds js.length)).length:=List.length_pos_iff.mpr hb;simp only[List.nil_append,List.length_map];omega)]
  simp only[if_true,au,c3]
  exact k _ E4
def JP{x0 x1 x2:ax}(Fu:bF x0)(Kq:c_ x1)(Kr:gW x2):c_ (aU 1 (di x0 x1 x2)):=by
 intro S d l Q E D k
 unfold di
 refine dG ?_
 rw[show aw 1 [PV.ref d]=[some (.ref d)] from rfl]
 refine al fun N hN=>?_
 simp only[bt,aJ,af,ab,ao,v3,lk,c3]
 refine Fu D (by decide) (by decide) fun r S1 r0 r1 D1 O1=>?_
 simp only[aV,Bool.false_bne,decide_eq_true_eq]
 split
 ·walk_at "x"
  exact Kq D1 fun js ds S2 h h1 D2 O2=>k js ds S2 h h1 D2 (O1.trans O2)
 ·simp only[aL]
  refine hN _ _ ?_
  walk_at "x"
  exact Kr (most:=4) (many:=4) (size:=20) D1 (by decide) (by decide) (by decide) (by decide) (by decide) fun js ds S2 h h1 h4 hj hp D2 O2=>k js ds S2 ⟨⟨fun z hz=>lN (h.jw z hz),by omega,by omega,h.gd,h.dq,h.sz⟩,hp⟩ h1 D2 (O1.trans O2)
abbrev yP(w:ax):Prop:=∀{ns:Vu} {S:ay} {Q:bA} {E:bZ},ns.length<=63->(∀S',Q (.bl true) S')->w [.cl (ns.map PV.int)] S Q E
def By{x0 x1 x2 x3 x4 x5:ax}(IZ:p4 x0)(JP:c_ x1)(IM:kq x2)(Fu:bF x3)(IN:kr x4)(L9:jA 6 x5):yP (aU 6 (wA x0 x1 x2 x3 x4 x5)):=by
 intro ns S Q E hns k
 unfold wA
 refine dG ?_
 rw[show aw 6 [PV.cl (ns.map PV.int)]=[some (.cl (ns.map PV.int)),none,none,none,none,none] from rfl]
 refine al fun N hN=>?_
 simp only[av,ab,ao,v3,lk,c3]
 refine IZ hns (by decide) (by decide) fun d l S1 _ _ D1 _=>?_
 simp only[List.set_cons_succ,List.set_cons_zero]
 refine hN _ _ (al fun N hN=>?_)
 simp only[av,ab,ao,v3,lk]
 refine JP D1 fun js ds S2 hP hne D2 O2=>?_
 simp only[List.set_cons_succ,List.set_cons_zero]
 refine hN _ _ (al fun N hN=>?_)
 simp only[av,ab,ao,v3,lk]
 refine IM hP fun hs S3 hf X3=>?_
 rw[<-yG hf]
 have D3:=D2.ext X3
 simp only[List.set_cons_succ,List.set_cons_zero]
 refine hN _ _ (al fun N hN=>?_)
 simp only[bO,jY,c3]
 refine⟨by decide,by decide,?_⟩
 refine bw (fun done σ S'=>∃(y4 y5:Option PV),σ=[some (.cl (ns.map PV.int)),some (.ref d),some (j7 js ds),some (.tup (ut (mq (held ds js.length)) js ds)),y4,y5]/\FB S' d l) ⟨_,_,rfl,D3⟩ (fun _ _ _ _=>trivial) ?_ ?_
 ·rintro done u rest σ S4 K e ⟨y4,y5,rfl,D4⟩ hK
  simp only[Tg.put,List.set_cons_succ,List.set_cons_zero]
  refine al fun N2 GA=>?_
  rw[show j7 js ds = .tup [gr js,.tup (ds.map gS)] from rfl]
  simp only[av,ab,ak,ao,af,v3,lk,c3,ac,cM,bx,List.length_map]
  refine Fu D4 (by omega) (by have:=hP.dl;omega) fun i S5 i0 i1 D5 O5=>?_
  obtain⟨ii,rfl⟩:=Int.eq_ofNat_of_zero_le i0
  have Of:ii < ds.length:=by omega
  have hds:ds[ii]?=some (ds[ii].1,ds[ii].2):=List.getElem?_eq_getElem Of
  have hm:ds[ii]∈ds:=List.getElem_mem Of
  have Og:=hP.dp _ hm
  have hsz:=hP.sz _ hm
  generalize ds[ii].2=t at hds Og hsz
  generalize ds[ii].1=z at hds
  simp only[List.set_cons_succ,List.set_cons_zero]
  refine GA _ _ ?_
  simp only[bt,iQ,aJ,ab,ao,af,v3,lk,c3,ac,cM,bc]
  rw[bX (v:=gS (z,t)) (by rw[List.getElem?_map,hds];rfl)]
  unfold gS
  simp only[cM]
  intro px hpx
  have Oh:=D5.free hpx
  refine L9 (D5.new hpx) aa Oh.1 Oh.2 (by decide) Og fun tr S6 lf h1 h2 h3 l0 l1 D6 _ O6=>?_
  have hcn:cnt t tr<=15000000:=by
   have q1:4 ^ ((8:Int) - lf).toNat<=4 ^ 8:=Nat.pow_le_pow_right (by decide) (by omega)
   have q2:=Nat.mul_le_mul (show 2 * t.size<=120 by omega) q1
   omega
  refine IN (js:=js) (ds:=ds) ⟨hP,hds,h1,h2,hcn⟩ fun S7 X7=>?_
  simp only[Bool.not_true,Bool.false_eq_true,if_false,aL]
  exact hK _ _ ⟨_,_,rfl,D6.ext X7⟩
 ·rintro σ S4 ⟨y4,y5,rfl,D4⟩
  refine hN _ _ ?_
  simp only[au,c3]
  exact k S4
def e9:bF w__law_draw:=Fu
def wK:jo d_:=HF
def sP:il dU:=Hj e9
def wL:jp hV:=HV e9 wK
def wM:jq cz:=Gk e9 wL
def yQ:kh cz:=wf e9 wL
theorem wN:∀n,jr n (eM n)
 |0=>fun _ _ _ _ _ _ _ h0 h1 _=>by omega
 |n+1=>I9 e9 wM n (wN n)
theorem qG:∀n,cW n (bM n)
 |0=>fun h _ _=>absurd h (by have:=Bd.FG;exact Nat.not_le.mpr (this _))
 |n+1=>t8 n (qG n)
def qH:cW 12 bN:=qG 12
theorem qI:∀n,n<=12->fN n (bG n)
 |0,_=>fun h _ _=>absurd h (by have:=Bd.FG;exact Nat.not_le.mpr (this _))
 |n+1,hn=>t9 n 12 qH (qI n (by omega)) (by omega)
def ED:fO dh:=ow 12 (by decide) (wN 12) qH (qI 12 (by decide)) wM
def yR:gW fX:=rM sP e9 ED
def yS:c_ fZ:=um sP e9 yQ
def Dg:c_ dj:=JP e9 yS yR
theorem sQ:∀n,cZ n (dX n)
 |0=>fun h _=>by cases h
 |n+1=>ul n (sQ n)
theorem wO:∀n,ir n (eN n)
 |0=>fun h _ _ _ _ _ _ _ _=>absurd h (by have:=Bd.FG;exact Nat.not_le.mpr (this _))
 |n+1=>wa n (wO n)
def yT:kf dM:=IJ fun h a b c e f g i j=>wO 12 (Nat.le_trans h (by decide)) a b c e f g i j
def sR:io fT:=Hk
theorem sU:∀n,eI n (fU n)
 |0=>fun h _ _=>absurd h (by have:=Bd.FG;exact Nat.not_le.mpr (this _))
 |n+1=>IC sR n (sU n)
def wP:j8 12 oJ:=ua 12 (sU 12)
theorem sV:∀n,ip n (du n)
 |0=>fun h _=>absurd h (by have:=Bd.FG;exact Nat.not_le.mpr (this _))
 |n+1=>vX n (sV n)
theorem zA:∀n,n<=12->jy n (dv n)
 |0,_=>fun h _ _ _=>absurd h (by have:=Bd.FG;exact Nat.not_le.mpr (this _))
 |n+1,hn=>yw n 12 (by omega) wP (sV 12) (zA n (by omega))
theorem Bz:∀n,l8 n (cu n)
 |0=>fun h _ _ _ _ _ _=>absurd h (by have:=Bd.FG;exact Nat.not_le.mpr (this _))
 |n+1=>Jy sR n (Bz n)
def BA:l9 gZ:=Jb (fun h a b c d e f=>Bz 12 (Nat.le_trans h (by decide)) a b c d e f) (fun h a b c=>zA 12 (by decide) (Nat.le_trans h (by decide)) a b c)
def rY:fR i7:=qi (HJ BA)
theorem wQ:∀n,gU ((n+1) / 2) (g_ n)/\kg (n / 2) (de n)
 |0=>⟨fun h _ _ _ _ _ _=>absurd h (by have:=Bd.FG;exact Nat.not_le.mpr (this _)),fun h _ _ _ _ _ _ _=>absurd h (by have:=Bd.FG;exact Nat.not_le.mpr (this _))⟩
 |n+1=>by
  obtain⟨a,b⟩:=wQ n
  refine⟨?_,?_⟩
  ·rw[show(n+1+1) / 2=n / 2+1 by omega]
   exact fun{S t js us hs nm Q E} h1 h2 h3 h4 h5 h6 h7=>Jd (n / 2) b (fun g1 g2 g3 g4 g5 g6 g7=>a (Nat.le_trans g1 (by omega)) g2 g3 g4 g5 g6 g7) (S:=S) (t:=t) (js:=js) (us:=us) (hs:=hs) (nm:=nm) (Q:=Q) (E:=E) h1 h2 h3 h4 h5 h6 h7
  ·exact fun{S x y js us hs nm Q E} h1 h2 h3 h4 h5 h6 h7 h8=>wb (s0:=de n) ((n+1) / 2) a (S:=S) (a:=x) (b:=y) (js:=js) (us:=us) (hs:=hs) (nm:=nm) (Q:=Q) (E:=E) h1 h2 h3 h4 h5 h6 h7 h8
def BB:l_ df:=Je fun h a b c d e f=>Bz 12 (Nat.le_trans h (by decide)) a b c d e f
theorem wR:∀n,gX n (dy n)
 |0=>fun h _ _ _ _ _ _=>absurd h (by have:=Bd.FG;exact Nat.not_le.mpr (this _))
 |n+1=>yH n (wR n)
def BC:fw rQ:=HW (Hr Hq)
def yU:j_ oN:=Hm (Hr Hq)
def qJ:fP fy:=Gx IF BC
def yV:kc k9:=IG Ja yU
def wS:i5 cv:=Ie Ge
theorem wT:∀n,iq ((n+1) / 2) (i9 n)/\lZ (n / 2) (dg n)
 |0=>⟨fun _ _ _ _ h _=>absurd h (by have:=Bd.FG;exact Nat.not_le.mpr (this _)),fun _ _ _ _ h _=>absurd h (by have:=Bd.FG;exact Nat.not_le.mpr (this _))⟩
 |n+1=>by
  obtain⟨a,b⟩:=wT n
  refine⟨?_,?_⟩
  ·rw[show(n+1+1) / 2=n / 2+1 by omega]
   exact fun{S js us t v Q E} h1 h2 h3 h4 h5 h6=>IH Hs Ge qJ Ic wS (n / 2) b (fun g1 g2 g3 g4 g5 g6=>a g1 g2 g3 g4 (Nat.le_trans g5 (by omega)) g6) (S:=S) (js:=js) (us:=us) (t:=t) (v:=v) (Q:=Q) (E:=E) h1 h2 h3 h4 h5 h6
  ·exact fun{S js us t v Q E} h1 h2 h3 h4 h5 h6=>uf (s0:=dg n) Hs qJ yV ((n+1) / 2) a (S:=S) (js:=js) (us:=us) (a:=t) (v:=v) (Q:=Q) (E:=E) h1 h2 h3 h4 h5 h6
def yW:fw hU:=vZ wK
def EE:rR cK:=Ko BB
def yX:kq oQ:=IM rY EE (wQ 12).1 (wT 12).1
def Dh:gX 6 eZ:=fun h a b c d e f=>wR 12 (Nat.le_trans h (by decide)) a b c d e f
def yY:ke oO:=II (wT 12).1
theorem Di:∀n,jA n (dW n)
 |0=>fun _ _ _ _ _ h _=>absurd h (by have:=Bd.FG;exact Nat.not_le.mpr (this _))
 |n+1=>Bl e9 n (Di n)
def EF:jA 6 fY:=fun a b c d e f k=>Di 12 a b c d e (Nat.le_trans f (by decide)) k
theorem zB:∀n,iy ((n+1) / 2) (eu n)/\o0 (n / 2) (dN n)
 |0=>⟨fun h _ _ _ _ _=>absurd h (by have:=Bd.FG;exact Nat.not_le.mpr (this _)),fun h _ _ _ _ _=>absurd h (by have:=Bd.FG;exact Nat.not_le.mpr (this _))⟩
 |n+1=>by
  obtain⟨a,b⟩:=zB n
  refine⟨?_,?_⟩
  ·rw[show(n+1+1) / 2=n / 2+1 by omega]
   exact fun{S js t v mv ms Q E} h1 h2 h3 h4 h5 h6=>JN (E:=E) HL (n / 2) (fun g1 g2 g3 g4 g5 g6=>a (Nat.le_trans g1 (by omega)) g2 g3 g4 g5 g6) b h1 h2 h3 h4 h5 h6
  ·exact fun{S js b g mv ms Q E} h1 h2 h3 h4 h5 h6=>Br (E:=E) (s1:=dN n) HL ((n+1) / 2) a h1 h2 h3 h4 h5 h6
def Dj:iy 6 eA:=(zB 12).1
theorem zC:∀n,ld (min n 6) (dY n)
 |0=>fun h _ _ _ _ _ _ _ _=>absurd h (by have:=Bd.FG;exact Nat.not_le.mpr (this _))
 |n+1=>fun h=>JO Dh (min n 6) (by omega) (zC n) (Nat.le_trans h (by omega))
def yZ:kr gg:=IN Dj yT (zC 12) Jo yW (uv wK) (sQ 12) yY
def wU:∀ns:List Int,ns.length<=63->qx [.cl (ns.map PV.int)] (fun _=>none) (fun v _=>v = .bl true) dO:=fun ns h=>By IZ Dg yX e9 yZ EF h fun _=>rfl
end G33
namespace L3
open PySem L2 Xc
def qK{P:List Value->Prop}(h:∀a,P [a])(us:Vv)(hl:us.length=1):P us:=match us,hl with|[_],_=>h _
def lg{P:List Value->Prop}(h:∀a b,P [a,b])(us:Vv)(hl:us.length=2):P us:=match us,hl with|[_,_],_=>h _ _
def wV{P:List Value->Prop}(h:∀a b c,P [a,b,c])(us:Vv)(hl:us.length=3):P us:=match us,hl with|[_,_,_],_=>h _ _ _
def Dk{P:List Value->Prop}(h:∀a b c d,P [a,b,c,d])(us:Vv)(hl:us.length=4):P us:=match us,hl with|[_,_,_,_],_=>h _ _ _ _
def Fm{P:List Value->Prop}(h:∀a b c d e,P [a,b,c,d,e])(us:Vv)(hl:us.length=5):P us:=match us,hl with|[_,_,_,_,_],_=>h _ _ _ _ _
section
variable {K:Vo} {h:Heap} {mg:Vr} {x c m q:Str} {st:Stmt} {ps fl:Vs}
noncomputable def y3:Option (Option Value)->Bool
 |some none=>true
 |_=>false
def y7{o:Option (Option Value)}(h:y3 o=true):o=some none:=by
 unfold y3 at h;split at h
 ·rfl
 ·cases h
def FnAt(K:Vo)(f:Addr)(m q:Str)(st:Stmt):Prop:=∃(oc kV doc pm cdv ct:Value) (od an:Option Addr) (osl:Array (Option Value)),
 K.lookup f=some ⟨oc,od,.func (PySem.W.fnOf m q (bY st) (bf st) (aD st) .none kV doc pm an cdv ct),osl⟩/\PySem.W.codeIn K cdv q=true/\PySem.W.keepIn K (.ref f)=true
abbrev wW(m q:Str)(st:Stmt)(ps:Vs):Prop:=∀(kV doc pm:Value) (an:Option Addr) (cdv ct:Value) (us:Vv),us.length=ps.length->bindArgs (PySem.W.fnOf m q (bY st) (bf st) (aD st) .none kV doc pm an cdv ct) ⟨us,[]⟩=pure (ps.zip us)
def FnAt.mk{f:Addr}(a:FnAt K f m q st)(hb:wW m q st ps):∃fd,KS K m q st f fd/\Binds K fd ps []/\PySem.W.keepIn K (.ref f)=true:=by
 obtain⟨oc,kV,doc,pm,cdv,ct,od,an,osl,l,cc,k⟩:=a
 exact⟨_,nO l cc k,(nO l cc k).binds hb,k⟩
def F6(K:Vo)(x:Str)(st:Stmt):Prop:=∃f,PySem.W.nsIn K mainGlobals x=some (some (.ref f))/\FnAt K f x x st
def F6.own(X:K.In h)(G:h.Ns mainGlobals mg)(a:F6 K x st)(hb:wW x x st ps):a_ K mg x st ps:=by
 obtain⟨f,n,a⟩:=a
 obtain⟨fd,F,b,k⟩:=a.mk hb
 exact⟨f,fd,F,b,k,PySem.W.mg_of X G n⟩
def F6.law{fa:Addr}(X:K.In h)(G:h.Ns mainGlobals mg)(a:F6 K x st)(hfa:mg x=some (.ref fa))(hb:wW x x st ps):∃kV doc pm an cdv ct,Dz K mg x st ps fa (PySem.W.fnOf x x (bY st) (bf st) (aD st) .none kV doc pm an cdv ct):=by
 obtain⟨f,n,oc,kV,doc,pm,cdv,ct,od,an,osl,l,cc,k⟩:=a
 cases hfa.symm.trans (PySem.W.mg_of X G n)
 exact⟨kV,doc,pm,an,cdv,ct,nO l cc k,(nO l cc k).binds hb,k,hfa⟩
def Mo(P:Program)(w:World)(K:Vo)(x:Str)(kvs:List (bE×V)):Prop:=∃a o,PySem.W.nsIn K mainGlobals x=some (some (.ref a))/\K.lookup a=some o/\(a == sysModules)=false/\∃vs,KV kvs vs/\Obj.IsDictOf (ba P w) o vs
def Mo.kd{P:Program}{w:World}{kvs:List (bE×V)}(X:K.In h)(G:h.Ns mainGlobals mg)(a:Mo P w K x kvs):∃a,mg x=some (.ref a)/\KD P w K a kvs:=by
 obtain⟨a,o,n,l,s,vs,h1,h2⟩:=a
 exact⟨a,PySem.W.mg_of X G n,s,o,vs,l,h1,h2⟩
def ku(X:K.In h)(G:h.Ns mainGlobals mg){l:Vs}(a:(l.all fun x=>y3 (PySem.W.nsIn K mainGlobals x))=true)(hx:x∈l:=by decide):mg x=none:=PySem.W.mg_none_of X G (y7 (List.all_eq_true.mp a x hx))
section
variable {f C:Addr} {oc kV doc pm cdv ct:Value} {od an:Option Addr} {osl:Array (Option Value)}
def Fn(n:PySem.W.nsIn K mainGlobals x=some (some (.ref f)))(l:K.lookup f=some ⟨oc,od,.func (PySem.W.fnOf x x (bY st) (bf st) (aD st) .none kV doc pm an cdv ct),osl⟩)(cc:PySem.W.codeIn K cdv x=true)(k:PySem.W.keepIn K (.ref f)=true):F6 K x st:=⟨f,n,oc,kV,doc,pm,cdv,ct,od,an,osl,l,cc,k⟩
def Fo{P:Program}{w:World}{kvs:List (bE×V)}{o:Obj}(n:PySem.W.nsIn K mainGlobals x=some (some (.ref f)))(l:K.lookup f=some o)(s:(f == sysModules)=false)(v:∃vs,KV kvs vs/\Obj.IsDictOf (ba P w) o vs):Mo P w K x kvs:=⟨f,o,n,l,s,v⟩
end
end
section
variable {K:Vo} {h:Heap} {mg:Vr} {x:Str} {st:Stmt} {ps:Vs}
def Mp(K:Vo)(x:Str)(st:Stmt):Prop:=∃(f T:Addr) (oc kV doc pm cdv ct:Value) (od an:Option Addr) (osl:Array (Option Value)) (oT:Obj) (nT:Nat),PySem.W.nsIn K mainGlobals x=some (some (.ref f))/\
 K.lookup f=some ⟨oc,od,.func (PySem.W.fnOf x x (bY st) (bf st) (aD st) (.ref T) kV doc pm an cdv ct),osl⟩/\PySem.W.codeIn K cdv x=true/\PySem.W.keepIn K (.ref f)=true/\K.lookup T=some oT/\oT.data = .seq #[.bool true] nT
abbrev zD(x:Str)(st:Stmt)(ps:Vs):Prop:=∀(s:Shared) (T:Addr) (oT:Obj) (nT:Nat) (kV doc pm cdv ct:Value) (an:Option Addr) (us:Vv),oT.data = .seq #[.bool true] nT->us.length=ps.length->s.heap.get? T=some oT->BindsTo s (PySem.W.fnOf x x (bY st) (bf st) (aD st) (.ref T) kV doc pm an cdv ct) ⟨us,[]⟩ (ps.zip us)
abbrev zE(x:Str)(st:Stmt)(ps:Vs):Prop:=∀(s:Shared) (T:Addr) (oT:Obj) (nT:Nat) (kV doc pm cdv ct:Value) (an:Option Addr) (us:Vv),oT.data = .seq #[.bool true] nT->us.length+1=ps.length->s.heap.get? T=some oT->BindsTo s (PySem.W.fnOf x x (bY st) (bf st) (aD st) (.ref T) kV doc pm an cdv ct) ⟨us,[]⟩ (ps.zip (us++[.bool true]))
def Mp.own(X:K.In h)(G:h.Ns mainGlobals mg)(a:Mp K x st)(hb:zD x st ps)(hd:zE x st ps):pX K mg x st ps:=by
 obtain⟨f,T,oc,kV,doc,pm,cdv,ct,od,an,osl,oT,nT,n,l,c,k,lT,sT⟩:=a
 exact⟨T,f,_,⟨⟨oc,od,kV,doc,pm,an,cdv,ct,osl,rfl,l,c⟩,k⟩,fun s us KI hl=>by rw[List.append_nil]at hl ⊢;exact hb _ _ _ _ _ _ _ _ _ _ us sT hl (KI T oT lT),fun s us KI hl=>hd _ _ _ _ _ _ _ _ _ _ us sT (by rw[List.length_append]at hl;exact hl) (KI T oT lT),k,PySem.W.mg_of X G n⟩
def Fp{f T:Addr}{oc kV doc pm cdv ct:Value}{od an:Option Addr}{osl:Array (Option Value)}{oT:Obj}{nT:Nat}(n:PySem.W.nsIn K mainGlobals x=some (some (.ref f)))(l:K.lookup f=some ⟨oc,od,.func (PySem.W.fnOf x x (bY st) (bf st) (aD st) (.ref T) kV doc pm an cdv ct),osl⟩)(c:PySem.W.codeIn K cdv x=true)(k:PySem.W.keepIn K (.ref f)=true)
  (lT:K.lookup T=some oT) (sT:oT.data = .seq #[.bool true] nT):Mp K x st:=⟨f,T,oc,kV,doc,pm,cdv,ct,od,an,osl,oT,nT,n,l,c,k,lT,sT⟩
end
end L3
namespace G33
open PySem L2 L3
def kw:zD "parts_reached" (bb 10) ["body","names","reached"]:=fun _ _ _ _ _ _ _ _ _ _ us sT hl hT=>wV (P:=fun us=>BindsTo _ _ ⟨us,[]⟩ ((["body","names","reached"]:Vs).zip us)) (fun _ _ _=>by refine BindsTo.of_defaults rfl hT sT rfl ?_;rfl) us hl
def ky:zE "parts_reached" (bb 10) ["body","names","reached"]:=fun _ _ _ _ _ _ _ _ _ _ us sT hl hT=>lg (P:=fun us=>BindsTo _ _ ⟨us,[]⟩ ((["body","names","reached"]:Vs).zip (us++[.bool true]))) (fun _ _=>by refine BindsTo.of_defaults rfl hT sT rfl ?_;rfl) us (Nat.succ.inj hl)
def BD{l:PySem.W.OpenLaw}{w:World}{K:Vo}{h:Heap}{mg:Vr}{fa:Addr}(X:K.In h)(G:h.Ns mainGlobals mg)(hfa:mg "law" = some (.ref fa))
  (G7:F6 K "sides_of" (bb 2))
  (G8:F6 K "parts_in" (bb 3))
  (Ij:F6 K "parts" (bb 4))
  (HM:F6 K "chosen" (bb 6))
  (Gr:F6 K "plain_trace" (bb 7))
  (Gs:F6 K "led_to_part" (bb 8))
  (F_:Mp K "parts_reached" (bb 10))
  (GQ:F6 K "next_step" (bb 11))
  (Hn:F6 K "filling" (bb 12))
  (G9:F6 K "fillable" (bb 13))
  (FY:F6 K "passes_of_then" (bb 15))
  (GR:F6 K "passes_of" (bb 16))
  (FZ:F6 K "oftens_come_to" (bb 17))
  (HN:F6 K "common" (bb 19))
  (G_:F6 K "fraction" (bb 20))
  (IP:F6 K "plus" (bb 21))
  (Ik:F6 K "times" (bb 22))
  (GS:F6 K "things_of" (bb 24))
  (Il:F6 K "added" (bb 25))
  (GC:F6 K "multiplied" (bb 26))
  (Ha:F6 K "no_tally" (bb 27))
  (HQ:F6 K "behind" (bb 28))
  (Io:F6 K "again" (bb 29))
  (F0:F6 K "tally_of_often" (bb 30))
  (Ga:F6 K "tally_of_take" (bb 31))
  (Hb:F6 K "tally_of" (bb 32))
  (Ip:F6 K "tally" (bb 33))
  (FT:F6 K "numbered_bodies" (bb 35))
  (Iq:F6 K "lines" (bb 36))
  (GT:F6 K "_law_deal" (bb 38))
  (GU:F6 K "_law_draw" (bb 39))
  (GD:F6 K "_law_words" (bb 40))
  (Hc:F6 K "_law_low" (bb 41))
  (GV:F6 K "_law_plus" (bb 42))
  (GE:F6 K "_law_times" (bb 43))
  (GW:F6 K "_law_cost" (bb 44))
  (GX:F6 K "_law_leaf" (bb 45))
  (GY:F6 K "_law_body" (bb 46))
  (FU:F6 K "_law_pass_count" (bb 47))
  (FO:F6 K "_law_round_count" (bb 48))
  (F1:F6 K "_law_deed_body" (bb 49))
  (GF:F6 K "_law_house" (bb 50))
  (GG:F6 K "_law_trace" (bb 51))
  (GZ:F6 K "_law_puts" (bb 52))
  (Gb:F6 K "_law_fillable" (bb 53))
  (GH:F6 K "_law_alike" (bb 54))
  (Gu:F6 K "_law_number" (bb 55))
  (Gh:F6 K "_law_follows" (bb 56))
  (Gc:F6 K "_law_is_going" (bb 57))
  (Gv:F6 K "_law_oftens" (bb 58))
  (GI:F6 K "_law_chain" (bb 59))
  (F2:F6 K "_law_any_house" (bb 60))
  (GJ:F6 K "_law_strip" (bb 61))
  (Gj:F6 K "_law_line_of" (bb 62))
  (GK:F6 K "_law_right" (bb 63))
  (GL:Mo l.prog w K "SIDES_FROM" (C.k_SIDES_FROM.map fun kv=>(kv.1,V.int kv.2)))
  (JQ:((["abs","all","bool","enumerate","int","isinstance","len","list","max","range","reversed","tuple","zip"]:Vs).all fun x=>y3 (PySem.W.nsIn K mainGlobals x))=true)
  (Ks:F6 K "law" (bb 64))
  : ∃fd:FuncData,(∀(s:Shared) (v:Value),BindsTo s fd ⟨[v],[]⟩ [("_law_script",v)])/\∀base:Heap,K.In base->base.Ns mainGlobals mg->mn l.prog w K mg base wX 31 fa fd ["_law_script"] (CH K 1 qx):=by
 obtain⟨kV,doc,pm,an,cdv,ct,O⟩:=Ks.law X G hfa (ps:=["_law_script"]) (fun _ _ _ _ _ _=>qK fun _=>rfl)
 exact⟨_,fun s v=>.of_eq rfl,fun base _ _=>(Bq (P:=l.prog) (w:=w) (base:=base) ⟨G7.own X G (fun _ _ _ _ _ _=>qK fun _=>rfl),
  G8.own X G (fun _ _ _ _ _ _=>qK fun _=>rfl),
  Ij.own X G (fun _ _ _ _ _ _=>qK fun _=>rfl),
  HM.own X G (fun _ _ _ _ _ _=>lg fun _ _=>rfl),
  Gr.own X G (fun _ _ _ _ _ _=>qK fun _=>rfl),
  Gs.own X G (fun _ _ _ _ _ _=>wV fun _ _ _=>rfl),
  F_.own X G kw ky,
  GQ.own X G (fun _ _ _ _ _ _=>lg fun _ _=>rfl),
  Hn.own X G (fun _ _ _ _ _ _=>qK fun _=>rfl),
  G9.own X G (fun _ _ _ _ _ _=>qK fun _=>rfl),
  FY.own X G (fun _ _ _ _ _ _=>lg fun _ _=>rfl),
  GR.own X G (fun _ _ _ _ _ _=>lg fun _ _=>rfl),
  FZ.own X G (fun _ _ _ _ _ _=>lg fun _ _=>rfl),
  HN.own X G (fun _ _ _ _ _ _=>lg fun _ _=>rfl),
  G_.own X G (fun _ _ _ _ _ _=>lg fun _ _=>rfl),
  IP.own X G (fun _ _ _ _ _ _=>lg fun _ _=>rfl),
  Ik.own X G (fun _ _ _ _ _ _=>lg fun _ _=>rfl),
  GS.own X G (fun _ _ _ _ _ _=>wV fun _ _ _=>rfl),
  Il.own X G (fun _ _ _ _ _ _=>lg fun _ _=>rfl),
  GC.own X G (fun _ _ _ _ _ _=>lg fun _ _=>rfl),
  Ha.own X G (fun _ _ _ _ _ _=>qK fun _=>rfl),
  HQ.own X G (fun _ _ _ _ _ _=>lg fun _ _=>rfl),
  Io.own X G (fun _ _ _ _ _ _=>lg fun _ _=>rfl),
  F0.own X G (fun _ _ _ _ _ _=>wV fun _ _ _=>rfl),
  Ga.own X G (fun _ _ _ _ _ _=>lg fun _ _=>rfl),
  Hb.own X G (fun _ _ _ _ _ _=>wV fun _ _ _=>rfl),
  Ip.own X G (fun _ _ _ _ _ _=>wV fun _ _ _=>rfl),
  FT.own X G (fun _ _ _ _ _ _=>lg fun _ _=>rfl),
  Iq.own X G (fun _ _ _ _ _ _=>qK fun _=>rfl),
  GT.own X G (fun _ _ _ _ _ _=>lg fun _ _=>rfl),
  GU.own X G (fun _ _ _ _ _ _=>lg fun _ _=>rfl),
  GD.own X G (fun _ _ _ _ _ _=>lg fun _ _=>rfl),
  Hc.own X G (fun _ _ _ _ _ _=>lg fun _ _=>rfl),
  GV.own X G (fun _ _ _ _ _ _=>lg fun _ _=>rfl),
  GE.own X G (fun _ _ _ _ _ _=>lg fun _ _=>rfl),
  GW.own X G (fun _ _ _ _ _ _=>qK fun _=>rfl),
  GX.own X G (fun _ _ _ _ _ _=>lg fun _ _=>rfl),
  GY.own X G (fun _ _ _ _ _ _=>Dk fun _ _ _ _=>rfl),
  FU.own X G (fun _ _ _ _ _ _=>qK fun _=>rfl),
  FO.own X G (fun _ _ _ _ _ _=>qK fun _=>rfl),
  F1.own X G (fun _ _ _ _ _ _=>Dk fun _ _ _ _=>rfl),
  GF.own X G (fun _ _ _ _ _ _=>Dk fun _ _ _ _=>rfl),
  GG.own X G (fun _ _ _ _ _ _=>wV fun _ _ _=>rfl),
  GZ.own X G (fun _ _ _ _ _ _=>wV fun _ _ _=>rfl),
  Gb.own X G (fun _ _ _ _ _ _=>qK fun _=>rfl),
  GH.own X G (fun _ _ _ _ _ _=>lg fun _ _=>rfl),
  Gu.own X G (fun _ _ _ _ _ _=>qK fun _=>rfl),
  Gh.own X G (fun _ _ _ _ _ _=>wV fun _ _ _=>rfl),
  Gc.own X G (fun _ _ _ _ _ _=>wV fun _ _ _=>rfl),
  Gv.own X G (fun _ _ _ _ _ _=>wV fun _ _ _=>rfl),
  GI.own X G (fun _ _ _ _ _ _=>qK fun _=>rfl),
  F2.own X G (fun _ _ _ _ _ _=>qK fun _=>rfl),
  GJ.own X G (fun _ _ _ _ _ _=>Fm fun _ _ _ _ _=>rfl),
  Gj.own X G (fun _ _ _ _ _ _=>Dk fun _ _ _ _=>rfl),
  GK.own X G (fun _ _ _ _ _ _=>Dk fun _ _ _ _=>rfl),
  ku (x:="abs") X G JQ,
  ku (x:="all") X G JQ,
  ku (x:="bool") X G JQ,
  ku (x:="enumerate") X G JQ,
  ku (x:="int") X G JQ,
  ku (x:="isinstance") X G JQ,
  ku (x:="len") X G JQ,
  ku (x:="list") X G JQ,
  ku (x:="max") X G JQ,
  ku (x:="range") X G JQ,
  ku (x:="reversed") X G JQ,
  ku (x:="tuple") X G JQ,
  ku (x:="zip") X G JQ,
  GL.kd X G⟩ O).ok⟩
def EG{l:PySem.W.OpenLaw}{q:Program}{loose:Vs}{XP:(Vr)->Heap->Prop}{YP:World->Heap->Prop}{d:DefRec}{K:Params->PySem.W.Frag}(hn:l.most=some 63)(hdf:d.params.defaults=[])
  (hY:∀(w:World) (h:Heap),YP w h->(K w.params).In h)
  (F:∀(w:World) (mg:Vr) (fa:Addr) (h:Heap),(K w.params).In h->h.Ns mainGlobals mg->mg d.name=some (.ref fa)->
   ∃fd:FuncData,(∀(s:Shared) (u:Value),BindsTo s fd ⟨[u],[]⟩ [("_law_script",u)])/\∀base:Heap,(K w.params).In base->base.Ns mainGlobals mg->mn l.prog w (K w.params) mg base wX 31 fa fd ["_law_script"] (CH (K w.params) 1 qx)) :
  PySem.W.WalkO q loose XP YP l.row.toRowW d [] (fun f vs=>PySem.call f vs):=
 L2.xO (n:=63) (k:=31) (x:="_law_script") (CX:=fun _=>wX) (sp:=fun w=>CH (K w.params) 1 qx) hn (by decide) hdf ⟨rfl,by decide,by decide,rfl⟩ hY F (fun _ _ a ns hl hO hS=>En hO hS (wU ns hl)) fun _ _ _ _ _ z=>z
end G33
local macro_rules | `(tactic| walk_at "k")=>`(tactic| (apply L3.Fn; k_is; k_is; k_is; k_is))
local macro_rules | `(tactic| walk_at "d")=>`(tactic| (apply L3.Fp; k_is; k_is; k_is; k_is; k_is; rfl))
open PySem PySem.W PyProof.Rows
set_option maxRecDepth 100000 in
set_option maxHeartbeats 0 in
theorem PySem.Challenge.cw_dueworth_k33_whole_traces_are_lines_holds : PySem.Challenge.rw_dueworth_k33_whole_traces_are_lines.Holds := by
 w_on; refine holds_law E33.said fun said => ?_
 refine holds_open (q := E33.vw) (loose := ["SIDES_FROM", "parts_reached"]) (Xt := fun s => (xlAt E33.vw [] s && recOk (RowW.records E33.rr) s)) (XP := XL E33.vw []) (N := 3772)
  (Yf := Hook.obs E33.hk) (Ya := Hook.val E33.hk) (YP := Hook.says (kHook E33.early.heap_1 E33.as E33.EH)) E33.left (Hook.of E33.hk) (Hook.keeps E33.hk) (fun s e => xl_of s (Bool.and_eq_true_iff.mp e).1)
  XL.keeps rfl rfl rfl (fun s e => recFacts_of (Bool.and_eq_true_iff.mp e).2) rfl (by assumption)
  (by decide +kernel) ⟨rfl, rfl, rfl, rfl, rfl, by decide +kernel⟩ ?hw ?hc
 (case hw => w_witness2)
 k_fill
 refine G33.EG (l := PySem.Challenge.rw_dueworth_k33_whole_traces_are_lines) rfl rfl (fun w h Y => PySem.W.kIn_of Y) ?F
 case F =>
  intro w mg fa h KX G hmg
  refine' G33.BD KX G hmg ?G7 ?G8 ?Ij ?HM ?Gr ?Gs ?F_ ?GQ ?Hn ?G9 ?FY ?GR ?FZ ?HN ?G_ ?IP ?Ik ?GS ?Il ?GC ?Ha ?HQ ?Io ?F0 ?Ga ?Hb ?Ip ?FT ?Iq ?GT ?GU ?GD ?Hc ?GV ?GE ?GW ?GX ?GY ?FU ?FO ?F1 ?GF ?GG ?GZ ?Gb ?GH ?Gu ?Gh ?Gc ?Gv ?GI ?F2 ?GJ ?Gj ?GK ?GL ?JQ ?Ks
  (case G7 => walk_at "k")
  (case G8 => walk_at "k")
  (case Ij => walk_at "k")
  (case HM => walk_at "k")
  (case Gr => walk_at "k")
  (case Gs => walk_at "k")
  (case F_ => walk_at "d")
  (case GQ => walk_at "k")
  (case Hn => walk_at "k")
  (case G9 => walk_at "k")
  (case FY => walk_at "k")
  (case GR => walk_at "k")
  (case FZ => walk_at "k")
  (case HN => walk_at "k")
  (case G_ => walk_at "k")
  (case IP => walk_at "k")
  (case Ik => walk_at "k")
  (case GS => walk_at "k")
  (case Il => walk_at "k")
  (case GC => walk_at "k")
  (case Ha => walk_at "k")
  (case HQ => walk_at "k")
  (case Io => walk_at "k")
  (case F0 => walk_at "k")
  (case Ga => walk_at "k")
  (case Hb => walk_at "k")
  (case Ip => walk_at "k")
  (case FT => walk_at "k")
  (case Iq => walk_at "k")
  (case GT => walk_at "k")
  (case GU => walk_at "k")
  (case GD => walk_at "k")
  (case Hc => walk_at "k")
  (case GV => walk_at "k")
  (case GE => walk_at "k")
  (case GW => walk_at "k")
  (case GX => walk_at "k")
  (case GY => walk_at "k")
  (case FU => walk_at "k")
  (case FO => walk_at "k")
  (case F1 => walk_at "k")
  (case GF => walk_at "k")
  (case GG => walk_at "k")
  (case GZ => walk_at "k")
  (case Gb => walk_at "k")
  (case GH => walk_at "k")
  (case Gu => walk_at "k")
  (case Gh => walk_at "k")
  (case Gc => walk_at "k")
  (case Gv => walk_at "k")
  (case GI => walk_at "k")
  (case F2 => walk_at "k")
  (case GJ => walk_at "k")
  (case Gj => walk_at "k")
  (case GK => walk_at "k")
  (case GL => apply L3.Fo; k_is; k_is; rfl; exact L2.AH _ w [("then", 1, _, _), ("either", 1, _, _), ("take", 3, _, _), ("often", 1, _, _)] _ (by decide +kernel))
  (case JQ => kernel_rfl)
  (case Ks => walk_at "k")
#print axioms PySem.Challenge.cw_dueworth_k33_whole_traces_are_lines_holds
