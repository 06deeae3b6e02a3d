import PyProof.Rows.All
import Wide.All
import OpenK.AllK
import Wide.FinOn
import Lean
import PyProof.EqAt
import PyProof.EqKinds
import PyProof.TupleCall
import PySem.Challenge.RW_dueworth_k23_stories_told
import Open.Tree
import Open.Head
section
set_option Elab.async false
set_option linter.all false
set_option maxRecDepth 100000
set_option maxHeartbeats 0
namespace ET
open PySem PySem.W PyProof.Rows
def iB(tb:String→Option Builtin)(p:Program)(w:World)(n₀:Nat)(ann:Option Value):Nat→SharedT→Thread→Option SharedT
 |0,_,_=>none
 |n+1,s,t=>match through t with
  |true=>some s
  |false=>match stepOk n₀ ann t with
   |false=>none
   |true=>match stepT (denote tb) p w s t with
    |some x=>iB tb p w n₀ ann n x.1 x.2
    |none=>none
theorem lZ{tb:String→Option Builtin}{p:Program}{w:World}{n₀:Nat}{ann:Option Value}:∀{n:Nat} {s s':SharedT} {t:Thread},iB tb p w n₀ ann n s t=some s'→topRun tb p w n₀ ann n s.abs t=some s'.abs
 |0,_,_,_,h=>by cases h
 |n+1,s,s',t,h=>by
  unfold iB at h
  unfold topRun
  cases he:through t with
  |true=>rw[he]at h;cases h;rfl
  |false=>
   rw[he]at h
   cases hk:stepOk n₀ ann t with
   |false=>rw[hk]at h;cases h
   |true=>
    rw[hk]at h
    cases hs:stepT (denote tb) p w s t with
    |none=>rw[hs]at h;cases h
    |some r=>rw[hs]at h;rw[stepT_spec hs];exact lZ h
def CA:List Obj→BT→Nat→Option (BT×Nat)
 |[],t,n=>some (t,n)
 |o::os,t,n=>match ((t.ins n o).get n).isSome with
  |true=>CA os (t.ins n o) (n+1)
  |false=>none
theorem rM{life:Life}:∀{os:List Obj} {t t':BT} {n n':Nat},CA os t n=some (t',n')→absHeap t' n' life=⟨(absHeap t n life).objs++os.toArray,life⟩
 |[],t,t',n,n',h=>by cases h;simp[absHeap]
 |o::os,t,t',n,n',h=>by
  unfold CA at h
  cases g:((t.ins n o).get n).isSome with
  |false=>rw[g]at h;cases h
  |true=>
   rw[g]at h
   rw[rM h,absHeap_ins g]
   simp[Heap.push]
def iC(tb:String→Option Builtin)(p:Program)(w:World)(N:Nat)(s₀:Shared):Option Shared:=
 match s₀.heap.isNs mainGlobals&&s₀.gens.size == 0 with
 |true=>match CA s₀.heap.objs.toList .nil 0 with
  |some x=>match iB tb p w x.2 (s₀.heap.nsMap mainGlobals "__annotations__") N ⟨x.1,x.2,s₀.heap.life,s₀.gens,s₀.drawn,s₀.toks,s₀.os⟩ (topStub p)with
   |some s=>match staticsOk (importedModules p.main.body) s₀.heap s.abs.heap&&namesBound p s.abs.heap&&gensDone s.abs&&laidKept s₀.heap s.abs.heap with
    |true=>some s.abs
    |false=>none
   |none=>none
  |none=>none
 |false=>none
theorem qv{tb:String→Option Builtin}{p:Program}{w:World}{N:Nat}{s₀ s:Shared}(h:iC tb p w N s₀=some s):topFrom tb p w N s₀=some s:=by
 unfold iC at h
 unfold topFrom
 cases h1:s₀.heap.isNs mainGlobals&&s₀.gens.size == 0 with
 |false=>rw[h1]at h;cases h
 |true=>
  rw[h1]at h
  dsimp only at h ⊢
  cases h2:CA s₀.heap.objs.toList .nil 0 with
  |none=>rw[h2]at h;cases h
  |some x=>
   rw[h2]at h
   dsimp only at h
   have e:=rM (life:=s₀.heap.life) h2
   have e':absHeap x.1 x.2 s₀.heap.life=s₀.heap:=by
    rw[e]
    simp[absHeap,BT.list]
   have n':x.2=s₀.heap.objs.size:=by rw[←e',absHeap_size]
   cases h3:iB tb p w x.2 (s₀.heap.nsMap mainGlobals "__annotations__") N ⟨x.1,x.2,s₀.heap.life,s₀.gens,s₀.drawn,s₀.toks,s₀.os⟩ (topStub p)with
   |none=>rw[h3]at h;cases h
   |some r=>
    rw[h3]at h
    dsimp only at h
    have ea:SharedT.abs ⟨x.1,x.2,s₀.heap.life,s₀.gens,s₀.drawn,s₀.toks,s₀.os⟩=s₀:=by
     unfold SharedT.abs
     rw[e']
    have:=lZ h3
    rw[ea,n']at this
    rw[this]
    exact h
theorem qw{tb:String→Option Builtin}{p:Program}{w:World}{N:Nat}{s₀:Shared}{α:Type}{f:Shared→α}{a:α}(h:Option.map f (iC tb p w N s₀)=some a):Option.map f (topFrom tb p w N s₀)=some a:=by
 obtain⟨s,h1,h2⟩:=Option.map_eq_some_iff.mp h
 rw[qv h1]
 exact congrArg some h2
def seenT(p q:Program)(loose:List Str)(Xt:Shared→Bool){α:Type}(Yf:Shared→α)(N:Nat)(u u':World):=
 Option.map (fun c=>Option.map (fun s=>(openSeen q loose (importedModules p.main.body) Xt true s,Yf s)) (iC treeTable p u' N c)) (fencedOpening treeTable p u N)
lay_quick seenT
theorem xK{p q:Program}{loose:List Str}{Xt:Shared→Bool}{α:Type}{Yf:Shared→α}{N:Nat}{u u':World}{r}(h:PySem.W.Fast.tw2787559817927863336 p q loose Xt Yf N u u'=r):seenT p q loose Xt Yf N u u'=r:=by
 rw[PySem.W.Fast.te2787559817927863336]
 exact h
theorem xL{p q:Program}{loose:List Str}{Xt:Shared→Bool}{α:Type}{Yf:Shared→α}{Ya:World→α}{N:Nat}
  (h:∀u:World,seenT p q loose Xt Yf N u u=some (some (openGood q loose,Ya u))):LeftO p q loose Xt Yf Ya N:=fun u=>by
 obtain⟨c,a,b⟩:=Option.map_eq_some_iff.mp (h u)
 unfold openEnds
 rw[a]
 exact qw b
theorem CB{p q:Program}{loose:List Str}{Xt:Shared→Bool}{α:Type}{Yf:Shared→α}{Ya:World→α}{N:Nat}(row:String)
  (h0:∀u:World,seenT p q loose Xt Yf N u (u.withFollow row false)=some (some (openGood q loose,Ya (u.withFollow row false))))
  (h1:∀u:World,seenT p q loose Xt Yf N u (u.withFollow row true)=some (some (openGood q loose,Ya (u.withFollow row true)))):LeftO p q loose Xt Yf Ya N:=fun u=>by
 obtain⟨c,a,b⟩:=Option.map_eq_some_iff.mp (h0 u)
 obtain⟨c',a',b'⟩:=Option.map_eq_some_iff.mp (h1 u)
 have hc:c'=c:=by rw[a]at a';cases a';rfl
 subst hc
 have b:=qw b
 have b':=qw b'
 have hu:=World.withFollow_self u row
 unfold openEnds
 rw[a]
 cases hb:u.params.followText row<;>rw[hb]at hu
 ·rw[hu]at b
  exact b
 ·rw[hu]at b'
  exact b'
end ET
namespace E23
open PySem PySem.W PyProof.Rows
abbrev tp(i:Nat):Stmt:=PySem.Challenge.pw_dueworth_k23_stories_told.main.body.getD i (.Pass ⟨0,0,0,0⟩)
/-- the text without what says nothing -/
def vw:Program:={ PySem.Challenge.pw_dueworth_k23_stories_told with main:={ PySem.Challenge.pw_dueworth_k23_stories_told.main with body:=[tp 1,tp 2,tp 3,tp 4,tp 5,tp 6,tp 7,tp 8,tp 10,tp 11,tp 12,tp 13,tp 15,tp 17,tp 18,tp 19,tp 20,tp 21,tp 22,tp 23,tp 24,tp 25,tp 26,tp 28,tp 29,tp 30,tp 31,tp 33,tp 34,tp 35,tp 36,tp 37,tp 38,tp 39,tp 40,tp 41,tp 42,tp 43,tp 44,tp 45,tp 46,tp 47,tp 48,tp 49,tp 50,tp 51,tp 52,tp 53,tp 54,tp 55] } }
abbrev rr:RowW:=OpenRow.toRowW (OpenLaw.row PySem.Challenge.rw_dueworth_k23_stories_told)
local macro_rules | `(tactic| o_head $H)=>`(tactic|
 refine holds_open (q:=vw) (loose:=[]) (Xt:=fun s=>(xlAt vw [] s&&recOk (RowW.records rr) s)) (XP:=XL vw []) (N:=6858)
  (Yf:=Hook.obs $H) (Ya:=Hook.val $H) (YP:=Hook.says $H) ?hl (Hook.of $H) (Hook.keeps $H) (fun s e=>xl_of s (Bool.and_eq_true_iff.mp e).1)
  XL.keeps rfl rfl rfl (fun s e=>recFacts_of (Bool.and_eq_true_iff.mp e).2) rfl (by assumption)
  (by decide +kernel) ⟨rfl,rfl,rfl,rfl,rfl,by decide +kernel⟩ ?hw ?hc)
/-- the law is well said: by the quick twin of the look,with no twin of the program -/
theorem said:OpenLaw.wellSaid PySem.Challenge.rw_dueworth_k23_stories_told=true:=(congrFun PySem.W.Fast.te9446332074065402090 _).trans (by kernel_rfl)
/-- says nothing; what lies in the heap is written down by the way -/
theorem early(h:∀P:Prop,P):PySem.Challenge.rw_dueworth_k23_stories_told.Holds:=by
 w_on;refine holds_law said fun said=>?_;k_head
 all_goals exact h _
abbrev as:List Addr:=[2,3,15,22,23,24,25,28,35,37,38,40,41,42,43,44,47,54,56,57,59,60,61,62,63,66,73,75,76,78,79,80,81,82,85,92,94,95,97,98,99,100,101,104,111,112,113,116,123,124,125,128,135,136,137,140,142,143,145,146,147,149,150,152,153,154,156,157,159,160,161,163,164,166,167,168,170,171,173,174,175,178,179,180,183,184,185,188,189,190,192,193,195,196,197,200,201,202,205,206,207,209,210,212,213,214,216,217,219,220,221,223,224,226,227,228,230,231,233,234,242,244,245,247,248,249,252,253,254,255,256,257,258,261,263,264,266,267,268,270,271,273,274,275,277,278,280,281,282,285,286,287,289,290,292,293,294,297,298,299,301,302,304,305,306,308,309,311,312,313,315,316,318,319,320,322,323,325,326,327,329,330,332,333,334,336,337,339,340,341,343,344,346,347,348,350,351,353,354,355,358,359,360,363,364,365,367,368,370,371,372,374,375,377,378,379,381,382,384,385,386,388,389,391,392,393,395,396,398,399,400,403,404,405,407,408,410,411,412,414,415,417,418,419,421,422,424,425,426,429,430]
theorem FI(P:Params):as=(early.heap_1 P).map (·.1):=by kernel_rfl
noncomputable abbrev hk:Hook:=kHook early.heap_1 as FI
theorem CC(u:World):ET.seenT (OpenLaw.row PySem.Challenge.rw_dueworth_k23_stories_told).prog vw [] (fun s=>(xlAt vw [] s&&recOk (RowW.records rr) s)) (Hook.obs hk) 6858 u u=some (some (openGood vw [],Hook.val hk u)):=ET.xK (by kernel_rfl)
theorem left:LeftO (OpenLaw.row PySem.Challenge.rw_dueworth_k23_stories_told).prog vw [] (fun s=>(xlAt vw [] s&&recOk (RowW.records rr) s)) (Hook.obs hk) (Hook.val hk) 6858:=ET.xL CC
end E23
end
set_option Elab.async false
set_option linter.all false
set_option maxRecDepth 100000
namespace L2
open PySem PySem.Spec PyProof.Rows
abbrev bG:=Sum Int Str
noncomputable def l0:bG→Value→Bool
 | .inl k,v=>Value.isInt k v
 | .inr x,v=>Value.isStrOf x v
noncomputable def EB(w:World):bG→Int
 | .inl k=>hashInt k
 | .inr x=>hashStr w x
theorem bo:∀{k:bG} {v:Value},l0 k v=true→(∃i t,k=Sum.inl i∧v=Value.int i t)∨(∃x t,k=Sum.inr x∧v=Value.str x t)
 | .inl i,v,h=>by
  obtain⟨t,e⟩:=Value.isInt_shape (k:=i) (v:=v) h
  exact .inl ⟨i,t,rfl,e⟩
 | .inr x,v,h=>by
  obtain⟨t,e⟩:=Value.isStrOf_shape (x:=x) (v:=v) h
  exact .inr ⟨x,t,rfl,e⟩
theorem sM(i:Int)(t:Tok):l0 (.inl i) (.int i t)=true:=by simp[l0,Value.isInt]
theorem sN(x:Str)(t:Tok):l0 (.inr x) (.str x t)=true:=by simp[l0,Value.isStrOf]
theorem Ak(a b:Int):decide ((Sum.inl a:bG)=Sum.inl b)=(a == b):=by
 by_cases e:a=b
 ·subst e;simp
 ·have h:¬(Sum.inl a:bG)=Sum.inl b:=fun q=>e (Sum.inl.inj q)
  rw[decide_eq_false h]
  exact(beq_eq_false_iff_ne.mpr e).symm
theorem Al(a b:Str):decide ((Sum.inr a:bG)=Sum.inr b)=decide (a=b):=by
 by_cases e:a=b
 ·subst e;simp
 ·have h:¬(Sum.inr a:bG)=Sum.inr b:=fun q=>e (Sum.inr.inj q)
  rw[decide_eq_false h,decide_eq_false e]
theorem Am(a:Int)(b:Str):decide ((Sum.inl a:bG)=Sum.inr b)=false:=decide_eq_false (fun q=>nomatch q)
theorem An(a:Str)(b:Int):decide ((Sum.inr a:bG)=Sum.inl b)=false:=decide_eq_false (fun q=>nomatch q)
noncomputable def bB(prog:Program)(w:World):PySem.KeyKind prog w bG where
 is:=l0
 hash:=EB w
 inj:=fun v a b ha hb=>by
  rcases bo ha with⟨i,t,rfl,rfl⟩|⟨x,t,rfl,rfl⟩
  ·rcases bo hb with⟨j,u,rfl,e⟩|⟨y,u,rfl,e⟩
   ·injection e with e1 _;rw[e1]
   ·exact nomatch e
  ·rcases bo hb with⟨j,u,rfl,e⟩|⟨y,u,rfl,e⟩
   ·exact nomatch e
   ·injection e with e1 _;rw[e1]
 byValue:=fun k v h=>by
  rcases bo h with⟨i,t,rfl,rfl⟩|⟨x,t,rfl,rfl⟩<;>rfl
 pyHash:=fun hv h=>by
  rcases bo hv with⟨i,t,rfl,rfl⟩|⟨x,t,rfl,rfl⟩
  ·exact wpAny_pyHash_int h
  ·exact wpAny_pyHash_str h
 eqBool:=fun hu hv h=>by
  rcases bo hu with⟨i,t,rfl,rfl⟩|⟨x,t,rfl,rfl⟩
  ·rcases bo hv with⟨j,u,rfl,rfl⟩|⟨y,u,rfl,rfl⟩
   ·rw[Ak]at h;exact wpAny_eqBool_int h
   ·rw[Am]at h;exact SeqAt.EqAt.int_str i t y u _ _ _ _ h
  ·rcases bo hv with⟨j,u,rfl,rfl⟩|⟨y,u,rfl,rfl⟩
   ·rw[An]at h;exact SeqAt.EqAt.str_int x t j u _ _ _ _ h
   ·rw[Al]at h;exact wpAny_eqBool_str h
 «strs»:=fun k x t v h=>by
  rcases bo h with⟨i,u,rfl,e⟩|⟨y,u,rfl,e⟩
  ·exact nomatch e
  ·injection e with e1 _
   subst e1
   cases v<;>rfl
theorem oJ(prog:Program)(w:World)(i:Int)(t:Tok):(bB prog w).is (.inl i) (.int i t)=true:=sM i t
theorem oK(prog:Program)(w:World)(x:Str)(t:Tok):(bB prog w).is (.inr x) (.str x t)=true:=sN x t
inductive V where
 |non|bl (b:Bool)|int (i:Int)|str (x:Str)|Lm (b:Array UInt8)|M_ (b:UInt64)|ref (a:Addr)|ty (n:String)
 deriving DecidableEq
noncomputable def RelV:V→Value→Prop
 | .non,u=>u=Value.none
 | .bl b,u=>u=Value.bool b
 | .int i,u=>∃t,u=Value.int i t
 | .str x,u=>∃t,u=Value.str x t
 | .Lm b,u=>∃t,u=Value.bytes b t
 | .M_ b,u=>∃t,u=Value.float b t
 | .ref a,u=>u=Value.ref a
 | .ty n,u=>u=Value.type n
noncomputable abbrev Vals:List V→List Value→Prop:=Paired RelV
theorem Vals.length{xs:List V}{us:List Value}(r:Vals xs us):xs.length=us.length:=Paired.length r
theorem Vals.get:∀{xs:List V} {us:List Value} {i:Nat} {x:V},Vals xs us→xs[i]?=some x→∃u,us[i]?=some u∧RelV x u
 |_,_,_,_,.nil,e=>by simp at e
 |_,_,0,_,.cons r _,e=>by simp at e;subst e;exact⟨_,rfl,r⟩
 |_,_,i+1,x,.cons _ t,e=>by
  obtain⟨u,h1,h2⟩:=Vals.get (i:=i) (x:=x) t (by simpa using e)
  exact⟨u,by simpa using h1,h2⟩
theorem Vals.set{x:V}{u:Value}(r:RelV x u):∀{xs:List V} {us:List Value} (i:Nat),Vals xs us→Vals (xs.set i x) (us.set i u)
 |_,_,_,.nil=>.nil
 |_,_,0,.cons _ t=>.cons r t
 |_,_,i+1,.cons q t=>.cons q (Vals.set r i t)
theorem Vals.append:∀{xs ys:List V} {us ws:List Value},Vals xs us→Vals ys ws→Vals (xs++ys) (us++ws)
 |_,_,_,_,.nil,s=>s
 |_,_,_,_,.cons r t,s=>.cons r (Vals.append t s)
theorem Vals.take:∀{xs:List V} {us:List Value} (n:Nat),Vals xs us→Vals (xs.take n) (us.take n)
 |_,_,0,_=>.nil
 |_,_,_+1,.nil=>.nil
 |_,_,n+1,.cons r t=>.cons r (Vals.take n t)
theorem Vals.drop:∀{xs:List V} {us:List Value} (n:Nat),Vals xs us→Vals (xs.drop n) (us.drop n)
 |_,_,0,r=>r
 |_,_,_+1,.nil=>.nil
 |_,_,n+1,.cons _ t=>Vals.drop n t
noncomputable def HZ:Option V→Option Value→Prop
 |some v,some u=>RelV v u
 |none,none=>True
 |_,_=>False
noncomputable def KV{κ:Type}:List (κ×V)→List (κ×Value)→Prop:=Paired fun(p:κ×V) (q:κ×Value)=>p.1=q.1∧RelV p.2 q.2
noncomputable def kV:bG→V
 | .inl i=>.int i
 | .inr x=>.str x
inductive HO where
 /-- a list -/
 |lst (xs:List V)
 /-- a tuple (never changes) -/
 |tup (xs:List V)
 /-- a dict whose keys are ints and texts; one whose keys are tuples of ints and texts (the empty one is both) -/
 |dK (kvs:List (bG×V))|dT (kvs:List (List bG×V))
 /-- a set of ints: its members,its size -/
 |set (S:Int→Bool) (n:Nat)
 /-- an instance of the class at C,its dict at dx,its attributes -/
 |ins (C dx:Addr) (fs:List (Str×V))
 /-- the dict of the instance at x -/
 |own (x:Addr)
 /-- the dict of an exception -/
 |xd (fs:List (Str×V))
 /-- a bound method,f of x -/
 |met (f x:Addr)
 /-- a range object lo,lo + 1,.. below hi -/
 |Oy (lo hi:Int)
 /-- a thing that is known to the object (the script; a dict while a loop walks it): read,never written while it is so -/
 |frz (o:Obj) (u:HO)
 /-- a code object's table -/
 |MD (ps:Array Value)
 /-- any other thing,by what is true of its one object (a def of PU own: QM a S n:=HO.ext fun h=>..) -/
 |ext (φ:Heap→Prop)
abbrev Hp:=Addr→Option HO
noncomputable def upd(H:Hp)(a:Addr)(o:HO):Hp:=fun b=>if b=a then some o else H b
theorem ay{H:Hp}{a:Addr}{o:HO}:upd H a o a=some o:=by unfold upd;rw[if_pos rfl]
theorem aw{H:Hp}{a b:Addr}{o:HO}(h:b≠a):upd H a o b=H b:=by unfold upd;rw[if_neg h]
theorem xM{H:Hp}{a:Addr}{o u:HO}:upd (upd H a o) a u=upd H a u:=by
 funext b;unfold upd;split<;>rfl
theorem CD{H:Hp}{a b:Addr}{o u:HO}(h:H a=some o)(h':H b=some u)(d:o≠u):a≠b:=by
 intro e;subst e;rw[h]at h';exact d (Option.some.inj h')
theorem aT{H:Hp}{a b:Addr}{o:HO}(h:H a=some o)(h':H b=none):a≠b:=by
 intro e;subst e;rw[h]at h';cases h'
def Hr(h:Heap)(a:Addr)(its:Array Value):Prop:=∃o,h.get? a=some o∧o.dict=none∧o.cls = .type "tuple"∧∃n,o.data = .seq its n
theorem Hr.tup{h:Heap}{a:Addr}{its:Array Value}(x:Hr h a its):IsTup h a its:=let ⟨o,e,_,c,d⟩:=x;⟨o,e,c,d⟩
theorem Hr.new(h:Heap)(its:Array Value):Hr (h.push { cls:=.type "tuple",data:=.seq its }) h.objs.size its:=⟨_,Heap.get?_push_size _ rfl,rfl,rfl,_,rfl⟩
section
variable (P:Program) (w:World)
noncomputable def ObjOk(H:Hp)(h:Heap)(a:Addr):HO→Prop
 | .lst xs=>xs.length≤sizeLine∧∃(its:List Value) (n:Nat),Vals xs its∧h.get? a=some { cls:=.type "list",data:=.seq its.toArray n }
 | .tup xs=>xs.length≤sizeLine∧∃its:List Value,Vals xs its∧Hr h a its.toArray
 | .dK kvs=>kvs.length≤sizeLine∧(a == sysModules)=false∧∃vs,KV kvs vs∧h.DictOf (bB P w) a vs
 | .dT kvs=>kvs.length≤sizeLine∧(a == sysModules)=false∧∃xs:List (List bG×Addr×Value),
   Paired (fun(p:List bG×V) (q:List bG×Addr×Value)=>p.1=q.1∧H q.2.1=some (.tup (p.1.map kV))∧RelV p.2 q.2.2) kvs xs∧
   ∃o es ep,h.get? a=some o∧o.ExactDict∧o.data = .dict es ep∧es.toList=xs.map (entryOfKey (tupleKind (bB P w)))∧(xs.map (·.1)).Nodup
 | .set S n=>h.SetOf (intKind P w) a S n
 | .ins C dx fs=>H dx=some (.own a)∧fs.length≤1000∧dx≠a∧h.get? a=some (PySem.W.instObj C dx)∧
   ∃mA,h.Ns1 dx mA∧(∀f,HZ (fs.lookup f) (mA f))∧PySem.Within mA (fs.map (·.1))
 | .own _=>∃o,h.get? a=some o
 | .xd fs=>∃mA,h.Ns1 a mA∧∀f,HZ (fs.lookup f) (mA f)
 | .Oy lo hi=>∃t u v,h.get? a=some { cls:=.type "range",data:=.fields #[.int lo t,.int hi u,.int 1 v] }
 | .frz o u=>h.get? a=some o∧ObjOk H h a u
 | .MD ps=>h.get? a=some { cls:=.none,data:=.fields ps }
 | .met f x=>h.get? a=some (PySem.W.methodObj (.ref f) (.ref x))
 | .ext φ=>φ h∧(∃o,h.get? a=some o)∧∀h1 h2:Heap,φ h1→(∀o,h1.get? a=some o→h2.get? a=some o)→φ h2
def Id(H:Hp)(h:Heap):Prop:=∀a o,H a=some o→ObjOk P w H h a o
end
section
variable {P:Program} {w:World} {H H':Hp} {h h':Heap} {a:Addr} {o:HO}
theorem ObjOk.lt(x:ObjOk P w H h a o):a < h.objs.size:=by
 cases o with
 |lst xs=>obtain⟨_,_,_,_,e⟩:=x;exact Heap.lt_size e
 |tup xs=>obtain⟨_,_,_,p⟩:=x;exact p.tup.lt
 |dK kvs=>obtain⟨_,_,_,_,o,_,_,e,_⟩:=x;exact Heap.lt_size e
 |dT kvs=>obtain⟨_,_,_,_,o,_,_,e,_⟩:=x;exact Heap.lt_size e
 |set S n=>obtain⟨o,_,_,_,e,_⟩:=x;exact Heap.lt_size e
 |ins C dx fs=>obtain⟨_,_,_,e,_⟩:=x;exact Heap.lt_size e
 |own y=>obtain⟨_,e⟩:=x;exact Heap.lt_size e
 |xd fs=>obtain⟨_,⟨_,_,_,e,_⟩,_⟩:=x;exact Heap.lt_size e
 |Oy lo hi=>obtain⟨_,_,_,e⟩:=x;exact Heap.lt_size e
 |frz ob u=>obtain⟨e,_⟩:=x;exact Heap.lt_size e
 |MD ps=>exact Heap.lt_size (show h.get? a=some _ from x)
 |met f y=>exact Heap.lt_size (show h.get? a=some _ from x)
 |ext φ=>obtain⟨_,⟨_,e⟩,_⟩:=x;exact Heap.lt_size e
theorem Paired.ME{α β:Type}{F G:α→β→Prop}:∀{l₁:List α} {l₂:List β},Paired F l₁ l₂→(∀a b,F a b→G a b)→Paired G l₁ l₂
 |_,_,.nil,_=>.nil
 |_,_,.cons r t,f=>.cons (f _ _ r) (Paired.ME t f)
theorem ObjOk.stay(x:ObjOk P w H h a o)(k:∀b u,(b=a∨H b=some (.own a))→h.get? b=some u→h'.get? b=some u)
  (ho:∀b,H b=some (.own a)→H' b=some (.own a)) (ht:∀b xs,H b=some (.tup xs)→H' b=some (.tup xs)):ObjOk P w H' h' a o:=by
 induction o with
 |lst xs=>obtain⟨z,its,n,r,e⟩:=x;exact⟨z,its,n,r,k _ _ (.inl rfl) e⟩
 |tup xs=>obtain⟨z,its,r,ob,e,c⟩:=x;exact⟨z,its,r,ob,k _ _ (.inl rfl) e,c⟩
 |dK kvs=>obtain⟨z,y,vs,r,ob,es,ep,e,c⟩:=x;exact⟨z,y,vs,r,ob,es,ep,k _ _ (.inl rfl) e,c⟩
 |dT kvs=>
  obtain⟨z,y,xs,r,ob,es,ep,e,c⟩:=x
  exact⟨z,y,xs,Paired.ME r fun p q z=>⟨z.1,ht _ _ z.2.1,z.2.2⟩,ob,es,ep,k _ _ (.inl rfl) e,c⟩
 |set S n=>obtain⟨ob,es,ep,t,e,c⟩:=x;exact⟨ob,es,ep,t,k _ _ (.inl rfl) e,c⟩
 |ins C dx fs=>
  obtain⟨d,z,ne,e,mA,⟨od,es,ep,e2,c⟩,r⟩:=x
  exact⟨ho _ d,z,ne,k _ _ (.inl rfl) e,mA,⟨od,es,ep,k _ _ (.inr d) e2,c⟩,r⟩
 |own y=>obtain⟨ob,e⟩:=x;exact⟨ob,k _ _ (.inl rfl) e⟩
 |xd fs=>obtain⟨mA,⟨od,es,ep,e,c⟩,r⟩:=x;exact⟨mA,⟨od,es,ep,k _ _ (.inl rfl) e,c⟩,r⟩
 |Oy lo hi=>obtain⟨t,u,v,e⟩:=x;exact⟨t,u,v,k _ _ (.inl rfl) e⟩
 |frz ob u ih=>obtain⟨e,q⟩:=x;exact⟨k _ _ (.inl rfl) e,ih q⟩
 |MD ps=>
  have e:h.get? a=some { cls:=.none,data:=.fields ps }:=x
  show h'.get? a=some { cls:=.none,data:=.fields ps }
  exact k a _ (.inl rfl) e
 |met f y=>
  have e:h.get? a=some (PySem.W.methodObj (.ref f) (.ref y)):=x
  show h'.get? a=some (PySem.W.methodObj (.ref f) (.ref y))
  exact k a _ (.inl rfl) e
 |ext φ=>obtain⟨p,⟨o,e⟩,st⟩:=x;exact⟨st _ _ p fun o q=>k _ _ (.inl rfl) q,⟨o,k _ _ (.inl rfl) e⟩,st⟩
theorem Id.lt(x:Id P w H h)(e:H a=some o):a < h.objs.size:=(x a o e).lt
theorem Id.fresh(x:Id P w H h)(e:h.objs.size≤a):H a=none:=by
 cases q:H a with
 |none=>rfl
 |some u=>exact absurd (Nat.lt_of_lt_of_le (x.lt q) e) (Nat.lt_irrefl _)
theorem Id.kept(x:Id P w H h)(k:∀b u,h.get? b=some u→h'.get? b=some u):Id P w H h':=fun a o e=>
 (x a o e).stay (fun b u _ q=>k b u q) (fun _ q=>q) fun _ _ q=>q
theorem Id.laid(x:Id P w H h)(k:∀b u,h.get? b=some u→h'.get? b=some u)(hp:h.objs.size≤a)(new:ObjOk P w (upd H a o) h' a o):Id P w (upd H a o) h':=fun b u e=>by
 have hn:=x.fresh hp
 by_cases hb:b=a
 ·subst hb;rw[ay]at e;cases e;exact new
 ·rw[aw hb]at e
  exact(x b u e).stay (fun c v _ q=>k c v q) (fun c q=>by rw[aw (aT q hn)];exact q) fun c xs q=>by rw[aw (aT q hn)];exact q
end
def Rd(H:Hp)(a:Addr)(u:HO):Prop:=H a=some u∨∃o,H a=some (.frz o u)
theorem Rd.ok{P:Program}{w:World}{H:Hp}{h:Heap}{a:Addr}{u:HO}(r:Rd H a u)(x:Id P w H h):ObjOk P w H h a u:=by
 rcases r with r|⟨o,r⟩
 ·exact x a u r
 ·obtain⟨_,q⟩:=x a _ r
  exact q
noncomputable def CF:Option HO→Prop
 |some (.lst _)=>True
 |some (.dK _)=>True
 |some (.dT _)=>True
 |some (.set _ _)=>True
 |some (.ins _ _ _)=>True
 |some (.ext _)=>True
 |_=>False
section
variable {P:Program} {w:World} {H:Hp} {h h':Heap} {x e:Addr} {o':HO}
theorem Id.write(ok:Id P w H h)(mu:CF (H x))(he:e=x∨H e=some (.own x))(k:∀b u,b≠e→h.get? b=some u→h'.get? b=some u)(Na:∃u,h'.get? e=some u)
  (new:ObjOk P w (upd H x o') h' x o'):Id P w (upd H x o') h':=fun b u q=>by
 have Ni:∀c y,H c=some (.own y)→c≠x:=fun c y r z=>by subst z;rw[r]at mu;exact mu
 have Oz:∀c xs,H c=some (.tup xs)→c≠x:=fun c xs r z=>by subst z;rw[r]at mu;exact mu
 by_cases hb:b=x
 ·subst hb;rw[ay]at q;cases q;exact new
 ·rw[aw hb]at q
  by_cases Lc:b=e
  ·have q':H b=some (.own x):=by
    rcases he with z|z
    ·exact absurd (Lc.trans z) hb
    ·rw[Lc];exact z
   rw[q]at q';cases q'
   obtain⟨v,hv⟩:=Na
   exact⟨v,by rw[Lc];exact hv⟩
  ·refine(ok b u q).stay (fun c v hc r=>k c v ?_ r) (fun c r=>by rw[aw (Ni c b r)];exact r) fun c xs r=>by rw[aw (Oz c xs r)];exact r
   rcases hc with rfl|hc
   ·exact Lc
   ·rintro rfl
    rcases he with z|z
    ·exact Ni c b hc z
    ·rw[hc]at z;cases z;exact hb rfl
end
structure Un (fs ex:List Addr) (H H':Hp) (h h':Heap):Prop where
 keep:∀b o,h.get? b=some o→H b=none→b ∉ fs→b ∉ ex→h'.get? b=some o
 slot:∀b o,h.get? b=some o→H b=none→b∈fs→b ∉ ex→∃sl,h'.get? b=some { o with slots:=sl }
 free:∀b o,h.get? b=some o→H b=none→b ∉ ex→H' b=none
 there:∀b o,h.get? b=some o→b ∉ ex→∃o',h'.get? b=some o'
 tups:∀b xs,H b=some (.tup xs)→H' b=some (.tup xs)
 Jn:∀b o u,H b=some (.frz o u)→H' b=some (.frz o u)
 JD:∀b ps,H b=some (.MD ps)→∃more,H' b=some (.MD (ps++more))
section
variable {fs fs' ex ex':List Addr} {H H1 H2:Hp} {h h1 h2 h':Heap} {a x e:Addr} {o:HO}
theorem Un.any(u:Un fs ex H H1 h h1){b:Addr}{ob:Obj}(q:h.get? b=some ob)(n:H b=none)(hx:b ∉ ex):∃sl,h1.get? b=some { ob with slots:=sl }:=by
 by_cases hb:b∈fs
 ·exact u.slot b ob q n hb hx
 ·exact⟨ob.slots,u.keep b ob q n hb hx⟩
theorem Un.trans(a:Un fs ex H H1 h h1)(b:Un fs ex H1 H2 h1 h2):Un fs ex H H2 h h2 where
 keep:=fun c ob q n hc hx=>b.keep c ob (a.keep c ob q n hc hx) (a.free c ob q n hx) hc hx
 slot:=fun c ob q n hc hx=>by
  obtain⟨sl,e1⟩:=a.slot c ob q n hc hx
  obtain⟨sl',e2⟩:=b.slot c _ e1 (a.free c ob q n hx) hc hx
  exact⟨sl',e2⟩
 free:=fun c ob q n hx=>by
  obtain⟨o',e1⟩:=a.there c ob q hx
  exact b.free c o' e1 (a.free c ob q n hx) hx
 there:=fun c ob q hx=>by
  obtain⟨o',e1⟩:=a.there c ob q hx
  exact b.there c o' e1 hx
 tups:=fun c xs q=>b.tups c xs (a.tups c xs q)
 Jn:=fun c ob xs q=>b.Jn c ob xs (a.Jn c ob xs q)
 JD:=fun c ps q=>by
  obtain⟨m1,e1⟩:=a.JD c ps q
  obtain⟨m2,e2⟩:=b.JD c _ e1
  exact⟨m1++m2,by rw[e2,Array.append_assoc]⟩
theorem Un.kept(k:∀b u,h.get? b=some u→h'.get? b=some u):Un fs ex H H h h':=
 ⟨fun b ob q _ _ _=>k b ob q,fun b ob q _ _ _=>⟨ob.slots,k b ob q⟩,fun _ _ _ n _=>n,fun b ob q _=>⟨ob,k b ob q⟩,fun _ _ q=>q,fun _ _ _ q=>q,fun _ ps q=>⟨#[],by rw[q];simp⟩⟩
theorem Un.refl:Un fs ex H H h h:=Un.kept fun _ _ q=>q
theorem Un.laid(k:∀b u,h.get? b=some u→h'.get? b=some u)(hp:h.objs.size≤a)(hn:H a=none):Un fs ex H (upd H a o) h h' where
 keep:=fun b u q _ _ _=>k b u q
 slot:=fun b u q _ _ _=>⟨u.slots,k b u q⟩
 free:=fun b u q n _=>by rw[aw (Nat.ne_of_lt (Nat.lt_of_lt_of_le (Heap.lt_size q) hp))];exact n
 there:=fun b u q _=>⟨u,k b u q⟩
 tups:=fun b xs q=>by rw[aw (aT q hn)];exact q
 Jn:=fun b u xs q=>by rw[aw (aT q hn)];exact q
 JD:=fun b ps q=>⟨#[],by rw[aw (aT q hn),q];simp⟩
theorem Un.write(mu:CF (H x))(he:e=x∨H e=some (.own x))(k:∀b u,b≠e→h.get? b=some u→h'.get? b=some u)(Na:∃u,h'.get? e=some u):Un fs ex H (upd H x o) h h':=by
 have hx:∀b,H b=none→b≠x:=fun b n z=>by subst z;rw[n]at mu;exact mu
 have hb:∀b,H b=none→b≠e:=fun b n z=>by
  subst z
  rcases he with r|r
  ·exact hx b n r
  ·rw[n]at r;cases r
 have hm:∀b u,H b=some u→¬CF (some u)→b≠x:=fun b u q nm z=>by subst z;rw[q]at mu;exact nm mu
 refine⟨fun b u q n _ _=>k b u (hb b n) q,fun b u q n _ _=>⟨u.slots,k b u (hb b n) q⟩,fun b u q n _=>by rw[aw (hx b n)];exact n,fun b u q _=>?_,
  fun b xs q=>by rw[aw (hm b _ q fun z=>z)];exact q,fun b u xs q=>by rw[aw (hm b _ q fun z=>z)];exact q,fun b ps q=>⟨#[],by rw[aw (hm b _ q fun z=>z),q];simp⟩⟩
 by_cases Lc:b=e
 ·subst Lc;exact Na
 ·exact⟨u,k b u Lc q⟩
end
noncomputable def Ei(h:Heap)(H:Hp):List Addr:=(List.range h.objs.size).filter fun a=>(H a).isSome
noncomputable def mU(h:Heap)(H:Hp):Heap:=PySem.W.hideAll h (Ei h H)
theorem sO(h:Heap)(H:Hp):(mU h H).objs.size=h.objs.size:=PySem.W.hideAll_size _ _
theorem uu{h:Heap}{H:Hp}{b:Addr}{o:Obj}(e:h.get? b=some o)(n:H b=none):(mU h H).get? b=some o:=
 PySem.W.hideAll_get _ e fun hm=>by
  have q:(H b).isSome=true:=(List.mem_filter.mp hm).2
  rw[n]at q;simp at q
theorem xN{h:Heap}{H:Hp}{b:Addr}{o:Obj}(e:(mU h H).get? b=some o):h.get? b=some o∧H b=none:=by
 have e':h.get? b=some o:=PySem.W.of_hideAll (Ei h H) e
 refine⟨e',?_⟩
 cases q:H b with
 |none=>rfl
 |some x=>
  have hm:b∈Ei h H:=List.mem_filter.mpr ⟨List.mem_range.mpr (Heap.lt_size e'),by simp[q]⟩
  have z:(mU h H).get? b=none:=PySem.W.hideAll_none (Ei h H) hm
  rw[z]at e;cases e
noncomputable def xO(g h:Heap)(L:Addr):List (Addr×Obj):=(List.range h.objs.size).filterMap fun a=>if a=L∨(g.get? a).isSome=true then none else (h.get? a).map fun o=>(a,o)
noncomputable def rest(g h:Heap)(L d:Addr):List (Addr×Obj):=(xO g h L).filter fun p=>decide (p.1≠d)
structure Mod (K:PySem.W.Frag) (mg:Str→Option Value) (base:Heap):Prop where
 MF:K.In base
 glob:base.Ns mainGlobals mg
 blt:∃mb,base.Ns builtinsNs mb∧∀x:Str,x ≠ "__name__"→mb x=bootBuiltins x
 nolimit:base.NoLimit
structure Cx where
 prog:Program
 w:World
 K:PySem.W.Frag
 mg:Str→Option Value
 base:Heap
 A:Around
 N:List Str
 s₀:Shared
 H₀:Hp
 env:Env
 outer:List Env
 stack:List Env
 ex:List Addr
 fn:Str→Bool
 calm:Bool
 pn:List (Addr×Obj)
 xe:Value→Shared→Prop
noncomputable def frs(l:List Env):List Addr:=l.filterMap (·.frame)
noncomputable abbrev Cx.fs(X:Cx):List Addr:=frs X.outer
def CG(sc:Scope)(x:Str):Prop:=sc.names.lookup x=some .local∨sc.names.lookup x=some .cell∨sc.names.lookup x=some .free
def zK(sc:Scope)(x:Str):Prop:=sc.names.lookup x=some .local∨sc.names.lookup x=some .cell
def EC(env:Env)(h:Heap)(m:Str→Option Value)(x:Str)(u:Value):Prop:=
 (env.kindOf x=some .local∧m x=some u)∨((env.kindOf x=some .cell∨env.kindOf x=some .free)∧∃c,env.cells.lookup x=some c∧h.IsCell c (some u))
structure Cx.Ok (X:Cx):Prop where
 mod:Mod X.K X.mg X.base
 kind:X.env.scope.kind = .function
 glob:X.env.globals=mainGlobals
 blt:X.env.builtins=builtinsNs
 above:X.s₀.heap.objs.size≤X.env.locals
 inj:∀x y c,X.env.cells.lookup x=some c→X.env.cells.lookup y=some c→x=y
 has:∀x,(X.env.kindOf x=some .cell∨X.env.kindOf x=some .free)→∃c,X.env.cells.lookup x=some c
 LQ:∀x c,X.fn x=true→X.env.cells.lookup x=some c→X.s₀.heap.objs.size≤c
 hd:X.calm=true→X.A.handled=none
 frames:X.A.frames=some X.stack
 stk:X.stack=X.outer∨(X.stack=X.env::X.outer∧X.env.frame=some X.env.locals)
 MG:∀b∈X.ex,b≠X.env.locals∧∀x c,X.env.cells.lookup x=some c→c≠b
 bs:∀b o,X.base.get? b=some o→X.s₀.heap.get? b=some o∧X.H₀ b=none
 KU:X.base.objs.size≤X.s₀.heap.objs.size
 J5:∀b o,X.base.get? b=some o→b ∉ X.ex
 J_:∀b∈X.ex,b ∉ X.fs
 Ix:X.s₀.heap.FunFrames X.base X.outer
 Ln:∀b∈X.fs,X.H₀ b=none
structure Inv (X:Cx) (pins:List (Addr×Obj)) (σ:List (Option V)) (H:Hp) (s:Shared):Prop where
 ok:X.Ok
 os:s.os=X.s₀.os
 bare:AllBare s.gens
 base:Un X.fs X.ex X.H₀ H X.s₀.heap s.heap
 loc:∃m,s.heap.Ns X.env.locals m∧∀(i:Nat) (x:Str) (v:V),X.N[i]?=some x→σ[i]?=some (some v)→CG X.env.scope x→∃u,RelV v u∧EC X.env s.heap m x u
 cell:∀x c,X.env.cells.lookup x=some c→∃v,s.heap.IsCell c v
 free:H X.env.locals=none
 Hu:∀x c,X.env.cells.lookup x=some c→H c=none
 pin:∀p∈X.pn++pins,s.heap.get? p.1=some p.2∧H p.1=none∧p.1≠X.env.locals∧p.1 ∉ X.fs∧∀v,p.2.data ≠ .cell v
 hok:Id X.prog X.w H s.heap
 len:σ.length=X.N.length
section
variable {X:Cx} {pins:List (Addr×Obj)} {σ:List (Option V)} {H H':Hp} {s:Shared} {h':Heap}
theorem Cx.Ok.OC(ok:X.Ok){b:Addr}{o:Obj}(e:X.base.get? b=some o):b ∉ X.fs:=fun hb=>by
 have:=(ok.Ix.mem hb).1
 rw[e]at this;cases this
theorem Inv.bs(I:Inv X pins σ H s):∀b o,X.base.get? b=some o→s.heap.get? b=some o∧H b=none:=fun b o e=>
 ⟨I.base.keep b o (I.ok.bs b o e).1 (I.ok.bs b o e).2 (I.ok.OC e) (I.ok.J5 b o e),I.base.free b o (I.ok.bs b o e).1 (I.ok.bs b o e).2 (I.ok.J5 b o e)⟩
theorem Inv.bk(I:Inv X pins σ H s):∀b o,X.base.get? b=some o→s.heap.get? b=some o:=fun b o e=>(I.bs b o e).1
theorem Inv.mod(I:Inv X pins σ H s):Mod X.K X.mg X.base:=I.ok.mod
theorem Inv.Jo(I:Inv X pins σ H s):X.K.In s.heap:=I.ok.mod.MF.keeps I.bk
theorem Inv.lt(I:Inv X pins σ H s):X.env.locals < s.heap.objs.size:=let ⟨_,hn,_⟩:=I.loc;hn.lt
theorem Inv.sz(I:Inv X pins σ H s):X.s₀.heap.objs.size≤s.heap.objs.size:=Nat.le_trans I.ok.above (Nat.le_of_lt I.lt)
theorem Inv.Nj(I:Inv X pins σ H s){a:Addr}(h:s.heap.objs.size≤a):a ∉ X.fs:=fun hb=>by
 obtain⟨_,o,ho,_⟩:=I.ok.Ix.mem hb
 exact absurd (Nat.lt_of_lt_of_le (Heap.lt_size ho) (Nat.le_trans I.sz h)) (Nat.lt_irrefl _)
theorem Inv.Lp(I:Inv X pins σ H s):∀x c,X.env.cells.lookup x=some c→c≠X.env.locals:=fun x c e z=>by
 obtain⟨v,o,ho,hd⟩:=I.cell x c e
 obtain⟨m,⟨o',es,ep,ho',hd',_⟩,_⟩:=I.loc
 rw[z,ho']at ho;cases ho;rw[hd']at hd;cases hd
theorem Inv.Ix(I:Inv X pins σ H s):s.heap.FunFrames X.base X.outer:=by
 have all:∀(l:List Env),(∀b∈frs l,b∈X.fs)→X.s₀.heap.FunFrames X.base l→s.heap.FunFrames X.base l:=by
  intro l
  induction l with
  |nil=>intro _ _;trivial
  |cons env r ih=>
   intro hs hl
   obtain⟨hk,⟨L,o,hf,hn,ho,hd⟩,hr⟩:=hl
   have hL:L∈X.fs:=hs L (by unfold frs;rw[List.filterMap_cons,hf];exact List.mem_cons_self)
   obtain⟨sl,e⟩:=I.base.slot L o ho (I.ok.Ln L hL) hL fun z=>I.ok.J_ L z hL
   exact⟨hk,⟨L,_,hf,hn,e,hd⟩,ih (fun b hb=>hs b (by unfold frs;rw[List.filterMap_cons,hf];exact List.mem_cons_of_mem _ hb)) hr⟩
 exact all X.outer (fun _ hb=>hb) I.ok.Ix
theorem Inv.stack(I:Inv X pins σ H s):s.heap.FunFrames X.base X.stack:=by
 rcases I.ok.stk with e|⟨e,hf⟩
 ·rw[e];exact I.Ix
 ·rw[e]
  obtain⟨m,hn,_⟩:=I.loc
  refine .cons (by rw[I.ok.kind];decide) hf hn ?_ I.Ix
  exact Heap.get?_none_of_le (Nat.le_trans I.ok.KU I.ok.above)
theorem Inv.Jp(I:Inv X pins σ H s):∀b∈frs X.stack,b∈X.env.locals::X.fs:=fun b hb=>by
 rcases I.ok.stk with e|⟨e,hf⟩
 ·rw[e]at hb;exact List.mem_cons_of_mem _ hb
 ·rw[e]at hb
  unfold frs at hb
  rw[List.filterMap_cons,hf]at hb
  exact hb
theorem Inv.Ka(I:Inv X pins σ H s):∀b∈frs X.stack,H b=none:=fun b hb=>by
 rcases List.mem_cons.mp (I.Jp b hb)with e|hb
 ·rw[e];exact I.free
 ·obtain⟨_,o,ho,_⟩:=I.ok.Ix.mem hb
  exact I.base.free b o ho (I.ok.Ln b hb) fun z=>I.ok.J_ b z hb
theorem Inv.step{g':Array GenState}{t':Nat}{d':Drawn}{ch:List Addr}(I:Inv X pins σ H s)
  (hch:∀b∈ch,(b∈X.ex∨X.s₀.heap.objs.size≤b)∧b≠X.env.locals∧(∀x c,X.env.cells.lookup x=some c→c≠b)∧∀p∈X.pn++pins,p.1≠b)
  (keep:∀b o,b≠X.env.locals→b ∉ X.fs→b ∉ ch→s.heap.get? b=some o→H b=none→h'.get? b=some o)
  (slot:∀b o,b≠X.env.locals→b∈X.fs→b ∉ ch→s.heap.get? b=some o→H b=none→∃sl,h'.get? b=some { o with slots:=sl }) (free:∀b o,b ∉ ch→s.heap.get? b=some o→H b=none→H' b=none)
  (there:∀b o,b ∉ ch→s.heap.get? b=some o→∃o',h'.get? b=some o')
  (tups:∀b xs,H b=some (.tup xs)→H' b=some (.tup xs)) (Jn:∀b o u,H b=some (.frz o u)→H' b=some (.frz o u)) (JD:∀b ps,H b=some (.MD ps)→∃more,H' b=some (.MD (ps++more)))
  (ns:∀m,s.heap.Ns X.env.locals m→h'.Ns X.env.locals m) (hok:Id X.prog X.w H' h') (hg:AllBare g') :
  Inv X pins σ H' { s with heap:=h',gens:=g',drawn:=d',toks:=t' }:=by
 have PX:∀b o,X.s₀.heap.get? b=some o→b≠X.env.locals:=fun b o e=>Nat.ne_of_lt (Nat.lt_of_lt_of_le (Heap.lt_size e) I.ok.above)
 have N8:∀b o,X.s₀.heap.get? b=some o→b ∉ X.ex→b ∉ ch:=fun b o e hx hb=>by
  rcases(hch b hb).1 with z|z
  ·exact hx z
  ·exact absurd (Nat.lt_of_lt_of_le (Heap.lt_size e) z) (Nat.lt_irrefl _)
 have cellK:∀x c,X.env.cells.lookup x=some c→∀v,s.heap.IsCell c v→h'.IsCell c v:=fun x c e v ⟨o,ho,hd⟩=>by
  have Nk:c ∉ ch:=fun z=>(hch c z).2.2.1 x c e rfl
  by_cases hc:c∈X.fs
  ·obtain⟨sl,q⟩:=slot c o (I.Lp x c e) hc Nk ho (I.Hu x c e)
   exact⟨_,q,hd⟩
  ·exact⟨o,keep c o (I.Lp x c e) hc Nk ho (I.Hu x c e),hd⟩
 refine⟨I.ok,I.os,hg,⟨fun b o e n hb hx=>?_,fun b o e n hb hx=>?_,fun b o e n hx=>?_,fun b o e hx=>?_,fun b xs e=>tups b xs (I.base.tups b xs e),fun b o xs e=>Jn b o xs (I.base.Jn b o xs e),fun b ps e=>?_⟩,?_,fun x c e=>?_,?_,fun x c e=>?_,fun p hp=>?_,hok,I.len⟩
 ·exact keep b o (PX b o e) hb (N8 b o e hx) (I.base.keep b o e n hb hx) (I.base.free b o e n hx)
 ·obtain⟨sl,e1⟩:=I.base.slot b o e n hb hx
  obtain⟨sl',e2⟩:=slot b _ (PX b o e) hb (N8 b o e hx) e1 (I.base.free b o e n hx)
  exact⟨sl',e2⟩
 ·obtain⟨o',e1⟩:=I.base.there b o e hx
  exact free b o' (N8 b o e hx) e1 (I.base.free b o e n hx)
 ·obtain⟨o',e1⟩:=I.base.there b o e hx
  exact there b o' (N8 b o e hx) e1
 ·obtain⟨m1,e1⟩:=I.base.JD b ps e
  obtain⟨m2,e2⟩:=JD b _ e1
  exact⟨m1++m2,by rw[e2,Array.append_assoc]⟩
 ·obtain⟨m,hn,hl⟩:=I.loc
  refine⟨m,ns m hn,fun i x v e1 e2 e3=>?_⟩
  obtain⟨u,r,l⟩:=hl i x v e1 e2 e3
  refine⟨u,r,?_⟩
  rcases l with l|⟨k,c,e,z⟩
  ·exact .inl l
  ·exact .inr ⟨k,c,e,cellK x c e _ z⟩
 ·obtain⟨v,z⟩:=I.cell x c e
  exact⟨v,cellK x c e v z⟩
 ·obtain⟨m,⟨o,_,_,ho,_⟩,_⟩:=I.loc
  exact free _ o (fun z=>(hch _ z).2.1 rfl) ho I.free
 ·obtain⟨v,o,ho,hd⟩:=I.cell x c e
  exact free c o (fun z=>(hch c z).2.2.1 x c e rfl) ho (I.Hu x c e)
 ·obtain⟨e,n,ne,nf,d⟩:=I.pin p hp
  have Nk:p.1 ∉ ch:=fun z=>(hch p.1 z).2.2.2 p hp rfl
  exact⟨keep p.1 p.2 ne nf Nk e n,free p.1 p.2 Nk e n,ne,nf,d⟩
theorem Inv.un{t':Nat}(I:Inv X pins σ H s)(u:Un X.fs [] H H' s.heap h')(hok:Id X.prog X.w H' h'):Inv X pins σ H' { s with heap:=h',toks:=t' }:=by
 obtain⟨m,⟨o,es,ep,ho,r⟩,_⟩:=id I.loc
 obtain⟨sl,hL⟩:=u.any ho I.free (by simp)
 exact I.step (g':=s.gens) (d':=s.drawn) (ch:=[]) (fun _ z=>nomatch z) (fun b o _ hb _ e n=>u.keep b o e n hb (by simp)) (fun b o _ hb _ e n=>u.slot b o e n hb (by simp)) (fun b o _ e n=>u.free b o e n (by simp)) (fun b o _ e=>u.there b o e (by simp)) u.tups u.Jn u.JD (fun m' hm=>by
  obtain⟨o',es',OD,ho',r'⟩:=hm
  rw[ho]at ho';cases ho'
  exact⟨_,es',OD,hL,r'⟩) hok I.bare
theorem Inv.call{g':Array GenState}{t':Nat}{d':Drawn}{ch:List Addr}(I:Inv X pins σ H s)(u:Un (frs X.stack) ch H H' s.heap h')(hok:Id X.prog X.w H' h')(hg:AllBare g')
  (hch:∀b∈ch,(b∈X.ex∨X.s₀.heap.objs.size≤b)∧b≠X.env.locals∧(∀x c,X.env.cells.lookup x=some c→c≠b)∧∀p∈X.pn++pins,p.1≠b) :
  Inv X pins σ H' { s with heap:=h',gens:=g',drawn:=d',toks:=t' }:=by
 obtain⟨m,⟨o,es,ep,ho,r⟩,_⟩:=id I.loc
 obtain⟨sl,hL⟩:=u.any ho I.free fun z=>(hch _ z).2.1 rfl
 exact I.step (ch:=ch) hch (fun b o hL hb hc e n=>u.keep b o e n (fun z=>(List.mem_cons.mp (I.Jp b z)).elim hL hb) hc) (fun b o _ _ hc e n=>u.any e n hc) (fun b o hc e n=>u.free b o e n hc) (fun b o hc e=>u.there b o e hc) u.tups u.Jn u.JD (fun m' hm=>by
  obtain⟨o',es',OD,ho',r'⟩:=hm
  rw[ho]at ho';cases ho'
  exact⟨_,es',OD,hL,r'⟩) hok hg
theorem Inv.turned{t':Nat}{it:Addr}(I:Inv X pins σ H s)(k:∀b o,b≠it→s.heap.get? b=some o→h'.get? b=some o)(hn:H it=none)(hL:it≠X.env.locals)
  (h1:it∈X.ex∨X.s₀.heap.objs.size≤it) (h2:∀x c,X.env.cells.lookup x=some c→c≠it) (h3:∀p∈X.pn++pins,p.1≠it):Inv X pins σ H { s with heap:=h',toks:=t' }:=by
 have Nl:∀b u,H b=some u→b≠it:=fun b u e z=>by rw[z,hn]at e;cases e
 refine I.step (g':=s.gens) (d':=s.drawn) (ch:=[it]) (fun b hb=>?_) (fun b o _ _ hc e _=>k b o (fun z=>hc (by simp[z])) e) (fun b o _ _ hc e _=>⟨o.slots,k b o (fun z=>hc (by simp[z])) e⟩) (fun _ _ _ _ n=>n)
  (fun b o hc e=>⟨o,k b o (fun z=>hc (by simp[z])) e⟩) (fun _ _ e=>e) (fun _ _ _ e=>e) (fun b ps e=>⟨#[],by rw[e];simp⟩) (fun m hm=>?_) (fun b u e=>?_) I.bare
 ·have e:b=it:=by simpa using hb
  subst e
  exact⟨h1,hL,h2,h3⟩
 ·obtain⟨o,es,ep,ho,r⟩:=hm
  exact⟨o,es,ep,k _ o (Ne.symm hL) ho,r⟩
 ·refine(I.hok b u e).stay (fun c v hc q=>k c v ?_ q) (fun _ q=>q) fun _ _ q=>q
  rcases hc with z|z
  ·rw[z];exact Nl b u e
  ·exact Nl c _ z
theorem Inv.tok(I:Inv X pins σ H s)(t:Nat):Inv X pins σ H { s with toks:=t }:=I.un (h':=s.heap) (t':=t) Un.refl I.hok
theorem Inv.kept{t':Nat}(I:Inv X pins σ H s)(k:∀b u,s.heap.get? b=some u→h'.get? b=some u):Inv X pins σ H { s with heap:=h',toks:=t' }:=I.un (Un.kept k) (I.hok.kept k)
theorem Inv.laid{a:Addr}{o:HO}{t':Nat}(I:Inv X pins σ H s)(k:∀b u,s.heap.get? b=some u→h'.get? b=some u)(hp:s.heap.objs.size≤a)(new:ObjOk X.prog X.w (upd H a o) h' a o) :
  Inv X pins σ (upd H a o) { s with heap:=h',toks:=t' }:=I.un (Un.laid k hp (I.hok.fresh hp)) (I.hok.laid k hp new)
theorem Inv.write{x e:Addr}{o:HO}{t':Nat}(I:Inv X pins σ H s)(mu:CF (H x))(he:e=x∨H e=some (.own x))(k:∀b u,b≠e→s.heap.get? b=some u→h'.get? b=some u)(Na:∃u,h'.get? e=some u)
  (new:ObjOk X.prog X.w (upd H x o) h' x o):Inv X pins σ (upd H x o) { s with heap:=h',toks:=t' }:=I.un (Un.write mu he k Na) (I.hok.write mu he k Na new)
theorem Inv.weak{σ':List (Option V)}(I:Inv X pins σ H s)(hl:σ'.length=σ.length)(w:∀(i:Nat) v,σ'[i]?=some (some v)→σ[i]?=some (some v)):Inv X pins σ' H s:=
 ⟨I.ok,I.os,I.bare,I.base,let ⟨m,hn,hl'⟩:=I.loc;⟨m,hn,fun i x v e1 e2 e3=>hl' i x v e1 (w i v e2) e3⟩,I.cell,I.free,I.Hu,I.pin,I.hok,hl.trans I.len⟩
theorem Inv.JL{pins':List (Addr×Obj)}(I:Inv X pins σ H s)(h:∀p∈pins',s.heap.get? p.1=some p.2∧H p.1=none∧p.1≠X.env.locals∧p.1 ∉ X.fs∧∀v,p.2.data ≠ .cell v):Inv X pins' σ H s:=
 ⟨I.ok,I.os,I.bare,I.base,I.loc,I.cell,I.free,I.Hu,fun p hp=>(List.mem_append.mp hp).elim (fun z=>I.pin p (List.mem_append_left _ z)) (h p),I.hok,I.len⟩
theorem kG{N:List Str}(hN:N.Nodup){i j:Nat}{x:Str}(a:N[i]?=some x)(b:N[j]?=some x):i=j:=by
 obtain⟨h1,e1⟩:=List.getElem?_eq_some_iff.mp a
 obtain⟨h2,e2⟩:=List.getElem?_eq_some_iff.mp b
 exact(List.getElem_inj hN).mp (e1.trans e2.symm)
theorem jm {M : Model} {A : Around} {E : Value → Shared → Prop} {i : Nat} {x : Str} {v : V} {u : Value} {Q : Unit → Shared → Prop} (I : Inv X pins σ H s) (hN : X.N.Nodup) (hi : X.N[i]? = some x) (hx : zK X.env.scope x) (r : RelV v u)
  (h : ∀ s', Inv X pins (σ.set i (some v)) H s' → (∃ a, Heap.SameBut a s.heap s'.heap ∧ (a = X.env.locals ∨ X.env.cells.lookup x = some a)) → Q () s') (hf : X.fn x = true ∨ X.env.scope.names.lookup x = some .local := by first | exact .inl rfl | exact .inr rfl | assumption) : wpAny M A (storeName X.env x u) Q E s := by
 obtain ⟨m, hn, hl⟩ := id I.loc
 have hcls : (X.env.scope.kind == .class || (X.env.scope.kind == .module && X.env.locals != X.env.globals)) = false := by rw [I.ok.kind]; rfl
 have PY : i < σ.length := by rw [I.len]; exact (List.getElem?_eq_some_iff.mp hi).1
 have Lp := I.Lp
 have tracked : ∀ {a : Addr} {h' : Heap}, (∃ o, s.heap.get? a = some o ∧ H a = none) → Heap.SameBut a s.heap h' → Id X.prog X.w H h' := fun {a h'} ha hs b ob e => by
  obtain ⟨_, _, hfree⟩ := ha
  refine (I.hok b ob e).stay (fun c w' hc q => (hs.2 c ?_).trans q) (fun _ q => q) fun _ _ q => q
  rintro rfl
  rcases hc with rfl | hc
  ·rw [hfree] at e; cases e
  ·rw [hfree] at hc; cases hc
 rcases hx with hk | hk
 ·refine wpAny_storeName_local hk hn (fun h' hn' hs => ?_) hcls
  obtain ⟨oL, _, _, QN, _⟩ := id hn
  refine h _ ⟨I.ok, I.os, I.bare, ⟨fun b o e n hb hx => ?_, fun b o e n hb hx => ?_, I.base.free, fun b o e hx => ?_, I.base.tups, I.base.Jn, I.base.JD⟩, ⟨_, hn', fun j y v' e1 e2 e3 => ?_⟩, fun y c e => ?_, I.free, I.Hu, fun p hp => ?_, tracked ⟨oL, QN, I.free⟩ hs, by simpa using I.len⟩ ⟨_, hs, .inl rfl⟩
  ·exact (hs.2 b (Nat.ne_of_lt (Nat.lt_of_lt_of_le (Heap.lt_size e) I.ok.above))).trans (I.base.keep b o e n hb hx)
  ·obtain ⟨sl, e1⟩ := I.base.slot b o e n hb hx
   exact ⟨sl, (hs.2 b (Nat.ne_of_lt (Nat.lt_of_lt_of_le (Heap.lt_size e) I.ok.above))).trans e1⟩
  ·obtain ⟨o', e1⟩ := I.base.there b o e hx
   exact ⟨o', (hs.2 b (Nat.ne_of_lt (Nat.lt_of_lt_of_le (Heap.lt_size e) I.ok.above))).trans e1⟩
  ·by_cases hj : j = i
   ·subst hj
    rw [hi] at e1; cases e1
    rw [List.getElem?_set_self PY] at e2
    cases e2
    exact ⟨u, r, .inl ⟨hk, by simp⟩⟩
   ·rw [List.getElem?_set_ne (Ne.symm hj)] at e2
    obtain ⟨u', r', q⟩ := hl j y v' e1 e2 e3
    refine ⟨u', r', ?_⟩
    rcases q with ⟨k, e⟩ | ⟨k, c, e, z⟩
    ·refine .inl ⟨k, ?_⟩
     have : y ≠ x := fun e => hj (kG hN e1 (e ▸ hi))
     simp [this, e]
    ·exact .inr ⟨k, c, e, z.sameBut hs (Lp y c e)⟩
  ·obtain ⟨w', z⟩ := I.cell y c e
   exact ⟨w', z.sameBut hs (Lp y c e)⟩
  ·obtain ⟨e, n, ne, nf, d⟩ := I.pin p hp
   exact ⟨(hs.2 p.1 ne).trans e, n, ne, nf, d⟩
 ·have hfn : X.fn x = true := by
   rcases hf with z | z
   ·exact z
   ·rw [z] at hk; cases hk
  obtain ⟨c, hc⟩ := I.ok.has x (.inl hk)
  obtain ⟨w', z⟩ := I.cell x c hc
  refine wpAny_storeName_cell I.ok.kind hk hc z (fun h' hc' hs => ?_)
  obtain ⟨oc, hoc, OE⟩ := id z
  refine h { s with heap := h' } ⟨I.ok, I.os, I.bare, ⟨fun b o e n hb hx => ?_, fun b o e n hb hx => ?_, I.base.free, fun b o e hx => ?_, I.base.tups, I.base.Jn, I.base.JD⟩, ⟨m, hn.sameBut hs (Ne.symm (Lp x c hc)), fun j y v' e1 e2 e3 => ?_⟩, fun y c' e => ?_, I.free, I.Hu, fun p hp => ?_, tracked ⟨oc, hoc, I.Hu x c hc⟩ hs, by simpa using I.len⟩ ⟨c, hs, .inr hc⟩
  ·exact (hs.2 b (Nat.ne_of_lt (Nat.lt_of_lt_of_le (Heap.lt_size e) (I.ok.LQ x c hfn hc)))).trans (I.base.keep b o e n hb hx)
  ·obtain ⟨sl, e1⟩ := I.base.slot b o e n hb hx
   exact ⟨sl, (hs.2 b (Nat.ne_of_lt (Nat.lt_of_lt_of_le (Heap.lt_size e) (I.ok.LQ x c hfn hc)))).trans e1⟩
  ·obtain ⟨o', e1⟩ := I.base.there b o e hx
   exact ⟨o', (hs.2 b (Nat.ne_of_lt (Nat.lt_of_lt_of_le (Heap.lt_size e) (I.ok.LQ x c hfn hc)))).trans e1⟩
  ·by_cases hj : j = i
   ·subst hj
    rw [hi] at e1; cases e1
    rw [List.getElem?_set_self PY] at e2
    cases e2
    exact ⟨u, r, .inr ⟨.inl hk, c, hc, hc'⟩⟩
   ·rw [List.getElem?_set_ne (Ne.symm hj)] at e2
    obtain ⟨u', r', q⟩ := hl j y v' e1 e2 e3
    refine ⟨u', r', ?_⟩
    rcases q with q | ⟨k, c', e, z'⟩
    ·exact .inl q
    ·refine .inr ⟨k, c', e, z'.sameBut hs ?_⟩
     rintro rfl
     exact hj (kG hN e1 (I.ok.inj _ _ _ e hc ▸ hi))
  ·by_cases hcc : c' = c
   ·subst hcc; exact ⟨_, hc'⟩
   ·obtain ⟨w2, z2⟩ := I.cell y c' e
    exact ⟨w2, z2.sameBut hs hcc⟩
  ·obtain ⟨e, n, ne, nf, d⟩ := I.pin p hp
   refine ⟨(hs.2 p.1 ?_).trans e, n, ne, nf, d⟩
   intro q
   rw [q, hoc] at e
   have q' : oc = p.2 := Option.some.inj e
   exact d w' (by rw [← q']; exact OE)
theorem df{M:Model}{A:Around}{E:Value→Shared→Prop}{i:Nat}{x:Str}{v:V}{u:Value}{Q:Unit→Shared→Prop}(I:Inv X pins σ H s)(hN:X.N.Nodup)(hi:X.N[i]?=some x)(hx:zK X.env.scope x)(r:RelV v u)
  (h:∀s',Inv X pins (σ.set i (some v)) H s'→Q () s') (hf:X.fn x=true∨X.env.scope.names.lookup x=some .local:=by first|exact .inl rfl|exact .inr rfl|assumption):wpAny M A (storeName X.env x u) Q E s:=
 jm I hN hi hx r (fun s' I' _=>h s' I') hf
theorem Inv.Ms{s':Shared}{ch:List Addr}(I:Inv X pins σ H s)(ho:s'.os=s.os)(u:Un (frs X.stack) ch H H' s.heap s'.heap)(hok:Id X.prog X.w H' s'.heap)(hg:AllBare s'.gens)
  (hch:∀b∈ch,(b∈X.ex∨X.s₀.heap.objs.size≤b)∧b≠X.env.locals∧(∀x c,X.env.cells.lookup x=some c→c≠b)∧∀p∈X.pn++pins,p.1≠b):Inv X pins σ H' s':=by
 obtain⟨h',g',d',t',o'⟩:=s'
 have e:o'=s.os:=ho
 subst e
 exact I.call (g':=g') (t':=t') (d':=d') u hok hg hch
end
abbrev XK:=Value→Option Addr→Hp→Prop
abbrev St:=List (Option V)
abbrev VK:=V→Hp→Prop
abbrev TE:=St→Hp→VK→Prop
abbrev TT:=St→Hp→(Bool→Hp→Prop)→Prop
abbrev TA:=St→Hp→(List V→Hp→Prop)→Prop
structure kj where
 nx:St→Hp→Prop
 rt:VK
 bk:St→Hp→Prop:=fun _ _=>False
 ct:St→Hp→Prop:=fun _ _=>False
abbrev TS:=kj→St→Hp→Prop
def EP(X:Cx)(pins:List (Addr×Obj))(σ:St)(Q:VK)(u:Value)(s':Shared):Prop:=∃v H',Inv X pins σ H' s'∧RelV v u∧Q v H'
def TP(X:Cx)(pins:List (Addr×Obj))(σ:St)(Q:Bool→Hp→Prop)(b:Bool)(s':Shared):Prop:=∃H',Inv X pins σ H' s'∧Q b H'
def AP(X:Cx)(pins:List (Addr×Obj))(σ:St)(Q:List V→Hp→Prop)(us:List Value)(s':Shared):Prop:=∃vs H',Inv X pins σ H' s'∧Vals vs us∧Q vs H'
def SP(X:Cx)(pins:List (Addr×Obj))(D:kj)(f:Flow)(s':Shared):Prop:=
 match f with
 | .next=>∃σ' H',Inv X pins σ' H' s'∧D.nx σ' H'
 | .brk=>∃σ' H',Inv X pins σ' H' s'∧D.bk σ' H'
 | .cont=>∃σ' H',Inv X pins σ' H' s'∧D.ct σ' H'
 | .ret u=>∃v σ' H',Inv X pins σ' H' s'∧RelV v u∧D.rt v H'
def PE(X:Cx)(e:Expr)(t:TE):Prop:=
 ∀(pins:List (Addr×Obj)) (s:Shared) (σ:St) (H:Hp) (Q:VK),Inv X pins σ H s→t σ H Q→wpAny (model X.prog X.w) X.A (eval e X.env) (EP X pins σ Q) X.xe s
def PT(X:Cx)(e:Expr)(t:TT):Prop:=
 ∀(pins:List (Addr×Obj)) (s:Shared) (σ:St) (H:Hp) (Q:Bool→Hp→Prop),Inv X pins σ H s→t σ H Q→wpAny (model X.prog X.w) X.A (isTrue e X.env (eval e X.env)) (TP X pins σ Q) X.xe s
def PW(X:Cx)(e:Expr)(t:TT):Prop:=
 ∀(whole:Sem Value) (pins:List (Addr×Obj)) (s:Shared) (σ:St) (H:Hp) (Q:Bool→Hp→Prop),Inv X pins σ H s→t σ H Q→wpAny (model X.prog X.w) X.A (isTrue e X.env whole) (TP X pins σ Q) X.xe s
theorem PW.pt{X:Cx}{e:Expr}{t:TT}(h:PW X e t):PT X e t:=h _
def PA(X:Cx)(es:List Expr)(t:TA):Prop:=
 ∀(pos:Pos) (pins:List (Addr×Obj)) (s:Shared) (σ:St) (H:Hp) (Q:List V→Hp→Prop),Inv X pins σ H s→t σ H Q→wpAny (model X.prog X.w) X.A (spliced (backTo pos (starEach es X.env))) (AP X pins σ Q) X.xe s
def PS(X:Cx)(st:Stmt)(t:TS):Prop:=
 ∀(pins:List (Addr×Obj)) (s:Shared) (σ:St) (H:Hp) (D:kj),Inv X pins σ H s→t D σ H→wpAny (model X.prog X.w) X.A (exec st X.env) (SP X pins D) X.xe s
def J4(X:Cx)(st:List Stmt)(t:TS):Prop:=
 ∀(pins:List (Addr×Obj)) (s:Shared) (σ:St) (H:Hp) (D:kj),Inv X pins σ H s→t D σ H→wpAny (model X.prog X.w) X.A (execs st X.env) (SP X pins D) X.xe s
theorem GJ{α:Type}{t:Sem α}{Q Q':α→Shared→Prop}{M:Model}{A:Around}{E:Value→Shared→Prop}{s:Shared}(h:wpAny M A t Q E s)(hQ:∀a s,Q a s→Q' a s):wpAny M A t Q' E s:=wpAny_mono h hQ fun _ _ x=>x
section
variable {X:Cx}
def sP(i:Nat):TE:=fun σ H Q=>∃v,σ[i]?=some (some v)∧Q v H
def tC(v:V):TE:=fun _ H Q=>Q v H
theorem uv{i:Nat}{x:Str}{pos:Pos}(hN:X.N[i]?=some x)(hv:CG X.env.scope x)(hd:(x == ("__debug__":Str))=false:=by decide)(hcd:(x == ("__classdict__":Str))=false:=by decide):PE X (.Name x pos) (sP i):=by
 intro pins s σ H Q I h
 obtain⟨v,e,h⟩:=h
 obtain⟨m,hn,hl⟩:=I.loc
 obtain⟨u,r,l⟩:=hl i x v hN e hv
 have fin:EP X pins σ Q u s:=⟨v,H,I,r,h⟩
 rcases l with⟨hk,hm⟩|⟨hk,c,hc,hcell⟩
 ·exact wpAny_Name (wpAny_loadName_local I.ok.kind hk hn hm fin) hd
 ·rcases hk with hk|hk
  ·exact wpAny_Name (wpAny_loadName_cell I.ok.kind hk hc hcell fin) hd
  ·exact wpAny_Name (wpAny_loadName_free I.ok.kind hk hc hcell fin hcd) hd
theorem Ao{i j pos}:PE X (.Constant (.int i) j pos) (tC (.int i)):=fun _ _ _ H _ I h=>wpAny_Constant_int ⟨.int i,H,I.tok _,⟨_,rfl⟩,h⟩
theorem CH{b j pos}:PE X (.Constant (.bool b) j pos) (tC (.bl b)):=fun _ _ _ H _ I h=>Constant_bool ⟨.bl b,H,I,rfl,h⟩
theorem Ap{j pos}:PE X (.Constant .none j pos) (tC .non):=fun _ _ _ H _ I h=>Constant_none ⟨.non,H,I,rfl,h⟩
theorem Aq{x j pos}:PE X (.Constant (.str x) j pos) (tC (.str x)):=fun _ _ _ H _ I h=>Calls.Constant_str ⟨.str x,H,I.tok _,⟨_,rfl⟩,h⟩
def Gl(X:Cx)(x:Str):Prop:=X.env.kindOf x=some .globalImplicit
theorem gL{E:Value→Shared→Prop}{pins:List (Addr×Obj)}{s:Shared}{σ:St}{H:Hp}{x:Str}{u:Value}{pos:Pos}{Q:Value→Shared→Prop}(I:Inv X pins σ H s)(hg:Gl X x)(hm:X.mg x=some u)(h:Q u s)
  (hd:(x == ("__debug__":Str))=false:=by decide):wpAny (model X.prog X.w) X.A (eval (.Name x pos) X.env) Q E s:=
 Calls.Name_function_global I.ok.kind hg (Calls.loadGlobal_global (by rw[I.ok.glob];exact I.mod.glob.keeps I.bk) hm h) hd
theorem fM{E:Value→Shared→Prop}{pins:List (Addr×Obj)}{s:Shared}{σ:St}{H:Hp}{x:Str}{u:Value}{pos:Pos}{Q:Value→Shared→Prop}(I:Inv X pins σ H s)(hg:Gl X x)(hm:X.mg x=none)(hv:bootBuiltins x=some u)(h:Q u s)
  (hn:x ≠ "__name__":=by decide) (hd:(x == ("__debug__":Str))=false:=by decide):wpAny (model X.prog X.w) X.A (eval (.Name x pos) X.env) Q E s:=by
 obtain⟨mb,h1,h2⟩:=I.mod.blt
 exact Calls.Name_function_global I.ok.kind hg (Calls.loadGlobal_builtin (by rw[I.ok.glob];exact I.mod.glob.keeps I.bk) hm (by rw[I.ok.blt];exact h1.keeps I.bk) ((h2 x hn).trans hv) h) hd
theorem xP{x:Str}{v:V}{u:Value}{pos:Pos}(hg:Gl X x)(hm:X.mg x=some u)(r:RelV v u)(hd:(x == ("__debug__":Str))=false:=by decide):PE X (.Name x pos) (tC v):=
 fun _ _ _ H _ I h=>gL I hg hm ⟨v,H,I,r,h⟩ hd
theorem xQ{x:Str}{v:V}{u:Value}{pos:Pos}(hg:Gl X x)(hm:X.mg x=none)(hv:bootBuiltins x=some u)(r:RelV v u)(hn:x ≠ "__name__":=by decide)(hd:(x == ("__debug__":Str))=false:=by decide):PE X (.Name x pos) (tC v):=
 fun _ _ _ H _ I h=>fM I hg hm hv ⟨v,H,I,r,h⟩ hn hd
variable {a b:Expr} {ta tb:TE} {pos:Pos}
def tB(t:TE):TT:=fun σ H Q=>t σ H fun x H1=>∃c,x = .bl c∧Q c H1
theorem Ar{e:Expr}{t:TE}(h:PE X e t)(he:∀whole,isTrue e X.env whole=(do let v ←whole;standAt e.pos;holding [v] (truthy v)):=by intro _;rfl):PT X e (tB t):=by
 intro pins s σ H Q I hw
 refine isTrue_plain (GJ (h pins s σ H _ I hw) fun v s1 ⟨x,H1,I1,r1,q1⟩=>?_) (he _)
 obtain⟨d,rfl,q⟩:=q1
 cases r1
 exact wpAny_truthy_bool ⟨H1,I1,q⟩
variable {tA N9:TT} {rest:List Expr}
def ED(t u:TT):TT:=fun σ H Q=>t σ H fun c H1=>if c=true then u σ H1 Q else Q false H1
def FW(t u:TT):TT:=fun σ H Q=>t σ H fun c H1=>if c=true then Q true H1 else u σ H1 Q
def EE(t:TT):TT:=fun σ H Q=>t σ H fun c H1=>Q (!c) H1
theorem xR(ha:PT X a tA):PW X (.BoolOp .And [a] pos) tA:=by
 intro wh pins s σ H Q I h
 refine isTrue_and (GJ (ha pins s σ H Q I h) fun c s1 e=>?_)
 cases c with
 |true=>exact isTrue_and_nil e
 |false=>exact e
theorem As(ha:PT X a tA):PW X (.BoolOp .Or [a] pos) tA:=by
 intro wh pins s σ H Q I h
 refine isTrue_or (GJ (ha pins s σ H Q I h) fun c s1 e=>?_)
 cases c with
 |false=>exact isTrue_or_nil e
 |true=>exact e
theorem Au(ha:PT X a tA)(hb:PW X (.BoolOp .And (b::rest) pos) N9):PW X (.BoolOp .And (a::b::rest) pos) (ED tA N9):=by
 intro wh pins s σ H Q I h
 refine isTrue_and (GJ (ha pins s σ H _ I h) fun c s1 ⟨H1,I1,q1⟩=>?_)
 cases c with
 |true=>exact hb wh pins s1 σ H1 Q I1 q1
 |false=>exact⟨H1,I1,q1⟩
theorem CI(ha:PT X a tA)(hb:PW X (.BoolOp .Or (b::rest) pos) N9):PW X (.BoolOp .Or (a::b::rest) pos) (FW tA N9):=by
 intro wh pins s σ H Q I h
 refine isTrue_or (GJ (ha pins s σ H _ I h) fun c s1 ⟨H1,I1,q1⟩=>?_)
 cases c with
 |true=>exact⟨H1,I1,q1⟩
 |false=>exact hb wh pins s1 σ H1 Q I1 q1
theorem Av(ha:PT X a tA):PT X (.UnaryOp .Not a pos) (EE tA):=by
 intro pins s σ H Q I h
 exact isTrue_not (ha pins s σ H (fun c H1=>Q (!c) H1) I h)
def FX(t:TT)(ta tb:TE):TE:=fun σ H Q=>t σ H fun c H1=>if c=true then ta σ H1 Q else tb σ H1 Q
theorem ux{c:Expr}(hc:PT X c tA)(ha:PE X a ta)(hb:PE X b tb):PE X (.IfExp c a b pos) (FX tA ta tb):=by
 intro pins s σ H Q I h
 refine wpAny_IfExp (GJ (hc pins s σ H _ I h) fun d s1 ⟨H1,I1,q1⟩=>?_)
 cases d with
 |true=>exact ha pins s1 σ H1 Q I1 q1
 |false=>exact hb pins s1 σ H1 Q I1 q1
end
def SqL(K:PySem.W.Frag)(H:Hp)(a:Addr)(xs:List V):Prop:=
 Rd H a (.lst xs) ∨
  ∃(o:Obj) (its:Array Value) (n:Nat),K.lookup a=some o∧o.cls = .type "list"∧o.dict=none∧o.data = .seq its n∧its.size≤sizeLine∧Vals xs its.toList
def G3(K:PySem.W.Frag)(H:Hp)(a:Addr)(xs:List V):Prop:=
 Rd H a (.tup xs) ∨
  ∃(o:Obj) (its:Array Value) (n:Nat),K.lookup a=some o∧o.cls = .type "tuple"∧o.dict=none∧o.data = .seq its n∧its.size≤sizeLine∧Vals xs its.toList
noncomputable def EF:Value→Option V
 | .none=>some .non
 | .bool b=>some (.bl b)
 | .int i _=>some (.int i)
 | .str x _=>some (.str x)
 | .bytes b _=>some (.Lm b)
 | .float b _=>some (.M_ b)
 | .ref a=>some (.ref a)
 | .type n=>some (.ty n)
 |_=>none
theorem RelV.abs{x:V}{u:Value}(r:RelV x u):EF u=some x:=by
 cases x with
 |non=>cases r;rfl
 |bl _=>cases r;rfl
 |int _=>obtain⟨t,rfl⟩:=r;rfl
 |str _=>obtain⟨t,rfl⟩:=r;rfl
 |Lm _=>obtain⟨t,rfl⟩:=r;rfl
 |M_ _=>obtain⟨t,rfl⟩:=r;rfl
 |ref _=>cases r;rfl
 |ty _=>cases r;rfl
theorem RelV.inj{x y:V}{u:Value}(r:RelV x u)(q:RelV y u):x=y:=Option.some.inj (r.abs.symm.trans q.abs)
theorem Vals.inj:∀{xs ys:List V} {us:List Value},Vals xs us→Vals ys us→xs=ys
 |_,_,_,.nil,.nil=>rfl
 |_,_,_,.cons r t,.cons r' t'=>by rw[r.inj r',Vals.inj t t']
section
variable {X:Cx} {pins:List (Addr×Obj)} {σ:St} {H:Hp} {s:Shared} {a:Addr} {xs ys:List V}
theorem SqL.of{K:PySem.W.Frag}(h:H a=some (.lst xs)):SqL K H a xs:=.inl (.inl h)
theorem G3.of{K:PySem.W.Frag}(h:H a=some (.tup xs)):G3 K H a xs:=.inl (.inl h)
theorem Inv.list(I:Inv X pins σ H s)(h:SqL X.K H a xs):∃its:List Value,Vals xs its∧PlainL s.heap a its.toArray∧xs.length≤sizeLine:=by
 rcases h with h|⟨o,its,n,hk,hc,hd,hs,hz,r⟩
 ·obtain⟨z,its,n,r,e⟩:=h.ok I.hok
  exact⟨its,r,⟨_,n,e,rfl,rfl,rfl⟩,z⟩
 ·refine⟨its.toList,r,⟨o,n,I.Jo a o hk,hc,hd,by simpa using hs⟩,?_⟩
  have e:=r.length
  simp only[Array.length_toList]at e
  omega
theorem Inv.tuple(I:Inv X pins σ H s)(h:G3 X.K H a xs):∃its:List Value,Vals xs its∧IsTup s.heap a its.toArray∧xs.length≤sizeLine:=by
 rcases h with h|⟨o,its,n,hk,hc,_,hs,hz,r⟩
 ·obtain⟨z,its,r,p⟩:=h.ok I.hok
  exact⟨its,r,p.tup,z⟩
 ·refine⟨its.toList,r,⟨o,I.Jo a o hk,hc,n,by simpa using hs⟩,?_⟩
  have e:=r.length
  simp only[Array.length_toList]at e
  omega
theorem Inv.Lq(I:Inv X pins σ H s)(h:SqL X.K H a xs)(h':SqL X.K H a ys):xs=ys:=by
 obtain⟨its,r,⟨o,n,e,_,_,d⟩,_⟩:=I.list h
 obtain⟨its',r',⟨o',n',e',_,_,d'⟩,_⟩:=I.list h'
 rw[e]at e';cases e'
 rw[d]at d'
 injection d' with d1 _
 have:its=its':=by simpa using congrArg Array.toList d1
 subst this
 exact r.inj r'
theorem Inv.Hx(I:Inv X pins σ H s)(h:G3 X.K H a xs)(h':G3 X.K H a ys):xs=ys:=by
 obtain⟨its,r,⟨o,e,_,n,d⟩,_⟩:=I.tuple h
 obtain⟨its',r',⟨o',e',_,n',d'⟩,_⟩:=I.tuple h'
 rw[e]at e';cases e'
 rw[d]at d'
 injection d' with d1 _
 have:its=its':=by simpa using congrArg Array.toList d1
 subst this
 exact r.inj r'
end
noncomputable abbrev Cx.wish(X:Cx)(E:Value→Shared→Prop):Cx:={ X with xe:=E }
noncomputable abbrev Cx.Ld(X:Cx):Cx:=X.wish fun _ _=>False
theorem Cx.Ok.wish{X:Cx}(ok:X.Ok)(E:Value→Shared→Prop):(X.wish E).Ok:=
 ⟨ok.mod,ok.kind,ok.glob,ok.blt,ok.above,ok.inj,ok.has,ok.LQ,ok.hd,ok.frames,ok.stk,ok.MG,ok.bs,ok.KU,ok.J5,ok.J_,ok.Ix,ok.Ln⟩
theorem Cx.Ok.HL{X:Cx}{E:Value→Shared→Prop}(ok:(X.wish E).Ok):X.Ok:=
 ⟨ok.mod,ok.kind,ok.glob,ok.blt,ok.above,ok.inj,ok.has,ok.LQ,ok.hd,ok.frames,ok.stk,ok.MG,ok.bs,ok.KU,ok.J5,ok.J_,ok.Ix,ok.Ln⟩
section
variable {X:Cx} {pins:List (Addr×Obj)} {σ:St} {H:Hp} {s:Shared} {E:Value→Shared→Prop}
theorem Inv.wish(I:Inv X pins σ H s)(E:Value→Shared→Prop):Inv (X.wish E) pins σ H s:=⟨I.ok.wish E,I.os,I.bare,I.base,I.loc,I.cell,I.free,I.Hu,I.pin,I.hok,I.len⟩
theorem Inv.HL(I:Inv (X.wish E) pins σ H s):Inv X pins σ H s:=⟨I.ok.HL,I.os,I.bare,I.base,I.loc,I.cell,I.free,I.Hu,I.pin,I.hok,I.len⟩
theorem SP.HL{D:kj}{f:Flow}{s':Shared}(h:SP (X.wish E) pins D f s'):SP X pins D f s':=by
 cases f with
 |next=>obtain⟨σ',H',I,q⟩:=h;exact⟨σ',H',I.HL,q⟩
 |brk=>obtain⟨σ',H',I,q⟩:=h;exact⟨σ',H',I.HL,q⟩
 |cont=>obtain⟨σ',H',I,q⟩:=h;exact⟨σ',H',I.HL,q⟩
 |ret u=>obtain⟨v,σ',H',I,r,q⟩:=h;exact⟨v,σ',H',I.HL,r,q⟩
theorem PE.Ld{e:Expr}{t:TE}(h:PE X.Ld e t):PE X e t:=fun pins s σ H Q I hw=>
 wpAny_mono (h pins s σ H Q (I.wish _) hw) (fun _ _ ⟨v,H',I',r,q⟩=>⟨v,H',I'.HL,r,q⟩) fun _ _ z=>False.elim z
theorem PT.Ld{e:Expr}{t:TT}(h:PT X.Ld e t):PT X e t:=fun pins s σ H Q I hw=>
 wpAny_mono (h pins s σ H Q (I.wish _) hw) (fun _ _ ⟨H',I',q⟩=>⟨H',I'.HL,q⟩) fun _ _ z=>False.elim z
theorem J4.Ld{st:List Stmt}{t:TS}(h:J4 X.Ld st t):J4 X st t:=fun pins s σ H D I hw=>
 wpAny_mono (h pins s σ H D (I.wish _) hw) (fun _ _ q=>q.HL) fun _ _ z=>False.elim z
end
section
variable {X:Cx} {st:Stmt} {rest:List Stmt} {t u:TS} {e:Expr} {te:TE} {pos:Pos}
def CJ:TS:=fun D σ H=>D.nx σ H
def EG(t u:TS):TS:=fun D σ H=>t { D with nx:=u D } σ H
theorem xS:J4 X [] CJ:=fun _ _ σ H _ I h=>wpAny_execs_nil ⟨σ,H,I,h⟩
theorem uy(h1:PS X st t)(h2:J4 X rest u):J4 X (st::rest) (EG t u):=by
 intro pins s σ H D I h
 refine wpAny_execs_cons (GJ (h1 pins s σ H { D with nx:=u D } I h) fun f s1 q=>?_)
 cases f with
 |next=>
  obtain⟨σ',H',I',q⟩:=q
  exact h2 pins s1 σ' H' D I' q
 |ret v=>exact q
 |brk=>exact q
 |cont=>exact q
theorem mV(h1:PS X st t):J4 X [st] t:=by
 intro pins s σ H D I h
 refine wpAny_execs_cons (GJ (h1 pins s σ H D I h) fun f s1 q=>?_)
 cases f with
 |next=>exact wpAny_execs_nil q
 |ret v=>exact q
 |brk=>exact q
 |cont=>exact q
theorem Inv.quiet{pins:List (Addr×Obj)}{σ:St}{H:Hp}{s:Shared}(I:Inv X pins σ H s):interactive X.env=false:=by simp[interactive,I.ok.kind]
def CK(te:TE):TS:=fun D σ H=>te σ H fun _ H1=>D.nx σ H1
theorem xT(he:PE X e te)(hs:swapsWith e none pos.line X.env=pure false:=by rfl):PS X (.Expr e pos) (CK te):=by
 intro pins s σ H D I h
 exact wpAny_Expr_any (GJ (he pins s σ H _ I h) fun v s1 ⟨x,H1,I1,r1,q1⟩=>⟨σ,H1,I1,q1⟩) I.quiet hs
def EH(te:TE):TS:=fun D σ H=>te σ H D.rt
theorem Aw(he:PE X e te):PS X (.Return (some e) pos) (EH te):=by
 intro pins s σ H D I h
 exact wpAny_Return_some (GJ (he pins s σ H _ I h) fun v s1 ⟨x,H1,I1,r1,q1⟩=>⟨x,σ,H1,I1,r1,q1⟩)
def CL:TS:=fun D _ H=>D.rt .non H
theorem xU:PS X (.Return none pos) CL:=fun _ _ σ H _ I h=>wpAny_Return_none ⟨.non,σ,H,I,rfl,h⟩
def EI(c:TT)(t u:TS):TS:=fun D σ H=>c σ H fun b H1=>if b=true then t D σ H1 else u D σ H1
theorem CM{c:Expr}{a b:List Stmt}{tc:TT}(hc:PT X c tc)(ha:J4 X a t)(hb:J4 X b u):PS X (.If c a b pos) (EI tc t u):=by
 intro pins s σ H D I h
 refine wpAny_If (GJ (hc pins s σ H _ I h) fun d s1 ⟨H1,I1,q1⟩=>?_)
 cases d with
 |true=>exact ha pins s1 σ H1 D I1 q1
 |false=>exact hb pins s1 σ H1 D I1 q1
end
abbrev TG:=V→St→Hp→(St→Hp→Prop)→Prop
abbrev zL:=List V→St→Hp→(St→Hp→Prop)→Prop
def PG(X:Cx)(target:Expr)(t:TG):Prop:=
 ∀(pins:List (Addr×Obj)) (s:Shared) (σ:St) (H:Hp) (v:V) (u:Value) (Q:St→Hp→Prop),Inv X pins σ H s→RelV v u→t v σ H Q→
  wpAny (model X.prog X.w) X.A (assign target X.env u) (fun _ s'=>∃σ' H',Inv X pins σ' H' s'∧Q σ' H') X.xe s
def CN(X:Cx)(ts:List Expr)(t:zL):Prop:=
 ∀(pins:List (Addr×Obj)) (s:Shared) (σ:St) (H:Hp) (vs:List V) (us:List Value) (Q:St→Hp→Prop),Inv X pins σ H s→Vals vs us→t vs σ H Q→
  wpAny (model X.prog X.w) X.A (assignInOrder ((assignEach ts X.env).map (·.2)) us) (fun _ s'=>∃σ' H',Inv X pins σ' H' s'∧Q σ' H') X.xe s
abbrev Ax:=V→V→V→Hp→(Hp→Prop)→Prop
def xV(X:Cx)(t:Ax):Prop:=
 ∀(pins:List (Addr×Obj)) (s:Shared) (σ:St) (H:Hp) (o i v:V) (ov iv u:Value) (Q:Hp→Prop),Inv X pins σ H s→RelV o ov→RelV i iv→RelV v u→t o i v H Q→
  wpAny (model X.prog X.w) X.A (setItem ov iv u) (fun _ s'=>∃H',Inv X pins σ H' s'∧Q H') X.xe s
section
variable {X:Cx} {pos:Pos}
def oM(i:Nat):TG:=fun v σ H Q=>Q (σ.set i (some v)) H
theorem xW{i:Nat}{x:Str}(hN:X.N.Nodup)(hi:X.N[i]?=some x)(hx:zK X.env.scope x)(hf:X.fn x=true∨X.env.scope.names.lookup x=some .local:=by first|exact .inl rfl|exact .inr rfl|assumption):PG X (.Name x pos) (oM i):=by
 intro pins s σ H v u Q I r h
 exact wpAny_assign_Name (df I hN hi hx r (fun s' I'=>⟨_,H,I',h⟩) hf)
noncomputable def CO:zL:=fun vs σ H Q=>vs=[]∧Q σ H
noncomputable def zM(t:TG)(u:zL):zL:=fun vs σ H Q=>∃v r,vs=v::r∧t v σ H fun σ' H'=>u r σ' H' Q
theorem xX:CN X [] CO:=by
 intro pins s σ H vs us Q I r h
 obtain⟨e,h⟩:=h
 subst e
 cases r
 exact assignInOrder_nil ⟨σ,H,I,h⟩
theorem uz{e:Expr}{es:List Expr}{t:TG}{u:zL}(h1:PG X e t)(h2:CN X es u)
  (hs:(assignEach (e::es) X.env).map (·.2)=assign e X.env::(assignEach es X.env).map (·.2):=by rfl):CN X (e::es) (zM t u):=by
 intro pins s σ H vs us Q I r h
 obtain⟨v,vr,e1,h⟩:=h
 subst e1
 cases r with
 |cons r rr=>
  rw[hs]
  refine assignInOrder_cons (GJ (h1 pins s σ H _ _ _ I r h) fun _ s1 ⟨σ1,H1,I1,q1⟩=>?_)
  exact h2 pins s1 σ1 H1 _ _ Q I1 rr q1
def CP(K:PySem.W.Frag)(n:Nat)(t:zL):TG:=fun v σ H Q=>∃a xs,v = .ref a∧G3 K H a xs∧xs.length=n∧t xs σ H Q
theorem Ay{es:List Expr}{k:Nat}{t:zL}{n:Nat}(hc:X.calm=true)(h:CN X es t)
  (hn:(assignEach es X.env).length=n:=by rfl) (hst:(assignEach es X.env).findIdx? (·.1)=none:=by rfl):PG X (.Tuple es k pos) (CP X.K n t):=by
 intro pins s σ H v u Q I r hw
 obtain⟨a,xs,e1,hq,hl,hw⟩:=hw
 subst e1
 cases r
 obtain⟨its,rv,ht,hz⟩:=I.tuple hq
 refine assign_Tuple_tuple (I.ok.hd hc) ht (by simp[hn,←hl,rv.length]) hst fun h' hx=>?_
 have I1:Inv X pins σ H { s with heap:=h' }:=I.kept (t':=s.toks) fun b o e=>hx b o (Nat.ne_of_lt (Heap.lt_size e)) e
 exact h pins _ σ H xs _ Q I1 (by simpa using rv) hw
def EJ(to ti:TE)(t:Ax):TG:=fun v σ H Q=>to σ H fun o H1=>ti σ H1 fun i H2=>t o i v H2 fun H3=>Q σ H3
theorem Az{o i:Expr}{to ti:TE}{t:Ax}(ho:PE X o to)(hi:PE X i ti)(hs:xV X t)
  (ha:∀v,assign (.Subscript o i pos) X.env v=(do
   let ov ←holding [v] (eval o X.env)
   let iv ←holding [v,ov] (eval i X.env)
   standAt pos
   holding [v,ov,iv] (setItem ov iv v)
   release [v,ov,iv] []):=by intro _;rfl):PG X (.Subscript o i pos) (EJ to ti t):=by
 intro pins s σ H v u Q I r h
 rw[ha]
 refine wpAny_bind (wpAny_holding (GJ (ho pins s σ H _ I h) fun ov s1 ⟨x,H1,I1,r1,q1⟩=>?_))
 refine wpAny_bind (wpAny_holding (GJ (hi pins s1 σ H1 _ I1 q1) fun iv s2 ⟨y,H2,I2,r2,q2⟩=>?_))
 refine wpAny_bind (wpAny_standAt (wpAny_bind (wpAny_holding (GJ (hs pins s2 σ H2 x y v ov iv u _ I2 r1 r2 r q2) fun _ s3 ⟨H3,I3,q3⟩=>?_))))
 exact wpAny_release ⟨σ,H3,I3,q3⟩
def xY(te:TE)(g:TG):TS:=fun D σ H=>te σ H fun x H1=>g x σ H1 D.nx
theorem AA{tg e:Expr}{te:TE}{g:TG}(he:PE X e te)(hg:PG X tg g)(hs:swapsWithSole [tg] e pos.line X.env=pure false:=by rfl)(hw:swappedStores [tg] e X.env=pure none:=by rfl)
  (h1:(assignEach [tg] X.env).map (·.2)=[assign tg X.env]:=by rfl):PS X (.Assign [tg] e pos) (xY te g):=by
 intro pins s σ H D I h
 refine wpAny_Assign_stores (GJ (he pins s σ H _ I h) fun v s1 ⟨x,H1,I1,r1,q1⟩=>?_) hs hw
 rw[h1]
 exact GJ (hg pins s1 σ H1 x v _ I1 r1 q1) fun _ s2 q=>q
theorem AB{i:Nat}{x:Str}{e:Expr}{te:TE}{pos':Pos}(hN:X.N.Nodup)(hi:X.N[i]?=some x)(hx:zK X.env.scope x)(he:PE X e te)(hs:swapsWith e (some (.Name x pos')) pos.line X.env=pure false:=by rfl)(hf:X.fn x=true∨X.env.scope.names.lookup x=some .local:=by first|exact .inl rfl|exact .inr rfl|assumption) :
  PS X (.Assign [.Name x pos'] e pos) (xY te (oM i)):=by
 intro pins s σ H D I h
 refine wpAny_Assign_Name (GJ (he pins s σ H _ I h) fun v s1 ⟨y,H1,I1,r1,q1⟩=>?_) hs
 exact df I1 hN hi hx r1 (fun s2 I2=>⟨_,H1,I2,q1⟩) hf
def EK(i j:Nat)(ta:TA):TS:=fun D σ H=>ta σ H fun vs H1=>∃v w,vs=[v,w]∧D.nx ((σ.set i (some v)).set j (some w)) H1
theorem AC{i j:Nat}{x y:Str}{a b:Expr}{ta:TA}{px py pt:Pos}{kt k2 MH}(hc:X.calm=true)(hN:X.N.Nodup)(hi:X.N[i]?=some x)(hj:X.N[j]?=some y)(hij:i≠j)
  (hx:X.env.scope.names.lookup x=some .local) (hy:X.env.scope.names.lookup y=some .local) (ha:PA X [a,b] ta)
  (hw:swappedStores [.Tuple [.Name x px,.Name y py] kt pt] (.Tuple [a,b] k2 MH) X.env=pure (some [x,y]))
  (hs:swapsWithSole [.Tuple [.Name x px,.Name y py] kt pt] (.Tuple [a,b] k2 MH) pos.line X.env=pure false:=by rfl) :
  PS X (.Assign [.Tuple [.Name x px,.Name y py] kt pt] (.Tuple [a,b] k2 MH) pos) (EK i j ta):=by
 intro pins s σ H D I h
 rw[exec_Assign_arm]
 refine wpAny_bind (wpAny_standAt ?_)
 rw[hs]
 refine wpAny_bind (wpAny_pure ?_)
 rw[if_neg (by decide)]
 refine wpAny_bind (Tuple_ (GJ (ha _ pins s σ H _ I h) fun us s1 ⟨vs,H1,I1,r1,q1⟩=>?_))
 obtain⟨v,w,e1,q1⟩:=q1
 subst e1
 obtain⟨u1,u2,rfl,rv,rw'⟩:∃u1 u2,us=[u1,u2]∧RelV v u1∧RelV w u2:=by
  cases r1 with
  |cons p q=>
   cases q with
   |cons p' q'=>
    cases q'
    exact⟨_,_,rfl,p,p'⟩
 refine wpAny_newObj_type ?_ (by show 2≤sizeLine;decide)
 have I2:Inv X pins σ H1 { s1 with heap:=s1.heap.push { cls:=.type "tuple",data:=.seq [u1,u2].toArray } }:=I1.kept (t':=s1.toks) fun b o e=>Heap.get?_push_of_some _ e
 rw[hw]
 refine wpAny_bind (wpAny_pure ?_)
 show wpAny (model X.prog X.w) X.A (do rule "assign.swapped-stores"; let items ←unpackItems (.ref s1.heap.objs.size) 2 none;assignInOrder [fun v=>bindName X.env y v,fun v=>bindName X.env x v] items.reverse;pure Flow.next) _ _ _
 refine wpAny_bind (wpAny_rule (wpAny_bind (unpackItems_tuple (items:=#[u1,u2]) (I.ok.hd hc) (IsTup.new s1.heap _) fun h' hx'=>?_)))
 have I3:=I2.kept (h':=h') (t':=s1.toks) fun b o e=>hx' b o (Nat.ne_of_lt (Heap.lt_size e)) e
 show wpAny _ _ (assignInOrder [fun v=>bindName X.env y v,fun v=>bindName X.env x v] [u2,u1] >>= fun _=>pure Flow.next) _ _ _
 refine wpAny_bind (assignInOrder_cons (wpAny_bindName (df I3 hN hj (.inl hy) rw' (fun s2 I4=>?_) (.inr hy))))
 refine assignInOrder_cons (wpAny_bindName (df I4 hN hi (.inl hx) rv (fun s3 I5=>assignInOrder_nil (wpAny_pure ?_)) (.inr hx)))
 rw[List.set_comm _ _ (Ne.symm hij)]at I5
 exact⟨_,H1,I5,q1⟩
end
section
variable {X:Cx} {pos:Pos}
def AD(c:TT)(tb:TS):TS:=fun D σ H=>∃W:Nat→St→Hp→Prop,(∃m,W m σ H)∧∀m σ H,W m σ H→
 c σ H fun b H1=>if b=true then ∃N:St→Hp→Prop,(∀σ' H',N σ' H'→∃m',m' < m∧W m' σ' H')∧tb { D with nx:=N,ct:=N,bk:=D.nx } σ H1 else D.nx σ H1
theorem uA{c:Expr}{body:List Stmt}{tc:TT}{tb:TS}(hp:PassesOwn (model X.prog X.w) X.A X.env X.xe)(hc:PT X c tc)(hb:J4 X body tb):PS X (.While c body [] pos) (AD tc tb):=by
 intro pins s σ H D I h
 obtain⟨W,⟨m0,w0⟩,turn⟩:=h
 refine wpAny_While (codeAny_whileLoop (fun n s'=>∃σ' H',Inv X pins σ' H' s'∧W n σ' H') ?_ m0 ⟨σ,H,I,w0⟩)
 rintro n s1 ⟨σ1,H1,I1,w1⟩
 refine wpAny_passesOwn hp (GJ (hc pins s1 σ1 H1 _ I1 (turn n σ1 H1 w1)) fun b s2 ⟨H2,I2,q2⟩=>?_)
 cases b with
 |true=>
  obtain⟨N,hN,q2⟩:=q2
  rw[if_pos rfl]
  refine wpAny_passesOwn hp (GJ (hb pins s2 σ1 H2 _ I2 q2) fun f s3 q3=>?_)
  cases f with
  |next=>
   obtain⟨σ3,H3,I3,n3⟩:=q3
   obtain⟨m',hm,w3⟩:=hN σ3 H3 n3
   exact⟨m',hm,σ3,H3,I3,w3⟩
  |cont=>
   obtain⟨σ3,H3,I3,n3⟩:=q3
   obtain⟨m',hm,w3⟩:=hN σ3 H3 n3
   exact⟨m',hm,σ3,H3,I3,w3⟩
  |brk=>exact q3
  |ret v=>exact q3
 |false=>
  rw[if_neg Bool.false_ne_true]
  exact wpAny_execs_nil ⟨σ1,H2,I2,q2⟩
end
structure It where
 go:Nat→Hp→Prop
 N_:Nat→Hp→V→Hp→Prop
 stop:Nat→Hp→Prop
def Hg(X:Cx)(pins:List (Addr×Obj))(H:Hp)(b:Addr):Prop:=
 H b=none∧b≠X.env.locals∧b ∉ X.fs∧(b∈X.ex∨X.s₀.heap.objs.size≤b)∧(∀x c,X.env.cells.lookup x=some c→c≠b)∧∀p∈X.pn++pins,p.1≠b
theorem Inv.IS{X:Cx}{pins:List (Addr×Obj)}{σ:St}{H H':Hp}{s:Shared}{b:Addr}(I:Inv X pins σ H s)(hb:s.heap.objs.size≤b)(hn:H' b=none):Hg X pins H' b:=by
 refine⟨hn,Nat.ne_of_gt (Nat.lt_of_lt_of_le I.lt hb),I.Nj hb,.inr (Nat.le_trans I.sz hb),fun x c e z=>?_,fun p hp z=>?_⟩
 ·obtain⟨v,q⟩:=I.cell x c e
  exact absurd (Nat.lt_of_lt_of_le q.lt (by rw[z];exact hb)) (Nat.lt_irrefl _)
 ·exact absurd (Nat.lt_of_lt_of_le (Heap.lt_size (I.pin p hp).1) (by rw[z];exact hb)) (Nat.lt_irrefl _)
structure oN (P:Program) (w:World) (K:PySem.W.Frag) (tg:Expr) (J:It) (fp:List Addr) (it:Addr) (tn:Nat→Heap→Prop):Prop where
 mem:it∈fp
 obj:∀i h,tn i h→∀b∈fp,∃o,h.get? b=some o∧∀v,o.data ≠ .cell v
 keep:∀i h h',tn i h→(∀b∈fp,∀o,h.get? b=some o→h'.get? b=some o)→tn i h'
 item:∀(X:Cx),X.prog=P→X.w=w→X.K=K→X.calm=true→∀(i:Nat) (pins:List (Addr×Obj)) (s:Shared) (σ:St) (H:Hp) (E:Value→Shared→Prop),Inv X pins σ H s→(∀b∈fp,Hg X pins H b)→tn i s.heap→J.go i H→
  wpAny (model P w) X.A (pyNext (.ref it)) (fun r s1=>∃u,r=some u∧
   wpAny (model P w) X.A (letOwnedTupleGo tg (.ref it) u) (fun _ s2=>∃x H',Inv X pins σ H' s2∧RelV x u∧J.N_ i H x H'∧tn (i+1) s2.heap∧∀b∈fp,H' b=none) E s1) E s
 done:∀(X:Cx),X.prog=P→X.w=w→X.K=K→X.calm=true→∀(i:Nat) (pins:List (Addr×Obj)) (s:Shared) (σ:St) (H:Hp) (E:Value→Shared→Prop),Inv X pins σ H s→(∀b∈fp,Hg X pins H b)→tn i s.heap→J.stop i H→
  wpAny (model P w) X.A (pyNext (.ref it)) (fun r s1=>r=none∧Inv X pins σ H s1) E s
 self:∀(A:Around) (i:Nat) (s:Shared) (Q:Value→Shared→Prop) (E:Value→Shared→Prop),tn i s.heap→Q (.ref it) s→wpAny (model P w) A (pyIter (.ref it)) Q E s
abbrev TI:=St→Hp→(It→Hp→Prop)→Prop
def EL(X:Cx)(pins:List (Addr×Obj))(σ:St)(tg:Expr)(R:It→Hp→Prop)(itv:Value)(s2:Shared):Prop:=
 ∃(it:Addr) (fp:List Addr) (tn:Nat→Heap→Prop) (J:It) (H':Hp),itv = .ref it∧Inv X pins σ H' s2∧oN X.prog X.w X.K tg J fp it tn∧tn 0 s2.heap∧(∀b∈fp,Hg X pins H' b)∧R J H'
def PI(X:Cx)(tg iter:Expr)(wi:TI):Prop:=
 ∀(pins:List (Addr×Obj)) (s:Shared) (σ:St) (H:Hp) (R:It→Hp→Prop),Inv X pins σ H s→wi σ H R→
  wpAny (model X.prog X.w) X.A (eval iter X.env) (fun v s1=>wpAny (model X.prog X.w) X.A (pyIter v) (EL X pins σ tg R) X.xe s1) X.xe s
theorem fN {M : Model} {A : Around} {E : Value → Shared → Prop} {s : Shared} {tg : Expr} {it : Addr} {u : Value} {o : Obj} {n : String} {vs : Array Value} {Q : Unit → Shared → Prop} (ho : s.heap.get? it = some o) (hc : o.cls = .type n) (hd : o.data = .fields vs)
    (hn : ["enumerate", "zip", "dict_itemiterator", "dict_reverseitemiterator", "odict_iterator", "itertools.zip_longest", "itertools.pairwise"].contains n = false) (hQ : Q () s) : wpAny M A (letOwnedTupleGo tg (.ref it) u) Q E s := by
  unfold letOwnedTupleGo
  cases tg <;> first
    | exact wpAny_pure hQ
    | (cases u <;> first
        | exact wpAny_pure hQ
        | (refine wpAny_bind (wpAny_load ho ?_)
           rw [hc, hd]
           show wpAny M A (if (["enumerate", "zip", "dict_itemiterator", "dict_reverseitemiterator", "odict_iterator", "itertools.zip_longest", "itertools.pairwise"].contains n && vs[0]? == some (rawInt _)) = true then _ else _) Q E s
           rw [if_neg (by intro h; rw [hn, Bool.false_and] at h; cases h)]
           exact wpAny_pure hQ))
noncomputable def Ej(K:PySem.W.Frag)(a:Addr):It:=
 ⟨fun i H=>∃xs x,SqL K H a xs∧xs[i]?=some x,fun i H x H'=>H'=H∧∀xs,SqL K H a xs→xs[i]?=some x,fun i H=>∃xs,SqL K H a xs∧xs.length≤i⟩
noncomputable def EM(K:PySem.W.Frag)(a:Addr):It:=
 ⟨fun i H=>∃xs x,G3 K H a xs∧xs[i]?=some x,fun i H x H'=>H'=H∧∀xs,G3 K H a xs→xs[i]?=some x,fun i H=>∃xs,G3 K H a xs∧xs.length≤i⟩
noncomputable def Ek(lo:Int)(n:Nat):It:=⟨fun i _=>i < n,fun i H x H'=>H'=H∧x = .int (lo+i),fun i _=>n≤i⟩
theorem sQ{P:Program}{w:World}{K:PySem.W.Frag}{tg:Expr}(a it:Addr):oN P w K tg (Ej K a) [it] it (fun i h=>h.IsListIter it a i) where
 mem:=by simp
 obj:=fun i h st b hb=>by
  have e:b=it:=by simpa using hb
  subst e
  obtain⟨o,e,c,d⟩:=st
  exact⟨o,e,fun v z=>by rw[d]at z;cases z⟩
 keep:=fun i h h' st k=>st.at fun o e=>k it (by simp) o e
 item:=by
  intro X hP hw hK hc i pins s σ H E I hf st hg
  subst hP hw hK
  obtain⟨xs,x,hq,hx⟩:=hg
  obtain⟨its,rv,p,hz⟩:=I.list hq
  obtain⟨u,hu,ru⟩:=rv.get hx
  obtain⟨f0,f1,f2,f3,f4,f5⟩:=hf it (by simp)
  refine wpAny_pyNext_list_item st p.isList (x:=u) (by simpa using hu) fun h' st' sb=>?_
  have I1:Inv X pins σ H { s with heap:=h' }:=I.turned (t':=s.toks) (fun b o hb e=>(sb.2 b hb).trans e) f0 f1 f3 f4 f5
  obtain⟨o,e,c,d⟩:=id st'
  exact⟨u,rfl,fN (s:={ s with heap:=h' }) e c d (by decide) ⟨x,H,I1,ru,⟨rfl,fun ys hy=>by rw[I.Lq hy hq];exact hx⟩,st',fun b hb=>(hf b hb).1⟩⟩
 done:=by
  intro X hP hw hK hc i pins s σ H E I hf st hg
  subst hP hw hK
  obtain⟨xs,hq,hx⟩:=hg
  obtain⟨its,rv,p,hz⟩:=I.list hq
  obtain⟨f0,f1,f2,f3,f4,f5⟩:=hf it (by simp)
  have hl:=rv.length
  exact wpAny_pyNext_list_end (I.ok.hd hc) st p.isList (by simp;omega) fun h' eb=>⟨rfl,I.turned (t':=s.toks) (fun b o hb e=>eb b o hb e) f0 f1 f3 f4 f5⟩
 self:=fun _ _ _ _ _ st h=>wpAny_pyIter_listiter st h
theorem qx{P:Program}{w:World}{K:PySem.W.Frag}{tg:Expr}(a it:Addr):oN P w K tg (EM K a) [it] it (fun i h=>h.IsTupleIter it a i) where
 mem:=by simp
 obj:=fun i h st b hb=>by
  have e:b=it:=by simpa using hb
  subst e
  obtain⟨o,e,c,d⟩:=st
  exact⟨o,e,fun v z=>by rw[d]at z;cases z⟩
 keep:=fun i h h' st k=>st.at fun o e=>k it (by simp) o e
 item:=by
  intro X hP hw hK hc i pins s σ H E I hf st hg
  subst hP hw hK
  obtain⟨xs,x,hq,hx⟩:=hg
  obtain⟨its,rv,p,hz⟩:=I.tuple hq
  obtain⟨u,hu,ru⟩:=rv.get hx
  obtain⟨f0,f1,f2,f3,f4,f5⟩:=hf it (by simp)
  refine wpAny_pyNext_tuple_item st (show s.heap.IsTuple a its.toArray from p) (x:=u) (by simpa using hu) fun h' st' sb=>?_
  have I1:Inv X pins σ H { s with heap:=h' }:=I.turned (t':=s.toks) (fun b o hb e=>(sb.2 b hb).trans e) f0 f1 f3 f4 f5
  obtain⟨o,e,c,d⟩:=id st'
  exact⟨u,rfl,fN (s:={ s with heap:=h' }) e c d (by decide) ⟨x,H,I1,ru,⟨rfl,fun ys hy=>by rw[I.Hx hy hq];exact hx⟩,st',fun b hb=>(hf b hb).1⟩⟩
 done:=by
  intro X hP hw hK hc i pins s σ H E I hf st hg
  subst hP hw hK
  obtain⟨xs,hq,hx⟩:=hg
  obtain⟨its,rv,p,hz⟩:=I.tuple hq
  obtain⟨f0,f1,f2,f3,f4,f5⟩:=hf it (by simp)
  have hl:=rv.length
  exact wpAny_pyNext_tuple_end (I.ok.hd hc) st (show s.heap.IsTuple a its.toArray from p) (by simp;omega) fun h' eb=>⟨rfl,I.turned (t':=s.toks) (fun b o hb e=>eb b o hb e) f0 f1 f3 f4 f5⟩
 self:=fun _ _ _ _ _ st h=>wpAny_pyIter_tupleiter st h
theorem qy{P:Program}{w:World}{K:PySem.W.Frag}{tg:Expr}(it:Addr)(lo:Int)(n:Nat):oN P w K tg (Ek lo n) [it] it (fun i h=>IsRangeIter h it (lo+(i:Nat) * 1) ((n:Int) - (i:Nat)) 1) where
 mem:=by simp
 obj:=fun i h st b hb=>by
  have e:b=it:=by simpa using hb
  subst e
  exact⟨_,st,fun v z=>by
   have z':Data.fields _=Data.cell v:=z
   cases z'⟩
 keep:=fun i h h' st k=>k it (by simp) _ st
 item:=by
  intro X hP hw hK hc i pins s σ H E I hf st hg
  subst hP hw hK
  obtain⟨f0,f1,f2,f3,f4,f5⟩:=hf it (by simp)
  have W:=Walks.range (prog:=X.prog) (w:=X.w) (I.ok.hd hc) it lo 1 n
  refine W.item i s _ _ hg st fun v h' tk hv st' kk=>?_
  obtain⟨t,rfl⟩:=hv
  have I1:Inv X pins σ H { s with heap:=h',toks:=tk }:=I.turned (fun b o hb e=>kk b o (by simpa using hb) e) f0 f1 f3 f4 f5
  refine⟨_,rfl,fN (s:={ s with heap:=h',toks:=tk }) (n:="range_iterator") st' rfl rfl (by decide) ⟨.int (lo+i),H,I1,⟨t,?_⟩,⟨rfl,rfl⟩,st',fun b hb=>(hf b hb).1⟩⟩
  rw[Int.mul_one]
 done:=by
  intro X hP hw hK hc i pins s σ H E I hf st hg
  subst hP hw hK
  obtain⟨f0,f1,f2,f3,f4,f5⟩:=hf it (by simp)
  exact wpAny_pyNext_range_end (I.ok.hd hc) st (by have:n≤i:=hg;omega) fun h' eb=>⟨rfl,I.turned (t':=s.toks) (fun b o hb e=>eb b o hb e) f0 f1 f3 f4 f5⟩
 self:=fun _ _ _ _ _ st h=>wpAny_pyIter_rangeiter st h
section
variable {X:Cx} {tg:Expr}
theorem uB{pins:List (Addr×Obj)}{σ:St}{H:Hp}{s:Shared}{R:It→Hp→Prop}{E:Value→Shared→Prop}{lo hi:Int}{t u v:Tok}{tk:Nat}(I:Inv X pins σ H s)(h1:-(2 ^ 62)≤lo)(h2:lo < 2 ^ 62)(h3:-(2 ^ 62)≤hi)(h4:hi < 2 ^ 62)
  (q:R (Ek lo (hi - lo).toNat) H):wpAny (model X.prog X.w) X.A (pyIter (.ref s.heap.objs.size)) (EL X pins σ tg R) E { s with heap:=s.heap.push { cls:=.type "range",data:=.fields #[.int lo t,.int hi u,.int 1 v] },toks:=tk }:=by
 refine wpAny_pyIter_range (IsRange.new ..) (small_one h1 h2 h3 h4) ?_
 have I1:Inv X pins σ H { s with heap:=s.heap.push { cls:=.type "range",data:=.fields #[.int lo t,.int hi u,.int 1 v] },toks:=tk }:=I.kept fun b o e=>Heap.get?_push_of_some _ e
 refine⟨(s.heap.push { cls:=.type "range",data:=.fields #[.int lo t,.int hi u,.int 1 v] }).objs.size,[(s.heap.push { cls:=.type "range",data:=.fields #[.int lo t,.int hi u,.int 1 v] }).objs.size],_,_,H,rfl,
  I1.kept (t':=tk) fun b o e=>Heap.get?_push_of_some _ e,qy _ lo (hi - lo).toNat,?_,fun b hb=>?_,q⟩
 ·have e1:lo+((0:Nat):Int) * 1=lo:=by simp
  have e2:(((hi - lo).toNat:Nat):Int) - ((0:Nat):Int)=Builtin.Range.rangeSize lo hi 1:=by rw[rangeSize_one];split<;>omega
  show IsRangeIter _ _ (lo+((0:Nat):Int) * 1) ((((hi - lo).toNat:Nat):Int) - ((0:Nat):Int)) 1
  rw[e1,e2]
  exact Heap.get?_push_size _ rfl
 ·have e:b=(s.heap.push { cls:=.type "range",data:=.fields #[.int lo t,.int hi u,.int 1 v] }).objs.size:=by simpa using hb
  subst e
  exact I1.IS (Nat.le_refl _) (I1.hok.fresh (Nat.le_refl _))
def CQ(ta:TA):TI:=fun σ H R=>ta σ H fun vs H1=>∃j:Int,vs=[.int j]∧-(2 ^ 62)≤j∧j < 2 ^ 62∧R (Ek 0 j.toNat) H1
theorem sR{a:Expr}{ta:TA}{p pos:Pos}(hg:Gl X "range")(hm:X.mg "range" = none)(ha:PA X [a] ta)(hs:starEach [a] X.env=[(false,eval a X.env)]:=by rfl):PI X tg (.Call (.Name "range" p) [a] [] pos) (CQ ta):=by
 intro pins s σ H R I h
 refine Call_ (fM I hg hm boot_range (PyProof.Rows.callWith_type1 (GJ (ha pos pins s σ H _ I h) fun us s1 ⟨vs,H1,I1,r1,q1⟩=>?_) hs rfl))
 obtain⟨j,e,q1,q2,q⟩:=q1
 subst e
 cases r1 with
 |cons r rr=>
  cases rr
  obtain⟨t,rfl⟩:=r
  exact call_range_1 (uB I1 (by omega) (by omega) q1 q2 (by simpa using q))
def EN(wi:TI)(g:TG)(tb:TS):TS:=fun D σ H=>wi σ H fun J H1=>∃W:Nat→Nat→St→Hp→Prop,(∃m,W 0 m σ H1)∧∀i m σ H,W i m σ H→
 (J.stop i H∧D.nx σ H)∨(J.go i H∧∃N:St→Hp→Prop,(∀σ' H',N σ' H'→∃m',m' < m∧W (i+1) m' σ' H')∧∀x H',J.N_ i H x H'→g x σ H' fun σ2 H2=>tb { D with nx:=N,ct:=N,bk:=D.nx } σ2 H2)
noncomputable def kH(fp:List Addr)(h:Heap):List (Addr×Obj):=fp.filterMap fun b=>(h.get? b).map fun o=>(b,o)
theorem h_{fp:List Addr}{h:Heap}{b:Addr}{o:Obj}(hb:b∈fp)(e:h.get? b=some o):(b,o)∈kH fp h:=List.mem_filterMap.mpr ⟨b,hb,by rw[e];rfl⟩
theorem sT{fp:List Addr}{h:Heap}{p:Addr×Obj}(hp:p∈kH fp h):p.1∈fp∧h.get? p.1=some p.2:=by
 obtain⟨b,hb,e⟩:=List.mem_filterMap.mp hp
 cases q:h.get? b with
 |none=>rw[q]at e;cases e
 |some o=>
  rw[q]at e
  have e':(b,o)=p:=Option.some.inj e
  subst e'
  exact⟨hb,q⟩
theorem Inv.pinned{pins:List (Addr×Obj)}{σ:St}{H:Hp}{s:Shared}{fp:List Addr}(I:Inv X pins σ H s)(hf:∀b∈fp,Hg X pins H b)(ho:∀b∈fp,∃o,s.heap.get? b=some o∧∀v,o.data ≠ .cell v):Inv X (pins++kH fp s.heap) σ H s:=
 I.JL fun p hp=>(List.mem_append.mp hp).elim (fun z=>I.pin p (List.mem_append_right _ z)) fun z=>by
  obtain⟨hb,e⟩:=sT z
  obtain⟨f0,f1,f2,_⟩:=hf p.1 hb
  obtain⟨o,e',d⟩:=ho p.1 hb
  rw[e]at e';cases e'
  exact⟨e,f0,f1,f2,d⟩
theorem Inv.Jf{pins pl:List (Addr×Obj)}{σ:St}{H:Hp}{s:Shared}(I:Inv X (pins++pl) σ H s):Inv X pins σ H s:=I.JL fun p hp=>I.pin p (List.mem_append_right _ (List.mem_append_left _ hp))
theorem AE{iter:Expr}{body:List Stmt}{wi:TI}{g:TG}{tb:TS}{pos:Pos}(hp:PassesOwn (model X.prog X.w) X.A X.env X.xe)(hc:X.calm=true)(hi:PI X tg iter wi)(hg:PG X tg g)(hb:J4 X body tb)
  (hs:∀x,foldedSetIterable iter X.env x=pure x:=by intro _;rfl):PS X (.For tg iter body [] pos) (EN wi g tb):=by
 intro pins s σ H D I h
 refine wpAny_For (GJ (hi pins s σ H _ I h) fun v s1 h1=>GJ h1 fun itv s2 h2=>?_) hs
 obtain⟨it,fp,tn,J,H2,e,I2,T,st2,f2,W,⟨m0,w0⟩,turn⟩:=h2
 subst e
 -- what stays true of the iterator's objects through the loop
 have stat:∀{H':Hp},(∀b∈fp,H' b=none)→∀b∈fp,Hg X pins H' b:=fun hn b hb=>⟨hn b hb,(f2 b hb).2⟩
 refine codeAny_forLoop_any (fun n s'=>∃i σ' H',Inv X pins σ' H' s'∧tn i s'.heap∧(∀b∈fp,H' b=none)∧W i n σ' H') ?_ m0 ⟨0,σ,H2,I2,st2,fun b hb=>(f2 b hb).1,w0⟩
 rintro n s3 ⟨i,σ3,H3,I3,st3,PZ,w3⟩
 rcases turn i n σ3 H3 w3 with⟨stop,qn⟩|⟨go,N,hN,step⟩
 ·refine wpAny_passesOwn hp (GJ (T.done X rfl rfl rfl hc i pins s3 σ3 H3 X.xe I3 (stat PZ) st3 stop) fun r s4 ⟨hr,I4⟩=>?_)
  subst hr
  exact wpAny_execs_nil ⟨σ3,H3,I4,qn⟩
 ·refine wpAny_passesOwn hp (GJ (T.item X rfl rfl rfl hc i pins s3 σ3 H3 X.xe I3 (stat PZ) st3 go) fun r s4 ⟨u,hr,h4⟩=>?_)
  subst hr
  refine wpAny_passesOwn hp (GJ h4 fun _ s5 ⟨x,H5,I5,r5,y5,L8,OF⟩=>?_)
  have OG:=I5.pinned (stat OF) (T.obj _ _ L8)
  refine wpAny_passesOwn hp (GJ (hg _ s5 σ3 H5 x u _ OG r5 (step x H5 y5)) fun _ s6 ⟨σ6,H6,I6,q6⟩=>?_)
  refine wpAny_passesOwn hp (GJ (hb _ s6 σ6 H6 _ I6 q6) fun f s7 q7=>?_)
  have again:∀{σ7:St} {H7:Hp},Inv X (pins++kH fp s5.heap) σ7 H7 s7→N σ7 H7→∃m,m < n∧∃i σ' H',Inv X pins σ' H' s7∧tn i s7.heap∧(∀b∈fp,H' b=none)∧W i m σ' H':=fun{σ7 H7} I7 n7=>by
   obtain⟨m',hm,w7⟩:=hN σ7 H7 n7
   refine⟨m',hm,i+1,σ7,H7,I7.Jf,T.keep _ _ _ L8 fun b hb o e=>(I7.pin (b,o) (List.mem_append_right _ (List.mem_append_right _ (h_ hb e)))).1,fun b hb=>?_,w7⟩
   obtain⟨o,e,d⟩:=T.obj _ _ L8 b hb
   exact(I7.pin (b,o) (List.mem_append_right _ (List.mem_append_right _ (h_ hb e)))).2.1
  cases f with
  |next=>obtain⟨σ7,H7,I7,n7⟩:=q7;exact again I7 n7
  |cont=>obtain⟨σ7,H7,I7,n7⟩:=q7;exact again I7 n7
  |brk=>obtain⟨σ7,H7,I7,q7⟩:=q7;exact⟨σ7,H7,I7.Jf,q7⟩
  |ret v=>obtain⟨x7,σ7,H7,I7,r7,q7⟩:=q7;exact⟨x7,σ7,H7,I7.Jf,r7,q7⟩
end
abbrev R2:=V→V→Hp→VK→Prop
def ie(X:Cx)(f:Value→Value→Sem Value)(r:R2):Prop:=
 ∀(pins:List (Addr×Obj)) (s:Shared) (σ:St) (H:Hp) (x y:V) (v u:Value) (Q:VK),Inv X pins σ H s→RelV x v→RelV y u→r x y H Q→
  wpAny (model X.prog X.w) X.A (f v u) (EP X pins σ Q) X.xe s
def El(X:Cx)(f:Value→Sem Value)(r:V→Hp→VK→Prop):Prop:=
 ∀(pins:List (Addr×Obj)) (s:Shared) (σ:St) (H:Hp) (x:V) (v:Value) (Q:VK),Inv X pins σ H s→RelV x v→r x H Q→
  wpAny (model X.prog X.w) X.A (f v) (EP X pins σ Q) X.xe s
def dN(X:Cx)(f:Value)(r:List V→Hp→VK→Prop):Prop:=
 ∀(pins:List (Addr×Obj)) (s:Shared) (σ:St) (H:Hp) (xs:List V) (us:List Value) (Q:VK),Inv X pins σ H s→Vals xs us→r xs H Q→
  wpAny (model X.prog X.w) X.A (call f us) (EP X pins σ Q) X.xe s
def CS(r:R2)(ta tb:TE):TE:=fun σ H Q=>ta σ H fun x H1=>tb σ H1 fun y H2=>r x y H2 Q
def FY(r:V→Hp→VK→Prop)(ta:TE):TE:=fun σ H Q=>ta σ H fun x H1=>r x H1 Q
def rI(C:Int→Int→Prop)(g:Int→Int→V):R2:=fun x y H Q=>∃i j,x = .int i∧y = .int j∧C i j∧Q (g i j) H
def xH(g:Int→Int→V):R2:=fun x y H Q=>∃i j,x = .int i∧y = .int j∧Q (g i j) H
noncomputable def rU(g:Int→V):V→Hp→VK→Prop:=fun x H Q=>∃i,x = .int i∧Q (g i) H
section
variable {X:Cx} {a b c:Expr} {ta tb tc:TE} {pos:Pos}
theorem AF(ha:PE X a ta)(hb:PE X b tb){pins:List (Addr×Obj)}{s:Shared}{σ:St}{H:Hp}{R:V→V→Hp→Prop}(I:Inv X pins σ H s)
  (h:ta σ H fun x H1=>tb σ H1 fun y H2=>R x y H2) {Q:Value→Shared→Prop} {f:Value→Value→Sem Value}
  (hf:∀v u s2 x y H2,Inv X pins σ H2 s2→RelV x v→RelV y u→R x y H2→wpAny (model X.prog X.w) X.A (f v u) Q X.xe s2) :
  wpAny (model X.prog X.w) X.A (eval a X.env) (fun v s₁=>wpAny (model X.prog X.w) X.A (eval b X.env) (fun u s₂=>wpAny (model X.prog X.w) X.A (f v u) Q X.xe s₂) X.xe s₁) X.xe s:=by
 refine GJ (ha pins s σ H _ I h) fun v s1 ⟨x,H1,I1,r1,q1⟩=>?_
 refine GJ (hb pins s1 σ H1 _ I1 q1) fun u s2 ⟨y,H2,I2,r2,q2⟩=>?_
 exact hf v u s2 x y H2 I2 r1 r2 q2
theorem CT{op:Operator}{r:R2}(ho:ie X (binaryOp op) r)(ha:PE X a ta)(hb:PE X b tb):PE X (.BinOp a op b pos) (CS r ta tb):=by
 intro pins s σ H Q I h
 exact wpAny_BinOp (AF ha hb I h fun v u s2 x y H2 I2 rx ry q=>ho pins s2 σ H2 x y v u Q I2 rx ry q)
theorem CU{op:UnaryOp}{r:V→Hp→VK→Prop}(ho:El X (unaryOp op) r)(ha:PE X a ta):PE X (.UnaryOp op a pos) (FY r ta):=by
 intro pins s σ H Q I h
 exact UnaryOp_ (GJ (ha pins s σ H _ I h) fun v s1 ⟨x,H1,I1,r1,q1⟩=>ho pins s1 σ H1 x v Q I1 r1 q1)
theorem Em{f:Value→Value→Sem Value}{C:Int→Int→Prop}{g:Int→Int→Int}
  (rule:∀(i j:Int) (t u:Tok) (s:Shared) (Q:Value→Shared→Prop) (E:Value→Shared→Prop),C i j→Q (.int (g i j) s.toks) { s with toks:=s.toks+1 }→wpAny (model X.prog X.w) X.A (f (.int i t) (.int j u)) Q E s) :
  ie X f (rI C fun i j=>.int (g i j)):=by
 intro pins s σ H x y v u Q I rx ry h
 obtain⟨i,j,rfl,rfl,hc,q⟩:=h
 obtain⟨t,rfl⟩:=rx
 obtain⟨t',rfl⟩:=ry
 exact rule i j t t' s _ _ hc ⟨.int (g i j),H,I.tok _,⟨_,rfl⟩,q⟩
theorem CV{f:Value→Value→Sem Value}{g:Int→Int→Int}
  (rule:∀(i j:Int) (t u:Tok) (s:Shared) (Q:Value→Shared→Prop) (E:Value→Shared→Prop),Q (.int (g i j) s.toks) { s with toks:=s.toks+1 }→wpAny (model X.prog X.w) X.A (f (.int i t) (.int j u)) Q E s) :
  ie X f (xH fun i j=>.int (g i j)):=by
 intro pins s σ H x y v u Q I rx ry h
 obtain⟨i,j,rfl,rfl,q⟩:=h
 obtain⟨t,rfl⟩:=rx
 obtain⟨t',rfl⟩:=ry
 exact rule i j t t' s _ _ ⟨.int (g i j),H,I.tok _,⟨_,rfl⟩,q⟩
theorem xZ{f:Value→Value→Sem Value}{g:Int→Int→Bool}
  (rule:∀(i j:Int) (t u:Tok) (s:Shared) (Q:Value→Shared→Prop) (E:Value→Shared→Prop),Q (.bool (g i j)) s→wpAny (model X.prog X.w) X.A (f (.int i t) (.int j u)) Q E s) :
  ie X f (xH fun i j=>.bl (g i j)):=by
 intro pins s σ H x y v u Q I rx ry h
 obtain⟨i,j,rfl,rfl,q⟩:=h
 obtain⟨t,rfl⟩:=rx
 obtain⟨t',rfl⟩:=ry
 exact rule i j t t' s _ _ ⟨.bl (g i j),H,I,rfl,q⟩
def AG(i j:Int):Prop:=0≤j∧j≤1000000∧i.natAbs < 2 ^ 64
def L9(i j:Int):Prop:=(-(2 ^ 64) < i∧i < 2 ^ 64)∨(-(2 ^ 64) < j∧j < 2 ^ 64)
theorem L9.ok{i j:Int}(h:L9 i j):IntMulOk i j:=by
 rcases h with⟨h1,h2⟩|⟨h1,h2⟩
 ·exact .of_left (intBits_le_64 h1 h2)
 ·exact .of_right (intBits_le_64 h1 h2)
theorem AH:ie X (binaryOp .Add) (xH fun i j=>.int (i+j)):=CV fun _ _ _ _ _ _ _ q=>add_int q
theorem AI:ie X (binaryOp .Sub) (xH fun i j=>.int (i - j)):=CV fun _ _ _ _ _ _ _ q=>sub_int q
theorem x_:ie X (binaryOp .Mod) (rI (fun _ j=>j≠0) fun i j=>.int (i.fmod j)):=Em fun _ _ _ _ _ _ _ hc q=>mod_int' hc q
theorem AJ:ie X (binaryOp .Pow) (rI AG fun i j=>.int (i ^ j.toNat)):=Em fun _ _ _ _ _ _ _ hc q=>pow_int_small hc.1 hc.2.1 hc.2.2 q
theorem FZ{f:Value→Sem Value}{g:Int→Int}
  (rule:∀(i:Int) (t:Tok) (s:Shared) (Q:Value→Shared→Prop) (E:Value→Shared→Prop),Q (.int (g i) s.toks) { s with toks:=s.toks+1 }→wpAny (model X.prog X.w) X.A (f (.int i t)) Q E s) :
  El X f (rU fun i=>.int (g i)):=by
 intro pins s σ H x v Q I rx h
 obtain⟨i,rfl,q⟩:=h
 obtain⟨t,rfl⟩:=rx
 exact rule i t s _ _ ⟨.int (g i),H,I.tok _,⟨_,rfl⟩,q⟩
theorem AK:El X (unaryOp .USub) (rU fun i=>.int (-i)):=FZ fun _ _ _ _ _ q=>neg_int q
end
noncomputable def CW:V→V→Bool
 | .non,.non=>true | .non,.int _=>true | .int _,.non=>true | .non,.bl _=>true | .bl _,.non=>true | .non,.str _=>true | .str _,.non=>true
 | .int _,.int _=>true | .bl _,.bl _=>true | .str _,.str _=>true | .Lm _,.Lm _=>true
 | .int _,.str _=>true | .str _,.int _=>true | .bl _,.str _=>true | .str _,.bl _=>true
 |_,_=>false
def F1:R2:=fun x y H Q=>CW x y=true∧Q (.bl (decide (x=y))) H
def F2:R2:=fun x y H Q=>CW x y=true∧Q (.bl (!decide (x=y))) H
theorem rN{i j:Int}:decide (V.int i=V.int j)=(i == j):=by
 rw[Bool.eq_iff_iff]
 simp
theorem uC{i j:Bool}:decide (V.bl i=V.bl j)=(i == j):=by
 rw[Bool.eq_iff_iff]
 simp
theorem rO{i j:Str}:decide (V.str i=V.str j)=(i == j):=by
 rw[Bool.eq_iff_iff]
 simp
theorem rP{i j:Array UInt8}:decide (V.Lm i=V.Lm j)=(i.toList == j.toList):=by
 rw[Bool.eq_iff_iff]
 cases i
 cases j
 simp
section
variable {X:Cx} {a b c:Expr} {ta tb tc:TE} {pos:Pos}
theorem aN{pins:List (Addr×Obj)}{σ:St}{H:Hp}{s:Shared}{Q:VK}{k k':Bool}(I:Inv X pins σ H s)(q:Q (.bl k) H)(e:k=k'):EP X pins σ Q (.bool k') s:=by
 subst e
 exact⟨.bl k,H,I,rfl,q⟩
theorem uD:ie X (compareOp .Eq) F1:=by
 intro pins s σ H x y v u Q I rx ry h
 obtain⟨hs,q⟩:=h
 cases x with
 |non=>
  cases rx
  cases y with
  |non=>cases ry;exact PySem.EqNone.eq_none_none (aN I q (by simp))
  |bl j=>cases ry;exact PySem.EqNone.eq_none_bool (aN I q (by simp))
  |int j=>obtain⟨t',rfl⟩:=ry;exact PySem.EqNone.eq_none_int (aN I q (by simp))
  |str j=>obtain⟨t',rfl⟩:=ry;exact PySem.EqNone.eq_none_str (aN I q (by simp))
  |_=>exact absurd (show false=true from hs) Bool.false_ne_true
 |bl i=>
  cases rx
  cases y with
  |non=>cases ry;exact PySem.EqNone.eq_bool_none (aN I q (by simp))
  |bl j=>cases ry;exact eq_bool (aN I q uC)
  |str j=>obtain⟨t',rfl⟩:=ry;exact PySem.EqMixed.eq_bool_str (aN I q (by simp))
  |_=>exact absurd (show false=true from hs) Bool.false_ne_true
 |int i=>
  obtain⟨t,rfl⟩:=rx
  cases y with
  |non=>cases ry;exact PySem.EqNone.eq_int_none (aN I q (by simp))
  |int j=>obtain⟨t',rfl⟩:=ry;exact eq_int (aN I q rN)
  |str j=>obtain⟨t',rfl⟩:=ry;exact PySem.EqMixed.eq_int_str (aN I q (by simp))
  |_=>exact absurd (show false=true from hs) Bool.false_ne_true
 |str i=>
  obtain⟨t,rfl⟩:=rx
  cases y with
  |non=>cases ry;exact PySem.EqNone.eq_str_none (aN I q (by simp))
  |bl j=>cases ry;exact PySem.EqMixed.eq_str_bool (aN I q (by simp))
  |int j=>obtain⟨t',rfl⟩:=ry;exact PySem.EqMixed.eq_str_int (aN I q (by simp))
  |str j=>obtain⟨t',rfl⟩:=ry;exact eq_str (aN I q rO)
  |_=>exact absurd (show false=true from hs) Bool.false_ne_true
 |Lm i=>
  obtain⟨t,rfl⟩:=rx
  cases y with
  |Lm j=>obtain⟨t',rfl⟩:=ry;exact PySem.W.eq_bytes (aN I q rP)
  |_=>exact absurd (show false=true from hs) Bool.false_ne_true
 |_=>cases y<;>exact absurd (show false=true from hs) Bool.false_ne_true
theorem uE:ie X (compareOp .NotEq) F2:=by
 intro pins s σ H x y v u Q I rx ry h
 obtain⟨hs,q⟩:=h
 cases x with
 |non=>
  cases rx
  cases y with
  |non=>cases ry;exact PySem.EqNone.ne_none_none (aN I q (by simp))
  |bl j=>cases ry;exact PySem.EqNone.ne_none_bool (aN I q (by simp))
  |int j=>obtain⟨t',rfl⟩:=ry;exact PySem.EqNone.ne_none_int (aN I q (by simp))
  |str j=>obtain⟨t',rfl⟩:=ry;exact PySem.EqNone.ne_none_str (aN I q (by simp))
  |_=>exact absurd (show false=true from hs) Bool.false_ne_true
 |bl i=>
  cases rx
  cases y with
  |non=>cases ry;exact PySem.EqNone.ne_bool_none (aN I q (by simp))
  |bl j=>cases ry;exact ne_bool (aN I q (congrArg not uC))
  |str j=>obtain⟨t',rfl⟩:=ry;exact PySem.EqMixed.ne_bool_str (aN I q (by simp))
  |_=>exact absurd (show false=true from hs) Bool.false_ne_true
 |int i=>
  obtain⟨t,rfl⟩:=rx
  cases y with
  |non=>cases ry;exact PySem.EqNone.ne_int_none (aN I q (by simp))
  |int j=>obtain⟨t',rfl⟩:=ry;exact ne_int (aN I q (congrArg not rN))
  |str j=>obtain⟨t',rfl⟩:=ry;exact PySem.EqMixed.ne_int_str (aN I q (by simp))
  |_=>exact absurd (show false=true from hs) Bool.false_ne_true
 |str i=>
  obtain⟨t,rfl⟩:=rx
  cases y with
  |non=>cases ry;exact PySem.EqNone.ne_str_none (aN I q (by simp))
  |bl j=>cases ry;exact PySem.EqMixed.ne_str_bool (aN I q (by simp))
  |int j=>obtain⟨t',rfl⟩:=ry;exact PySem.EqMixed.ne_str_int (aN I q (by simp))
  |str j=>obtain⟨t',rfl⟩:=ry;exact ne_str (aN I q (congrArg not rO))
  |_=>exact absurd (show false=true from hs) Bool.false_ne_true
 |Lm i=>
  obtain⟨t,rfl⟩:=rx
  cases y with
  |Lm j=>obtain⟨t',rfl⟩:=ry;exact PySem.W.ne_bytes (aN I q (congrArg not rP))
  |_=>exact absurd (show false=true from hs) Bool.false_ne_true
 |_=>cases y<;>exact absurd (show false=true from hs) Bool.false_ne_true
theorem CZ:ie X (compareOp .Lt) (xH fun i j=>.bl (decide (i < j))):=xZ fun _ _ _ _ _ _ _ q=>lt_int q
theorem C0:ie X (compareOp .LtE) (xH fun i j=>.bl (decide (i≤j))):=xZ fun _ _ _ _ _ _ _ q=>le_int q
theorem C1:ie X (compareOp .Gt) (xH fun i j=>.bl (decide (j < i))):=xZ fun _ _ _ _ _ _ _ q=>gt_int q
theorem C2:ie X (compareOp .GtE) (xH fun i j=>.bl (decide (j≤i))):=xZ fun _ _ _ _ _ _ _ q=>ge_int q
theorem sU:ie X (compareOp .In) (fun x y H Q=>∃i j,x = .str i∧y = .str j∧Q (.bl (!(Builtin.Str.occurrences j i 0 j.length 1).isEmpty)) H):=by
 intro pins s σ H x y v u Q I rx ry h
 obtain⟨i,j,rfl,rfl,q⟩:=h
 obtain⟨t,rfl⟩:=rx
 obtain⟨t',rfl⟩:=ry
 exact in_str (aN I q rfl)
theorem aQ(b:Expr){op:CmpOp}(h:op ≠ .In:=by decide)(h2:op ≠ .NotIn:=by decide):behindInMarks op b=false:=by
 have e1:(op == CmpOp.In)=false:=by cases op<;>first|rfl|exact absurd rfl h
 have e2:(op == CmpOp.NotIn)=false:=by cases op<;>first|rfl|exact absurd rfl h2
 cases b<;>simp[behindInMarks,e1,e2]
theorem ya{op:CmpOp}{r:R2}(ho:ie X (compareOp op) r)(ha:PE X a ta)(hb:PE X b tb)(hm:behindInMarks op b=false):PE X (.Compare a [op] [b] pos) (CS r ta tb):=by
 intro pins s σ H Q I h
 exact wpAny_Compare1 (AF ha hb I h fun v u s2 x y H2 I2 rx ry q=>ho pins s2 σ H2 x y v u Q I2 rx ry q) hm
def zN(t:TE):TT:=fun σ H Q=>t σ H fun x H'=>∃k,x = .bl k∧Q k H'
theorem yb{op:CmpOp}{r:R2}(ho:ie X (compareOp op) r)(ha:PE X a ta)(hb:PE X b tb)(hm:behindInMarks op b=false):PT X (.Compare a [op] [b] pos) (zN (CS r ta tb)):=by
 intro pins s σ H Q I h
 refine wpAny_isTrue_Compare1 (GJ (ha pins s σ H _ I h) fun v s1 ⟨x,H1,I1,r1,q1⟩=>GJ (hb pins s1 σ H1 _ I1 q1) fun u s2 ⟨y,H2,I2,r2,q2⟩=>
  GJ (ho pins s2 σ H2 x y v u _ I2 r1 r2 q2) fun c s3 ⟨z,H3,I3,r3,k,e,q3⟩=>?_) hm
 subst e
 cases r3
 exact wpAny_truthy_bool ⟨H3,I3,q3⟩
def uF(r r':R2)(ta tb tc:TE):TE:=fun σ H Q=>ta σ H fun x H1=>tb σ H1 fun y H2=>r x y H2 fun z H3=>∃k,z = .bl k∧
 (if k=true then tc σ H3 fun w' H4=>r' y w' H4 Q else Q (.bl false) H3)
theorem uG{op op':CmpOp}{r r':R2}(ho:ie X (compareOp op) r)(ho':ie X (compareOp op') r')(ha:PE X a ta)(hb:PE X b tb)(hc:PE X c tc)
  (hm:lastMarks [op,op'] [b,c]=false:=by with_unfolding_all rfl):PT X (.Compare a [op,op'] [b,c] pos) (zN (uF r r' ta tb tc)):=by
 intro pins s σ H Q I h
 refine isTrue_chain (GJ (ha pins s σ H _ I h) fun v s1 ⟨x,H1,I1,r1,q1⟩=>test_link (GJ (hb pins s1 σ H1 _ I1 q1) fun u s2 ⟨y,H2,I2,r2,q2⟩=>
  GJ (ho pins s2 σ H2 x y v u _ I2 r1 r2 q2) fun d s3 ⟨z,H3,I3,r3,k,e,q3⟩=>?_)) hm
 subst e
 cases r3
 refine wpAny_truthy_bool ?_
 cases k with
 |false=>
  obtain⟨k',e',q'⟩:=q3
  cases e'
  exact ite_ff ⟨H3,I3,q'⟩
 |true=>
  refine ite_tt (test_last (GJ (hc pins s3 σ H3 _ I3 q3) fun w' s4 ⟨z',H4,I4,r4,q4⟩=>GJ (ho' pins s4 σ H4 y z' u w' _ I4 r2 r4 q4) fun d' s5 ⟨z2,H5,I5,r5,k2,e2,q5⟩=>?_))
  subst e2
  cases r5
  exact wpAny_truthy_bool ⟨H5,I5,q5⟩
theorem jo:(sizeLine:Nat) < 2 ^ 63:=by rw[sizeLine_eq];decide
theorem qz:ie X (binaryOp .Add) (fun x y H Q=>∃i j,x = .str i∧y = .str j∧i.length+j.length≤sizeLine∧Q (.str (i++j)) H):=by
 intro pins s σ H x y v u Q I rx ry h
 obtain⟨i,j,rfl,rfl,hz,q⟩:=h
 obtain⟨t,rfl⟩:=rx
 obtain⟨t',rfl⟩:=ry
 exact add_str (fun t' tk=>⟨.str (i++j),H,I.tok _,⟨_,rfl⟩,q⟩) hz
theorem dO{x:V}{us:List Value}(r:Vals [x] us):∃u,us=[u]∧RelV x u:=by
 cases r with
 |cons r1 r2=>cases r2;exact⟨_,rfl,r1⟩
theorem uH{x y:V}{us:List Value}(r:Vals [x,y] us):∃u w',us=[u,w']∧RelV x u∧RelV y w':=by
 cases r with
 |cons r1 r2=>
  cases r2 with
  |cons r3 r4=>cases r4;exact⟨_,_,rfl,r1,r3⟩
theorem uI:dN X (.builtin "abs") (fun xs H Q=>∃i,xs=[.int i]∧Q (.int (if i < 0 then -i else i)) H):=by
 intro pins s σ H xs us Q I r h
 obtain⟨i,rfl,q⟩:=h
 obtain⟨u,rfl,t,rfl⟩:=dO r
 exact call_abs_int fun u tk=>⟨.int (if i < 0 then -i else i),H,I.tok _,⟨_,rfl⟩,q⟩
theorem sV(hc:X.calm=true):dN X (.builtin "max") (fun xs H Q=>∃i j,xs=[.int i,.int j]∧Q (.int (if j > i then j else i)) H):=by
 intro pins s σ H xs us Q I r h
 obtain⟨i,j,rfl,q⟩:=h
 obtain⟨u,w',rfl,⟨t,rfl⟩,⟨t',rfl⟩⟩:=uH r
 refine max_two_ints (I.ok.hd hc) fun h' tk k=>⟨_,H,I.kept k,?_,q⟩
 by_cases hj:j > i
 ·rw[if_pos hj,if_pos hj];exact⟨_,rfl⟩
 ·rw[if_neg hj,if_neg hj];exact⟨_,rfl⟩
theorem l4:dN X (.type "int") (fun xs H Q=>(∃i,xs=[.int i]∧Q (.int i) H)∨∃k,xs=[.bl k]∧Q (.int (if k then 1 else 0)) H):=by
 intro pins s σ H xs us Q I r h
 rcases h with⟨i,rfl,q⟩|⟨k,rfl,q⟩
 ·obtain⟨u,rfl,t,rfl⟩:=dO r
  exact call_int_int ⟨.int i,H,I,⟨_,rfl⟩,q⟩
 ·obtain⟨u,rfl,r1⟩:=dO r
  cases r1
  exact call_int_bool ⟨.int (if k then 1 else 0),H,I.tok _,⟨_,rfl⟩,q⟩
end
structure ObjM (h:Heap) (x dx C:Addr) (mA:Str→Option Value):Prop where
 obj:h.get? x=some (PySem.W.instObj C dx)
 ns:h.Ns1 dx mA
 ne:dx≠x
theorem l5{h:Heap}{dx:Addr}{mA:Str→Option Value}(n:h.Ns1 dx mA):∃od,h.get? dx=some od∧∀name,PySem.W.lookIn name od=some (mA name):=by
 obtain⟨o,es,ep,ho,hd,hk,_,hm⟩:=n
 refine⟨o,ho,fun name=>?_⟩
 have e:=hm name
 unfold nsFind findBy at e
 rw[←Array.find?_toList]at e
 unfold PySem.W.lookIn
 rw[hd]
 dsimp only
 split
 ·rename_i y q
  rw[q]at e
  exact congrArg some e
 ·rename_i q
  rw[q]at e
  have a:es.toList.any (·.refKey)=false:=by
   rw[List.any_eq_false]
   intro y hy
   obtain⟨z,t,hkey⟩:=hk y (Array.mem_toList_iff.mp hy)
   simp[DictEntry.refKey,hkey]
  have a':¬es.toList.any (·.refKey)=true:=by rw[a];exact Bool.false_ne_true
  rw[if_neg a']
  exact congrArg some e
theorem ObjM.look{h:Heap}{x dx C:Addr}{mA:Str→Option Value}(I:ObjM h x dx C mA):∃od,PySem.W.InstAt h x (PySem.W.instObj C dx) C (some od)∧∀name,PySem.W.lookIn name od=some (mA name):=
 let ⟨od,ho,hl⟩:=l5 I.ns
 ⟨od,⟨I.obj,rfl,rfl,ho⟩,hl⟩
section
variable {prog:Program} {w:World} {A:Around} {E:Value→Shared→Prop} {s:Shared} {K:PySem.W.Frag} {x dx C f:Addr} {mA:Str→Option Value} {name:Str} {v:Value}
theorem yc{expr:Bool}{Q:Value→Shared→Prop}(X:K.In s.heap)(I:ObjM s.heap x dx C mA)(hg:PySem.W.plainGet K C name=true)(hh:PySem.W.hasDictIn K C=true)
  (ha:PySem.W.findIn K (.ref C) name=some none) (hv:mA name=some v) (hv':PySem.W.handedIn v=true) (h:Q v { s with toks:=s.toks+1 }) :
  wpAny (model prog w) A (getAttr (.ref x) name expr) Q E s:=by
 obtain⟨od,J,hl⟩:=I.look
 exact PySem.W.get_value X J (PySem.W.plainGet_of hg).1 (PySem.W.findObj_own hh ha rfl (by rw[hl,hv])) hv' h
theorem uJ{pl:Sem Bool}{Q:Value×List Value→Shared→Prop}(X:K.In s.heap)(I:ObjM s.heap x dx C mA)(hg:PySem.W.plainGet K C name=true)
  (hf:PySem.W.findIn K (.ref C) name=some (some (.ref f))) (ht:PySem.W.isFn K (.ref f)=true) (hv:mA name=none) (h:Q (.ref f,[.ref x]) s) :
  wpAny (model prog w) A (getMethod (.ref x) name pl) Q E s:=by
 obtain⟨od,J,hl⟩:=I.look
 exact PySem.W.method_fn X J (PySem.W.plainGet_of hg).1 (PySem.W.plainGet_of hg).2 hf (beq_iff_eq.mp ht) (by show(PySem.W.lookIn name od).map (·.isSome)=some false;rw[hl,hv];rfl) h
theorem yd{ns:List Str}{Q:Unit→Shared→Prop}(X:K.In s.heap)(I:ObjM s.heap x dx C mA)
  (hs:PySem.W.findIn K (.ref C) "__setattr__" = some (some (.builtin "object.__setattr__"))) (hp:PySem.W.plainOver K C=true) (ht:PySem.W.takerIn K C name=some none) (hh:PySem.W.hasDictIn K C=true)
  (hw:PySem.Within mA ns) (hsz:ns.length≤sizeLine)
  (h:∀h',ObjM h' x dx C (fun y=>if y=name then some v else mA y)→Heap.SameBut dx s.heap h'→Q () { s with heap:=h',toks:=s.toks+2 }) :
  wpAny (model prog w) A (setAttr (.ref x) name v) Q E s:=by
 obtain⟨od,J,hl⟩:=I.look
 refine PySem.W.set_plain X J hs (PySem.W.osa_open (s:={ s with toks:=s.toks+1 }) (r:=none) X J hp ht fun b=>?_)
 obtain⟨cd,hc,hd'⟩:=PySem.W.any_some hh
 have hx:s.heap.get? x=some ⟨.ref C,some dx,.plain,#[]⟩:=I.obj
 refine wpAny_bind (wpAny_pure (wpAny_bind (wpAny_bind (wpAny_loadPart hx (wpAny_bind (PySem.W.Looks.here (s:={ s with toks:=s.toks+1 }) (PySem.W.looks_clsIn X hc) ?_))))))
 rw[hd']
 refine wpAny_pure (a:=some dx) (wpAny_bind (wpAny_pure (wpAny_bind ?_)))
 refine wpAny_nsSet1 (s:={ s with toks:=s.toks+1 }) I.ns fun h' hn2 hs2=>?_
 obtain⟨oD,esD,QO,OH,OI,KC⟩:=hn2.count (PySem.Within.cons name v hw)
 refine wpAny_bind (wpAny_lookBehind OH (by rw[OI];exact pastItsLine_dict (Nat.le_trans KC (by rw[List.length_cons];omega))) ?_)
 exact wpAny_pure (h _ ⟨(hs2.2 _ (Ne.symm I.ne)).trans I.obj,hn2,I.ne⟩ hs2)
theorem uK{R:Result→Shared→Prop}{vs:List Value}{kw:List (Str×Value)}(X:K.In s.heap)(hm:PySem.W.makesIn K C=true)
  (hi:PySem.W.findIn K (.ref C) "__init__" = some (some (.ref f))) (hf:PySem.W.typeIn K (.ref f)=some (.type "function"))
  (h:codeAny (model prog w) (A.under (.builtin "type.__call__" ⟨.ref C::vs,kw⟩)) (.call (.ref f) ⟨.ref (s.heap.objs.size+1)::vs,kw⟩) (PySem.W.InitBack (s.heap.objs.size+1) R)
   { s with heap:=(s.heap.push PySem.W.emptyDict).push (PySem.W.instObj C s.heap.objs.size) }) :
  codeAny (model prog w) A (.call (.ref C) ⟨vs,kw⟩) R s:=by
 obtain⟨hh,g,d,t,os⟩:=s
 exact PySem.W.make_core (PySem.W.makes_of X hm) (PySem.W.looks_findIn X hi) (fun self=>PySem.W.bind_fn X self hf) (.inl rfl) h
end
noncomputable def putF(f:Str)(v:V):List (Str×V)→List (Str×V)
 |[]=>[(f,v)]
 |(g,x)::r=>if g=f then (g,v)::r else (g,x)::putF f v r
theorem jY(f g:Str)(v:V):∀fs:List (Str×V),(putF f v fs).lookup g=if g=f then some v else fs.lookup g
 |[]=>by
  show List.lookup g [(f,v)]=_
  by_cases h:g=f
  ·have hb:(g == f)=true:=beq_iff_eq.mpr h
   simp only[List.lookup,hb,if_pos h]
  ·have hb:(g == f)=false:=beq_eq_false_iff_ne.mpr h
   simp only[List.lookup,hb,if_neg h]
 |(k,x)::r=>by
  have ih:=jY f g v r
  rw[show putF f v ((k,x)::r)=(if k=f then (k,v)::r else (k,x)::putF f v r)from rfl]
  by_cases hk:k=f
  ·rw[if_pos hk]
   by_cases h:g=k
   ·have hb:(g == k)=true:=beq_iff_eq.mpr h
    simp only[List.lookup,hb,if_pos (h.trans hk)]
   ·have hb:(g == k)=false:=beq_eq_false_iff_ne.mpr h
    simp only[List.lookup,hb,if_neg (fun e:g=f=>h (e.trans hk.symm))]
  ·rw[if_neg hk]
   by_cases h:g=k
   ·have hb:(g == k)=true:=beq_iff_eq.mpr h
    simp only[List.lookup,hb,if_neg (fun e:g=f=>hk (h.symm.trans e))]
   ·have hb:(g == k)=false:=beq_eq_false_iff_ne.mpr h
    simp only[List.lookup,hb]
    exact ih
theorem jp(f:Str)(v:V):∀fs:List (Str×V),f∈(putF f v fs).map (·.1)∧∀g,g∈fs.map (·.1)→g∈(putF f v fs).map (·.1)
 |[]=>⟨by simp[putF],fun g h=>by simp at h⟩
 |(k,x)::r=>by
  obtain⟨i1,i2⟩:=jp f v r
  rw[show putF f v ((k,x)::r)=(if k=f then (k,v)::r else (k,x)::putF f v r)from rfl]
  by_cases hk:k=f
  ·rw[if_pos hk]
   subst hk
   exact⟨by simp,fun g h=>by simpa using h⟩
  ·rw[if_neg hk]
   refine⟨?_,fun g h=>?_⟩
   ·rw[List.map_cons]
    exact List.mem_cons_of_mem _ i1
   ·rw[List.map_cons]at h ⊢
    rcases List.mem_cons.mp h with e|e
    ·exact List.mem_cons.mpr (.inl e)
    ·exact List.mem_cons_of_mem _ (i2 g e)
theorem jZ(f:Str)(v:V):∀fs:List (Str×V),(putF f v fs).length≤fs.length+1
 |[]=>by simp[putF]
 |(k,x)::r=>by
  have ih:=jZ f v r
  rw[show putF f v ((k,x)::r)=(if k=f then (k,v)::r else (k,x)::putF f v r)from rfl]
  by_cases hk:k=f
  ·rw[if_pos hk,List.length_cons,List.length_cons];omega
  ·rw[if_neg hk,List.length_cons,List.length_cons];omega
theorem HZ.some_of{v:V}{o:Option Value}(r:HZ (some v) o):∃u,o=some u∧RelV v u:=by
 cases o with
 |none=>exact(show False from r).elim
 |some u=>exact⟨u,rfl,r⟩
theorem HZ.none_of{o:Option Value}(r:HZ none o):o=none:=by
 cases o with
 |none=>rfl
 |some u=>exact(show False from r).elim
theorem l6{v:V}{u:Value}(r:RelV v u):PySem.W.handedIn u=true:=by
 cases v with
 |non=>cases (show u=Value.none from r);rfl
 |bl b=>cases (show u=Value.bool b from r);rfl
 |int i=>obtain⟨t,e⟩:=(show ∃t,u=Value.int i t from r);cases e;rfl
 |str x=>obtain⟨t,e⟩:=(show ∃t,u=Value.str x t from r);cases e;rfl
 |Lm b=>obtain⟨t,e⟩:=(show ∃t,u=Value.bytes b t from r);cases e;rfl
 |M_ b=>obtain⟨t,e⟩:=(show ∃t,u=Value.float b t from r);cases e;rfl
 |ref a=>cases (show u=Value.ref a from r);rfl
 |ty n=>cases (show u=Value.type n from r);rfl
section
variable {P:Program} {w:World} {H H':Hp} {h h':Heap} {a C dx:Addr} {fs fs':List (Str×V)}
theorem mW(hok:Id P w H h)(e:H a=some (.ins C dx fs)):∃mA,ObjM h a dx C mA∧(∀f,HZ (fs.lookup f) (mA f))∧PySem.Within mA (fs.map (·.1))∧fs.length≤1000∧H dx=some (.own a):=by
 obtain⟨d,z,ne,ob,mA,n,r,q⟩:=(show ObjOk P w H h a (.ins C dx fs)from hok a _ e)
 exact⟨mA,⟨ob,n,ne⟩,r,q,z,d⟩
end
structure Cls (K:PySem.W.Frag) (C:Addr):Prop where
 pg:PySem.W.plainGet K C Str.empty=true
 hd:PySem.W.hasDictIn K C=true
 po:PySem.W.plainOver K C=true
 sa:PySem.W.findIn K (.ref C) "__setattr__" = some (some (.builtin "object.__setattr__"))
theorem Cls.get{K:PySem.W.Frag}{C:Addr}(c:Cls K C)(f:Str):PySem.W.plainGet K C f=true:=c.pg
def NoAttr(K:PySem.W.Frag)(C:Addr)(f:Str):Prop:=PySem.W.findIn K (.ref C) f=some none
theorem NoAttr.Mt{K:PySem.W.Frag}{C:Addr}{f:Str}(n:NoAttr K C f):PySem.W.takerIn K C f=some none:=by
 unfold PySem.W.takerIn
 rw[show PySem.W.findIn K (.ref C) f=some none from n]
 rfl
structure Gv (K:PySem.W.Frag) (C:Addr) (f:Str) (v:V) (u:Value):Prop where
 at_:PySem.W.findIn K (.ref C) f=some (some u)
 rel:RelV v u
 get:PySem.W.specialIn K u "__get__" = some none
 cp:PySem.W.copiedNames.contains f=false
structure uL (K:PySem.W.Frag) (C:Addr) (m:Str) (f:Addr):Prop where
 at_:PySem.W.findIn K (.ref C) m=some (some (.ref f))
 fn:PySem.W.isFn K (.ref f)=true
 kp:PySem.W.keepIn K (.ref f)=true
section
variable {X:Cx} {pins:List (Addr×Obj)} {σ:St} {H:Hp} {s:Shared} {a C dx:Addr} {fs:List (Str×V)} {f:Str} {v:V} {A:Around} {E:Value→Shared→Prop}
theorem qA{b:Bool}{Q:Value→Shared→Prop}(I:Inv X pins σ H s)(e:H a=some (.ins C dx fs))(c:Cls X.K C)(n:NoAttr X.K C f)(l:fs.lookup f=some v)
  (h:∀u s',Inv X pins σ H s'→RelV v u→Q u s'):wpAny (model X.prog X.w) A (getAttr (.ref a) f b) Q E s:=by
 obtain⟨mA,O,r,_,_,_⟩:=mW I.hok e
 obtain⟨u,hu,ru⟩:=HZ.some_of (v:=v) (o:=mA f) (by rw[←l];exact r f)
 exact yc I.Jo O (c.get f) c.hd n hu (l6 ru) (h u _ (I.tok _) ru)
theorem qB{m:Str}{g:Addr}{pl:Sem Bool}{Q:Value×List Value→Shared→Prop}(I:Inv X pins σ H s)(e:H a=some (.ins C dx fs))(c:Cls X.K C)(k:uL X.K C m g)(l:fs.lookup m=none)
  (h:Q (.ref g,[.ref a]) s):wpAny (model X.prog X.w) A (getMethod (.ref a) m pl) Q E s:=by
 obtain⟨mA,O,r,_,_,_⟩:=mW I.hok e
 have hn:mA m=none:=HZ.none_of (by rw[←l];exact r m)
 exact uJ I.Jo O (c.get m) k.at_ k.fn hn h
theorem qC{y:V}{u:Value}{Q:Unit→Shared→Prop}(I:Inv X pins σ H s)(e:H a=some (.ins C dx fs))(c:Cls X.K C)(n:NoAttr X.K C f)(hl:fs.length < 1000)(ry:RelV y u)
  (h:∀s',Inv X pins σ (upd H a (.ins C dx (putF f y fs))) s'→Q () s'):wpAny (model X.prog X.w) A (setAttr (.ref a) f u) Q E s:=by
 obtain⟨mA,O,r,wi,_,ho⟩:=mW I.hok e
 have hz:(fs.map (·.1)).length≤sizeLine:=by rw[List.length_map,sizeLine_eq];omega
 refine yd I.Jo O c.sa c.po n.Mt c.hd wi hz fun h' O' sb=>h _ ?_
 have hd:∃o,h'.get? dx=some o:=let ⟨o,_,_,e',_⟩:=O'.ns;⟨o,e'⟩
 refine I.write (x:=a) (e:=dx) (by rw[e];exact True.intro) (.inr ho) (fun b q hb z=>(sb.2 b hb).trans z) hd ?_
 refine⟨by rw[aw O.ne];exact ho,?_,O.ne,O'.obj,_,O'.ns,fun g=>?_,fun g hg=>?_⟩
 ·have:=jZ f y fs;omega
 ·show HZ ((putF f y fs).lookup g) (if g=f then some u else mA g)
  rw[jY]
  by_cases q:g=f
  ·rw[if_pos q,if_pos q];exact ry
  ·rw[if_neg q,if_neg q];exact r g
 ·by_cases q:g=f
  ·rw[q];exact(jp f y fs).1
  ·refine(jp f y fs).2 g (wi g fun z=>hg ?_)
   show(if g=f then some u else mA g)=none
   rw[if_neg q];exact z
theorem Inv.made(I:Inv X pins σ H s):Inv X pins σ (upd (upd H s.heap.objs.size (.own (s.heap.objs.size+1))) (s.heap.objs.size+1) (.ins C s.heap.objs.size []))
  { s with heap:=(s.heap.push PySem.W.emptyDict).push (PySem.W.instObj C s.heap.objs.size) }:=by
 have e1:(s.heap.push PySem.W.emptyDict).get? s.heap.objs.size=some PySem.W.emptyDict:=Heap.get?_push_size s.heap rfl
 have e2:((s.heap.push PySem.W.emptyDict).push (PySem.W.instObj C s.heap.objs.size)).get? (s.heap.objs.size+1)=some (PySem.W.instObj C s.heap.objs.size):=by
  have:=Heap.get?_push_size (s.heap.push PySem.W.emptyDict) (o:=PySem.W.instObj C s.heap.objs.size) rfl
  rwa [Heap.size_push]at this
 have e3:(s.heap.push PySem.W.emptyDict).Ns s.heap.objs.size (fun _=>none):=⟨PySem.W.emptyDict,#[],_,e1,rfl,(fun e he=>absurd he (by simp)),fun _=>rfl⟩
 have I1:=I.laid (a:=s.heap.objs.size) (o:=.own (s.heap.objs.size+1)) (h':=s.heap.push PySem.W.emptyDict) (t':=s.toks) (fun b u q=>Heap.get?_push_of_some _ q) (Nat.le_refl _) ⟨_,e1⟩
 refine I1.laid (a:=s.heap.objs.size+1) (o:=.ins C s.heap.objs.size []) (t':=s.toks) (fun b u q=>Heap.get?_push_of_some _ q) (Nat.le_of_eq (Heap.size_push _ _)) ?_
 have ne:s.heap.objs.size≠s.heap.objs.size+1:=Nat.ne_of_lt (Nat.lt_succ_self _)
 refine⟨by rw[aw ne,ay],Nat.zero_le _,ne,e2,fun _=>none,(Heap.Ns1.of_empty e3).at fun o q=>Heap.get?_push_of_some _ q,fun _=>True.intro,fun y hy=>absurd rfl hy⟩
theorem rQ{prog:Program}{w:World}{env:Env}{e:Expr}{f:Str}{pos:Pos}{s:Shared}{Q:Value→Shared→Prop}(hb:attributeBase e f env (eval e env)=eval e env)
  (h:wpAny (model prog w) A (eval e env) (fun o s₁=>wpAny (model prog w) A (getAttr o f true) Q E s₁) E s):wpAny (model prog w) A (eval (.Attribute e f pos) env) Q E s:=
 Attribute_any_ h (by rw[arm_eval_Attribute,hb])
end
def EO(K:PySem.W.Frag)(ta:TE)(f:Str):TE:=fun σ H Q=>ta σ H fun x H1=>∃a C dx fs v,x = .ref a∧H1 a=some (.ins C dx fs)∧Cls K C∧NoAttr K C f∧fs.lookup f=some v∧Q v H1
def EQ(K:PySem.W.Frag)(ta tv:TE)(f:Str):TS:=fun D σ H=>tv σ H fun y H1=>ta σ H1 fun x H2=>∃a C dx fs,x = .ref a∧H2 a=some (.ins C dx fs)∧Cls K C∧NoAttr K C f∧fs.length < 1000∧
 D.nx σ (upd H2 a (.ins C dx (putF f y fs)))
section
variable {X:Cx} {o e value:Expr} {f:Str} {pos pos' tpos:Pos} {ta tv:TE}
theorem AL(he:PE X e ta)(hb:attributeBase e f X.env (eval e X.env)=eval e X.env):PE X (.Attribute e f pos) (EO X.K ta f):=by
 intro pins s σ H Q I h
 refine rQ hb (GJ (he pins s σ H _ I h) fun u s1 ⟨x,H1,I1,rx,a,C,dx,fs,v,ex,ea,c,n,l,q⟩=>?_)
 subst ex
 obtain rfl:u=Value.ref a:=rx
 exact qA I1 ea c n l fun u' s2 I2 ru=>⟨v,H1,I2,ru,q⟩
theorem AM(ha:PE X o ta)(hv:PE X value tv)(hs:swapsWith value (some (.Attribute o f pos')) pos.line X.env=pure false):PS X (.Assign [.Attribute o f pos'] value pos) (EQ X.K ta tv f):=by
 intro pins s σ H D I h
 refine plainObj_wpAny_Assign_Attribute (GJ (hv pins s σ H _ I h) fun u s1 ⟨y,H1,I1,ry,q⟩=>GJ (ha pins s1 σ H1 _ I1 q) fun ov s2 ⟨x,H2,I2,rx,a,C,dx,fs,ex,ea,c,n,l,q2⟩=>?_) hs
 subst ex
 obtain rfl:ov=Value.ref a:=rx
 exact qC I2 ea c n l ry fun s3 I3=>⟨σ,_,I3,q2⟩
end
section
variable {X:Cx} {pins:List (Addr×Obj)} {σ:St} {H:Hp} {s:Shared} {A:Around} {E:Value→Shared→Prop} {Q:Value→Shared→Prop} {c:Value} {b:Bool}
inductive kI (K:PySem.W.Frag) (H:Hp):V→Value→Prop where
 |non:kI K H .non (.type "NoneType")
 |bl (x:Bool):kI K H (.bl x) (.type "bool")
 |int (i:Int):kI K H (.int i) (.type "int")
 |str (x:Str):kI K H (.str x) (.type "str")
 |M_ (x:UInt64):kI K H (.M_ x) (.type "float")
 |lst {a:Addr} {xs:List V} (e:H a=some (.lst xs)):kI K H (.ref a) (.type "list")
 |frz {a:Addr} {o:Obj} {xs:List V} (e:H a=some (.frz o (.lst xs))):kI K H (.ref a) (.type "list")
 |tup {a:Addr} {xs:List V} (e:H a=some (.tup xs)):kI K H (.ref a) (.type "tuple")
 |dK {a:Addr} {kvs:List (bG×V)} (e:H a=some (.dK kvs)):kI K H (.ref a) (.type "dict")
 |dT {a:Addr} {kvs:List (List bG×V)} (e:H a=some (.dT kvs)):kI K H (.ref a) (.type "dict")
 |ins {a C dx:Addr} {fs:List (Str×V)} (e:H a=some (.ins C dx fs)) (cl:Cls K C) (ha:PySem.W.findIn K (.ref C) "__class__" = some (some (.builtin "object.__class__")))
   (hn:PySem.W.specialIn K (.builtin "object.__class__") "__get__" = some (some (.builtin "getset_descriptor.__get__"))) (htk:PySem.W.takesIn K (.builtin "object.__class__")=some true)
   (hm:PySem.W.mroIn K C (.type "object")=some true):kI K H (.ref a) (.ref C)
end
structure Room (k:Nat) (A:Around):Prop where
 hd:A.handled=none
 dp:A.depth+3 * k+5 < recursionLimit
 un:A.units+16 * k+200 < cLine
 gd:A.guards=some []
theorem Room.mono{j k:Nat}{A:Around}(r:Room k A)(h:j≤k):Room j A:=⟨r.hd,by have:=r.dp;omega,by have:=r.un;omega,r.gd⟩
theorem Room.deeper{k:Nat}{A:Around}(r:Room (k+1) A)(env:Env):Room k (A.deeper env):=
 ⟨r.hd,by have:=r.dp;show A.depth+1+3 * k+5 < _;omega,by have:=r.un;show A.units+3+16 * k+200 < _;omega,r.gd⟩
theorem qD{A:Around}{C:Addr}{us:List Value}{kw:List (Str×Value)}:(A.under (.builtin "type.__call__" ⟨.ref C::us,kw⟩)).depth=A.depth+1:=by
 first|rfl|simp[Around.under,Code.weight,Code.isCreation,Code.isGuard,Code.isCaller,Code.frames,Code.isFrame,guardIds]
theorem qE{A:Around}{C:Addr}{us:List Value}{kw:List (Str×Value)}:(A.under (.builtin "type.__call__" ⟨.ref C::us,kw⟩)).units=A.units+1:=by
 first|rfl|simp[Around.under,Code.cUnits,Code.frames,Code.isFrame]
theorem oO{A:Around}{C:Addr}{us:List Value}{kw:List (Str×Value)}:(A.under (.builtin "type.__call__" ⟨.ref C::us,kw⟩)).guards=A.guards:=by
 first|rfl|(cases h:A.guards<;>simp[Around.under,Code.guards,Code.isGuard,guardIds,pushGuards,h])
theorem Room.make{k:Nat}{A:Around}(r:Room (k+1) A)(C:Addr)(us:List Value)(kw:List (Str×Value)):Room k (A.under (.builtin "type.__call__" ⟨.ref C::us,kw⟩)):=
 ⟨r.hd,by have:=r.dp;rw[qD];omega,by have:=r.un;rw[qE];omega,by rw[oO];exact r.gd⟩
theorem Room.depth{k:Nat}{A:Around}(r:Room k A):A.depth < recursionLimit:=by have:=r.dp;omega
def C3:TA:=fun _ H Q=>Q [] H
def zO(ta:TE)(tr:TA):TA:=fun σ H Q=>ta σ H fun x H1=>tr σ H1 fun xs H2=>Q (x::xs) H2
section
variable {X:Cx} {e:Expr} {es:List Expr} {te:TE} {t:TA} {pos:Pos}
theorem AN:PA X [] C3:=fun _ _ _ _ H Q I h=>Calls.spliced_nil ⟨[],H,I,.nil,h⟩
theorem ye(ha:PE X e te)(hr:PA X es t)(hs:starEach (e::es) X.env=(false,eval e X.env)::starEach es X.env:=by rfl):PA X (e::es) (zO te t):=by
 intro pos pins s σ H Q I h
 rw[hs]
 show wpAny _ _ (spliced ((false,eval e X.env)::backTo pos (starEach es X.env))) _ _ s
 refine Calls.spliced_cons (GJ (ha pins s σ H _ I h) fun u s1 ⟨x,H1,I1,r1,q1⟩=>?_)
 exact GJ (hr pos pins s1 σ H1 _ I1 q1) fun us s2 ⟨xs,H2,I2,r2,q2⟩=>⟨x::xs,H2,I2,.cons r1 r2,q2⟩
def ER(t:TA):TE:=fun σ H Q=>t σ H fun xs H1=>xs.length≤sizeLine∧∀p,H1 p=none→Q (.ref p) (upd H1 p (.tup xs))
def ES(t:TA):TE:=fun σ H Q=>t σ H fun xs H1=>xs.length≤sizeLine∧∀p,H1 p=none→Q (.ref p) (upd H1 p (.lst xs))
theorem AO{x1}(h:PA X es t):PE X (.Tuple es x1 pos) (ER t):=by
 intro pins s σ H Q I hq
 refine wpAny_Tuple_spliced (GJ (h pos pins s σ H _ I hq) fun us s1 ⟨xs,H1,I1,r,z,q⟩=>⟨by rw[←r.length];exact z,?_⟩)
 have hf:H1 s1.heap.objs.size=none:=I1.hok.fresh (Nat.le_refl _)
 refine⟨.ref s1.heap.objs.size,upd H1 s1.heap.objs.size (.tup xs),I1.laid (t':=s1.toks) (fun b u e=>Heap.get?_push_of_some _ e) (Nat.le_refl _) ?_,rfl,q _ hf⟩
 exact⟨z,us,r,⟨_,Heap.get?_push_size _ rfl,rfl,rfl,_,rfl⟩⟩
theorem AQ(h:PA X es t):PE X (.List es pos) (ES t):=by
 intro pins s σ H Q I hq
 refine wpAny_List_spliced (GJ (h pos pins s σ H _ I hq) fun us s1 ⟨xs,H1,I1,r,z,q⟩=>⟨by rw[←r.length];exact z,?_⟩)
 have hf:H1 s1.heap.objs.size=none:=I1.hok.fresh (Nat.le_refl _)
 refine⟨.ref s1.heap.objs.size,upd H1 s1.heap.objs.size (.lst xs),I1.laid (t':=s1.toks) (fun b u e=>Heap.get?_push_of_some _ e) (Nat.le_refl _) ?_,rfl,q _ hf⟩
 exact⟨z,us,0,r,Heap.get?_push_size _ rfl⟩
end
abbrev Sp:=List V→Hp→VK→XK→Prop
abbrev uk:=List Env→Hp→Shared→XK→Value→Shared→Prop
structure KD (P:Program) (w:World) (K:PySem.W.Frag) (mg:Str→Option Value) (base:Heap) (A:Around) (outer:List Env) (s:Shared) (H:Hp):Prop where
 frames:A.frames=some outer
 mod:Mod K mg base
 bs:∀b o,base.get? b=some o→s.heap.get? b=some o∧H b=none
 KU:base.objs.size≤s.heap.objs.size
 Ix:s.heap.FunFrames base outer
 Ln:∀b∈frs outer,H b=none
 hok:Id P w H s.heap
 bare:AllBare s.gens
def CE(outer:List Env)(P:Program)(w:World)(H:Hp)(s:Shared)(Q:VK)(u:Value)(s':Shared):Prop:=
 ∃v H',s'.os=s.os∧AllBare s'.gens∧Un (frs outer) [] H H' s.heap s'.heap∧Id P w H' s'.heap∧RelV v u∧Q v H'
def CR(CX:uk)(outer:List Env)(P:Program)(w:World)(H:Hp)(s:Shared)(Q:VK)(E:XK)(r:Result)(s':Shared):Prop:=
 match r with
 | .ok (.ret u)=>CE outer P w H s Q u s'
 | .ok _=>False
 | .error e=>CX outer H s E e s'
structure eh (P:Program) (w:World) (K:PySem.W.Frag) (mg:Str→Option Value) (base:Heap) (CX:uk) (k:Nat) (f:Addr) (fd:FuncData) (ps:List Str) (sp:Sp):Prop where
 len:∀vs H Q E,sp vs H Q E→vs.length=ps.length
 run:∀(A:Around) (outer:List Env) (s:Shared) (H:Hp) (args:Args) (us:List Value) (vs:List V) (Q:VK) (E:XK),Room k A→KD P w K mg base A outer s H→BindsTo s fd args (ps.zip us)→Vals vs us→sp vs H Q E→
  codeAny (model P w) A (.call (.ref f) args) (CR CX outer P w H s Q E) s
theorem KD.make{P:Program}{w:World}{K:PySem.W.Frag}{mg:Str→Option Value}{base:Heap}{A:Around}{outer:List Env}{s:Shared}{H:Hp}(e:KD P w K mg base A outer s H)(C:Addr)(us:List Value)(kw:List (Str×Value)) :
  KD P w K mg base (A.under (.builtin "type.__call__" ⟨.ref C::us,kw⟩)) outer s H:=⟨by first|exact e.frames|(simpa [Around.under,Code.envs,Code.isFrame,pushEnvs]using e.frames),e.mod,e.bs,e.KU,e.Ix,e.Ln,e.hok,e.bare⟩
section
variable {X:Cx} {pins:List (Addr×Obj)} {σ:St} {H:Hp} {s s':Shared}
theorem Inv.L_(I:Inv X pins σ H s):KD X.prog X.w X.K X.mg X.base X.A X.stack s H:=
 ⟨I.ok.frames,I.ok.mod,I.bs,Nat.le_trans I.ok.KU I.sz,I.stack,I.Ka,I.hok,I.bare⟩
theorem Inv.after{Q:VK}{u:Value}(I:Inv X pins σ H s)(h:CE X.stack X.prog X.w H s Q u s'):EP X pins σ Q u s':=by
 obtain⟨v,H',os,bare,un,hok,r,q⟩:=h
 obtain⟨hh,g,d,t,os'⟩:=s'
 obtain rfl:os'=s.os:=os
 exact⟨v,H',I.call (h':=hh) (g':=g) (d':=d) (t':=t) (ch:=[]) un hok bare (fun b z=>absurd z (by simp)),r,q⟩
end
def C4(sp:Sp)(dvs:List V)(E:XK)(t:TA):TE:=fun σ H Q=>t σ H fun vs H1=>sp (vs++dvs) H1 Q E
def C5(C:Addr)(sp:Sp)(dvs:List V)(E:XK)(t:TA):TE:=fun σ H Q=>t σ H fun vs H1=>∀x dx,H1 x=none→H1 dx=none→dx≠x→
 sp (.ref x::(vs++dvs)) (upd (upd H1 dx (.own x)) x (.ins C dx [])) (fun v H2=>v = .non∧Q (.ref x) H2) E
def Binds(K:PySem.W.Frag)(fd:FuncData)(ps:List Str)(ds:List Value):Prop:=
 ∀(s:Shared) (us:List Value),K.In s.heap→(us++ds).length=ps.length→BindsTo s fd ⟨us,[]⟩ (ps.zip (us++ds))
theorem Binds.all{K:PySem.W.Frag}{fd:FuncData}{ps:List Str}(h:∀us:List Value,us.length=ps.length→bindArgs fd ⟨us,[]⟩=pure (ps.zip us)):Binds K fd ps []:=fun s us _ hl=>by
 rw[List.append_nil]at hl ⊢
 exact .of_eq (h us hl)
def kJ(CX:uk)(X:Cx)(E:XK):Prop:=∀(pins:List (Addr×Obj)) (σ:St) (H:Hp) (s:Shared) (e:Value) (s':Shared),Inv X pins σ H s→CX X.stack H s E e s'→X.xe e s'
section
variable {X:Cx} {CX:uk} {k:Nat} {f C:Addr} {fd:FuncData} {ps:List Str} {sp:Sp} {dvs:List V} {ds:List Value} {E:XK} {x m:Str} {p pos apos:Pos} {e o:Expr} {es:List Expr} {ta:TE} {t:TA}
theorem AR{pins:List (Addr×Obj)}{σ:St}{H:Hp}{s:Shared}{Q:VK}{us:List Value}{vs:List V}(F:eh X.prog X.w X.K X.mg X.base CX k f fd ps sp)(hr:Room k X.A)(hb:Binds X.K fd ps ds)(hd:Vals dvs ds)(hx:kJ CX X E)
  (I:Inv X pins σ H s) (r:Vals vs us) (h:sp (vs++dvs) H Q E):wpAny (model X.prog X.w) X.A (call (.ref f) us) (EP X pins σ Q) X.xe s:=by
 have r2:Vals (vs++dvs) (us++ds):=r.append hd
 have hl:(us++ds).length=ps.length:=by rw[←r2.length];exact F.len _ _ _ _ h
 refine wpAny_call (codeAny_mono (F.run X.A X.stack s H ⟨us,[]⟩ (us++ds) (vs++dvs) Q E hr I.L_ (hb s us I.Jo hl) r2 h) fun r s' hq=>?_)
 cases r with
 |error e=>exact hx pins σ H s e s' I hq
 |ok fl=>
  cases fl with
  |ret u=>exact I.after hq
  |next=>exact False.elim hq
  |brk=>exact False.elim hq
  |cont=>exact False.elim hq
theorem yf(F:eh X.prog X.w X.K X.mg X.base CX k f fd ps sp)(hr:Room k X.A)(hg:Gl X x)(hm:X.mg x=some (.ref f))(hk:PySem.W.keepIn X.K (.ref f)=true)(hb:Binds X.K fd ps ds)(hd:Vals dvs ds)(hx:kJ CX X E)
  (ha:PA X (e::es) t) (hdb:(x == ("__debug__":Str))=false:=by decide) (he:starEach (e::es) X.env=(false,eval e X.env)::starEach es X.env:=by rfl) (hpl:(backTo pos (starEach es X.env)).any (·.1)=false:=by rfl) :
  PE X (.Call (.Name x p) (e::es) [] pos) (C4 sp dvs E t):=by
 intro pins s σ H Q I h
 refine wpAny_Call_Name_kw (gL I hg hm ?_ hdb)
 refine PySem.W.callWith_K (h₀:=X.base) I.ok.mod.MF hk (GJ (ha pos pins s σ H _ I h) fun us s1 ⟨vs,H1,I1,r,q⟩=>⟨I1.Jo,?_⟩) he hpl
 exact AR F hr hb hd hx I1 r q
structure Mk (K:PySem.W.Frag) (C f:Addr):Prop where
 makes:PySem.W.makesIn K C=true
 init:PySem.W.findIn K (.ref C) "__init__" = some (some (.ref f))
 fn:PySem.W.isFn K (.ref f)=true
 kp:PySem.W.keepIn K (.ref C)=true
theorem uM{pins:List (Addr×Obj)}{σ:St}{H:Hp}{s:Shared}{Q:VK}{us:List Value}{vs:List V}(M:Mk X.K C f)(F:eh X.prog X.w X.K X.mg X.base CX k f fd ps sp)(hr:Room (k+1) X.A)(hb:Binds X.K fd ps ds)(hd:Vals dvs ds)
  (hx:kJ CX X E) (I:Inv X pins σ H s) (r:Vals vs us)
  (h:∀x dx,H x=none→H dx=none→dx≠x→sp (.ref x::(vs++dvs)) (upd (upd H dx (.own x)) x (.ins C dx [])) (fun v H2=>v = .non∧Q (.ref x) H2) E) :
  wpAny (model X.prog X.w) X.A (call (.ref C) us) (EP X pins σ Q) X.xe s:=by
 have hq:=h (s.heap.objs.size+1) s.heap.objs.size (I.hok.fresh (Nat.le_succ _)) (I.hok.fresh (Nat.le_refl _)) (Nat.ne_of_lt (Nat.lt_succ_self _))
 have I2:=Inv.made (C:=C) I
 have r2:Vals (V.ref (s.heap.objs.size+1)::(vs++dvs)) (Value.ref (s.heap.objs.size+1)::(us++ds)):=.cons rfl (r.append hd)
 have hl:(Value.ref (s.heap.objs.size+1)::us++ds).length=ps.length:=by
  have e:=r2.length
  rw[F.len _ _ _ _ hq]at e
  exact e.symm
 refine wpAny_call (uK (f:=f) I.Jo M.makes M.init (beq_iff_eq.mp M.fn) (codeAny_mono (F.run _ X.stack _ _ ⟨Value.ref (s.heap.objs.size+1)::us,[]⟩ (Value.ref (s.heap.objs.size+1)::(us++ds)) _ _ E (hr.make C us [])
  (I2.L_.make C us []) (hb _ (Value.ref (s.heap.objs.size+1)::us) I2.Jo hl) r2 hq) fun r s' hq'=>?_))
 cases r with
 |error e=>exact hx pins σ _ _ e s' I2 hq'
 |ok fl=>
  cases fl with
  |ret u=>
   obtain⟨v,H',I3,rv,ev,q3⟩:=I2.after hq'
   subst ev
   exact⟨rv,⟨V.ref (s.heap.objs.size+1),H',I3,rfl,q3⟩⟩
  |next=>exact False.elim hq'
  |brk=>exact False.elim hq'
  |cont=>exact False.elim hq'
theorem yg(M:Mk X.K C f)(F:eh X.prog X.w X.K X.mg X.base CX k f fd ps sp)(hr:Room (k+1) X.A)(hg:Gl X x)(hm:X.mg x=some (.ref C))(hb:Binds X.K fd ps ds)(hd:Vals dvs ds)(hx:kJ CX X E)
  (ha:PA X (e::es) t) (hdb:(x == ("__debug__":Str))=false:=by decide) (he:starEach (e::es) X.env=(false,eval e X.env)::starEach es X.env:=by rfl) (hpl:(backTo pos (starEach es X.env)).any (·.1)=false:=by rfl) :
  PE X (.Call (.Name x p) (e::es) [] pos) (C5 C sp dvs E t):=by
 intro pins s σ H Q I h
 refine wpAny_Call_Name_kw (gL I hg hm ?_ hdb)
 refine PySem.W.callWith_K (h₀:=X.base) I.ok.mod.MF M.kp (GJ (ha pos pins s σ H _ I h) fun us s1 ⟨vs,H1,I1,r,q⟩=>⟨I1.Jo,?_⟩) he hpl
 exact uM M F hr hb hd hx I1 r q
end
section
variable {X:Cx} {CX:uk} {k:Nat} {f C:Addr} {fd:FuncData} {ps ks:List Str} {sp:Sp} {E:XK} {x m:Str} {p pos apos kpos:Pos} {e o:Expr} {es:List Expr} {kws:List Keyword} {te ta:TE} {t tk:TA} {nm:Option Str}
structure EU (K:PySem.W.Frag) (fd:FuncData) (ps ks:List Str) (g:List Value→List Value→List Value) (gV:List V→List V→List V):Prop where
 to:∀(s:Shared) (us ws:List Value),K.In s.heap→(g us ws).length=ps.length→BindsTo s fd ⟨us,ks.zip ws⟩ (ps.zip (g us ws))
 rel:∀{vs:List V} {us:List Value} {zs:List V} {ws:List Value},Vals vs us→Vals zs ws→Vals (gV vs zs) (g us ws)
variable {g:List Value→List Value→List Value} {gV:List V→List V→List V}
end
structure bR (N P:List Str) (sc:Scope):Prop where
 kind:sc.kind = .function
 co:sc.isCoroutine=false
 gen:sc.isGenerator=false
 nd:N.Nodup
 pre:N.take P.length=P
 par:∀x∈P,sc.names.lookup x=some .local∨sc.names.lookup x=some .cell
 MI:∀y∈sc.names,y.2 ≠ .free
theorem l9{kindOf:Str→Option NameKind}{x:Str}:∀{binds:List (Str×Value)} {m:Str→Option Value},(∀v,(x,v) ∉ binds)→bindL kindOf binds m x=m x
 |[],_,_=>rfl
 |(n,v)::r,m,h=>by
  unfold bindL
  rw[l9 fun w hw=>h w (List.mem_cons_of_mem _ hw)]
  split
  ·have:x≠n:=by rintro rfl;exact h v List.mem_cons_self
   simp[this]
  ·rfl
theorem l_{kindOf:Str→Option NameKind}{x:Str}:∀{binds:List (Str×Value)} {m:Str→Option Value},(∀v,(x,v) ∉ binds)→bindC kindOf binds m x=m x
 |[],_,_=>rfl
 |(n,v)::r,m,h=>by
  unfold bindC
  rw[l_ fun w hw=>h w (List.mem_cons_of_mem _ hw)]
  split
  ·rfl
  ·have:x≠n:=by rintro rfl;exact h v List.mem_cons_self
   simp[this]
theorem ma{kindOf:Str→Option NameKind}{x:Str}{v:Value}:∀{P:List Str} {vs:List Value} {i:Nat} {m:Str→Option Value},P.Nodup→P[i]?=some x→vs[i]?=some v→kindOf x=some .local→
  bindL kindOf (P.zip vs) m x=some v
 |[],_,_,_,_,h,_,_=>by simp at h
 |_::_,[],_,_,_,_,h,_=>by simp at h
 |p::P,w::vs,0,m,nd,h1,h2,hk=>by
  simp at h1 h2;subst h1;subst h2
  show bindL kindOf ((p,w)::P.zip vs) m p=_
  unfold bindL
  rw[l9 fun v hv=>(List.nodup_cons.mp nd).1 (List.of_mem_zip hv).1,if_pos hk]
  simp
 |p::P,w::vs,i+1,m,nd,h1,h2,hk=>by
  show bindL kindOf ((p,w)::P.zip vs) m x=_
  unfold bindL
  exact ma (i:=i) (List.nodup_cons.mp nd).2 (by simpa using h1) (by simpa using h2) hk
theorem md{kindOf:Str→Option NameKind}{x:Str}{v:Value}:∀{P:List Str} {vs:List Value} {i:Nat} {m:Str→Option Value},P.Nodup→P[i]?=some x→vs[i]?=some v→kindOf x≠some .local→
  bindC kindOf (P.zip vs) m x=some v
 |[],_,_,_,_,h,_,_=>by simp at h
 |_::_,[],_,_,_,_,h,_=>by simp at h
 |p::P,w::vs,0,m,nd,h1,h2,hk=>by
  simp at h1 h2;subst h1;subst h2
  show bindC kindOf ((p,w)::P.zip vs) m p=_
  unfold bindC
  rw[l_ fun v hv=>(List.nodup_cons.mp nd).1 (List.of_mem_zip hv).1,if_neg hk]
  simp
 |p::P,w::vs,i+1,m,nd,h1,h2,hk=>by
  show bindC kindOf ((p,w)::P.zip vs) m x=_
  unfold bindC
  exact md (i:=i) (List.nodup_cons.mp nd).2 (by simpa using h1) (by simpa using h2) hk
noncomputable def fB(N:List Str)(vs:List V):St:=vs.map some++List.replicate (N.length - vs.length) none
noncomputable def gU(CX:uk)(P:Program)(w:World)(K:PySem.W.Frag)(mg:Str→Option Value)(base:Heap)(N:List Str)(qual:Str)(scope:Scope)(f:Addr)(cd:Value)(A:Around)(outer:List Env)(s:Shared)(H:Hp)(E:XK):Cx where
 prog:=P
 w:=w
 K:=K
 mg:=mg
 base:=base
 A:=A.deeper (envOfC qual scope s.heap.objs.size f cd)
 N:=N
 s₀:=s
 H₀:=H
 env:=envOfC qual scope s.heap.objs.size f cd
 outer:=outer
 stack:=envOfC qual scope s.heap.objs.size f cd::outer
 ex:=[]
 calm:=true
 fn:=fun _=>true
 pn:=[]
 xe:=fun e s'=>wpAny (model P w) (A.deeper (envOfC qual scope s.heap.objs.size f cd)) (leaving (envOfC qual scope s.heap.objs.size f cd) e) (fun _ s''=>CX outer H s E e s'') (fun e' s''=>CX outer H s E e' s'') s'
theorem oP{sc:Scope}{n:Nat}{x:Str}(h:sc.names.lookup x=some .cell):∃c,(cellsFrom n sc.names []).lookup x=some c:=by
 have q:=PySem.W.cellsFrom_some sc.names n [] (.inl h)
 exact Option.isSome_iff_exists.mp q
theorem sW{CX:uk}{P:Program}{w:World}{K:PySem.W.Frag}{mg:Str→Option Value}{base:Heap}{N ps:List Str}{qual:Str}{scope:Scope}{f:Addr}{cd:Value}{A:Around}{outer:List Env}{s s1:Shared}{H:Hp}{E:XK}{us:List Value}{vs:List V}
  (S:bR N ps scope) (hd:A.handled=none) (e0:KD P w K mg base A outer s H) (hl:vs.length=ps.length) (r:Vals vs us)
  (x:InCallC s s.heap.objs.size (bindL (envOfC qual scope s.heap.objs.size f cd).kindOf (ps.zip us) fun _=>none) (cellsFrom (s.heap.objs.size+1) scope.names []) (bindC (envOfC qual scope s.heap.objs.size f cd).kindOf (ps.zip us) fun _=>none) s1) :
  Inv (gU CX P w K mg base N qual scope f cd A outer s H E) [] (fB N vs) H s1:=by
 have hpl:ps.length≤N.length:=by have:=congrArg List.length S.pre;rw[List.length_take]at this;omega
 obtain⟨h1,tk,rfl,hk⟩:=x.done
 have Nm:∀b:Addr,b ∉ (gU CX P w K mg base N qual scope f cd A outer s H E).ex:=fun b z=>absurd (show b∈([]:List Addr)from z) (by simp)
 refine⟨⟨e0.mod,S.kind,rfl,rfl,Nat.le_refl _,fun y z c h1 h2=>?_,fun y hy=>?_,fun y c _ h=>?_,fun _=>hd,Around.frames_deeper e0.frames,.inr ⟨rfl,rfl⟩,fun b z=>absurd z (Nm b),e0.bs,e0.KU,fun b _ _=>Nm b,fun b z=>absurd z (Nm b),e0.Ix,e0.Ln⟩,
  rfl,e0.bare,Un.kept hk,⟨_,x.toInCall.ns,fun i y v h1 h2 h3=>?_⟩,fun y c h=>⟨_,x.cell y c h⟩,e0.hok.fresh (Nat.le_refl _),fun y c h=>?_,fun p hp=>absurd (show p∈([]:List (Addr×Obj))from hp) (by simp),e0.hok.kept hk,?_⟩
 ·exact name_of_addr x.apart (PySem.mem_of_lookup h1) (PySem.mem_of_lookup h2)
 ·have hy:scope.names.lookup y=some .cell∨scope.names.lookup y=some .free:=hy
  rcases hy with hy|hy
  ·exact oP hy
  ·exact absurd rfl (S.MI _ (PySem.mem_of_lookup hy))
 ·exact Nat.le_of_lt (x.above y c (PySem.mem_of_lookup h))
 ·have hi:i < vs.length:=by
   unfold fB at h2
   by_cases hi:i < vs.length
   ·exact hi
   ·rw[List.getElem?_append_right (by simpa using hi)]at h2
    rw[List.getElem?_replicate]at h2
    split at h2<;>cases h2
  have ha:vs[i]?=some v:=by
   unfold fB at h2
   rw[List.getElem?_append_left (by simpa using hi),List.getElem?_map]at h2
   cases e:vs[i]? with
   |none=>rw[e]at h2;cases h2
   |some a=>rw[e]at h2;cases h2;rfl
  obtain⟨u,hu,rv⟩:=r.get ha
  have hp:ps[i]?=some y:=by
   rw[←S.pre,List.getElem?_take_of_lt (by omega)];exact h1
  have P0:ps.Nodup:=by rw[←S.pre];exact S.nd.sublist (List.take_sublist _ _)
  refine⟨u,rv,?_⟩
  rcases S.par y (List.mem_of_getElem? hp)with k|k
  ·exact .inl ⟨k,ma P0 hp hu k⟩
  ·obtain⟨c,e⟩:=oP (n:=s.heap.objs.size+1) k
   refine .inr ⟨.inl k,c,e,?_⟩
   have q:=x.cell y c e
   rw[md P0 hp hu (by show scope.names.lookup y≠_;rw[k];decide)]at q
   exact q
 ·exact e0.hok.fresh (Nat.le_of_lt (x.above y c (PySem.mem_of_lookup h)))
 ·unfold fB
  show _=N.length
  rw[List.length_append,List.length_map,List.length_replicate]
  omega
theorem uN{CX:uk}{P:Program}{w:World}{K:PySem.W.Frag}{mg:Str→Option Value}{base:Heap}{k:Nat}{f:Addr}{name qual:Str}{params:Arguments}{body:List Stmt}{scope:Scope}{dV kV doc pm cdv ct oc:Value}{an od:Option Addr}
  {osl:Array (Option Value)} {N ps:List Str} {sp:Sp} (lk:K.lookup f=some ⟨oc,od,.func (PySem.W.fnOf name qual params body scope dV kV doc pm an cdv ct),osl⟩) (hcd:PySem.W.codeIn K cdv qual=true) (S:bR N ps scope)
  (len:∀vs H Q E,sp vs H Q E→vs.length=ps.length)
  (hbody:∀(A:Around) (outer:List Env) (s:Shared) (H:Hp) (vs:List V) (Q:VK) (E:XK),Room k (A.deeper (envOfC qual scope s.heap.objs.size f cdv))→sp vs H Q E→
   ∃t,J4 (gU CX P w K mg base N qual scope f cdv A outer s H E) body t∧t { nx:=fun _ H'=>Q .non H',rt:=Q } (fB N vs) H) :
  eh P w K mg base CX (k+1) f (PySem.W.fnOf name qual params body scope dV kV doc pm an cdv ct) ps sp:=by
 refine⟨len,fun A outer s H args us vs Q E hr e0 hb r LU=>?_⟩
 have hl:=len _ _ _ _ LU
 have KX:K.In s.heap:=e0.mod.MF.keeps fun b o e=>(e0.bs b o e).1
 have lim:s.heap.NoLimit:=e0.mod.nolimit.keeps fun b o e=>(e0.bs b o e).1
 have hkind:∀y∈ps.zip us,scope.names.lookup y.1=some .local∨(scope.names.lookup y.1=some .cell∧((cellsFrom (s.heap.objs.size+1) scope.names []).lookup y.1).isSome=true):=fun⟨n,v⟩ hy=>by
  rcases S.par n (List.of_mem_zip hy).1 with q|q
  ·exact .inl q
  ·exact .inr ⟨q,PySem.W.cellsFrom_some _ _ _ (.inl q)⟩
 refine codeAny_call_function hr.depth (KX _ _ lk) rfl S.co S.gen rfl (PySem.W.codeRec_of KX hcd) (hb _ _ _ _ ?_)
 refine wpAny_newFunctionEnv_cells S.kind hkind fun env he s1 x=>?_
 subst he
 refine⟨lim.keeps x.toInCall.keep,codeAny_func ?_⟩
 obtain⟨t,ht,hq⟩:=hbody A outer s H vs Q E (hr.deeper _) LU
 have I:Inv (gU CX P w K mg base N qual scope f cdv A outer s H E) [] (fB N vs) H s1:=sW S hr.hd e0 hl r x
 refine wpAny_mono (ht [] s1 (fB N vs) H _ I hq) (fun fl s' hs=>?_) fun e s' hs=>hs
 have fin:∀{σ':St} {H':Hp} {v:V} {u:Value},Inv (gU CX P w K mg base N qual scope f cdv A outer s H E) [] σ' H' s'→RelV v u→Q v H'→CE outer P w H s Q u s':=
  fun{σ' H' v u} J rv q=>⟨v,H',J.os,J.bare,J.base,J.hok,rv,q⟩
 cases fl with
 |ret u=>
  obtain⟨v,σ',H',J,rv,q⟩:=hs
  exact fin J rv q
 |next=>
  obtain⟨σ',H',J,q⟩:=hs
  exact fin (v:=V.non) (u:=Value.none) J rfl q
 |brk=>
  obtain⟨_,_,_,q⟩:=hs
  exact False.elim q
 |cont=>
  obtain⟨_,_,_,q⟩:=hs
  exact False.elim q
section
variable {X:Cx} {x:Str} {p pos:Pos} {e:Expr} {es:List Expr} {t:TA} {id T:String} {r:List V→Hp→VK→Prop}
def FJ(r:List V→Hp→VK→Prop)(t:TA):TE:=fun σ H Q=>t σ H fun vs H1=>r vs H1 Q
theorem uO(hc:dN X (.builtin id) r)(hg:Gl X x)(hm:X.mg x=none)(hv:bootBuiltins x=some (.builtin id))(ha:PA X (e::es) t)(hn:x ≠ "__name__":=by decide)(hdb:(x == ("__debug__":Str))=false:=by decide)
  (he:starEach (e::es) X.env=(false,eval e X.env)::starEach es X.env:=by rfl) (hpl:(backTo pos (starEach es X.env)).any (·.1)=false:=by rfl):PE X (.Call (.Name x p) (e::es) [] pos) (FJ r t):=by
 intro pins s σ H Q I h
 refine wpAny_Call_Name_kw (fM I hg hm hv ?_ hn hdb)
 exact PyProof.Rows.callWith_builtin1 (GJ (ha pos pins s σ H _ I h) fun us s1 ⟨vs,H1,I1,r1,q1⟩=>hc pins s1 σ H1 vs us Q I1 r1 q1) he hpl
theorem sX(hc:dN X (.type T) r)(hg:Gl X x)(hm:X.mg x=none)(hv:bootBuiltins x=some (.type T))(ha:PA X (e::es) t)(hn:x ≠ "__name__":=by decide)(hdb:(x == ("__debug__":Str))=false:=by decide)
  (he:starEach (e::es) X.env=(false,eval e X.env)::starEach es X.env:=by rfl) (hpl:(backTo pos (starEach es X.env)).any (·.1)=false:=by rfl):PE X (.Call (.Name x p) (e::es) [] pos) (FJ r t):=by
 intro pins s σ H Q I h
 refine wpAny_Call_Name_kw (fM I hg hm hv ?_ hn hdb)
 exact PyProof.Rows.callWith_type1 (GJ (ha pos pins s σ H _ I h) fun us s1 ⟨vs,H1,I1,r1,q1⟩=>hc pins s1 σ H1 vs us Q I1 r1 q1) he hpl
end
end L2
namespace HT
open PySem PyProof.Rows
section
open PySem.SeqAt
open PySem.AutoSeq1 (wpAny_loadPart')
open PySem.MeetsSeq PySem.MeetsSeq2 PySem.MeetsSeq3
end
section
variable {prog:Program} {w:World} {A:Around} {E:Value→Shared→Prop} {s:Shared}
theorem yh{t b:Addr}{vs ws:List Value}{Q:Value→Shared→Prop}(ht:IsTup s.heap t vs.toArray)(hb:IsTup s.heap b ws.toArray)(hv:vs≠[])
  (h1:ws=[]→Q (.ref t) s) (h2:ws≠[]→Q (.ref s.heap.objs.size) { s with heap:=s.heap.push { cls:=.type "tuple",data:=.seq (vs++ws).toArray } })
  (hsz:vs.length+ws.length≤sizeLine):wpAny (model prog w) A (binaryOp .Add (.ref t) (.ref b)) Q E s:=by
 obtain⟨⟨cls,dd,data,sl⟩,ho,hc,n,hd⟩:=id ht
 obtain⟨⟨OJ,dd2,data2,sl2⟩,ho2,hc2,n2,hd2⟩:=id hb
 simp only at hc hd hc2 hd2
 subst hc hd hc2 hd2
 have e:vs.toArray++ws.toArray=(vs++ws).toArray:=by simp
 by_cases hw:ws=[]
 ·exact concat_meets ⟨_,ho,rfl⟩ ⟨_,ho2,rfl⟩ noFill_tuple_add seq_tuple_add PySem.F.slot_tuple_add PySem.F.entry_tuple_add (PySem.F.args_tuple_add_2 _ _)
   (tuple_addW1 t b vs.toArray ws.toArray n n2 dd dd2 sl sl2 (by simpa using hv) (by simp[hw])) ⟨ho,ho2,h1 hw⟩
 ·refine concat_meets ⟨_,ho,rfl⟩ ⟨_,ho2,rfl⟩ noFill_tuple_add seq_tuple_add PySem.F.slot_tuple_add PySem.F.entry_tuple_add (PySem.F.args_tuple_add_2 _ _)
   (tuple_addW2 t b vs.toArray ws.toArray n n2 dd dd2 sl sl2 (by simpa using hv) (by simpa using hw) (by rw[List.size_toArray,List.size_toArray];exact hsz)) ⟨ho,ho2,?_⟩
  rw[e]
  exact h2 hw
noncomputable def G0(n d:Nat):Option Int→Nat
 |none=>d
 |some v=>if v < 0 then (v+(n:Int)).toNat else min v.toNat n
theorem uP(n d:Nat):G0 n d none=d:=rfl
theorem yi(n d k:Nat):G0 n d (some (k:Int))=min k n:=by
 show(if (k:Int) < 0 then ((k:Int)+(n:Int)).toNat else min (k:Int).toNat n)=min k n
 rw[if_neg (by omega),Int.toNat_natCast]
theorem AS(n d:Nat)(hd:d≤n)(o:Option Int):G0 n d o≤n:=by
 cases o with
 |none=>exact hd
 |some v=>
  show(if v < 0 then (v+(n:Int)).toNat else min v.toNat n)≤n
  by_cases hv:v < 0
  ·rw[if_pos hv];omega
  ·rw[if_neg hv];exact Nat.min_le_right _ _
theorem rR(v:Int)(n d:Nat):(if v < 0 then max (v+(n:Int)) 0 else min v (n:Int))=((G0 n d (some v):Nat):Int):=by
 show(if v < 0 then max (v+(n:Int)) 0 else min v (n:Int))=(((if v < 0 then (v+(n:Int)).toNat else min v.toNat n):Nat):Int)
 by_cases hv:v < 0
 ·simp only[if_pos hv];omega
 ·simp only[if_neg hv];omega
theorem qF(lo hi:Option Int)(n:Nat):Builtin.Slice.sliceAdjust lo hi 1 (n:Int)=(((G0 n 0 lo:Nat):Int),((G0 n n hi:Nat):Int)):=by
 have h1:¬((1:Int) < 0):=by omega
 unfold Builtin.Slice.sliceAdjust
 simp only[h1,if_false]
 refine Prod.ext ?_ ?_
 ·cases lo with
  |none=>rfl
  |some v=>exact rR v n 0
 ·cases hi with
  |none=>rfl
  |some v=>exact rR v n n
theorem qG(i j:Nat):Builtin.Slice.slicePlaces (i:Int) (j:Int) 1=j - i:=by
 unfold Builtin.Slice.slicePlaces
 have h1:(1:Int) > 0:=by omega
 simp only[h1,if_true,Int.ediv_one]
 split<;>omega
theorem kK{v:Value}{o:Option Int}{Q:Option Int→Shared→Prop}(p:IsPart v o)(h:Q o s):wpAny (model prog w) A (Builtin.Slice.slicePartIndex v) Q E s:=by
 cases p with
 |none=>exact slicePart_none h
 |int i t=>exact slicePart_int h
theorem eo{sl:Addr}{vl vu:Value}{lo hi:Option Int}{n:Nat}{Q:Int×Int×Nat→Shared→Prop}(hs:s.heap.IsSliceOf sl vl vu .none)(pl:IsPart vl lo)(pu:IsPart vu hi)
  (h:Q (((G0 n 0 lo:Nat):Int),1,G0 n n hi - G0 n 0 lo) s):wpAny (model prog w) A (Builtin.Slice.sliceApplied (.ref sl) (pure (n:Int))) Q E s:=by
 obtain⟨os,hos,hcs,hds⟩:=id hs
 unfold Builtin.Slice.sliceApplied Builtin.Slice.sliceFields
 refine wpAny_bind (wpAny_bind (wpAny_field hos hds (x:=vl) rfl (wpAny_bind (wpAny_field hos hds (x:=vu) rfl (wpAny_bind (wpAny_field hos hds (x:=.none) rfl (wpAny_pure ?_)))))))
 refine wpAny_bind (slicePart_none ?_)
 show wpAny _ _ (if ((1:Int) == 0)=true then _ else _) _ _ s
 rw[if_neg (by decide)]
 refine wpAny_bind (kK pl (wpAny_bind (kK pu (wpAny_bind (wpAny_pure ?_)))))
 show wpAny _ _ (match Builtin.Slice.sliceAdjust lo hi 1 (n:Int)with|(lo,hi)=>pure (lo,(1:Int),Builtin.Slice.slicePlaces lo hi 1)) _ _ s
 rw[qF lo hi n]
 show wpAny _ _ (pure (((G0 n 0 lo:Nat):Int),(1:Int),Builtin.Slice.slicePlaces ((G0 n 0 lo:Nat):Int) ((G0 n n hi:Nat):Int) 1)) _ _ s
 rw[qG]
 exact wpAny_pure h
theorem uQ(xs:Array Value)(i k:Nat):((List.range k).filterMap fun(m:Nat)=>xs[((i:Int)+(m:Int) * 1).toNat]?).toArray=((xs.toList.drop i).take k).toArray:=by
 have e:(fun(m:Nat)=>xs[((i:Int)+(m:Int) * 1).toNat]?)=fun m=>xs[i+m]?:=by
  funext m
  have:((i:Int)+(m:Int) * 1).toNat=i+m:=by omega
  rw[this]
 rw[e]
 have:=pick_run xs i k
 rw[List.filterMap_map]at this
 have e2:((fun x=>xs[x]?) ∘ fun x=>i+x)=fun m=>xs[i+m]?:=rfl
 rw[e2]at this
 rw[this]
theorem iD{t sl:Addr}{items:Array Value}{vl vu:Value}{lo hi:Option Int}{Q:Value→Shared→Prop}(ht:IsTup s.heap t items)(hs:s.heap.IsSliceOf sl vl vu .none)(pl:IsPart vl lo)(pu:IsPart vu hi)
  (hw:¬(G0 items.size 0 lo=0∧G0 items.size items.size hi=items.size))
  (h:Q (.ref s.heap.objs.size) { s with heap:=s.heap.push { cls:=.type "tuple",data:=.seq ((items.toList.drop (G0 items.size 0 lo)).take (G0 items.size items.size hi - G0 items.size 0 lo)).toArray } })
  (hsz:items.size≤sizeLine):wpAny (model prog w) A (getItem (.ref t) (.ref sl)) Q E s:=by
 have KW:sizeOk (.seq ((items.toList.drop (G0 items.size 0 lo)).take (G0 items.size items.size hi - G0 items.size 0 lo)).toArray):=by
  show((items.toList.drop (G0 items.size 0 lo)).take (G0 items.size items.size hi - G0 items.size 0 lo)).toArray.size≤sizeLine
  rw[List.size_toArray,List.length_take,List.length_drop,Array.length_toList]
  omega
 have hj:G0 items.size items.size hi≤items.size:=AS _ _ (Nat.le_refl _) hi
 obtain⟨os,hos,hcs,hds⟩:=id hs
 have OK:s.TypeIs (.ref sl) "slice":=⟨os,hos,hcs⟩
 unfold getItem
 try with_reducible refine wpAny_holding ?_
 first|refine wpAny_bind (wpAny_pure ?_)|skip
 refine wpAny_bind (wpAny_sequenceKey ht.typeIs (by decide) ?_)
 refine wpAny_bind (wpAny_callSpecial?_slot (name:=Str.ofString "__getitem__") ht.typeIs PyProof.Rows.slot_tuple_getitem
  (wpAny_call_entry PyProof.Rows.slot_tuple_getitem ht.typeIs entry_tuple_getitem ?_ (args_tuple_getitem _ _)))
 show wpAny _ _ (Builtin.Tuple.tupleItemsOf (.ref t) >>= _) _ _ s
 refine wpAny_bind (tupleItemsOf_ ht ?_)
 refine wpAny_bind (wpAny_typeOf OK ?_)
 rw[if_pos (by decide)]
 refine wpAny_bind (eo hs pl pu ?_)
 have hno:¬((((G0 items.size 0 lo:Nat):Int) == 0&&(1:Int) == 1&&(G0 items.size items.size hi - G0 items.size 0 lo) == items.size)=true):=by
  intro q
  rw[Bool.and_eq_true,Bool.and_eq_true]at q
  have q1:((G0 items.size 0 lo:Nat):Int)=0:=eq_of_beq q.1.1
  have q2:G0 items.size items.size hi - G0 items.size 0 lo=items.size:=eq_of_beq q.2
  exact hw ⟨by omega,by omega⟩
 show wpAny _ _ (if (((G0 items.size 0 lo:Nat):Int) == 0&&(1:Int) == 1&&(G0 items.size items.size hi - G0 items.size 0 lo) == items.size)=true then _ else _) _ _ s
 rw[if_neg hno,uQ]
 first
  |exact wpAny_bind (m:=Builtin.Tuple.tupleExact _) (wpAny_newObj_type (wpAny_pure ⟨_,rfl,wpAny_pure h⟩) KW)
  |exact wpAny_bind (m:=Builtin.Tuple.tupleExact _) (wpAny_newObj_type (wpAny_bind (wpAny_pure (wpAny_pure ⟨_,rfl,wpAny_pure h⟩))) KW)
  |exact wpAny_bind (wpAny_bind (m:=Builtin.Tuple.tupleExact _) (wpAny_newObj_type (wpAny_pure (wpAny_pure ⟨_,rfl,wpAny_pure h⟩)) KW))
  |exact wpAny_bind (wpAny_bind (m:=Builtin.Tuple.tupleExact _) (wpAny_newObj_type (wpAny_pure ⟨_,rfl,wpAny_pure h⟩) KW))
end
end HT
namespace L2
open PySem PySem.Spec PyProof.Rows
abbrev TO:=St→Hp→(Option Int→Hp→Prop)→Prop
def PO(X:Cx)(e:Option Expr)(t:TO):Prop:=
 ∀(pins:List (Addr×Obj)) (s:Shared) (σ:St) (H:Hp) (Q:Option Int→Hp→Prop),Inv X pins σ H s→t σ H Q→
  wpAny (model X.prog X.w) X.A (evalPart e X.env) (fun u s'=>∃o H',Inv X pins σ H' s'∧IsPart u o∧Q o H') X.xe s
noncomputable def yj:TO:=fun _ H Q=>Q none H
noncomputable def C6(t:TE):TO:=fun σ H Q=>t σ H fun x H1=>∃i,x = .int i∧Q (some i) H1
theorem qH{ns:List Int}:∀{us:List Value},Vals (ns.map V.int) us→IntsAre us ns:=by
 induction ns with
 |nil=>intro us r;rw[List.map_nil]at r;cases r;exact .nil
 |cons n ns ih=>
  intro us r
  rw[List.map_cons]at r
  cases r with
  |cons r1 r2=>
   obtain⟨t,e⟩:=r1
   subst e
   exact .cons n t (ih r2)
section
variable {X:Cx} {e:Expr} {te:TE} {lo hi:Option Expr} {tl th:TO} {pos p2:Pos}
theorem yk:PO X none yj:=by
 intro pins s σ H Q I h
 rw[evalPart_none]
 exact wpAny_pure ⟨none,H,I,.none,h⟩
theorem ym(h:PE X e te):PO X (some e) (C6 te):=by
 intro pins s σ H Q I hw
 rw[evalPart_some]
 refine GJ (h pins s σ H _ I hw) fun u s1 ⟨x,H1,I1,r1,q1⟩=>?_
 obtain⟨i,rfl,q⟩:=q1
 obtain⟨t,rfl⟩:=r1
 exact⟨some i,H1,I1,.int i t,q⟩
def Cq(X:Cx)(r:V→Option Int→Option Int→Hp→VK→Prop):Prop:=
 ∀(pins:List (Addr×Obj)) (s:Shared) (σ:St) (H:Hp) (x:V) (v vl vu:Value) (lo hi:Option Int) (sl:Addr) (Q:VK),Inv X pins σ H s→RelV x v→s.heap.IsSliceOf sl vl vu .none→IsPart vl lo→IsPart vu hi→r x lo hi H Q→
  ∃T id,typeLookup (.type T) "__getitem__" = pure (some (.builtin id))∧s.TypeIs v T∧wpAny (model X.prog X.w) X.A (getItem v (.ref sl)) (EP X pins σ Q) X.xe s
def F3(r:V→Option Int→Option Int→Hp→VK→Prop)(te:TE)(tl th:TO):TE:=fun σ H Q=>te σ H fun x H1=>tl σ H1 fun l H2=>th σ H2 fun u H3=>r x l u H3 Q
theorem uR{r:V→Option Int→Option Int→Hp→VK→Prop}(hr:Cq X r)(he:PE X e te)(hl:PO X lo tl)(hu:PO X hi th):PE X (.Subscript e (.Slice lo hi none p2) pos) (F3 r te tl th):=by
 intro pins s σ H Q I h
 refine Subscript_ (GJ (he pins s σ H _ I h) fun v s1 ⟨x,H1,I1,r1,q1⟩=>?_)
 refine wpAny_Slice (GJ (hl pins s1 σ H1 _ I1 q1) fun vl s2 ⟨l,H2,I2,pl,q2⟩=>GJ (hu pins s2 σ H2 _ I2 q2) fun vu s3 ⟨u,H3,I3,pu,q3⟩=>?_)
 rw[evalPart_none]
 refine wpAny_pure ?_
 have I4:Inv X pins σ H3 { s3 with heap:=s3.heap.push { cls:=.type "slice",data:=.fields #[vl,vu,.none] } }:=I3.kept (t':=s3.toks) fun b ob q=>Heap.get?_push_of_some _ q
 obtain⟨T,id,hT,ht,hg⟩:=hr pins { s3 with heap:=s3.heap.push { cls:=.type "slice",data:=.fields #[vl,vu,.none] } } σ H3 x v vl vu l u s3.heap.objs.size Q I4 r1 (Heap.IsSliceOf.new ..) pl pu q3
 show wpAny (model X.prog X.w) X.A (subscriptTail e (.Slice lo hi none p2) v (.ref s3.heap.objs.size)) (EP X pins σ Q) X.xe { s3 with heap:=s3.heap.push { cls:=.type "slice",data:=.fields #[vl,vu,.none] } }
 exact tail_any (ops:=[.ref s3.heap.objs.size,v]) ht hT hg (by with_unfolding_all rfl)
noncomputable def kL(xs:List V)(lo hi:Option Int):List V:=(xs.drop (HT.G0 xs.length 0 lo)).take (HT.G0 xs.length xs.length hi - HT.G0 xs.length 0 lo)
theorem j0(xs:List V)(lo hi:Option Int):(kL xs lo hi).length≤xs.length:=by
 unfold kL
 rw[List.length_take,List.length_drop]
 omega
noncomputable def EV(K:PySem.W.Frag):V→Option Int→Option Int→Hp→VK→Prop:=fun x lo hi H Q=>∃a xs,x = .ref a∧G3 K H a xs∧
 ¬(HT.G0 xs.length 0 lo=0∧HT.G0 xs.length xs.length hi=xs.length)∧∀p,H p=none→Q (.ref p) (upd H p (.tup (kL xs lo hi)))
theorem AT:Cq X (EV X.K):=by
 intro pins s σ H x v vl vu lo hi sl Q I rx hs pl pu h
 obtain⟨a,xs,rfl,hx,hw,q⟩:=h
 cases rx
 obtain⟨its,r,ht,hz⟩:=I.tuple hx
 have hlen:its.toArray.size=xs.length:=by rw[List.size_toArray];exact r.length.symm
 refine⟨"tuple",_,PyProof.Rows.slot_tuple_getitem.lookup,ht.typeIs,?_⟩
 refine HT.iD ht hs pl pu (by rw[hlen];exact hw) ?_ (by rw[hlen];exact hz)
 rw[hlen]
 refine⟨.ref s.heap.objs.size,_,I.laid (t':=s.toks) (o:=.tup (kL xs lo hi)) (fun b ob q=>Heap.get?_push_of_some _ q) (Nat.le_refl _) ?_,rfl,q _ (I.hok.fresh (Nat.le_refl _))⟩
 exact⟨Nat.le_trans (j0 xs lo hi) hz,_,(r.drop (HT.G0 xs.length 0 lo)).take (HT.G0 xs.length xs.length hi - HT.G0 xs.length 0 lo),Hr.new _ _⟩
def C7(K:PySem.W.Frag):R2:=fun x y H Q=>∃a b xs ys,x = .ref a∧y = .ref b∧G3 K H a xs∧G3 K H b ys∧xs≠[]∧xs.length+ys.length≤sizeLine∧
 (ys=[]→Q (.ref a) H)∧(ys≠[]→∀p,H p=none→Q (.ref p) (upd H p (.tup (xs++ys))))
theorem Vals.Kb{xs:List V}{us:List Value}(r:Vals xs us):us=[]↔xs=[]:=by
 cases r with
 |nil=>simp
 |cons _ _=>simp
theorem yn:ie X (binaryOp .Add) (C7 X.K):=by
 intro pins s σ H x y v u Q I rx ry h
 obtain⟨a,b,xs,ys,rfl,rfl,ha,hb,hx,hz,q1,q2⟩:=h
 cases rx
 cases ry
 obtain⟨its,r1,p1,_⟩:=I.tuple ha
 obtain⟨its2,r2,p2,_⟩:=I.tuple hb
 refine HT.yh p1 p2 (fun z=>hx (r1.Kb.mp z)) (fun z=>⟨.ref a,H,I,rfl,q1 (r2.Kb.mp z)⟩) (fun z=>?_) (by rw[←r1.length,←r2.length];exact hz)
 refine⟨.ref s.heap.objs.size,_,I.laid (t':=s.toks) (o:=.tup (xs++ys)) (fun b ob q=>Heap.get?_push_of_some _ q) (Nat.le_refl _) ?_,rfl,q2 (fun w=>z (r2.Kb.mpr w)) _ (I.hok.fresh (Nat.le_refl _))⟩
 exact⟨by rw[List.length_append];exact hz,_,r1.append r2,Hr.new _ _⟩
end
noncomputable def oQ(n:Nat)(i:Int):Option Nat:=if 0≤i then (if i < n then some i.toNat else none) else if -(n:Int)≤i then some (i+n).toNat else none
noncomputable def Hv{α:Type}(xs:List α)(i:Int):Option α:=(oQ xs.length i).bind fun j=>xs[j]?
theorem rT{n:Nat}{i:Int}{j:Nat}(h:oQ n i=some j):seqIndex? i n=some j∧j < n∧-(n:Int)≤i∧i < n:=by
 unfold oQ at h
 by_cases h0:0≤i
 ·rw[if_pos h0]at h
  by_cases h1:i < n
  ·rw[if_pos h1]at h
   have e:i.toNat=j:=Option.some.inj h
   exact⟨by rw[seqIndex_of h0 h1,e],by omega,by omega,h1⟩
  ·rw[if_neg h1]at h;cases h
 ·rw[if_neg h0]at h
  by_cases h1:-(n:Int)≤i
  ·rw[if_pos h1]at h
   have e:(i+n).toNat=j:=Option.some.inj h
   exact⟨by rw[seqIndex_neg (by omega) h1,e],by omega,h1,by omega⟩
  ·rw[if_neg h1]at h;cases h
theorem mX{α:Type}{xs:List α}{i:Int}{v:α}(h:Hv xs i=some v):∃j,seqIndex? i xs.length=some j∧xs[j]?=some v∧j < xs.length∧-(xs.length:Int)≤i∧i < xs.length:=by
 unfold Hv at h
 cases e:oQ xs.length i with
 |none=>rw[e]at h;cases h
 |some j=>
  rw[e]at h
  obtain⟨h1,h2,h3,h4⟩:=rT e
  exact⟨j,h1,h,h2,h3,h4⟩
theorem ci{α:Type}{xs:List α}{j:Nat}{v:α}(h:xs[j]?=some v):Hv xs (j:Int)=some v:=by
 have hj:j < xs.length:=(List.getElem?_eq_some_iff.mp h).1
 have e:oQ xs.length (j:Int)=some j:=by
  unfold oQ
  rw[if_pos (by omega),if_pos (by omega)];simp
 unfold Hv;rw[e];exact h
def ku(b:Expr):Prop:=∀o i,subscripted b false o i=operate [o,i] (getItem o i)
def Cr(X:Cx)(r:R2):Prop:=
 ∀(value slice:Expr) (pins:List (Addr×Obj)) (s:Shared) (σ:St) (H:Hp) (x y:V) (v u:Value) (Q:VK),Inv X pins σ H s→RelV x v→RelV y u→r x y H Q→
  subscripted slice false v u=operate [v,u] (getItem v u)→wpAny (model X.prog X.w) X.A (subscriptTail value slice v u) (EP X pins σ Q) X.xe s
def AU(X:Cx)(id:String)(r:V→List V→Hp→VK→Prop):Prop:=
 ∀(pins:List (Addr×Obj)) (s:Shared) (σ:St) (H:Hp) (x:V) (xs:List V) (v:Value) (us:List Value) (Q:VK),Inv X pins σ H s→RelV x v→Vals xs us→r x xs H Q→
  wpAny (model X.prog X.w) X.A (call (.builtin id) (v::us)) (EP X pins σ Q) X.xe s
section
variable {X:Cx} {a b:Expr} {ta tb:TE} {pos:Pos}
theorem C8{r:R2}(hr:Cr X r)(ha:PE X a ta)(hb:PE X b tb)(hs:ku b):PE X (.Subscript a b pos) (CS r ta tb):=by
 intro pins s σ H Q I h
 exact Subscript_ (AF ha hb I h fun v u s2 x y H2 I2 rx ry q=>hr a b pins s2 σ H2 x y v u Q I2 rx ry q (hs _ _))
def EW(K:PySem.W.Frag):R2:=fun x y H Q=>∃p xs i v,x = .ref p∧y = .int i∧SqL K H p xs∧Hv xs i=some v∧Q v H
def EY(K:PySem.W.Frag):R2:=fun x y H Q=>∃p xs i v,x = .ref p∧y = .int i∧G3 K H p xs∧Hv xs i=some v∧Q v H
def EZ:R2:=fun x y H Q=>∃z i c,x = .str z∧y = .int i∧z.length≤sizeLine∧Hv z.cps.toList i=some c∧Q (.str ⟨#[c]⟩) H
theorem rV:Cr X (EW X.K):=by
 intro value slice pins s σ H x y v u Q I rx ry h hs
 obtain⟨p,xs,i,z,rfl,rfl,hq,he,q⟩:=h
 cases rx
 obtain⟨t,rfl⟩:=ry
 obtain⟨its,r,pl,hz⟩:=I.list hq
 obtain⟨j,h1,h2,h3,h4,h5⟩:=mX he
 obtain⟨w,ew,rw'⟩:=r.get h2
 have hl:=r.length
 have hn:=jo
 have fin:EP X pins σ Q w s:=⟨z,H,I,rw',q⟩
 by_cases h0:0≤i
 ·have hj:i.toNat=j:=by
   rw[seqIndex_of h0 h5]at h1
   exact Option.some.inj h1
  exact item_listR pl.isList h0 (by omega) (by rw[hj];simpa using ew) fin hs
 ·have hj:(i+(its.toArray.size:Int)).toNat=j:=by
   rw[seqIndex_neg (by omega) h4]at h1
   rw[List.size_toArray,←hl]
   exact Option.some.inj h1
  exact subscriptTail_builtinR (x:=w) pl.isList.typeIs slot_list_getitem.lookup
   (wpAny_getItem_list_neg (Q:=fun r s'=>r=w∧EP X pins σ Q r s') pl.isList (by omega) (by rw[List.size_toArray]<;>omega) (by omega) (by rw[hj];simpa using ew) ⟨rfl,fin⟩) hs
theorem AV:Cr X (EY X.K):=by
 intro value slice pins s σ H x y v u Q I rx ry h hs
 obtain⟨p,xs,i,z,rfl,rfl,hq,he,q⟩:=h
 cases rx
 obtain⟨t,rfl⟩:=ry
 obtain⟨its,r,pl,hz⟩:=I.tuple hq
 obtain⟨j,h1,h2,h3,h4,h5⟩:=mX he
 obtain⟨w,ew,rw'⟩:=r.get h2
 have hl:=r.length
 have hn:=jo
 have fin:EP X pins σ Q w s:=⟨z,H,I,rw',q⟩
 exact subscriptTail_builtinR (x:=w) pl.typeIs slot_tuple_getitem.lookup
  (getItem_tuple (j:=j) (Q:=fun r s'=>r=w∧EP X pins σ Q r s') pl (by omega) (by omega) (by rw[List.size_toArray,←hl];exact h1) (by simpa using ew) ⟨rfl,fin⟩) hs
theorem AW:Cr X EZ:=by
 intro value slice pins s σ H x y v u Q I rx ry h hs
 obtain⟨z,i,c,rfl,rfl,hz,he,q⟩:=h
 obtain⟨t,rfl⟩:=rx
 obtain⟨t',rfl⟩:=ry
 obtain⟨j,h1,h2,h3,h4,h5⟩:=mX he
 have hl:z.cps.toList.length=z.length:=by simp[Str.length]
 rw[hl]at h1 h4 h5
 have hn:=jo
 exact tail_any (typeIs_str s z t) slot_str_getitem.lookup (getItem_str (c:=c) (by
  have e1:decide (i < -(2 ^ 63:Int))=false:=decide_eq_false (by omega)
  have e2:decide (i≥2 ^ 63)=false:=decide_eq_false (by omega)
  rw[e1,e2,Bool.or_false]) (by rw[h1];simpa using h2) ⟨.str ⟨#[c]⟩,H,I.tok _,⟨_,rfl⟩,q⟩) hs
theorem qI(its:List Value)(n j:Nat)(u:Value):Obj.mapSeq (·.setIfInBounds j u) { cls:=.type "list",data:=.seq its.toArray n }={ cls:=.type "list",data:=.seq (its.set j u).toArray n }:=by
 simp[Obj.mapSeq]
theorem Inv.lst{pins:List (Addr×Obj)}{σ:St}{H:Hp}{s:Shared}{p:Addr}{xs:List V}(I:Inv X pins σ H s)(h:H p=some (.lst xs)) :
  ∃(its:List Value) (n:Nat),Vals xs its∧s.heap.get? p=some { cls:=.type "list",data:=.seq its.toArray n }∧xs.length≤sizeLine:=by
 obtain⟨z,its,n,r,e⟩:=I.hok p _ h
 exact⟨its,n,r,e,z⟩
theorem Inv.MJ{pins:List (Addr×Obj)}{σ:St}{H:Hp}{s:Shared}{p:Addr}{xs ys:List V}{its its':List Value}{n n':Nat}{f:Obj→Obj}(I:Inv X pins σ H s)(h:H p=some (.lst xs))
  (ho:s.heap.get? p=some { cls:=.type "list",data:=.seq its.toArray n }) (hf:f { cls:=.type "list",data:=.seq its.toArray n }={ cls:=.type "list",data:=.seq its'.toArray n' }) (r:Vals ys its') (hz:ys.length≤sizeLine) (t:Nat) :
  Inv X pins σ (upd H p (.lst ys)) { s with heap:=s.heap.update p f,toks:=t }:=by
 have e:(s.heap.update p f).get? p=some { cls:=.type "list",data:=.seq its'.toArray n' }:=by
  rw[Heap.get?_update_self f ho (by rw[hf]<;>rfl),hf]
 refine I.write (x:=p) (e:=p) (by rw[h];trivial) (.inl rfl) (fun b u hb q=>(Heap.get?_update_other _ _ (Ne.symm hb)).trans q) ⟨_,e⟩ ?_
 exact⟨hz,its',n',r,e⟩
noncomputable def C9:V→V→V→Hp→(Hp→Prop)→Prop:=fun o i v H Q=>∃p xs k j,o = .ref p∧i = .int k∧H p=some (.lst xs)∧oQ xs.length k=some j∧Q (upd H p (.lst (xs.set j v)))
theorem uS:xV X C9:=by
 intro pins s σ H o i v ov iv u Q I ro ri rv h
 obtain⟨p,xs,k,j,rfl,rfl,hp,hj,q⟩:=h
 cases ro
 obtain⟨t,rfl⟩:=ri
 obtain⟨its,n,r,ho,hz⟩:=I.lst hp
 obtain⟨h1,h2,h3,h4⟩:=rT hj
 have hl:=r.length
 have hn:=jo
 have I':Inv X pins σ (upd H p (.lst (xs.set j v))) { s with heap:=s.heap.update p (Obj.mapSeq (·.setIfInBounds j u)) }:=
  I.MJ hp ho (qI its n j u) (r.set rv j) (by rw[List.length_set];exact hz) s.toks
 by_cases h0:0≤k
 ·have hk:k.toNat=j:=by
   rw[seqIndex_of h0 h4]at h1
   exact Option.some.inj h1
  exact PySem.W.ki_setAt ho h0 (by omega) (by rw[List.size_toArray,←hl];exact h4) (by rw[hk];exact⟨_,I',q⟩)
 ·have hk:(k+(its.toArray.size:Int)).toNat=j:=by
   rw[seqIndex_neg (by omega) h3]at h1
   rw[List.size_toArray,←hl]
   exact Option.some.inj h1
  exact PySem.W.ki_setBack ho (by omega) (by rw[List.size_toArray,←hl];exact h3) (by omega) (by rw[hk];exact⟨_,I',q⟩)
theorem mY(lo hi:Option Int)(n:Nat):(sliceBounds lo hi none n).1=((HT.G0 n 0 lo:Nat):Int)∧(sliceBounds lo hi none n).2.1=((HT.G0 n n hi:Nat):Int)∧(sliceBounds lo hi none n).2.2=1:=by
 refine⟨?_,?_,rfl⟩
 ·cases lo with
  |none=>simp[sliceBounds,HT.G0]
  |some i=>
   simp only[sliceBounds,HT.G0,Option.getD_none,show(1:Int) > 0 by decide,if_true]
   by_cases h:i < 0
   ·simp only[h,if_true]<;>omega
   ·simp only[h,if_false]<;>omega
 ·cases hi with
  |none=>simp[sliceBounds,HT.G0]
  |some i=>
   simp only[sliceBounds,HT.G0,Option.getD_none,show(1:Int) > 0 by decide,if_true]
   by_cases h:i < 0
   ·simp only[h,if_true]<;>omega
   ·simp only[h,if_false]<;>omega
theorem lP(its:List Value)(lo hi:Option Int):slicePick its.toArray lo hi none=((its.drop (HT.G0 its.length 0 lo)).take (HT.G0 its.length its.length hi - HT.G0 its.length 0 lo)).toArray:=by
 obtain⟨h1,h2,h3⟩:=mY lo hi its.toArray.size
 unfold slicePick
 rw[h1,h2,h3]
 simp only[sliceRange_one,pick_run,List.size_toArray]<;>rfl
noncomputable def E1(K:PySem.W.Frag):V→Option Int→Option Int→Hp→VK→Prop:=fun x lo hi H Q=>∃a xs,x = .ref a∧SqL K H a xs∧∀p,H p=none→Q (.ref p) (upd H p (.lst (kL xs lo hi)))
theorem rW:Cq X (E1 X.K):=by
 intro pins s σ H x v vl vu lo hi sl Q I rx hs pl pu h
 obtain⟨a,xs,rfl,hx,q⟩:=h
 cases rx
 obtain⟨its,r,ht,hz⟩:=I.list hx
 have hlen:=r.length
 refine⟨"list",_,slot_list_getitem.lookup,ht.isList.typeIs,?_⟩
 refine wpAny_getItem_list_slice ht.isList hs pl pu .none (by simp) ?_ (by rw[List.size_toArray]<;>omega)
 rw[lP,←hlen]
 refine⟨.ref s.heap.objs.size,_,I.laid (t':=s.toks) (o:=.lst (kL xs lo hi)) (fun b ob q=>Heap.get?_push_of_some _ q) (Nat.le_refl _) ?_,rfl,q _ (I.hok.fresh (Nat.le_refl _))⟩
 exact⟨Nat.le_trans (j0 xs lo hi) hz,_,0,(r.drop (HT.G0 xs.length 0 lo)).take (HT.G0 xs.length xs.length hi - HT.G0 xs.length 0 lo),Heap.get?_push_size _ rfl⟩
theorem mZ:ie X (compareOp .NotIn) (fun x y H Q=>∃i j,x = .str i∧y = .str j∧Q (.bl (!(!(Builtin.Str.occurrences j i 0 j.length 1).isEmpty))) H):=by
 intro pins s σ H x y v u Q I rx ry h
 obtain⟨i,j,rfl,rfl,q⟩:=h
 obtain⟨t,rfl⟩:=rx
 obtain⟨t',rfl⟩:=ry
 exact notIn_str ⟨.bl _,H,I,rfl,q⟩
theorem eO:dN X (.builtin "len") (fun xs H Q=>∃p ys,xs=[.ref p]∧(SqL X.K H p ys∨G3 X.K H p ys)∧Q (.int ys.length) H):=by
 intro pins s σ H xs us Q I r h
 obtain⟨p,ys,rfl,hq,q⟩:=h
 obtain⟨u,rfl,rx⟩:=dO r
 cases rx
 have hn:=jo
 rcases hq with hq|hq
 ·obtain⟨its,r',pl,hz⟩:=I.list hq
  have hlen:=r'.length
  exact Calls.call_len_list pl.isList (by simp only[List.size_toArray]<;>omega) ⟨.int ys.length,H,I.tok _,⟨s.toks+1,by rw[List.size_toArray,hlen]⟩,q⟩
 ·obtain⟨its,r',pl,hz⟩:=I.tuple hq
  have hlen:=r'.length
  exact len_tuple pl (by simp only[List.size_toArray]<;>omega) ⟨.int ys.length,H,I.tok _,⟨s.toks+1,by rw[List.size_toArray,hlen]⟩,q⟩
theorem m4:dN X (.builtin "len") (fun xs H Q=>∃z,xs=[.str z]∧z.length≤sizeLine∧Q (.int z.length) H):=by
 intro pins s σ H xs us Q I r h
 obtain⟨z,rfl,hz,q⟩:=h
 obtain⟨u,rfl,t,rfl⟩:=dO r
 have hn:=jo
 exact len_str (by omega) ⟨.int z.length,H,I.tok _,⟨_,rfl⟩,q⟩
theorem m5:dN X (.type "list") (fun xs H Q=>∃p ys,xs=[.ref p]∧(SqL X.K H p ys∨G3 X.K H p ys)∧∀l,H l=none→Q (.ref l) (upd H l (.lst ys))):=by
 intro pins s σ H xs us Q I r h
 obtain⟨p,ys,rfl,hq,q⟩:=h
 obtain⟨u,rfl,rx⟩:=dO r
 cases rx
 have fin:∀(its:List Value),Vals ys its→ys.length≤sizeLine→∀(h':Heap) (c':Nat),(∀b o',s.heap.get? b=some o'→h'.get? b=some o')→
   h'.get? s.heap.objs.size=some { cls:=.type "list",dict:=none,data:=.seq its.toArray c',slots:=#[] }→EP X pins σ Q (.ref s.heap.objs.size) { s with heap:=h' }:=fun its r' hz h' c' kp e=>
  ⟨.ref s.heap.objs.size,_,I.laid (t':=s.toks) kp (Nat.le_refl _) (show ObjOk X.prog X.w _ h' _ (.lst ys)from ⟨hz,its,c',r',e⟩),rfl,q _ (I.hok.fresh (Nat.le_refl _))⟩
 rcases hq with hq|hq
 ·obtain⟨its,r',pl,hz⟩:=I.list hq
  have hlen:=r'.length
  obtain⟨o,ho,hc,n,hd⟩:=pl.isList
  exact call_list_seq p (.inl rfl) ho hc hd (fun h' c' kp e=>fin its r' hz h' c' kp e) (by simp only[List.size_toArray]<;>omega)
 ·obtain⟨its,r',pl,hz⟩:=I.tuple hq
  have hlen:=r'.length
  obtain⟨o,ho,hc,n,hd⟩:=pl
  exact call_list_seq p (.inr rfl) ho hc hd (fun h' c' kp e=>fin its r' hz h' c' kp e) (by simp only[List.size_toArray]<;>omega)
theorem g7:dN X (.type "tuple") (fun xs H Q=>∃p ys,xs=[.ref p]∧((SqL X.K H p ys∧∀l,H l=none→Q (.ref l) (upd H l (.tup ys)))∨(G3 X.K H p ys∧Q (.ref p) H))):=by
 intro pins s σ H xs us Q I r h
 obtain⟨p,ys,rfl,h⟩:=h
 obtain⟨u,rfl,rx⟩:=dO r
 cases rx
 rcases h with⟨hq,q⟩|⟨hq,q⟩
 ·obtain⟨its,r',pl,hz⟩:=I.list hq
  have hlen:=r'.length
  refine call_tuple_list pl.isList (fun h' kp=>?_) (by simp only[List.size_toArray]<;>omega)
  have I1:Inv X pins σ H { s with heap:=h' }:=I.kept (t':=s.toks) kp
  have I2:Inv X pins σ (upd H h'.objs.size (.tup ys)) { s with heap:=h'.push { cls:=.type "tuple",data:=.seq its.toArray } }:=
   I1.laid (t':=s.toks) (fun b o e=>Heap.get?_push_of_some _ e) (Nat.le_refl _) (show ObjOk X.prog X.w _ _ _ (.tup ys)from ⟨hz,its,r',Hr.new _ _⟩)
  exact⟨.ref h'.objs.size,_,I2,rfl,q _ (I1.hok.fresh (Nat.le_refl _))⟩
 ·obtain⟨its,r',pl,hz⟩:=I.tuple hq
  exact call_tuple_same pl ⟨.ref p,H,I,rfl,q⟩
def En(K:PySem.W.Frag)(T:String)(x:V)(H:Hp):Prop:=match x with
 | .str _=>T = "str"
 | .int _=>T = "int"
 | .ref p=>(T = "list"∧∃xs,SqL K H p xs)∨(T = "tuple"∧∃o,K.lookup p=some o∧o.cls = .type "tuple"∧o.dict=none) ∨
   (T = "dict"∧((∃kvs,H p=some (.dK kvs))∨∃kvs,H p=some (.dT kvs)))∨(T = "set"∧∃S n,H p=some (.set S n))
 |_=>False
theorem uT{pins:List (Addr×Obj)}{σ:St}{H:Hp}{s:Shared}{T:String}{x:V}{v:Value}(I:Inv X pins σ H s)(r:RelV x v)(ty:En X.K T x H) :
  s.TypeIs v T∧∀a,v = .ref a→∃ob,s.heap.get? a=some ob∧ob.dict=none:=by
 cases x with
 |str z=>
  obtain⟨t,rfl⟩:=r
  cases (show T = "str" from ty)
  exact⟨typeIs_str s z t,fun _ e=>nomatch e⟩
 |int i=>
  obtain⟨t,rfl⟩:=r
  cases (show T = "int" from ty)
  exact⟨typeIs_int s i t,fun _ e=>nomatch e⟩
 |ref p=>
  cases r
  rcases ty with⟨rfl,xs,hq⟩|⟨rfl,o,hk,hc,hd⟩|⟨rfl,hk⟩|⟨rfl,S,n,hk⟩
  ·obtain⟨its,_,pl,_⟩:=I.list hq
   refine⟨pl.isList.typeIs,fun a e=>?_⟩
   cases e
   obtain⟨o,n,e,c,hd,_⟩:=pl
   exact⟨o,e,hd⟩
  ·refine⟨⟨o,I.Jo p o hk,hc⟩,fun a e=>?_⟩
   cases e
   exact⟨o,I.Jo _ o hk,hd⟩
  ·have z:∃o,s.heap.get? p=some o∧o.ExactDict:=by
    rcases hk with⟨kvs,hk⟩|⟨kvs,hk⟩
    ·obtain⟨_,_,_,_,o,_,_,e,ex,_⟩:=I.hok p _ hk
     exact⟨o,e,ex⟩
    ·obtain⟨_,_,_,_,o,_,_,e,ex,_⟩:=I.hok p _ hk
     exact⟨o,e,ex⟩
   obtain⟨o,e,ex⟩:=z
   refine⟨⟨o,e,ex.1⟩,fun a e2=>?_⟩
   cases e2
   exact⟨o,e,ex.2.1⟩
  ·obtain⟨o,_,_,_,e,ex,_⟩:=I.hok p _ hk
   refine⟨⟨o,e,ex.1⟩,fun a e2=>?_⟩
   cases e2
   exact⟨o,e,ex.2.1⟩
 |_=>exact False.elim ty
def E2(K:PySem.W.Frag)(T:String)(r:V→List V→Hp→VK→Prop)(to:TE):TE:=fun σ H Q=>to σ H fun x H1=>En K T x H1∧r x [] H1 Q
def F4(K:PySem.W.Frag)(T:String)(r:V→List V→Hp→VK→Prop)(to:TE)(t:TA):TE:=fun σ H Q=>to σ H fun x H1=>En K T x H1∧t σ H1 fun xs H2=>r x xs H2 Q
variable {o e:Expr} {es:List Expr} {to:TE} {t:TA} {name:Str} {apos cpos:Pos} {T id:String} {r:V→List V→Hp→VK→Prop}
theorem AX(pa:PlainAttrs T)(slot:Slot T name id)(hty:typeOf (.builtin id)=pure (.type "method_descriptor"))(hm:AU X id r)(ho:PE X o to)
  (hbase:attributeBase o name X.env (eval o X.env)=eval o X.env:=by rfl) (hline:(apos.endLine == cpos.line)=true:=by rfl):PE X (.Call (.Attribute o name apos) [] [] cpos) (E2 X.K T r to):=by
 intro pins s σ H Q I h
 refine wpAny_Call_method0_late hbase hline (GJ (ho pins s σ H _ I h) fun v s1 ⟨x,H1,I1,r1,ty,q1⟩=>?_)
 obtain⟨h1,h2⟩:=uT I1 r1 ty
 exact⟨T,id,pa,slot,hty,h1,h2,Calls.callWith_builtin rfl (PySem.evalArgs_none (hm pins s1 σ H1 x [] v [] Q I1 r1 .nil q1))⟩
theorem C_(pa:PlainAttrs T)(slot:Slot T name id)(hty:typeOf (.builtin id)=pure (.type "method_descriptor"))(hm:AU X id r)(ho:PE X o to)(ha:PA X (e::es) t)
  (hbase:attributeBase o name X.env (eval o X.env)=eval o X.env:=by rfl)
  (hfew:((backTo cpos (starEach (e::es) X.env)).all (fun x=>!x.1)&&(backToKw cpos (keywordEach [] X.env)).all (fun x=>x.1.isSome)
   && decide ((e::es).length+([]:List Keyword).length+(if ([]:List Keyword).isEmpty then 0 else 1) < 30))=true:=by rfl)
  (hline:(apos.endLine == cpos.line)=true:=by rfl) (hs:starEach (e::es) X.env=(false,eval e X.env)::starEach es X.env:=by rfl) (hplain:(backTo cpos (starEach es X.env)).any (·.1)=false:=by rfl) :
  PE X (.Call (.Attribute o name apos) (e::es) [] cpos) (F4 X.K T r to t):=by
 intro pins s σ H Q I h
 refine wpAny_Call_method_late hbase hfew hline rfl (GJ (ho pins s σ H _ I h) fun v s1 ⟨x,H1,I1,r1,ty,q1⟩=>?_)
 obtain⟨h1,h2⟩:=uT I1 r1 ty
 refine⟨T,id,pa,slot,hty,h1,h2,?_⟩
 have hA:=ha cpos pins s1 σ H1 _ I1 q1
 rw[hs]at hA ⊢
 refine Calls.callWith_builtin (by show(false || (backTo cpos (starEach es X.env)).any (·.1))=false;rw[hplain]<;>rfl) (Calls.evalArgs_plain ?_)
 exact GJ hA fun us s2 ⟨vs,H2,I2,r2,q2⟩=>hm pins s2 σ H2 x vs v us Q I2 r1 r2 q2
end
def Eo(X:Cx)(id:String)(r:V→List V→Hp→VK→Prop):Prop:=
 ∀(pins:List (Addr×Obj)) (s:Shared) (σ:St) (H:Hp) (x:V) (xs:List V) (v:Value) (us:List Value) (Q:VK),Inv X pins σ H s→RelV x v→Vals xs us→r x xs H Q→
  wpAny (model X.prog X.w) X.A (call (.builtin id) (v::us)) (EP X pins σ Q) X.xe s
theorem Vals.one:∀{x:V} {us:List Value},Vals [x] us→∃u,us=[u]∧RelV x u
 |_,_,.cons r .nil=>⟨_,rfl,r⟩
theorem Vals.zero:∀{us:List Value},Vals [] us→us=[]
 |_,.nil=>rfl
theorem Vals.dropLast{xs:List V}{us:List Value}(h:Vals xs us):Vals xs.dropLast us.dropLast:=by
 induction h with
 |nil=>exact .nil
 |cons r t ih=>
  cases t with
  |nil=>exact .nil
  |cons q t'=>exact .cons r ih
theorem Vals.eraseIdx:∀{xs:List V} {us:List Value} (i:Nat),Vals xs us→Vals (xs.eraseIdx i) (us.eraseIdx i)
 |_,_,_,.nil=>.nil
 |_,_,0,.cons _ t=>t
 |_,_,i+1,.cons r t=>.cons r (Vals.eraseIdx i t)
theorem Vals.reverse{xs:List V}{us:List Value}(h:Vals xs us):Vals xs.reverse us.reverse:=by
 induction h with
 |nil=>exact .nil
 |cons r t ih=>rw[List.reverse_cons,List.reverse_cons];exact Vals.append ih (.cons r .nil)
theorem Vals.rep{xs:List V}{us:List Value}(h:Vals xs us):∀k:Nat,Vals (List.replicate k xs).flatten (List.replicate k us).flatten
 |0=>.nil
 |k+1=>by
  rw[List.replicate_succ,List.replicate_succ,List.flatten_cons,List.flatten_cons]
  exact Vals.append h (Vals.rep h k)
theorem qJ{α:Type}(l:List α):l.eraseIdx (l.length - 1)=l.dropLast:=by
 induction l with
 |nil=>rfl
 |cons a r ih=>
  cases r with
  |nil=>rfl
  |cons b r=>
   have e:(a::b::r).length - 1=((b::r).length - 1)+1:=by
    have h1:(a::b::r).length=r.length+2:=rfl
    have h2:(b::r).length=r.length+1:=rfl
    omega
   rw[e,List.eraseIdx_cons_succ,ih]
   all_goals rfl
theorem me{α:Type}:∀(l:List α) (i:Nat),(l.eraseIdx i).length≤l.length
 |[],_=>Nat.le_refl _
 |_::_,0=>Nat.le_succ _
 |_::r,i+1=>Nat.succ_le_succ (me r i)
theorem jq(its:List Value):∀(k:Nat) (acc:List Value),
  List.foldl (fun x1 x2=>x1++x2) acc.toArray (List.replicate k its.toArray)=(acc++(List.replicate k its).flatten).toArray
 |0,acc=>by simp
 |k+1,acc=>by
  have e:acc.toArray++its.toArray=(acc++its).toArray:=by simp
  have e2:(acc++its)++(List.replicate k its).flatten=acc++(List.replicate (k+1) its).flatten:=by
   rw[List.replicate_succ,List.flatten_cons,List.append_assoc]
  rw[←e2,←jq its k (acc++its),←e,List.replicate_succ,List.foldl_cons]
section
variable {X:Cx} {pins:List (Addr×Obj)} {σ:St} {H:Hp} {s:Shared} {l b:Addr} {xs ys zs:List V}
theorem Inv.Ma{its its':List Value}{n:Nat}{f:Array Value→Array Value}{t':Nat}(I:Inv X pins σ H s)(hH:H l=some (.lst xs))
  (e:s.heap.get? l=some { cls:=.type "list",data:=.seq its.toArray n }) (hf:f its.toArray=its'.toArray) (hv:Vals ys its') (hz:ys.length≤sizeLine) :
  Inv X pins σ (upd H l (.lst ys)) { s with heap:=s.heap.update l (Obj.mapSeq f),toks:=t' }:=by
 have q:=PySem.IsL.update e f
 rw[hf]at q
 refine I.write (x:=l) (e:=l) (by rw[hH];exact trivial) (.inl rfl) (fun b' u hb hu=>(Heap.get?_update_other s.heap (Obj.mapSeq f) (Ne.symm hb)).trans hu) ⟨_,q⟩ ?_
 exact⟨hz,its',_,hv,q⟩
theorem Inv.Nn{its:List Value}{t':Nat}(I:Inv X pins σ H s)(hv:Vals ys its)(hz:ys.length≤sizeLine) :
  Inv X pins σ (upd H s.heap.objs.size (.lst ys)) { s with heap:=s.heap.push { cls:=.type "list",data:=.seq its.toArray },toks:=t' }:=
 I.laid (fun _ _ q=>Heap.get?_push_of_some _ q) (Nat.le_refl _) ⟨hz,its,0,hv,Heap.get?_push_size _ rfl⟩
theorem Inv.fresh(I:Inv X pins σ H s):H s.heap.objs.size=none:=I.hok.fresh (Nat.le_refl _)
theorem Inv.KE(I:Inv X pins σ H s)(hH:H l=some (.lst xs)):xs.length≤sizeLine∧∃(its:List Value) (n:Nat),Vals xs its∧xs.length=its.length∧s.heap.get? l=some { cls:=.type "list",data:=.seq its.toArray n }:=by
 obtain⟨z,its,n,r,e⟩:=I.hok l _ hH
 exact⟨z,its,n,r,r.length,e⟩
theorem uU{n:Nat}(h:n≤sizeLine):Builtin.List.listTooLong n=false:=by
 unfold Builtin.List.listTooLong
 exact decide_eq_false (by omega)
end
section
variable {X:Cx}
noncomputable def yo:V→List V→Hp→VK→Prop:=fun x vs H Q=>∃l xs y,x = .ref l∧vs=[y]∧H l=some (.lst xs)∧xs.length < sizeLine∧Q .non (upd H l (.lst (xs++[y])))
theorem sY:Eo X "list.append" yo:=by
 intro pins s σ H x vs v us Q I rx rv h
 obtain⟨l,xs,y,rfl,rfl,hH,hz,q⟩:=h
 cases rx
 obtain⟨u,rfl,ru⟩:=rv.one
 obtain⟨z,its,n,r,hl,e⟩:=I.KE hH
 refine call_meets F.slot_list_append ⟨_,e,rfl⟩ F.entry_list_append (F.args_list_append_2 _ _) (PySem.list_append l its.toArray n u (by rw[List.size_toArray];omega)) ⟨e,?_⟩
 refine⟨.non,_,I.Ma (its':=its++[u]) hH e (by simp) (r.append (.cons ru .nil)) ?_,rfl,q⟩
 rw[List.length_append,List.length_singleton]
 omega
noncomputable def E4:V→List V→Hp→VK→Prop:=fun x vs H Q=>∃l xs y,x = .ref l∧vs=[]∧H l=some (.lst xs)∧xs[xs.length - 1]?=some y∧Q y (upd H l (.lst xs.dropLast))
theorem AY:Eo X "list.pop" E4:=by
 intro pins s σ H x vs v us Q I rx rv h
 obtain⟨l,xs,y,rfl,rfl,hH,hy,q⟩:=h
 cases rx
 have No:=rv.zero
 subst No
 obtain⟨z,its,n,r,hl,e⟩:=I.KE hH
 obtain⟨u,hu,ru⟩:=r.get hy
 have hy':its.toArray[its.toArray.size - 1]?=some u:=by
  show its.toArray[its.length - 1]?=some u
  rw[←Array.getElem?_toList,←hl]
  exact hu
 refine call_meets F.slot_list_pop ⟨_,e,rfl⟩ F.entry_list_pop (F.args_list_pop_1 _) (MeetsSeq.list_pop_last l its.toArray n u hy' (by rw[List.size_toArray];omega)) ⟨e,?_⟩
 refine⟨y,_,I.Ma (its':=its.dropLast) hH e ?_ r.dropLast ?_,ru,q⟩
 ·show its.toArray.eraseIdxIfInBounds (its.toArray.size - 1)=its.dropLast.toArray
  rw[List.size_toArray,List.eraseIdxIfInBounds_toArray,qJ]
 ·rw[List.length_dropLast]
  omega
noncomputable def AZ:V→List V→Hp→VK→Prop:=fun x vs H Q=>∃l xs i k y,x = .ref l∧vs=[.int i]∧H l=some (.lst xs)∧-(2 ^ 63)≤i∧i < 2 ^ 63∧seqIndex? i xs.length=some k∧xs[k]?=some y∧Q y (upd H l (.lst (xs.eraseIdx k)))
theorem uV:Eo X "list.pop" AZ:=by
 intro pins s σ H x vs v us Q I rx rv h
 obtain⟨l,xs,i,k,y,rfl,rfl,hH,h1,h2,hk,hy,q⟩:=h
 cases rx
 obtain⟨u,rfl,ru⟩:=rv.one
 obtain⟨t,rfl⟩:=ru
 obtain⟨z,its,n,r,hl,e⟩:=I.KE hH
 obtain⟨w,hw,rw'⟩:=r.get hy
 refine call_meets F.slot_list_pop ⟨_,e,rfl⟩ F.entry_list_pop (F.args_list_pop_2 _ _)
  (MeetsSeq.list_pop_at l its.toArray n i t k w (fitsIndex_both h1 h2) (by rw[List.size_toArray,←hl];exact hk) (by rw[←Array.getElem?_toList];exact hw) (by rw[List.size_toArray];omega)) ⟨e,?_⟩
 refine⟨y,_,I.Ma (its':=its.eraseIdx k) hH e ?_ (r.eraseIdx k) ?_,rw',q⟩
 ·show its.toArray.eraseIdxIfInBounds k=(its.eraseIdx k).toArray
  rw[List.eraseIdxIfInBounds_toArray]
 ·have:=me xs k
  omega
noncomputable def A0:V→List V→Hp→VK→Prop:=fun x vs H Q=>∃l xs,x = .ref l∧vs=[]∧H l=some (.lst xs)∧Q .non (upd H l (.lst []))
theorem uW:Eo X "list.clear" A0:=by
 intro pins s σ H x vs v us Q I rx rv h
 obtain⟨l,xs,rfl,rfl,hH,q⟩:=h
 cases rx
 have No:=rv.zero
 subst No
 obtain⟨z,its,n,r,hl,e⟩:=I.KE hH
 refine call_meets F.slot_list_clear ⟨_,e,rfl⟩ F.entry_list_clear (F.args_list_clear_1 _) (AutoSeq1.list_clear_list_0 l its.toArray n (by rw[List.size_toArray];omega)) ⟨e,?_⟩
 exact⟨.non,_,I.Ma (its':=[]) (ys:=[]) hH e rfl .nil (Nat.zero_le _),rfl,q⟩
def E5:R2:=fun x y H Q=>∃l b xs zs,x = .ref l∧y = .ref b∧H l=some (.lst xs)∧H b=some (.lst zs)∧xs.length+zs.length≤sizeLine∧∀p,H p=none→Q (.ref p) (upd H p (.lst (xs++zs)))
theorem A8:ie X (binaryOp .Add) E5:=by
 intro pins s σ H x y v u Q I rx ry h
 obtain⟨l,b,xs,zs,rfl,rfl,hH,hB,hz,q⟩:=h
 cases rx
 cases ry
 obtain⟨z,its,n,r,hl,e⟩:=I.KE hH
 obtain⟨z2,its2,n2,r2,hl2,e2⟩:=I.KE hB
 refine PySem.P.add_list e e2 ?_ (by rw[List.size_toArray,List.size_toArray];omega)
 have ea:its.toArray++its2.toArray=(its++its2).toArray:=by simp
 rw[ea]
 exact⟨.ref _,_,I.Nn (t':=s.toks) (r.append r2) (by rw[List.length_append];omega),rfl,q _ I.fresh⟩
def E6:R2:=fun x y H Q=>∃l k xs,x = .ref l∧y = .int k∧H l=some (.lst xs)∧-(2 ^ 63)≤k∧k < 2 ^ 63∧xs.length * k.toNat≤sizeLine∧
 ∀p,H p=none→Q (.ref p) (upd H p (.lst (List.replicate k.toNat xs).flatten))
theorem yp{α:Type}(xs:List α)(k:Nat):(List.replicate k xs).flatten.length=k * xs.length:=by
 induction k with
 |zero=>simp
 |succ k ih=>rw[List.replicate_succ,List.flatten_cons,List.length_append,ih,Nat.succ_mul,Nat.add_comm]
theorem A9:ie X (binaryOp .Mult) E6:=by
 intro pins s σ H x y v u Q I rx ry h
 obtain⟨l,k,xs,rfl,rfl,hH,h1,h2,hz,q⟩:=h
 cases rx
 obtain⟨t,rfl⟩:=ry
 obtain⟨z,its,n,r,hl,e⟩:=I.KE hH
 have hlen:its.toArray.size * k.toNat≤sizeLine:=by rw[List.size_toArray,←hl];exact hz
 have hcap:¬its.toArray.size * k.toNat > (2 ^ 63 - 1) / 8:=by
  have:(sizeLine:Nat)≤(2 ^ 63 - 1) / 8:=by decide
  omega
 have hfit:¬(!Builtin.List.listFitsIndex k)=true:=by
  rw[fitsIndex_both h1 h2]
  exact Bool.false_ne_true
 have Np:¬Builtin.List.listTooLong (its.toArray.size * k.toNat)=true:=by
  rw[uU hlen]
  exact Bool.false_ne_true
 have hnew:List.foldl (fun x1 x2=>x1++x2) #[] (List.replicate (if its.toArray.isEmpty=true then 0 else k.toNat) its.toArray)=(List.replicate k.toNat its).flatten.toArray:=by
  have f0:∀m:Nat,List.foldl (fun x1 x2=>x1++x2) #[] (List.replicate m its.toArray)=(List.replicate m its).flatten.toArray:=fun m=>by
   have:=jq its m []
   rw[List.nil_append]at this
   exact this
  rw[f0]
  cases its with
  |nil=>simp
  |cons a r'=>rw[if_neg (by simp)]
 refine wpAny_binaryOp_repeat_ref (T:="list") (U:="int") (by decide) ⟨_,e,rfl⟩ (fun s'=>typeIs_int s' k t) noFill_list_mul F.fills_int_mul F.slot_int_rmul repeat_list F.slot_int_index.lookup
  (call_meets F.slot_int_rmul (typeIs_int s k t) F.entry_int_rmul (F.args_int_rmul_2 _ _) (int___rmul___int_list k t l its.toArray n)
   ⟨e,rfl,⟨_,e,rfl⟩,call_meets F.slot_list_mul ⟨_,e,rfl⟩ F.entry_list_mul (F.args_list_mul_2 _ _) (AutoListH.list___mul___list_int_3 l its.toArray n k t hfit hcap Np) ⟨e,?_⟩⟩)
 rw[hnew]
 exact⟨.ref _,_,I.Nn (t':=s.toks) (r.rep k.toNat) (by rw[yp,Nat.mul_comm];exact hz),rfl,q _ I.fresh⟩
end
section
variable {prog:Program} {w:World} {A:Around} {E:Value→Shared→Prop} {s:Shared}
end
section
variable {X:Cx}
end
section
variable {κ:Type} [DecidableEq κ]
noncomputable def iE(kvs:List (κ×V))(k:κ):Option V:=(kvs.find? fun kv=>decide (kv.1=k)).map (·.2)
noncomputable def fJ(kvs:List (κ×V))(k:κ)(v:V):List (κ×V):=
 if (kvs.any fun kv=>decide (kv.1=k))=true then kvs.map (fun kv=>if kv.1=k then (kv.1,v) else kv) else kvs++[(k,v)]
theorem Iy{p:κ×V}{r:List (κ×V)}{k:κ}(e:p.1=k):iE (p::r) k=some p.2:=by simp[iE,List.find?_cons,e]
theorem Iz{p:κ×V}{r:List (κ×V)}{k:κ}(e:¬p.1=k):iE (p::r) k=iE r k:=by simp[iE,List.find?_cons,e]
theorem kM(k:κ):∀kvs:List (κ×V),(kvs.any fun kv=>decide (kv.1=k))=(iE kvs k).isSome
 |[]=>rfl
 |p::r=>by
  rw[List.any_cons]
  by_cases e:p.1=k
  ·simp only[Iy e,decide_eq_true e,Bool.true_or,Option.isSome_some]
  ·rw[Iz e,decide_eq_false e,Bool.false_or];exact kM k r
theorem fO(kvs:List (κ×V))(k:κ)(v:V):(fJ kvs k v).length≤kvs.length+1:=by
 unfold fJ
 split
 ·rw[List.length_map];omega
 ·rw[List.length_append,List.length_cons,List.length_nil];omega
theorem HZ.H_{o:Option V}{u:Option Value}(r:HZ o u):o.isSome=u.isSome:=by
 cases o with
 |none=>cases u with
  |none=>rfl
  |some _=>exact(show False from r).elim
 |some _=>cases u with
  |none=>exact(show False from r).elim
  |some _=>rfl
theorem KV.val{kvs:List (κ×V)}{vs:List (κ×Value)}(r:KV kvs vs)(k:κ):HZ (iE kvs k) (valueAt vs k):=by
 unfold KV at r
 induction r with
 |nil=>exact True.intro
 |@cons p q ps qs h t ih=>
  obtain⟨h1,h2⟩:=h
  by_cases e:p.1=k
  ·have e':q.1=k:=h1.symm.trans e
   have b:valueAt (q::qs) k=some q.2:=by simp[valueAt,List.find?_cons,e']
   rw[Iy e,b];exact h2
  ·have e':¬q.1=k:=fun z=>e (h1.trans z)
   have b:valueAt (q::qs) k=valueAt qs k:=by simp[valueAt,List.find?_cons,e']
   rw[Iz e,b];exact ih
theorem KV.any{kvs:List (κ×V)}{vs:List (κ×Value)}(r:KV kvs vs)(k:κ):(kvs.any fun kv=>decide (kv.1=k))=vs.any fun kv=>decide (kv.1=k):=by
 unfold KV at r
 induction r with
 |nil=>rfl
 |cons h t ih=>rw[List.any_cons,List.any_cons,ih,h.1]
theorem KV.repl{kvs:List (κ×V)}{vs:List (κ×Value)}(r:KV kvs vs)(k:κ){y:V}{u:Value}(ry:RelV y u) :
  KV (kvs.map fun kv=>if kv.1=k then (kv.1,y) else kv) (vs.map fun kv=>if kv.1=k then (kv.1,u) else kv):=by
 unfold KV at r ⊢
 induction r with
 |nil=>exact .nil
 |@cons p q ps qs h t ih=>
  rw[List.map_cons,List.map_cons]
  refine .cons ?_ ih
  obtain⟨h1,h2⟩:=h
  by_cases e:p.1=k
  ·rw[if_pos e,if_pos (h1.symm.trans e)];exact⟨h1,ry⟩
  ·rw[if_neg e,if_neg (fun z=>e (h1.trans z))];exact⟨h1,h2⟩
theorem KV.put{kvs:List (κ×V)}{vs:List (κ×Value)}(r:KV kvs vs)(k:κ){y:V}{u:Value}(ry:RelV y u):KV (fJ kvs k y) (stored vs k u):=by
 unfold fJ stored
 rw[r.any k]
 by_cases e:(vs.any fun kv=>decide (kv.1=k))=true
 ·rw[if_pos e,if_pos e];exact r.repl k ry
 ·rw[if_neg e,if_neg e];exact Paired.snoc r ⟨rfl,ry⟩
theorem KV.length{kvs:List (κ×V)}{vs:List (κ×Value)}(r:KV kvs vs):kvs.length=vs.length:=Paired.length r
end
theorem mf{P:Program}{w:World}{k:bG}{u:Value}(r:RelV (kV k) u):(bB P w).is k u=true:=by
 cases k with
 |inl i=>obtain⟨t,e⟩:=(show ∃t,u=Value.int i t from r);subst e;exact oJ P w i t
 |inr x=>obtain⟨t,e⟩:=(show ∃t,u=Value.str x t from r);subst e;exact oK P w x t
theorem mh{P:Program}{w:World}:∀{ks:List bG} {us:List Value},Vals (ks.map kV) us→ItemsAre (bB P w) ks us
 |[],_,r=>by rw[List.map_nil]at r;cases r;exact .nil
 |k::ks,_,r=>by
  rw[List.map_cons]at r
  cases r with
  |cons h t=>exact .cons (mf h) (mh t)
noncomputable abbrev KT(H:Hp):List (List bG×V)→List (List bG×Addr×Value)→Prop:=Paired fun p q=>p.1=q.1∧H q.2.1=some (.tup (p.1.map kV))∧RelV p.2 q.2.2
theorem KT.val{H:Hp}{kvs:List (List bG×V)}{xs:List (List bG×Addr×Value)}(r:KT H kvs xs)(k:List bG):HZ (iE kvs k) ((atKey xs k).map (·.2)):=by
 induction r with
 |nil=>exact True.intro
 |@cons p q ps qs h t ih=>
  obtain⟨h1,_,h2⟩:=h
  by_cases e:p.1=k
  ·have e':q.1=k:=h1.symm.trans e
   have b:atKey (q::qs) k=some q.2:=by simp[atKey,List.find?_cons,e']
   rw[Iy e,b];exact h2
  ·have e':¬q.1=k:=fun z=>e (h1.trans z)
   have b:atKey (q::qs) k=atKey qs k:=by simp[atKey,List.find?_cons,e']
   rw[Iz e,b];exact ih
theorem KT.repl{H:Hp}{kvs:List (List bG×V)}{xs:List (List bG×Addr×Value)}(r:KT H kvs xs)(k:List bG){y:V}{u:Value}(ry:RelV y u) :
  KT H (kvs.map fun kv=>if kv.1=k then (kv.1,y) else kv) (xs.map (putAt k u)):=by
 induction r with
 |nil=>exact .nil
 |@cons p q ps qs h t ih=>
  rw[List.map_cons,List.map_cons]
  refine .cons ?_ ih
  obtain⟨h1,h2,h3⟩:=h
  unfold putAt
  by_cases e:p.1=k
  ·rw[if_pos e,if_pos (h1.symm.trans e)];exact⟨h1,h2,ry⟩
  ·rw[if_neg e,if_neg (fun z=>e (h1.trans z))];exact⟨h1,h2,h3⟩
theorem KT.put{H:Hp}{kvs:List (List bG×V)}{xs:List (List bG×Addr×Value)}(r:KT H kvs xs)(k:List bG){b:Addr}{y:V}{u:Value}(hb:H b=some (.tup (k.map kV)))(ry:RelV y u) :
  KT H (fJ kvs k y) (storedH xs k b u):=by
 have e:(kvs.any fun kv=>decide (kv.1=k))=(atKey xs k).isSome:=by
  rw[kM,(r.val k).H_,Option.isSome_map]
 unfold fJ storedH
 rw[e]
 by_cases q:(atKey xs k).isSome=true
 ·rw[if_pos q,if_pos q];exact r.repl k ry
 ·rw[if_neg q,if_neg q];exact Paired.snoc r ⟨rfl,hb,ry⟩
theorem KT.keeps{H H':Hp}{kvs:List (List bG×V)}{xs:List (List bG×Addr×Value)}(r:KT H kvs xs)(ht:∀b ys,H b=some (.tup ys)→H' b=some (.tup ys)):KT H' kvs xs:=
 Paired.ME r fun _ _ z=>⟨z.1,ht _ _ z.2.1,z.2.2⟩
section
variable {P:Program} {w:World} {H:Hp} {h:Heap} {a:Addr}
theorem zP{u:HO}(ok:Id P w H h)(e:Rd H a u):ObjOk P w H h a u:=e.ok ok
theorem mj{kvs:List (bG×V)}(ok:Id P w H h)(e:Rd H a (.dK kvs)):kvs.length≤sizeLine∧(a == sysModules)=false∧∃vs,KV kvs vs∧h.DictOf (bB P w) a vs:=
 show ObjOk P w H h a (.dK kvs)from zP ok e
theorem zQ{kvs:List (bG×V)}(ok:Id P w H h)(e:H a=some (.dK kvs)):kvs.length≤sizeLine∧(a == sysModules)=false∧∃vs,KV kvs vs∧h.DictOf (bB P w) a vs:=mj ok (.inl e)
theorem eP{ks:List bG}(ok:Id P w H h)(e:H a=some (.tup (ks.map kV))):(tupleKind (bB P w)).is h ks a:=by
 obtain⟨_,its,r,o,h1,_,h2,n,h3⟩:=(show ObjOk P w H h a (.tup (ks.map kV))from ok a _ e)
 exact⟨o,its.toArray,n,h1,h2,h3,by simpa using mh r⟩
theorem oR{kvs:List (List bG×V)}(ok:Id P w H h)(e:Rd H a (.dT kvs)):kvs.length≤sizeLine∧(a == sysModules)=false∧
  ∃xs,KT H kvs xs∧h.DictOfH (tupleKind (bB P w)) a xs:=by
 obtain⟨z,y,xs,r,o,es,ep,h1,h2,h3,h4,h5⟩:=(show ObjOk P w H h a (.dT kvs)from zP ok e)
 refine⟨z,y,xs,r,o,es,ep,h1,h2,h3,h4,fun x hx=>?_,h5⟩
 have all:∀{l:List (List bG×V)} {m:List (List bG×Addr×Value)},KT H l m→∀x∈m,(tupleKind (bB P w)).is h x.1 x.2.1:=by
  intro l m q
  induction q with
  |nil=>intro x hx;exact nomatch hx
  |@cons p q ps qs hq t ih=>
   intro x hx
   rcases List.mem_cons.mp hx with e|hx
   ·subst e
    exact eP ok (by rw[←hq.1];exact hq.2.1)
   ·exact ih x hx
 exact all r x hx
theorem Dg{kvs:List (List bG×V)}(ok:Id P w H h)(e:H a=some (.dT kvs)):kvs.length≤sizeLine∧(a == sysModules)=false∧
  ∃xs,KT H kvs xs∧h.DictOfH (tupleKind (bB P w)) a xs:=oR ok (.inl e)
end
def DGet(H:Hp)(a:Addr)(y:V)(r:Option V):Prop:=
 (∃kvs k,Rd H a (.dK kvs)∧y=kV k∧r=iE kvs k)∨∃kvs k b,Rd H a (.dT kvs)∧y = .ref b∧H b=some (.tup (k.map kV))∧r=iE kvs k
def KF(H:Hp)(a:Addr)(y v:V)(H':Hp):Prop:=
 (∃kvs k,H a=some (.dK kvs)∧y=kV k∧kvs.length < sizeLine∧H'=upd H a (.dK (fJ kvs k v))) ∨
 ∃kvs k b,H a=some (.dT kvs)∧y = .ref b∧H b=some (.tup (k.map kV))∧kvs.length < sizeLine∧H'=upd H a (.dT (fJ kvs k v))
theorem DGet.k{H:Hp}{a:Addr}{kvs:List (bG×V)}{k:bG}(e:H a=some (.dK kvs)):DGet H a (kV k) (iE kvs k):=.inl ⟨kvs,k,.inl e,rfl,rfl⟩
theorem DGet.t{H:Hp}{a b:Addr}{kvs:List (List bG×V)}{k:List bG}(e:H a=some (.dT kvs))(eb:H b=some (.tup (k.map kV))):DGet H a (.ref b) (iE kvs k):=.inr ⟨kvs,k,b,.inl e,rfl,eb,rfl⟩
theorem KF.k{H:Hp}{a:Addr}{kvs:List (bG×V)}{k:bG}{v:V}(e:H a=some (.dK kvs))(hl:kvs.length < sizeLine):KF H a (kV k) v (upd H a (.dK (fJ kvs k v))):=.inl ⟨kvs,k,e,rfl,hl,rfl⟩
theorem KF.t{H:Hp}{a b:Addr}{kvs:List (List bG×V)}{k:List bG}{v:V}(e:H a=some (.dT kvs))(eb:H b=some (.tup (k.map kV)))(hl:kvs.length < sizeLine) :
  KF H a (.ref b) v (upd H a (.dT (fJ kvs k v))):=.inr ⟨kvs,k,b,e,rfl,eb,hl,rfl⟩
section
variable {X:Cx} {pins:List (Addr×Obj)} {σ:St} {H:Hp} {s:Shared} {a:Addr} {y v:V} {u r:Value} {o:Option V} {A:Around} {E:Value→Shared→Prop}
theorem Inv.big(I:Inv X pins σ H s):sysModules < s.heap.objs.size:=by
 have h:mainGlobals < s.heap.objs.size:=(I.mod.glob.keeps I.bk).lt
 exact Nat.lt_trans (by decide) h
theorem sZ{Q:Value→Shared→Prop}(hu:A.units+1 < cLine)(I:Inv X pins σ H s)(g:DGet H a y (some v))(ry:RelV y u)(h:∀w' s',Inv X pins σ H s'→RelV v w'→Q w' s') :
  wpAny (model X.prog X.w) A (getItem (.ref a) u) Q E s:=by
 rcases g with⟨kvs,k,e,ey,l⟩|⟨kvs,k,b,e,ey,eb,l⟩
 ·subst ey
  obtain⟨z,hd,vs,rel,dd⟩:=mj I.hok e
  obtain⟨w',hw,rw'⟩:=HZ.some_of (v:=v) (o:=valueAt vs k) (by rw[l];exact rel.val k)
  exact wpAny_getItem_of (mf ry) dd.mapOf hw (h w' _ (I.tok _) rw')
 ·subst ey
  cases (show u=Value.ref b from ry)
  obtain⟨z,hd,xs,rel,dd⟩:=oR I.hok e
  obtain⟨w',hw,rw'⟩:=HZ.some_of (v:=v) (o:=(atKey xs k).map (·.2)) (by rw[l];exact rel.val k)
  obtain⟨p,hp,hp2⟩:=Option.map_eq_some_iff.mp hw
  refine wpAny_getItem_heap (tupleKind_room_in1 hu) (eP I.hok eb) dd hp ?_
  rw[hp2]
  exact h w' _ (I.tok _) rw'
theorem Dh{Q:Value→Shared→Prop}(hu:A.units+1 < cLine)(I:Inv X pins σ H s)(g:DGet H a y o)(ry:RelV y u)(h:∀s',Inv X pins σ H s'→Q (.bool o.isSome) s') :
  wpAny (model X.prog X.w) A (compareOp .In u (.ref a)) Q E s:=by
 rcases g with⟨kvs,k,e,ey,l⟩|⟨kvs,k,b,e,ey,eb,l⟩
 ·subst ey
  obtain⟨z,hd,vs,rel,dd⟩:=mj I.hok e
  refine wpAny_in_of (mf ry) hd dd.mapOf ?_
  rw[←(rel.val k).H_,←l]
  exact h _ (I.tok _)
 ·subst ey
  cases (show u=Value.ref b from ry)
  obtain⟨z,hd,xs,rel,dd⟩:=oR I.hok e
  refine wpAny_in_heap (tupleKind_room_in1 hu) (eP I.hok eb) hd dd ?_
  have q:=(rel.val k).H_
  rw[Option.isSome_map]at q
  rw[←q,←l]
  exact h _ (I.tok _)
theorem rX{Q:Value→Shared→Prop}(hu:A.units+1 < cLine)(I:Inv X pins σ H s)(g:DGet H a y o)(ry:RelV y u)(h:∀s',Inv X pins σ H s'→Q (.bool (!o.isSome)) s') :
  wpAny (model X.prog X.w) A (compareOp .NotIn u (.ref a)) Q E s:=by
 rcases g with⟨kvs,k,e,ey,l⟩|⟨kvs,k,b,e,ey,eb,l⟩
 ·subst ey
  obtain⟨z,hd,vs,rel,dd⟩:=mj I.hok e
  refine wpAny_notIn_of (mf ry) hd dd.mapOf ?_
  rw[←(rel.val k).H_,←l]
  exact h _ (I.tok _)
 ·subst ey
  cases (show u=Value.ref b from ry)
  obtain⟨z,hd,xs,rel,dd⟩:=oR I.hok e
  refine wpAny_notIn_heap (tupleKind_room_in1 hu) (eP I.hok eb) hd dd ?_
  have q:=(rel.val k).H_
  rw[Option.isSome_map]at q
  rw[←q,←l]
  exact h _ (I.tok _)
theorem m6{h':Heap}{t':Nat}{ob:HO}(I:Inv X pins σ H s)(mu:CF (H a))(hs:Heap.SameBut a s.heap h')(he:∃q,h'.get? a=some q)(new:ObjOk X.prog X.w (upd H a ob) h' a ob) :
  Inv X pins σ (upd H a ob) { s with heap:=h',toks:=t' }:=
 I.write (x:=a) (e:=a) mu (.inl rfl) (fun b q hb z=>(hs.2 b hb).trans z) he new
theorem uX{P:Program}{w:World}{H':Hp}{h':Heap}{kvs:List (bG×V)}{vs:List (bG×Value)}(z:kvs.length≤sizeLine)(hd:(a == sysModules)=false)(rel:KV kvs vs)(dd:h'.DictOf (bB P w) a vs) :
  ObjOk P w H' h' a (.dK kvs):=⟨z,hd,vs,rel,dd⟩
theorem s9{H':Hp}{Q:Unit→Shared→Prop}(hu:A.units+1 < cLine)(I:Inv X pins σ H s)(g:KF H a y v H')(ry:RelV y u)(rv:RelV v r)(h:∀s',Inv X pins σ H' s'→Q () s') :
  wpAny (model X.prog X.w) A (setItem (.ref a) u r) Q E s:=by
 rcases g with⟨kvs,k,e,ey,l,eH⟩|⟨kvs,k,b,e,ey,eb,l,eH⟩
 ·subst ey eH
  obtain⟨z,hd,vs,rel,dd⟩:=zQ I.hok e
  have hz:vs.length≤sizeLine:=by rw[←rel.length];exact z
  have hl:(fJ kvs k v).length≤sizeLine:=by have:=fO kvs k v;omega
  refine wpAny_setItem_pairs (hsz:=hz) (mf ry) dd fun h' MK hs=>h _ ?_
  have he:∃q,h'.get? a=some q:=let ⟨q,_,_,hq,_⟩:=MK;⟨q,hq⟩
  exact m6 I (by rw[e];exact True.intro) hs he (uX hl hd (rel.put k rv) MK)
 ·subst ey eH
  cases (show u=Value.ref b from ry)
  obtain⟨z,hd,xs,rel,dd⟩:=Dg I.hok e
  have hz:xs.length≤sizeLine:=by rw[←Paired.length rel];exact z
  have hl:(fJ kvs k v).length≤sizeLine:=by have:=fO kvs k v;omega
  refine wpAny_setItem_heap (hsz:=hz) (tupleKind_room_in1 hu) (eP I.hok eb) dd fun h' MK hs=>h _ ?_
  obtain⟨q,es,ep,hq,h2,h3,h4,_,h5⟩:=MK
  refine m6 I (by rw[e];exact True.intro) hs ⟨q,hq⟩ ⟨hl,hd,_,(rel.put k eb rv).keeps fun c ys ec=>?_,q,es,ep,hq,h2,h3,h4,h5⟩
  rw[aw (CD ec e (fun z=>nomatch z))]
  exact ec
end
section
variable {X:Cx} {pins:List (Addr×Obj)} {σ:St} {H:Hp} {s:Shared} {a:Addr} {kvs:List (bG×V)} {k:bG} {u:Value} {A:Around} {E:Value→Shared→Prop}
theorem Di{Q:Value→Shared→Prop}(I:Inv X pins σ H s)(e:Rd H a (.dK kvs))(h:∀t s',Inv X pins σ H s'→Q (.int kvs.length t) s'):wpAny (model X.prog X.w) A (call (.builtin "len") [.ref a]) Q E s:=by
 obtain⟨z,hd,vs,rel,dd⟩:=mj I.hok e
 refine call_len_dict hd dd (by rw[←rel.length];rw[sizeLine_eq]at z;omega) ?_
 rw[←rel.length]
 exact h _ _ (I.tok _)
end
theorem oS{X:Cx}{pins:List (Addr×Obj)}{σ:St}{H:Hp}{s:Shared}{a:Addr}{y:V}{o:Option V}(I:Inv X pins σ H s)(g:DGet H a y o):s.TypeIs (.ref a) "dict":=by
 rcases g with⟨kvs,k,e,_,_⟩|⟨kvs,k,b,e,_,_,_⟩
 ·obtain⟨_,_,vs,_,dd⟩:=mj I.hok e
  exact dd.typeIs
 ·obtain⟨_,_,xs,_,dd⟩:=oR I.hok e
  exact dd.typeIs
section
variable {X:Cx} {o i e value:Expr} {pos pos' tpos:Pos} {td ty tv:TE}
end
theorem uY{P:Program}{w:World}{H:Hp}(h:Heap)(hb:sysModules < h.objs.size):ObjOk P w H (h.push { cls:=.type "dict",data:=.dict #[] }) h.objs.size (.dK []):=
 ⟨Nat.zero_le _,beq_eq_false_iff_ne.mpr (Ne.symm (Nat.ne_of_lt hb)),[],.nil,Heap.DictOf.new h⟩
section
variable {X:Cx} {pos:Pos}
end
noncomputable def m7:List (TE×TE)→St→Hp→(List (V×V)→Hp→Prop)→Prop
 |[],_,H,Q=>Q [] H
 |(tk,tv)::r,σ,H,Q=>tk σ H fun x H1=>tv σ H1 fun y H2=>m7 r σ H2 fun ps H3=>Q ((x,y)::ps) H3
noncomputable abbrev VV:List (V×V)→List (Value×Value)→Prop:=Paired fun p q=>RelV p.1 q.1∧RelV p.2 q.2
def Dj(X:Cx)(pos:Pos)(keys:List (Option Expr))(values:List Expr)(JM:List (TE×TE)):Prop:=
 ∀(pins:List (Addr×Obj)) (s:Shared) (σ:St) (H:Hp) (Q:List (V×V)→Hp→Prop),Inv X pins σ H s→m7 JM σ H Q→
  wpAny (model X.prog X.w) X.A (evalPairs (pairTrees keys values X.env pos)) (fun vs s'=>∃ps H',Inv X pins σ H' s'∧VV ps vs∧Q ps H') X.xe s
theorem yq{X:Cx}{pos:Pos}:Dj X pos [] [] []:=fun pins s σ H Q I h=>pairTrees_nil_walk ⟨[],H,I,.nil,h⟩
theorem uZ{X:Cx}{pos:Pos}{k v:Expr}{ks:List (Option Expr)}{vs:List Expr}{tk tv:TE}{JM:List (TE×TE)}(hk:PE X k tk)(hv:PE X v tv)(hr:Dj X pos ks vs JM) :
  Dj X pos (some k::ks) (v::vs) ((tk,tv)::JM):=fun pins s σ H Q I h=>
 pairTrees_cons_walk (GJ (hk pins s σ H _ I h) fun u s1 ⟨x,H1,I1,rx,q1⟩=>GJ (hv pins s1 σ H1 _ I1 q1) fun w2 s2 ⟨y,H2,I2,ry,q2⟩=>
  GJ (hr pins s2 σ H2 _ I2 q2) fun ws s3 ⟨ps,H3,I3,rel,q3⟩=>⟨(x,y)::ps,H3,I3,.cons ⟨rx,ry⟩ rel,q3⟩)
noncomputable def jr(kvs more:List (bG×V)):List (bG×V):=more.foldl (fun acc kv=>fJ acc kv.1 kv.2) kvs
theorem KV.merge:∀{more:List (bG×V)} {rs:List (bG×Value)} {kvs:List (bG×V)} {vs:List (bG×Value)},KV more rs→KV kvs vs→KV (jr kvs more) (merged vs rs):=by
 intro more rs kvs vs r
 unfold KV at r
 induction r generalizing kvs vs with
 |nil=>intro q;exact q
 |@cons p q ps qs h t ih=>
  intro r0
  have e:KV (fJ kvs p.1 p.2) (stored vs q.1 q.2):=by
   have:=r0.put p.1 h.2
   rw[←h.1];exact this
  exact ih e
theorem g_:∀(more kvs:List (bG×V)),(jr kvs more).length≤kvs.length+more.length
 |[],kvs=>by show kvs.length≤kvs.length+0;omega
 |p::r,kvs=>by
  have h1:=g_ r (fJ kvs p.1 p.2)
  have h2:=fO kvs p.1 p.2
  show(jr (fJ kvs p.1 p.2) r).length≤_
  rw[List.length_cons];omega
theorem kN{P:Program}{w:World}:∀{kvs:List (bG×V)} {ws:List (Value×Value)},VV (kvs.map fun kv=>(kV kv.1,kv.2)) ws→∃rs,Carries (bB P w) ws rs∧KV kvs rs
 |[],_,r=>by rw[List.map_nil]at r;cases r;exact⟨[],True.intro,.nil⟩
 |p::kvs,_,r=>by
  rw[List.map_cons]at r
  cases r with
  |@cons a b as bs h t=>
   obtain⟨rs,c,q⟩:=kN (P:=P) (w:=w) t
   obtain⟨b1,b2⟩:=b
   exact⟨(p.1,b2)::rs,⟨mf h.1,rfl,c⟩,.cons ⟨rfl,h.2⟩ q⟩
def Dk(JM:List (TE×TE)):TE:=fun σ H Q=>∀p,H p=none→m7 JM σ (upd H p (.dK [])) fun ps H2=>H2 p=some (.dK [])∧∃kvs:List (bG×V),ps=kvs.map (fun kv=>(kV kv.1,kv.2))∧kvs.length≤15∧Q (.ref p) (upd H2 p (.dK (jr [] kvs)))
theorem yr{X:Cx}{pos:Pos}{keys:List (Option Expr)}{values:List Expr}{JM:List (TE×TE)}(h:Dj X pos keys values JM)(hall:keys.all (·.isSome)=true)(hl:keys.length=values.length)(h0:keys≠[])
  (OL:keys.length≤15):PE X (.Dict keys values pos) (Dk JM):=by
 intro pins s σ H Q I q
 have hn:=I.hok.fresh (Nat.le_refl s.heap.objs.size)
 have I1:=I.laid (a:=s.heap.objs.size) (o:=.dK []) (h':=s.heap.push { cls:=.type "dict",data:=.dict #[] }) (t':=s.toks) (fun _ _ q=>Heap.get?_push_of_some _ q) (Nat.le_refl _) (uY s.heap I.big)
 refine wpAny_Dict_walk (knd:=bB X.prog X.w) hall hl h0 OL (GJ (h pins _ σ _ _ I1 (q _ hn)) fun ws s2 ⟨ps,H2,I2,rel,e,kvs,ep,lk,q2⟩=>?_)
 subst ep
 obtain⟨rs,c,rk⟩:=kN (P:=X.prog) (w:=X.w) rel
 obtain⟨z,hd,P1,r0,dd⟩:=zQ I2.hok e
 cases r0
 refine⟨rs,c,dd,fun h' MK hs=>⟨.ref s.heap.objs.size,_,?_,rfl,q2⟩⟩
 have hz:(jr [] kvs).length≤sizeLine:=by
  have h1:=g_ kvs []
  rw[List.length_nil]at h1
  rw[sizeLine_eq];omega
 have he:∃q,h'.get? s.heap.objs.size=some q:=let ⟨q,_,_,hq,_⟩:=MK;⟨q,hq⟩
 exact m6 I2 (by rw[e];exact True.intro) hs he (uX hz hd (rk.merge .nil) MK)
structure M1 (X:Cx) (o:Expr) (m:Str) (apos:Pos) (e:Expr) (cpos:Pos):Prop where
 base:attributeBase o m X.env (eval o X.env)=eval o X.env
 few:((backTo cpos (starEach [e] X.env)).all (fun x=>!x.1)&&(backToKw cpos (keywordEach [] X.env)).all (fun x=>x.1.isSome)
  && decide (([e]:List Expr).length+([]:List Keyword).length+(if ([]:List Keyword).isEmpty then 0 else 1) < 30))=true
 line:(apos.endLine == cpos.line)=true
 trees:backTo cpos (starEach [e] X.env)=[(false,eval e X.env)]
structure M2 (X:Cx) (o:Expr) (m:Str) (apos:Pos) (e f:Expr) (cpos:Pos):Prop where
 base:attributeBase o m X.env (eval o X.env)=eval o X.env
 few:((backTo cpos (starEach [e,f] X.env)).all (fun x=>!x.1)&&(backToKw cpos (keywordEach [] X.env)).all (fun x=>x.1.isSome)
  && decide (([e,f]:List Expr).length+([]:List Keyword).length+(if ([]:List Keyword).isEmpty then 0 else 1) < 30))=true
 line:(apos.endLine == cpos.line)=true
 trees:backTo cpos (starEach [e,f] X.env)=[(false,eval e X.env),(false,eval f X.env)]
section
variable {X:Cx} {pins:List (Addr×Obj)} {σ:St} {H:Hp} {s:Shared} {a:Addr} {y d:V} {u r:Value} {o:Option V} {A:Around} {E:Value→Shared→Prop}
end
section
variable {X:Cx} {o e f:Expr} {apos cpos:Pos} {td ty tx:TE}
end
section
variable {X:Cx} {pins:List (Addr×Obj)} {σ:St} {H:Hp} {s:Shared} {a:Addr} {kvs:List (bG×V)} {A:Around} {E:Value→Shared→Prop}
end
section
variable {X:Cx} {pins:List (Addr×Obj)} {σ:St} {H:Hp} {s:Shared} {a:Addr} {y:V} {u:Value} {A:Around} {E:Value→Shared→Prop}
end
end L2
namespace Att
open PySem PySem.W PySem.Calls PyProof.Rows
theorem kl{P:Params}{h:Heap}:∀(ns:List Int) (vs:List Value),WellAll P h vs (ns.map WData.int)→IntsAre vs ns:=by
 intro ns
 induction ns with
 |nil=>
  intro vs w
  rw[List.map_nil]at w
  cases w
  exact .nil
 |cons n ns ih=>
  intro vs w
  rw[List.map_cons]at w
  cases w with
  |cons a b=>
   cases a
   exact .cons _ _ (ih _ b)
theorem s_{l:OpenLaw}{n:Nat}(hn:l.most=some n){P:Params}{h:Heap}{args:List WData}{vals:List Value}
  (hpre:l.row.toRowW.claim.pre args=true) (hwl:WellAll P h vals args) :
  ∃a vs ns,vals=[Value.ref a]∧args=[WData.list (ns.map WData.int)]∧h.get? a=some { cls:=.type "list",data:=.seq vs.toArray }∧IntsAre vs ns∧ns.length≤n:=by
 have hsh:WShape.hasAll [] args [.list .int]=true:=(pre_splitW hpre).1
 have hc:l.pre.holds [] { args:=args }=true:=(pre_splitW hpre).2
 obtain⟨d,r,rfl,h1,h2⟩:=hasAllW_cons hsh
 obtain rfl:=hasAllW_nil h2
 obtain⟨xs,rfl,h3⟩:=hasW_list h1
 obtain⟨ns,rfl⟩:=items_int h3
 have hlen:ns.length≤n:=by
  unfold OpenLaw.pre at hc
  have h4:(WTm.not (.lt (.lit (.int (n:Int))) (.len (.arg 0)))).holds [] { args:=[.list (ns.map .int)] }=true:=by
   have h4:=(holds_andW hc).1
   rw[hn]at h4
   exact h4
  have h5:=condW_of h4 (w_not (w_lt w_lit (w_len_list (w_arg rfl))))
  rw[List.length_map]at h5
  refine Nat.le_of_not_lt fun q=>?_
  have q':(n:Int) < ((ns.length:Nat):Int):=by omega
  first
   |(rw[decide_eq_true q']at h5;exact absurd h5 (by decide))
   |(simp at h5;omega)
 cases hwl with
 |cons w1 w2=>
  cases w2
  cases w1 with
  |list ho hall=>exact⟨_,_,ns,rfl,rfl,ho,kl ns _ hall,hlen⟩
theorem tj(l:OpenLaw)(args:List WData):l.row.toRowW.claim.post args (.bool true) args=true:=
 postW_of (r:=l.row.toRowW) (X:=(true == true))
  (show WShape.has [] (.bool true) .bool=true by first|rfl|decide|simp[WShape.has,WShape.arms,WShape.armsAll])
  (show(WTm.eq .res (.lit (.bool true))).value [] { args:=args,res:=some (.bool true),after:=args }=some (.bool (true == true))from w_eq_bool (w_res rfl) w_lit) rfl
theorem oU{l:OpenLaw}{n:Nat}{q:Program}{loose:List Str}{XP:(Str→Option Value)→Heap→Prop}{YP:World→Heap→Prop}{d:DefRec}
  (hn:l.most=some n) (hdf:d.params.defaults=[])
  (call:∀(w:World) (s₀ s₁:Shared) (mg mb:Str→Option Value) (fa:Addr) (o:Obj) (pm cd doc:Value) (a:Addr) (vs:List Value) (ns:List Int),
   Ground q loose [] XP w s₀ mg mb s₁.heap→YP w s₁.heap→
   s₁.heap.get? fa=some o→o.data = .func (docDef d.name d.params d.body d.scope pm cd doc)→s₁.heap.CodeRec cd d.name→mg d.name=some (.ref fa)→
   s₁.heap.get? a=some { cls:=.type "list",data:=.seq vs.toArray }→IntsAre vs ns→ns.length≤n→s₁.gens=#[]→
   codeAny (model l.prog w) callerA (.call (.ref fa) ⟨[.ref a],[]⟩) (fun r s'=>r = .ok (.ret (.bool true))∧OldK s₁.heap s'.heap∧s'.os=s₁.os∧AllBare s'.gens) s₁) :
  WalkO q loose XP YP l.row.toRowW d [] (fun f vs=>PySem.call f vs):=by
 intro w s₀ s₁ mg mb G Y fa o pm cd doc dV kV ho hd hcd hD hmg hg args vals as hpre hlay hrd hwl hlo
 obtain rfl:dV = .none:=Dflts.none hD hdf
 obtain rfl:kV = .none:=Dflts.noKw hD
 obtain⟨a,vs,ns,rfl,rfl,hobj,hints,hlen⟩:=s_ hn hpre hwl
 refine enter_call (codeAny_mono (call w s₀ s₁ mg mb fa o pm cd doc a vs ns G Y ho (fd_plain hd) hcd hmg hobj hints hlen hg) fun r s' hq=>?_)
 obtain⟨rfl,h2,h3,h4⟩:=hq
 exact⟨.inl ⟨.bool true,.bool true,[],rfl,fun _=>rfl,.bool true,tj l _,fun _=>⟨List.Pairwise.nil,fun _ hm=>(nomatch hm)⟩⟩,h2,h3,h4⟩
section
variable {prog:Program} {w:World} {A:Around} {E:Value→Shared→Prop} {s:Shared} {K:Frag}
end
end Att
namespace L2
open PySem PySem.Spec PyProof.Rows
theorem ml:∀{vs:List Value} {ns:List Int},IntsAre vs ns→Vals (ns.map V.int) vs
 |_,_,.nil=>.nil
 |_,_,.cons n t h=>.cons ⟨t,rfl⟩ (ml h)
def yt(H:Hp):Prop:=∀b,H b=none∨∃o xs,H b=some (.frz o (.lst xs))
theorem u4{P:Program}{w:World}{K:PySem.W.Frag}{mg mb:Str→Option Value}{CX:uk}{k:Nat}{fa a:Addr}{fd:FuncData}{x:Str}{sp:Sp}{s₁:Shared}{vs:List Value}{ns:List Int}
  (KX:K.In s₁.heap) (hns:s₁.heap.Ns mainGlobals mg) (hb:s₁.heap.Ns builtinsNs mb) (QP:∀x:Str,x ≠ "__name__"→mb x=bootBuiltins x) (hlim:s₁.heap.NoLimit) (hg:s₁.gens=#[])
  (ha:s₁.heap.get? a=some { cls:=.type "list",data:=.seq vs.toArray }) (hi:IntsAre vs ns) (hl:ns.length≤sizeLine) (hr:Room k callerA)
  (F:∀base:Heap,K.In base→base.Ns mainGlobals mg→eh P w K mg base CX k fa fd [x] sp) (hbind:∀(s:Shared) (u:Value),BindsTo s fd ⟨[u],[]⟩ [(x,u)])
  (LU:∀H:Hp,yt H→SqL K H a (ns.map V.int)→sp [.ref a] H (fun v _=>v = .bl true) fun _ _ _=>False)
  (OM:∀H e s',CX [] H s₁ (fun _ _ _=>False) e s'→False) :
  codeAny (model P w) callerA (.call (.ref fa) ⟨[.ref a],[]⟩) (fun r s'=>r = .ok (.ret (.bool true))∧OldK s₁.heap s'.heap∧s'.os=s₁.os∧AllBare s'.gens) s₁:=by
 have rv:=ml hi
 have ON:=hi.length
 -- from an abstract heap in which nothing but the script may be tracked
 have core:∀H:Hp,yt H→SqL K H a (ns.map V.int)→Id P w H s₁.heap→(∀b,H b≠none→b=a)→(H a≠none→K.lookup a=none)→
   codeAny (model P w) callerA (.call (.ref fa) ⟨[.ref a],[]⟩) (fun r s'=>r = .ok (.ret (.bool true))∧OldK s₁.heap s'.heap∧s'.os=s₁.os∧AllBare s'.gens) s₁:=by
  intro H hO hS hok hA hK
  have KY:∀{b:Addr} {o:Obj},s₁.heap.get? b=some o→H b=none→(mU s₁.heap H).get? b=some o:=fun e n=>uu e n
  have Nm:∀{b:Addr} {o:Obj} {es:Array DictEntry} {ep:Nat},s₁.heap.get? b=some o→o.data = .dict es ep→H b=none:=fun{b o es ep} e d=>by
   cases q:H b with
   |none=>rfl
   |some u=>
    have e':b=a:=hA b (by rw[q];simp)
    subst e'
    rw[ha]at e;cases e
    have d':Data.seq vs.toArray _=Data.dict es ep:=d
    cases d'
  have Oc:∀{b:Addr} {m:Str→Option Value},s₁.heap.Ns b m→(mU s₁.heap H).Ns b m:=fun{b m} ⟨o,es,ep,e,d,r⟩=>⟨o,es,ep,KY e (Nm e d),d,r⟩
  have P2:K.In (mU s₁.heap H):=fun b o e=>KY (KX b o e) (by
   cases q:H b with
   |none=>rfl
   |some u=>
    have e':b=a:=hA b (by rw[q];simp)
    subst e'
    rw[hK (by rw[q];simp)]at e;cases e)
  have hM:Mod K mg (mU s₁.heap H):=⟨P2,Oc hns,⟨mb,Oc hb,QP⟩,let ⟨mc,h1,h2⟩:=hlim;⟨mc,Oc h1,h2⟩⟩
  have e0:KD P w K mg (mU s₁.heap H) callerA [] s₁ H:=⟨rfl,hM,fun b o e=>xN e,Nat.le_of_eq (sO _ _),trivial,fun b hb=>absurd (show b∈([]:List Addr)from hb) (by simp),hok,.of_eq hg⟩
  refine codeAny_mono ((F _ P2 (Oc hns)).run callerA [] s₁ H ⟨[.ref a],[]⟩ [.ref a] [.ref a] _ _ hr e0 (hbind s₁ (.ref a)) (.cons rfl .nil) (LU H hO hS)) fun r s' h=>?_
  cases r with
  |error e=>exact(OM H e s' h).elim
  |ok fl=>
   cases fl with
   |next=>exact False.elim h
   |brk=>exact False.elim h
   |cont=>exact False.elim h
   |ret u=>
    obtain⟨v,H',os,bare,un,OO,r',q⟩:=h
    have q':v = .bl true:=q
    subst q'
    obtain rfl:u=Value.bool true:=r'
    refine⟨rfl,OldK.of_keep fun b o e=>?_,os,bare⟩
    cases q:H b with
    |none=>exact un.keep b o e q (by intro z;exact absurd (show b∈([]:List Addr)from z) (by simp)) (by simp)
    |some u=>
     rcases hO b with z|⟨ob,xs,z⟩
     ·rw[q]at z;cases z
     ·have z2:=un.Jn b ob _ z
      obtain⟨e1,_⟩:=hok b _ z
      obtain⟨e2,_⟩:=OO b _ z2
      rw[e]at e1;cases e1
      exact e2
 cases hk:K.lookup a with
 |some o=>
  -- the script is one of the module's own objects
  have e:=KX a o hk
  rw[ha]at e
  cases e
  refine core (fun _=>none) (fun _=>.inl rfl) (.inr ⟨_,vs.toArray,_,hk,rfl,rfl,rfl,by rw[List.size_toArray,ON];exact hl,by simpa using rv⟩) (fun b u z=>by have z':(none:Option HO)=some u:=z;cases z') (fun b z=>absurd rfl z) fun z=>absurd rfl z
 |none=>
  refine core (fun b=>if b=a then some (.frz { cls:=.type "list",data:=.seq vs.toArray } (.lst (ns.map V.int))) else none) (fun b=>?_) (.inl (.inr ⟨{ cls:=.type "list",data:=.seq vs.toArray },if_pos rfl⟩)) (fun b u z=>?_) (fun b z=>?_) fun _=>hk
  ·by_cases hb:b=a
   ·exact .inr ⟨_,_,if_pos hb⟩
   ·exact .inl (if_neg hb)
  ·by_cases hb:b=a
   ·have z':=(if_pos hb).symm.trans z
    cases z'
    subst hb
    exact⟨ha,by rw[List.length_map];exact hl,vs,_,rv,ha⟩
   ·have z':=(if_neg hb).symm.trans z
    cases z'
  ·by_cases hb:b=a
   ·exact hb
   ·exact absurd (if_neg hb) z
theorem yu{l:PySem.W.OpenLaw}{n k:Nat}{q:Program}{loose:List Str}{XP:(Str→Option Value)→Heap→Prop}{YP:World→Heap→Prop}{d:DefRec}{K:Params→PySem.W.Frag}{CX:World→uk}{sp:World→Sp}{x:Str}
  (hn:l.most=some n) (hn2:n≤sizeLine) (hdf:d.params.defaults=[]) (hr:Room k callerA)
  (hY:∀(w:World) (h:Heap),YP w h→(K w.params).In h)
  (F:∀(w:World) (mg:Str→Option Value) (fa:Addr) (h:Heap),(K w.params).In h→h.Ns mainGlobals mg→mg d.name=some (.ref fa)→
   ∃fd:FuncData,(∀(s:Shared) (u:Value),BindsTo s fd ⟨[u],[]⟩ [(x,u)])∧
    ∀base:Heap,(K w.params).In base→base.Ns mainGlobals mg→eh l.prog w (K w.params) mg base (CX w) k fa fd [x] (sp w))
  (LU:∀(w:World) (H:Hp) (a:Addr) (ns:List Int),ns.length≤n→yt H→SqL (K w.params) H a (ns.map V.int)→sp w [.ref a] H (fun v _=>v = .bl true) fun _ _ _=>False)
  (OM:∀(w:World) (H:Hp) (s:Shared) (e:Value) (s':Shared),CX w [] H s (fun _ _ _=>False) e s'→False) :
  PySem.W.WalkO q loose XP YP l.row.toRowW d [] (fun f vs=>PySem.call f vs):=by
 refine Att.oU hn hdf fun w s₀ s₁ mg mb fa o pm cd doc a vs ns G Y ho hd hcd hmg hobj hints hlen hg=>?_
 have KX:=hY w _ Y
 obtain⟨fd,hb,hF⟩:=F w mg fa _ KX G.T.g hmg
 exact u4 KX G.T.g G.T.b G.T.builtins G.T.nolimit hg hobj hints (Nat.le_trans hlen hn2) hr hF hb (fun H hO hS=>LU w H a ns hlen hO hS) fun H e s'=>OM w H s₁ e s'
noncomputable def cj(s:Stmt):Arguments:=match s with
 | .FunctionDef _ a _ _ _ _ _ _ _ _=>a
 |_=>{ posonlyargs:=[],args:=[],vararg:=none,kwonlyargs:=[],kw_defaults:=[],kwarg:=none,defaults:=[] }
noncomputable def aW(s:Stmt):List Stmt:=match s with
 | .FunctionDef _ _ b _ _ _ _ _ _ _=>b
 |_=>[]
noncomputable def az(s:Stmt):Scope:=match s with
 | .FunctionDef _ _ _ _ _ _ sc _ _ _=>sc
 |_=>{ kind:=.function,names:=[],isGenerator:=false,isCoroutine:=false }
noncomputable abbrev qo:uk:=fun _ _ _ _ _ _=>False
noncomputable abbrev E0:XK:=fun _ _ _=>False
theorem zR{X:Cx}:kJ qo X E0:=fun _ _ _ _ _ _ _ h=>h.elim
structure Lo (K:PySem.W.Frag) (x qual:Str) (st:Stmt) (f:Addr) (fd:FuncData):Prop where
 ex:∃(oc:Value) (od:Option Addr) (kV doc pm:Value) (an:Option Addr) (cdv ct:Value) (osl:Array (Option Value)),
  fd=PySem.W.fnOf x qual (cj st) (aW st) (az st) .none kV doc pm an cdv ct∧K.lookup f=some ⟨oc,od,.func fd,osl⟩∧PySem.W.codeIn K cdv qual=true
 kp:PySem.W.keepIn K (.ref f)=true
section
variable {P:Program} {w:World} {K:PySem.W.Frag} {mg:Str→Option Value} {base:Heap}
theorem Lo.ok{x qual:Str}{st:Stmt}{f:Addr}{fd:FuncData}{N ps:List Str}{k:Nat}{sp:Sp}(F:Lo K x qual st f fd)(S:bR N ps (az st))(len:∀vs H Q E,sp vs H Q E→vs.length=ps.length)
  (hbody:∀(cdv:Value) (A:Around) (outer:List Env) (s:Shared) (H:Hp) (vs:List V) (Q:VK) (E:XK),Room k (A.deeper (envOfC qual (az st) s.heap.objs.size f cdv))→sp vs H Q E→
   ∃t,J4 (gU qo P w K mg base N qual (az st) f cdv A outer s H E).Ld (aW st) t∧t { nx:=fun _ H'=>Q .non H',rt:=Q } (fB N vs) H):eh P w K mg base qo (k+1) f fd ps sp:=by
 obtain⟨oc,od,kV,doc,pm,an,cdv,ct,osl,rfl,lk,hcd⟩:=F.ex
 refine uN lk hcd S len fun A outer s H vs Q E hr LU=>?_
 obtain⟨t,h,q⟩:=hbody cdv A outer s H vs Q E hr LU
 exact⟨t,h.Ld,q⟩
theorem Lo.binds{x qual:Str}{st:Stmt}{f:Addr}{fd:FuncData}{ps:List Str}(F:Lo K x qual st f fd)
  (h:∀(kV doc pm:Value) (an:Option Addr) (cdv ct:Value) (us:List Value),us.length=ps.length→bindArgs (PySem.W.fnOf x qual (cj st) (aW st) (az st) .none kV doc pm an cdv ct) ⟨us,[]⟩=pure (ps.zip us)):Binds K fd ps []:=by
 obtain⟨oc,od,kV,doc,pm,an,cdv,ct,osl,rfl,lk,hcd⟩:=F.ex
 exact .all (h kV doc pm an cdv ct)
theorem m8{x qual:Str}{st:Stmt}{f:Addr}{oc:Value}{od an:Option Addr}{osl:Array (Option Value)}{kV doc pm cdv ct:Value}(l:K.lookup f=some ⟨oc,od,.func (PySem.W.fnOf x qual (cj st) (aW st) (az st) .none kV doc pm an cdv ct),osl⟩)
  (c:PySem.W.codeIn K cdv qual=true) (k:PySem.W.keepIn K (.ref f)=true):Lo K x qual st f (PySem.W.fnOf x qual (cj st) (aW st) (az st) .none kV doc pm an cdv ct):=⟨⟨oc,od,kV,doc,pm,an,cdv,ct,osl,rfl,l,c⟩,k⟩
end
theorem de{n:Nat}(h:n≤1000):n < sizeLine:=Nat.lt_of_le_of_lt h (by decide)
section
variable {X:Cx}
theorem pv(i:Nat){x:Str}{pos:Pos}(hN:X.N[i]?=some x:=by rfl)(hv:CG X.env.scope x:=by first|exact Or.inl rfl|exact Or.inr (Or.inl rfl)|exact Or.inr (Or.inr rfl))(hd:(x == ("__debug__":Str))=false:=by decide)
  (hcd:(x == ("__classdict__":Str))=false:=by decide):PE X (.Name x pos) (sP i):=uv hN hv hd hcd
theorem tm:dN X (.builtin "len") (fun xs H Q=>∃a kvs,xs=[V.ref a]∧H a=some (.dK kvs)∧Q (.int kvs.length) H):=by
 intro pins s σ H xs us Q I r h
 obtain⟨a,kvs,rfl,ha,q⟩:=h
 obtain⟨u,rfl,ru⟩:=dO r
 cases ru
 exact Di I (.inl ha) fun t s' I'=>⟨.int kvs.length,H,I',⟨t,rfl⟩,q⟩
end
def Same(H H':Hp):Prop:=∀b o,H b=some o→H' b=some o
theorem Same.trans{H H1 H2:Hp}(a:Same H H1)(b:Same H1 H2):Same H H2:=fun c o h=>b c o (a c o h)
theorem Same.free{H H':Hp}(e:Same H H'){l:Addr}(h:H' l=Option.none):H l=Option.none:=by
 cases q:H l with
 |none=>rfl
 |some o=>
  rw[e l o q]at h
  cases h
theorem Same.seq{K:PySem.W.Frag}{H H':Hp}{a:Addr}{xs:List V}(e:Same H H')(h:SqL K H a xs):SqL K H' a xs:=by
 rcases h with(h|⟨o,h⟩)|h
 ·exact .inl (.inl (e _ _ h))
 ·exact .inl (.inr ⟨o,e _ _ h⟩)
 ·exact .inr h
section
variable {κ:Type} [DecidableEq κ]
end
end L2
set_option maxHeartbeats 4000000
namespace L2
open PySem PySem.Spec PyProof.Rows
theorem m9{prog:Program}{w:World}{A:Around}{R:Result→Shared→Prop}{s:Shared}{elt target iter:Expr}{ifs:List Expr}{scope:Scope}{pos:Pos}{it acc:Value}{env:Env}(I:Nat→Shared→Prop)
  (turn:∀n s,I n s→wpAny (model prog w) A (pyNext it) (fun r s₁=>match r with
   |none=>R (.ok .next) s₁
   |some v=>wpAny (model prog w) A (letOwnedTupleGo target it v) (fun _ s₁'=>wpAny (model prog w) A (assign target env v) (fun _ s₂=>
     wpAny (model prog w) A (forIn ifs true fun c r=>if r=true then do let ok ←isTrue c env (eval c env);pure (ForInStep.yield ok) else pure (ForInStep.yield r)) (fun ok s₃=>
      if ok=true then wpAny (model prog w) A (eval elt env) (fun x s₄=>
       wpAny (model prog w) A (call (.builtin "list.append") [acc,x]) (fun _ s₅=>∃m,m < n∧I m s₅) (fun _ _=>False) s₄) (fun _ _=>False) s₃
      else ∃m,m < n∧I m s₃) (fun _ _=>False) s₂) (fun _ _=>False) s₁') (fun _ _=>False) s₁) (fun _ _=>False) s)
  (n:Nat) (h:I n s) :
  codeAny (model prog w) A (.compLoop (.ListComp elt [⟨target,iter,ifs,0⟩] scope pos) 0 it acc env) R s:=by
 refine codeAny_loop rfl I (fun n s hI=>?_) n h
 show wpAny _ A ((compTurn (.ListComp elt [⟨target,iter,ifs,0⟩] scope pos) 0 it acc env).onRaise (fun x=>do noteFrame x env;theTreesLotGoes x)) _ _ s
 refine wpAny_noted ?_
 rw[compTurn_list]
 refine wpAny_bind (wpAny_standAt (wpAny_bind (wpAny_mono (turn n s hI) (fun r s₁ h₁=>?_) fun _ _ h'=>h'.elim)))
 cases r with
 |none=>exact wpAny_pure h₁
 |some v=>
  refine wpAny_bind (wpAny_mono h₁ (fun _ s₁' h₁'=>?_) fun _ _ h'=>h'.elim)
  refine wpAny_bind (wpAny_mono h₁' (fun _ s₂ h₂=>wpAny_bind (wpAny_mono h₂ (fun ok s₃ h₃=>?_) fun _ _ h'=>h'.elim)) fun _ _ h'=>h'.elim)
  cases ok with
  |false=>exact wpAny_pure ⟨rfl,h₃⟩
  |true=>
   exact wpAny_bind (wpAny_bind (wpAny_mono h₃ (fun x s₄ h₄=>wpAny_bind (wpAny_mono h₄ (fun _ s₅ h₅=>wpAny_pure (wpAny_pure ⟨rfl,h₅⟩)) fun _ _ h'=>h'.elim)) fun _ _ h'=>h'.elim))
structure Bk where
 C:Addr
 s:Shared
 H:Hp
 fp:List Addr
 pn:List (Addr×Obj)
noncomputable def cC(env:Env)(fs:List Str):List (Str×Addr):=fs.map fun x=>(x,(env.cells.lookup x).getD 0)
noncomputable abbrev Cx.IL(X:Cx)(N:List Str)(scope:Scope)(fs:List Str)(B:Bk):Cx:=
 { X with N:=N,s₀:=B.s,H₀:=B.H,env:=compEnvC scope (cC X.env fs) B.C X.env,outer:=X.stack,ex:=B.fp,fn:=fun _=>false,pn:=B.pn,xe:=fun _ _=>False }
noncomputable def ck(env:Env):List Str→Prop
 |[]=>True
 |x::r=>(∃c,env.cells.lookup x=some c)∧ck env r
theorem j4{env:Env}:∀{fs:List Str},ck env fs→∀{x:Str} {c:Addr},(cC env fs).lookup x=some c→env.cells.lookup x=some c
 |[],_,x,c,h=>by cases h
 |y::r,k,x,c,h=>by
  obtain⟨⟨d,hd⟩,k⟩:=k
  have h':List.lookup x ((y,(env.cells.lookup y).getD 0)::cC env r)=some c:=h
  rw[List.lookup_cons]at h'
  cases e:x == y with
  |true=>
   rw[e]at h'
   have e':x=y:=by simpa using e
   subst e'
   rw[hd]at h'
   rw[hd]
   exact h'
  |false=>
   rw[e]at h'
   exact j4 k h'
noncomputable def hasB(names:List (Str×NameKind))(cl:List (Str×Addr)):Bool:=names.all fun y=>(y.2 != .cell&&y.2 != .free) || (cl.lookup y.1).isSome
theorem u5{names:List (Str×NameKind)}{cl:List (Str×Addr)}{x:Str}{k:NameKind}(h:hasB names cl=true)(e:names.lookup x=some k)(hk:k = .cell∨k = .free):∃c,cl.lookup x=some c:=by
 have hm:(x,k)∈names:=PySem.mem_of_lookup e
 have q:=List.all_eq_true.mp h _ hm
 have z:(cl.lookup x).isSome=true:=by
  rcases hk with rfl|rfl
  ·simpa using q
  ·simpa using q
 exact Option.isSome_iff_exists.mp z
noncomputable def Hs(env:Env)(scope:Scope)(cl:List (Str×Addr)):List Str→Prop
 |[]=>True
 |x::r=>((env.scope.names.lookup x=some .cell∨env.scope.names.lookup x=some .free)∧((relabel scope env).names.lookup x=some .cell∨(relabel scope env).names.lookup x=some .free)∧cl.lookup x=env.cells.lookup x)∧Hs env scope cl r
theorem Hs.mem{env:Env}{scope:Scope}{cl:List (Str×Addr)}:∀{l:List Str},Hs env scope cl l→∀x∈l,
  (env.scope.names.lookup x=some .cell∨env.scope.names.lookup x=some .free)∧((relabel scope env).names.lookup x=some .cell∨(relabel scope env).names.lookup x=some .free)∧cl.lookup x=env.cells.lookup x
 |[],_,x,h=>nomatch h
 |y::r,k,x,h=>by
  rcases List.mem_cons.mp h with rfl|h
  ·exact k.1
  ·exact Hs.mem k.2 x h
noncomputable def eu(own:Nat)(fr:List Nat)(σ:St):St:=List.replicate own none++fr.map fun j=>(σ[j]?).getD none
noncomputable abbrev jt(us:List Value):Obj:={ cls:=.type "list",data:=.seq us.toArray us.length }
theorem tq(us:List Value)(u:Value):({ cls:=.type "list",data:=.seq (us.toArray.push u) (us.length+1) }:Obj)=jt (us++[u]):=by
 show({ cls:=.type "list",data:=.seq (us.toArray.push u) (us.length+1) }:Obj)={ cls:=.type "list",data:=.seq (us++[u]).toArray (us++[u]).length }
 rw[List.length_append,List.length_singleton,List.push_toArray]
section
variable {X:Cx} {pins:List (Addr×Obj)} {σ:St} {H:Hp} {s:Shared}
theorem Inv.Nq{D:Addr}{us:List Value}{n:Nat}{ys:List V}(I:Inv X pins σ H s)(f:Hg X pins H D)(e:s.heap.get? D=some { cls:=.type "list",data:=.seq us.toArray n })(r:Vals ys us)(hz:ys.length≤sizeLine) :
  Inv X pins σ (upd H D (.lst ys)) s:=by
 obtain⟨f0,f1,f2,f3,f4,f5⟩:=f
 have nD:∀b u,H b=some u→b≠D:=fun b u q=>aT q f0
 have hok:Id X.prog X.w (upd H D (.lst ys)) s.heap:=fun b u q=>by
  by_cases hb:b=D
  ·subst hb
   rw[ay]at q
   cases q
   exact⟨hz,us,n,r,e⟩
  ·rw[aw hb]at q
   exact(I.hok b u q).stay (fun _ _ _ z=>z) (fun c z=>by rw[aw (nD c _ z)];exact z) fun c xs z=>by rw[aw (nD c _ z)];exact z
 exact I.step (H':=upd H D (.lst ys)) (h':=s.heap) (g':=s.gens) (t':=s.toks) (d':=s.drawn) (ch:=[D])
  (fun b hb=>by
   have z:b=D:=by simpa using hb
   subst z
   exact⟨f3,f1,f4,f5⟩)
  (fun _ _ _ _ _ q _=>q) (fun _ o _ _ _ q _=>⟨o.slots,q⟩)
  (fun b o hb _ n=>by rw[aw (fun z=>hb (by simp[z]))];exact n)
  (fun _ o _ q=>⟨o,q⟩) (fun b xs q=>by rw[aw (nD b _ q)];exact q) (fun b o u q=>by rw[aw (nD b _ q)];exact q)
  (fun b ps q=>⟨#[],by rw[aw (nD b _ q),q];simp⟩) (fun _ q=>q) hok I.bare
theorem A_{N:List Str}{scope:Scope}{fs:List Str}{C:Addr}{fp:List Addr}(I:Inv X pins σ H s)(hkind:scope.kind = .function)(hC:s.heap.objs.size≤C)(hcl:ck X.env fs)
  (hhas:hasB (relabel scope X.env).names (cC X.env fs)=true) (hf:∀b∈fp,Hg X pins H b) (hlt:∀b∈fp,b < s.heap.objs.size):(X.IL N scope fs ⟨C,s,H,fp,X.pn++pins⟩).Ok where
 mod:=I.ok.mod
 kind:=hkind
 glob:=I.ok.glob
 blt:=I.ok.blt
 above:=hC
 inj:=fun x y c h1 h2=>I.ok.inj x y c (j4 hcl h1) (j4 hcl h2)
 has:=fun x hx=>by
  rcases hx with e|e
  ·exact u5 hhas e (.inl rfl)
  ·exact u5 hhas e (.inr rfl)
 LQ:=fun x c h=>by cases h
 hd:=I.ok.hd
 frames:=I.ok.frames
 stk:=.inl rfl
 MG:=fun b hb=>⟨Nat.ne_of_lt (Nat.lt_of_lt_of_le (hlt b hb) hC),fun x c e=>(hf b hb).2.2.2.2.1 x c (j4 hcl e)⟩
 bs:=I.bs
 KU:=Nat.le_trans I.ok.KU I.sz
 J5:=fun b o e hb=>(hf b hb).2.2.2.1.elim (fun z=>I.ok.J5 b o e z) fun z=>absurd (Nat.lt_of_lt_of_le (Heap.lt_size e) (Nat.le_trans I.ok.KU z)) (Nat.lt_irrefl _)
 J_:=fun b hb z=>(List.mem_cons.mp (I.Jp b z)).elim (hf b hb).2.1 (hf b hb).2.2.1
 Ix:=I.stack
 Ln:=I.Ka
theorem yv{N:List Str}{scope:Scope}{fs:List Str}{C D:Addr}{fp:List Addr}{own:Nat}{fr:List Nat}{h₁:Heap}{m0:Str→Option Value}{t':Nat}(I:Inv X pins σ H s)
  (ok:(X.IL N scope fs ⟨C,s,H,fp,X.pn++pins⟩).Ok) (hC:s.heap.objs.size≤C) (hD:s.heap.objs.size≤D) (hDC:D≠C) (hcl:ck X.env fs)
  (old:∀b o,s.heap.get? b=some o→h₁.get? b=some o) (hns:h₁.Ns C m0) (hacc:h₁.get? D=some (jt [])) (hlen:N.length=own+fr.length) (hN:(N.drop own).map some=fr.map fun j=>X.N[j]?)
  (hF:Hs X.env scope (cC X.env fs) (N.drop own)) :
  Inv (X.IL N scope fs ⟨C,s,H,fp,X.pn++pins⟩) [(D,jt [])] (eu own fr σ) H { s with heap:=h₁,toks:=t' }:=by
 refine⟨ok,rfl,I.bare,Un.kept old,⟨m0,hns,fun i x v e1 e2 e3=>?_⟩,fun x c e=>?_,I.hok.fresh hC,fun x c e=>I.Hu x c (j4 hcl e),fun p hp=>?_,I.hok.kept old,?_⟩
 ·have e1:N[i]?=some x:=e1
  by_cases hi:i < own
  ·unfold eu at e2
   rw[List.getElem?_append_left (by rw[List.length_replicate];exact hi),List.getElem?_replicate,if_pos hi]at e2
   cases e2
  ·obtain⟨k,rfl⟩:∃k,i=own+k:=⟨i - own,by omega⟩
   have e1':(N.drop own)[k]?=some x:=by rw[List.getElem?_drop];exact e1
   have q:=congrArg (fun l=>l[k]?) hN
   simp only[List.getElem?_map,e1',Option.map_some]at q
   unfold eu at e2
   rw[List.getElem?_append_right (by rw[List.length_replicate];omega),List.length_replicate,Nat.add_sub_cancel_left,List.getElem?_map]at e2
   cases hj:fr[k]? with
   |none=>rw[hj]at e2;cases e2
   |some j=>
    rw[hj]at e2 q
    simp only[Option.map_some,Option.some.injEq]at e2 q
    have hσ:σ[j]?=some (some v):=by
     cases z:σ[j]? with
     |none=>rw[z]at e2;cases e2
     |some w=>rw[z]at e2;simp only[Option.getD_some]at e2;rw[e2]
    obtain⟨k1,k2,k3⟩:=hF.mem x (List.mem_of_getElem? e1')
    obtain⟨m,hn,hl⟩:=I.loc
    have vis:CG X.env.scope x:=by
     rcases k1 with z|z
     ·exact .inr (.inl z)
     ·exact .inr (.inr z)
    obtain⟨u,ru,l⟩:=hl j x v q.symm hσ vis
    rcases l with⟨hk,_⟩|⟨_,c,hc,o,ho,hd⟩
    ·have hk':X.env.scope.names.lookup x=some .local:=hk
     rcases k1 with z|z
     ·rw[z]at hk';cases hk'
     ·rw[z]at hk';cases hk'
    ·exact⟨u,ru,.inr ⟨k2,c,k3.trans hc,o,old _ _ ho,hd⟩⟩
 ·obtain⟨v,o,ho,hd⟩:=I.cell x c (j4 hcl e)
  exact⟨v,o,old _ _ ho,hd⟩
 ·rcases List.mem_append.mp hp with z|z
  ·obtain⟨e,n,ne,nf,d⟩:=I.pin p z
   exact⟨old _ _ e,n,Nat.ne_of_lt (Nat.lt_of_lt_of_le (Heap.lt_size e) hC),fun q=>(List.mem_cons.mp (I.Jp _ q)).elim ne nf,d⟩
  ·have z':p=(D,jt []):=by simpa using z
   subst z'
   exact⟨hacc,I.hok.fresh hD,hDC,fun q=>(List.mem_cons.mp (I.Jp _ q)).elim (fun e=>absurd e (Nat.ne_of_gt (Nat.lt_of_lt_of_le I.lt hD))) (I.Nj hD),fun v z=>by cases z⟩
 ·show(eu own fr σ).length=N.length
  unfold eu
  rw[List.length_append,List.length_replicate,List.length_map,hlen]
end
def PF(X:Cx)(ifs:List Expr)(t:TT):Prop:=
 ∀(pins:List (Addr×Obj)) (s:Shared) (σ:St) (H:Hp) (Q:Bool→Hp→Prop),Inv X pins σ H s→t σ H Q→
  wpAny (model X.prog X.w) X.A (forIn ifs true fun c r=>if r=true then do let ok ←isTrue c X.env (eval c X.env);pure (ForInStep.yield ok) else pure (ForInStep.yield r)) (TP X pins σ Q) X.xe s
def E7:TT:=fun _ H Q=>Q true H
theorem Ba{X:Cx}:PF X [] E7:=fun _ _ _ H _ I h=>wpAny_tests_nil ⟨H,I,h⟩
theorem Bb{X:Cx}{c:Expr}{t:TT}(h:PT X c t):PF X [c] t:=fun pins s σ H Q I q=>wpAny_tests_one (h pins s σ H Q I q)
def zS(J:It)(g:TG)(tc:TT)(te:TE)(own:Nat)(σ':St)(fin:List V→Hp→Prop)(H1:Hp):Prop:=
 ∃W:Nat→Nat→List V→Hp→Prop,(∃m,W 0 m [] H1)∧∀i m ys H,W i m ys H→
  (J.stop i H∧ys.length≤sizeLine∧fin ys H) ∨
  (J.go i H∧ys.length≤sizeLine∧∃Nx:List V→Hp→Prop,(∀ys' H',Nx ys' H'→∃m',m' < m∧W (i+1) m' ys' H')∧∀x H',J.N_ i H x H'→g x σ' H' fun σ2 H2=>σ2.drop own=σ'.drop own∧tc σ2 H2 fun b H3=>
   if b=true then te σ2 H3 fun y H4=>Nx (ys++[y]) H4 else Nx ys H3)
section
variable {X:Cx} {pins:List (Addr×Obj)} {σ:St} {H:Hp} {s:Shared}
variable {elt iter tg:Expr} {ifs:List Expr} {scope:Scope} {pos:Pos} {N:List Str} {own:Nat} {fr:List Nat} {fs:List Str} {g:TG} {tc:TT} {te:TE}
theorem kO{J:It}{fp:List Addr}{it:Addr}{tn:Nat→Heap→Prop}{fin:List V→Hp→Prop}{E:Value→Shared→Prop}{RR:Value→Addr→Result→Shared→Prop}
  (hc:X.calm=true) (hcell:∀y∈scope.names,y.2 ≠ .cell) (hkind:scope.kind = .function) (hcl:ck X.env fs) (hhas:hasB (relabel scope X.env).names (cC X.env fs)=true)
  (hlen:N.length=own+fr.length) (hN:(N.drop own).map some=fr.map fun j=>X.N[j]?) (hF:Hs X.env scope (cC X.env fs) (N.drop own))
  (hg:∀B,PG (X.IL N scope fs B) tg g) (hf:∀B,PF (X.IL N scope fs B) ifs tc) (he:∀B,PE (X.IL N scope fs B) elt te)
  (I:Inv X pins σ H s) (T:oN X.prog X.w X.K tg J fp it tn) (st:tn 0 s.heap) (f:∀b∈fp,Hg X pins H b) (W:zS J g tc te own (eu own fr σ) fin H)
  (hRR:∀D C s' ys H' m',Inv X pins σ (upd H' D (.lst ys)) s'→H' D=none→s'.heap.Ns C m'→Hg X pins (upd H' D (.lst ys)) C→fin ys H'→RR (.ref D) C (.ok .next) s') :
  wpAny (model X.prog X.w) X.A (newList []) (fun acc s₃=>wpAny (model X.prog X.w) X.A (newFunctionEnv scope X.env.globals (cC X.env fs) [] X.env.qual none .none (some X.env)) (fun cenv s₄=>
   codeAny (model X.prog X.w) X.A (.compStart (.ListComp elt [⟨tg,iter,ifs,0⟩] scope pos) 0 (.ref it) acc { cenv with scope:=relabel scope X.env }) (RR acc cenv.locals) s₄) E s₃) E s:=by
 refine wpAny_newObj_type (wpAny_newFunctionEnv hcell (by intro y hy;simp at hy) (fun h₁ ML Mb=>?_) hkind)
 dsimp only at ML Mb ⊢
 generalize OP:s.heap.push { cls:=.type "list",dict:=none,data:=.seq ([]:List Value).toArray }=H2 at ML Mb ⊢
 have hC:H2.objs.size=s.heap.objs.size+1:=by rw[←OP,Heap.size_push]
 have MM:s.heap.objs.size≤H2.objs.size:=by rw[hC];exact Nat.le_succ _
 have hDC:s.heap.objs.size≠H2.objs.size:=by rw[hC];exact Nat.ne_of_lt (Nat.lt_succ_self _)
 have below:∀b,b < s.heap.objs.size→b≠H2.objs.size∧b≠s.heap.objs.size:=fun b hb=>⟨by rw[hC];exact Nat.ne_of_lt (Nat.lt_succ_of_lt hb),Nat.ne_of_lt hb⟩
 have old:∀b o,s.heap.get? b=some o→h₁.get? b=some o:=fun b o e=>Mb.extBut b o (below b (Heap.lt_size e)).1 (Heap.get?_push_of_some _ (OP▸Heap.get?_push_of_some _ e))
 have hacc:h₁.get? s.heap.objs.size=some (jt []):=Mb.extBut _ _ hDC (Heap.get?_push_of_some _ (OP▸Heap.get?_push_size _ rfl))
 have hlt:∀b∈fp,b < s.heap.objs.size:=fun b hb=>by
  obtain⟨o,e,_⟩:=T.obj 0 _ st b hb
  exact Heap.lt_size e
 obtain⟨Wv,⟨m0,w0⟩,turn⟩:=W
 have ok:=A_ (N:=N) I hkind MM hcl hhas f hlt
 have loop:∀s₃:Shared,s₃={ s with heap:=h₁,toks:=s.toks+([]:List (Str×Value)).length }→
   codeAny (model X.prog X.w) X.A (.compLoop (.ListComp elt [⟨tg,iter,ifs,0⟩] scope pos) 0 (.ref it) (.ref s.heap.objs.size) (compEnvC scope (cC X.env fs) H2.objs.size X.env))
    (RR (.ref s.heap.objs.size) H2.objs.size) s₃:=by
  rintro s₃ rfl
  have I0:=yv (own:=own) (fr:=fr) (t':=s.toks+([]:List (Str×Value)).length) I ok MM (Nat.le_refl _) hDC hcl old ML hacc hlen hN hF
  have QQ:tn 0 h₁:=T.keep 0 _ _ st fun b _ o e=>old b o e
  have stat:∀{us:List Value} {H':Hp},(∀b∈fp,H' b=none)→∀b∈fp,Hg (X.IL N scope fs ⟨H2.objs.size,s,H,fp,X.pn++pins⟩) [(s.heap.objs.size,jt us)] H' b:=fun{us H'} hn b hb=>by
   obtain⟨f0,f1,f2,f3,f4,f5⟩:=f b hb
   refine⟨hn b hb,(below b (hlt b hb)).1,fun z=>(List.mem_cons.mp (I.Jp b z)).elim f1 f2,.inl hb,fun x c e=>f4 x c (j4 hcl e),fun p hp=>?_⟩
   rcases List.mem_append.mp hp with z|z
   ·exact f5 p z
   ·have z':p=(s.heap.objs.size,jt us):=by simpa using z
    subst z'
    exact Ne.symm (below b (hlt b hb)).2
  have OQ:∀p∈X.pn++pins,p.1 < s.heap.objs.size:=fun p hp=>Heap.lt_size (I.pin p hp).1
  refine m9 (fun k s'=>∃i ys us H',Inv (X.IL N scope fs ⟨H2.objs.size,s,H,fp,X.pn++pins⟩) [(s.heap.objs.size,jt us)] (eu own fr σ) H' s'∧Vals ys us∧tn i s'.heap∧(∀b∈fp,H' b=none)∧Wv i k ys H') ?_ m0
   ⟨0,[],[],H,I0,.nil,QQ,fun b hb=>(f b hb).1,w0⟩
  rintro n s' ⟨i,ys,us,H',I',rv,st',P3,w'⟩
  rcases turn i n ys H' w' with⟨stop,hz,OR⟩|⟨go,hz,Nx,P4,step⟩
  ·refine GJ (T.done (X.IL N scope fs ⟨H2.objs.size,s,H,fp,X.pn++pins⟩) rfl rfl rfl hc i _ s' _ H' (fun _ _=>False) I' (stat P3) st' stop) (fun r s1 ⟨hr,I1⟩=>?_)
   subst hr
   show RR _ _ (.ok .next) s1
   have IX:Inv X pins σ H' s1:=I.Ms I1.os I1.base I1.hok I1.bare fun b hb=>by
    obtain⟨f0,f1,f2,f3,f4,f5⟩:=f b hb
    exact⟨f3,f1,f4,f5⟩
   obtain⟨eD,nD,_⟩:=I1.pin (s.heap.objs.size,jt us) (by simp)
   have IT:=IX.Nq (I.IS (H':=H') (Nat.le_refl _) nD) eD rv hz
   obtain⟨m',hn',_⟩:=I1.loc
   exact hRR _ _ s1 ys H' m' IT nD hn' (I.IS MM (by rw[aw (Ne.symm hDC)];exact I1.free)) OR
  ·refine GJ (T.item (X.IL N scope fs ⟨H2.objs.size,s,H,fp,X.pn++pins⟩) rfl rfl rfl hc i _ s' _ H' (fun _ _=>False) I' (stat P3) st' go) (fun r s1 ⟨u,hr,h1⟩=>?_)
   subst hr
   show wpAny _ _ (letOwnedTupleGo tg (.ref it) u) _ _ s1
   refine GJ h1 (fun _ s5 ⟨x,H5,I5,r5,y5,L8,OF⟩=>?_)
   have OG:=I5.pinned (stat OF) (T.obj _ _ L8)
   refine GJ (hg _ _ s5 _ H5 x u _ OG r5 (step x H5 y5)) (fun _ s6 ⟨σ6,H6,I6,QR,q6⟩=>?_)
   refine GJ (hf _ _ s6 σ6 H6 _ I6 q6) (fun b s7 ⟨H7,I7,q7⟩=>?_)
   -- MN the turn's own names
   have forget:∀{H8:Hp} {s8:Shared} {pl:List (Addr×Obj)},Inv (X.IL N scope fs ⟨H2.objs.size,s,H,fp,X.pn++pins⟩) pl σ6 H8 s8→Inv (X.IL N scope fs ⟨H2.objs.size,s,H,fp,X.pn++pins⟩) pl (eu own fr σ) H8 s8:=fun{H8 s8 pl} I8=>by
    refine I8.weak (I0.len.trans I8.len.symm) fun j v e=>?_
    by_cases hj:j < own
    ·unfold eu at e
     rw[List.getElem?_append_left (by rw[List.length_replicate];exact hj),List.getElem?_replicate,if_pos hj]at e
     cases e
    ·obtain⟨k,rfl⟩:∃k,j=own+k:=⟨j - own,by omega⟩
     rw[←List.getElem?_drop]at e ⊢
     rw[QR]
     exact e
   have Of:∀{H8:Hp} {s8:Shared},Inv (X.IL N scope fs ⟨H2.objs.size,s,H,fp,X.pn++pins⟩) ([(s.heap.objs.size,jt us)]++kH fp s5.heap) σ6 H8 s8→∀b∈fp,∀o,s5.heap.get? b=some o→s8.heap.get? b=some o∧H8 b=none:=fun I8 b hb o e=>
    let z:=I8.pin (b,o) (List.mem_append_right _ (List.mem_append_right _ (h_ hb e)))
    ⟨z.1,z.2.1⟩
   cases b with
   |false=>
    show ∃m,m < n∧_
    obtain⟨m',hm,w7⟩:=P4 _ _ (show Nx ys H7 from q7)
    refine⟨m',hm,i+1,ys,us,H7,(forget I7).Jf,rv,T.keep _ _ _ L8 fun b hb o e=>(Of I7 b hb o e).1,fun b hb=>?_,w7⟩
    obtain⟨o,e,_⟩:=T.obj _ _ L8 b hb
    exact(Of I7 b hb o e).2
   |true=>
    show wpAny _ _ (eval elt _) _ _ s7
    have QT:te σ6 H7 fun y H4=>Nx (ys++[y]) H4:=q7
    refine GJ (he _ _ s7 σ6 H7 _ I7 QT) (fun v s8 ⟨y,H8,I8,r8,n8⟩=>?_)
    obtain⟨m',hm,w8⟩:=P4 _ _ n8
    obtain⟨eD,nD,P5,QU,_⟩:=I8.pin (s.heap.objs.size,jt us) (List.mem_append_right _ (List.mem_append_left _ (by simp)))
    refine append_at (hsz:=by show us.toArray.size≤sizeLine;rw[List.size_toArray,←rv.length];exact hz) eD fun h9 P6 QV=>?_
    have J0:Inv (X.IL N scope fs ⟨H2.objs.size,s,H,fp,X.pn++pins⟩) [] σ6 H8 s8:=I8.JL fun p hp=>nomatch hp
    have J1:Inv (X.IL N scope fs ⟨H2.objs.size,s,H,fp,X.pn++pins⟩) [] σ6 H8 { s8 with heap:=h9 }:=J0.turned (t':=s8.toks) (it:=s.heap.objs.size) (fun b o hb e=>(P6.2 b hb).trans e) nD P5 (.inr (Nat.le_refl _))
     (fun x c e z=>by
      obtain⟨v',q⟩:=I.cell x c (j4 hcl e)
      exact absurd (Nat.lt_of_lt_of_le q.lt (by rw[z];exact Nat.le_refl _)) (Nat.lt_irrefl _))
     (fun p hp=>by
      rw[List.append_nil]at hp
      exact Nat.ne_of_lt (OQ p hp))
    have J2:Inv (X.IL N scope fs ⟨H2.objs.size,s,H,fp,X.pn++pins⟩) [(s.heap.objs.size,jt (us++[v]))] σ6 H8 { s8 with heap:=h9 }:=J1.JL fun p hp=>by
     have z':p=(s.heap.objs.size,jt (us++[v])):=by simpa using hp
     subst z'
     exact⟨QV.trans (congrArg some (tq us v)),nD,P5,QU,fun v z=>by cases z⟩
    refine⟨m',hm,i+1,ys++[y],us++[v],H8,forget J2,Vals.append rv (.cons r8 .nil),T.keep _ _ _ L8 fun b hb o e=>(P6.2 b (below b (hlt b hb)).2).trans (Of I8 b hb o e).1,fun b hb=>?_,w8⟩
    obtain⟨o,e,_⟩:=T.obj _ _ L8 b hb
    exact(Of I8 b hb o e).2
 exact codeAny_compStart_list (loop _ rfl) (T.self _ 0 _ _ _ (T.keep 0 _ _ st fun b _ o e=>old b o e) (loop _ rfl))
def u6(wi:TI)(g:TG)(tc:TT)(te:TE)(own:Nat)(fr:List Nat):TE:=fun σ H Q=>wi σ H fun J H1=>
 zS J g tc te own (eu own fr σ) (fun ys H2=>∀D,H2 D=none→Q (.ref D) (upd H2 D (.lst ys))) H1
theorem yw(fs:List Str)(own:Nat)(fr:List Nat)(N:List Str){wi:TI}(hc:X.calm=true)(hclos:closureFor scope X.env=pure (cC X.env fs))(hcell:∀y∈scope.names,y.2 ≠ .cell)(hkind:scope.kind = .function)
  (hnames:∀x∈scope.names,x.2 = .local→scope.names.lookup x.1=some .local) (hcl:ck X.env fs) (hhas:hasB (relabel scope X.env).names (cC X.env fs)=true)
  (hlen:N.length=own+fr.length) (hN:(N.drop own).map some=fr.map fun j=>X.N[j]?) (hF:Hs X.env scope (cC X.env fs) (N.drop own))
  (hi:PI X tg iter wi) (hg:∀B,PG (X.IL N scope fs B) tg g) (hf:∀B,PF (X.IL N scope fs B) ifs tc) (he:∀B,PE (X.IL N scope fs B) elt te)
  (hs:∀x,foldedSetIterable iter X.env x=pure x:=by intro _;rfl):PE X (.ListComp elt [⟨tg,iter,ifs,0⟩] scope pos) (u6 wi g tc te own fr):=by
 intro pins s σ H Q I h
 rw[eval_ListComp]
 refine wpAny_comprehension_free (use:=none) (g:=⟨tg,iter,ifs,0⟩) (gs:=[]) rfl hs hclos hkind hnames (GJ (hi pins s σ H _ I h) fun v s1 h1=>GJ h1 fun itv s2 h2=>?_)
 obtain⟨it,fp,tn,J,H2,e,I2,T,st2,f2,W⟩:=h2
 subst e
 refine kO (RR:=fun acc C=>compPost (model X.prog X.w) X.A X.xe none (EP X pins σ Q) acc C) hc hcell hkind hcl hhas hlen hN hF hg hf he I2 T st2 f2 W ?_
 intro D C s' ys H' m' I' nD hn fC fin
 exact⟨m',hn,fun h' hs'=>⟨.ref D,_,I'.turned (t':=s'.toks) (fun b o hb e=>(hs'.2 b hb).trans e) fC.1 fC.2.1 fC.2.2.2.1 fC.2.2.2.2.1 fC.2.2.2.2.2,rfl,fin D nD⟩⟩
theorem yx(fs:List Str)(own:Nat)(fr:List Nat)(N:List Str){wi:TI}{i:Nat}{y:Str}{py spos:Pos}(hX:X.N.Nodup)(hix:X.N[i]?=some y)(hy:X.env.scope.names.lookup y=some .local)
  (hsw:swapsWith (.ListComp elt [⟨tg,iter,ifs,0⟩] scope pos) (some (.Name y py)) spos.line X.env=pure true)
  (hc:X.calm=true) (hclos:closureFor scope X.env=pure (cC X.env fs)) (hcell:∀y∈scope.names,y.2 ≠ .cell) (hkind:scope.kind = .function)
  (hnames:∀x∈scope.names,x.2 = .local→scope.names.lookup x.1=some .local) (hcl:ck X.env fs) (hhas:hasB (relabel scope X.env).names (cC X.env fs)=true)
  (hlen:N.length=own+fr.length) (hN:(N.drop own).map some=fr.map fun j=>X.N[j]?) (hF:Hs X.env scope (cC X.env fs) (N.drop own))
  (hi:PI X tg iter wi) (hg:∀B,PG (X.IL N scope fs B) tg g) (hf:∀B,PF (X.IL N scope fs B) ifs tc) (he:∀B,PE (X.IL N scope fs B) elt te)
  (hs:∀x,foldedSetIterable iter X.env x=pure x:=by intro _;rfl):PS X (.Assign [.Name y py] (.ListComp elt [⟨tg,iter,ifs,0⟩] scope pos) spos) (xY (u6 wi g tc te own fr) (oM i)):=by
 intro pins s σ H D I h
 rw[exec_Assign_Name_used _ _ _ _ hsw]
 refine wpAny_bind (wpAny_standAt (wpAny_bind ?_))
 show wpAny _ X.A (do let _ ←comprehension (.ListComp elt [⟨tg,iter,ifs,0⟩] scope pos) scope X.env _ (newList []) false (eval iter X.env) (some (assign (.Name y py) X.env))) _ _ s
 refine wpAny_bind (wpAny_mono (wpAny_comprehension_free (use:=some (assign (.Name y py) X.env)) (Q:=fun _ s'=>SP X pins D .next s') (g:=⟨tg,iter,ifs,0⟩) (gs:=[]) rfl hs hclos hkind hnames
  (GJ (hi pins s σ H _ I h) fun v s1 h1=>GJ h1 fun itv s2 h2=>?_)) (fun _ s' hq=>wpAny_pure (wpAny_pure hq)) fun _ _ e=>e)
 obtain⟨it,fp,tn,J,H2,e,I2,T,st2,f2,W⟩:=h2
 subst e
 refine kO (RR:=fun acc C=>compPost (model X.prog X.w) X.A X.xe (some (assign (.Name y py) X.env)) (fun _ s'=>SP X pins D .next s') acc C) hc hcell hkind hcl hhas hlen hN hF hg hf he I2 T st2 f2 W ?_
 intro Da C s' ys H' m' I' nD hn fC fin
 show wpAny _ X.A (assign (.Name y py) X.env (.ref Da)) _ _ s'
 refine wpAny_assign_Name (jm (v:=.ref Da) I' hX hix (.inl hy) rfl (fun s2 I3 ⟨a,sb,ha⟩=>?_) (.inr hy))
 have ca:C≠a:=by
  rcases ha with z|z
  ·rw[z];exact fC.2.1
  ·exact Ne.symm (fC.2.2.2.2.1 _ _ z)
 exact⟨m',hn.sameBut sb ca,fun h' hs'=>⟨_,_,I3.turned (t':=s2.toks) (fun b o hb e=>(hs'.2 b hb).trans e) fC.1 fC.2.1 fC.2.2.2.1 fC.2.2.2.2.1 fC.2.2.2.2.2,fin Da nD⟩⟩
end
end L2
namespace PySem
open Sem (wp)
namespace F
theorem tt:typeLookup (.type "list_reverseiterator") "__len__" = pure none:=by rw[typeLookup_type,builtinLookup_eq_fast];kernel_rfl
theorem u7:typeLookup (.type "list_reverseiterator") "__length_hint__" = pure (some (.builtin "list_reverseiterator.__length_hint__")):=by rw[typeLookup_type,builtinLookup_eq_fast];kernel_rfl
end F
section
variable {prog:Program} {w:World} {A:Around} {s:Shared} {R:Result→Shared→Prop}
variable {I:Addr} {fp wr:List Addr} {G:Array GenState→Array GenState→Prop} {n:Nat} {P:Nat→Value→Prop} {St:Nat→Shared→Prop}
theorem qK(W:WalksS prog w A.in1 I fp wr G n P St)(hT:∀i s,St i s→s.TypeIs (.ref I) "list_reverseiterator")(S:Addr)(res:Value)(c₀:Nat)(hst:St 0 s)(hSf:S ∉ fp)(hI:I∈fp)
  (hS:s.heap.get? S=some { cls:=.type "list",data:=.seq #[] c₀ })
  (hR:∀s' acc' c',Moved (S::wr) G s s'→s'.heap.get? S=some { cls:=.type "list",dict:=none,data:=.seq acc' c',slots:=#[] }→ItemsOf P acc' n→R (.ok (.ret res)) s') (hn:n≤sizeLine) :
  wpAny (model prog w) A.in1 (Builtin.List.listExtendWith (.ref S) (.ref I) res)
   (fun fin s'=>match fin with | .done f=>R (.ok f) s' | .again c'=>c'.quiet=true∧codeAny (model prog w) A c' R s') (fun e s'=>R (.error e) s') s:=by
 have hSI:S≠I:=fun e=>hSf (e▸hI)
 have h1:Builtin.List.listSameRef (.ref S) (.ref I)=false:=by simp[Builtin.List.listSameRef,hSI]
 unfold Builtin.List.listExtendWith
 refine wpAny_bind (wpAny_typeOf (hT 0 _ hst) ?_)
 rw[if_neg (by rw[h1];decide)]
 refine wpAny_bind (W.self 0 _ _ _ hst ?_)
 refine wpAny_bind (wpAny_holding ?_)
 unfold Builtin.List.listLengthHint
 refine wpAny_bind (wpAny_specialOf (hT 0 _ hst) F.tt ?_)
 show wpAny _ A.in1 (specialOf (Value.ref I) (Str.ofString "__length_hint__") >>= _) _ _ _
 refine wpAny_bind (wpAny_specialOf (hT 0 _ hst) F.u7 ?_)
 (generalize hid:("list_reverseiterator.__length_hint__":String)=QW;wp_delta;rw[show splitId QW=some ("list_reverseiterator","__length_hint__")from by subst hid;decide +kernel];subst hid)
 refine wpAny_bind (wpAny_isInstance (b:=true) (hT 0 _ hst) (by rw[isSubtype_type];kernel_rfl) ?_)
 refine wpAny_pure ?_
 rw[if_neg (by decide)]
 exact wpAny_pure ⟨plainId_quiet F.plain_extend_loop _,codeAny_extend_loopS W hn _ hSf _ n 0 _ _ _ rfl (Nat.zero_le _) hst hS (ItemsOf.nil P) fun s' acc' c' hm hS' hacc=>hR s' acc' c' hm hS' hacc⟩
theorem lQ(W:WalksS prog w A.in1 I fp wr G n P St)(hT:∀i s,St i s→s.TypeIs (.ref I) "list_reverseiterator")(S:Addr)(hst:St 0 s)(hSf:S ∉ fp)(hI:I∈fp)
  (hS:s.heap.get? S=some { cls:=.type "list",data:=.seq #[] })
  (hR:∀s' acc' c',Moved (S::wr) G s s'→s'.heap.get? S=some { cls:=.type "list",dict:=none,data:=.seq acc' c',slots:=#[] }→ItemsOf P acc' n→R (.ok (.ret .none)) s') (hn:n≤sizeLine) :
  wpAny (model prog w) A.in1 (Builtin.«list.__init__» ⟨[.ref S,.ref I],[]⟩)
   (fun fin s'=>match fin with | .done f=>R (.ok f) s' | .again c'=>c'.quiet=true∧codeAny (model prog w) A c' R s') (fun e s'=>R (.error e) s') s:=by
 show wpAny _ A.in1 (do let old ←Builtin.List.listItems (.ref S);Builtin.List.listUpdate (.ref S) (fun _=>#[]);letGo old.toList.reverse;Builtin.List.listExtendWith (.ref S) (.ref I) .none) _ _ s
 refine wpAny_bind ?_
 unfold Builtin.List.listItems
 refine wpAny_bind (wpAny_seqItems hS rfl (wpAny_pure ?_))
 show wpAny _ A.in1 (updateSeq S (fun _=>#[]) >>= fun _=>letGo (#[]:Array Value).toList.reverse >>= fun _=>Builtin.List.listExtendWith (.ref S) (.ref I) .none) _ _ s
 refine wpAny_bind (wpAny_updateSeq hS rfl ?_)
 have QX:=Heap.get?_update_self (Obj.mapSeq (fun _=>(#[]:Array Value))) hS rfl
 have Nb:∀b o,b≠S→s.heap.get? b=some o→(s.heap.update S (Obj.mapSeq (fun _=>(#[]:Array Value)))).get? b=some o:=
  fun b o hb e=>(Heap.get?_update_other _ _ (Ne.symm hb)).trans e
 refine wpAny_bind (wpAny_letGo ?_)
 refine qK (hn:=hn) W hT S .none _ (W.frame 0 s _ s.toks hst (Nat.le_refl _) fun b hb o e=>Nb b o (fun h=>hSf (h▸hb)) e) hSf hI QX fun s' acc' c' hm hS' hacc=>?_
 exact hR s' acc' c' (Moved.trans W.gtrans ((Moved.refl W.grefl).then_heap (Nat.le_refl _) fun b o hb e=>Nb b o (fun h=>hb (h▸List.mem_cons_self)) e) hm) hS' hacc
end
section
variable {prog:Program} {w:World} {A:Around} {E:Value→Shared→Prop} {s:Shared}
theorem lR{I l:Addr}{items:Array Value}{Q:Value→Shared→Prop}(hh:A.handled=none)(hl:s.heap.IsList l items)(hit:s.heap.IsRevIter I l ((items.size:Int) - 1))(hne:l≠I)(hn:items.size≤sizeLine)
  (hQ:∀h' tk acc' c',(∀b o,b≠I→s.heap.get? b=some o→h'.get? b=some o)→h'.get? s.heap.objs.size=some { cls:=.type "list",dict:=none,data:=.seq acc' c',slots:=#[] }→
   acc'.toList=items.toList.reverse→Q (.ref s.heap.objs.size) { s with heap:=h',toks:=tk }) :
  wpAny (model prog w) A (call (.type "list") [.ref I]) Q E s:=by
 have W:=(Walks.listRev (prog:=prog) (w:=w) (A:=A.in1.in1) hh I l hne items).toS
 have OS:I < s.heap.objs.size:=by obtain⟨o,ho,_⟩:=hit;exact Heap.lt_size ho
 have OT:l < s.heap.objs.size:=by obtain⟨o,ho,_⟩:=hl;exact Heap.lt_size ho
 have hfp:∀b∈[I,l],b < s.heap.objs.size:=fun b hb=>by
  rcases List.mem_cons.mp hb with rfl|hb
  ·exact OS
  ·rw[List.mem_singleton.mp hb];exact OT
 have hSf:s.heap.objs.size ∉ [I,l]:=fun hm=>Nat.lt_irrefl _ (hfp _ hm)
 have hst:(fun i (s:Shared)=>i≤items.size∧s.heap.IsRevIter I l ((items.size:Int) - 1 - (i:Int))∧s.heap.IsList l items) 0 s:=⟨Nat.zero_le _,by simpa using hit,hl⟩
 refine callType_codes (Q₁:=fun obj s₁=>obj = .ref s.heap.objs.size∧s₁={ s with heap:=s.heap.push { cls:=.type "list",data:=.seq #[] } }) F.called_list (F.typeCall_list_1 _) F.entry_list_init
  (code_list_new _ ⟨rfl,rfl⟩) fun obj s₁ h₁=>?_
 obtain⟨rfl,rfl⟩:=h₁
 have hS:(s.heap.push { cls:=.type "list",data:=.seq #[] }).get? s.heap.objs.size=some { cls:=.type "list",data:=.seq #[] }:=Heap.get?_push_size _ rfl
 refine⟨⟨_,hS,rfl⟩,F.args_list_init_2 _ _,lQ (hn:=hn) W (fun i s st=>st.2.1.typeIs) _ (W.frame 0 s _ s.toks hst (Nat.le_refl _) fun b _ o e=>Heap.get?_push_of_some _ e) hSf (List.mem_cons_self ..) hS fun s' acc' c' hm hS' hacc=>?_⟩
 refine⟨rfl,?_⟩
 rw[hm.eq_with]
 refine hQ s'.heap s'.toks acc' c' (fun b o hb e=>hm.heap b o (fun z=>?_) (Heap.get?_push_of_some _ e)) hS' ?_
 ·rcases List.mem_cons.mp z with z|z
  ·exact absurd (Heap.lt_size e) (by rw[z];exact Nat.lt_irrefl _)
  ·exact hb (List.mem_singleton.mp z)
 ·obtain⟨hsz,hP⟩:=hacc
  apply List.ext_getElem?
  intro j
  by_cases hj:j < items.size
  ·have hj':j < acc'.size:=by rw[hsz];exact hj
   have q:=hP j acc'[j] (by simp[hj'])
   have e1:acc'.toList[j]?=some acc'[j]:=by simp[hj']
   rw[e1,List.getElem?_reverse (by simpa using hj)]
   simpa using q.symm
  ·rw[List.getElem?_eq_none (by simpa [hsz]using hj),List.getElem?_eq_none (by simpa using hj)]
end
end PySem
namespace L2
open PySem PySem.Spec PyProof.Rows
section
variable {X:Cx}
def u8(K:PySem.W.Frag)(te:TE):TE:=fun σ H Q=>te σ H fun x H1=>∃a xs,x = .ref a∧SqL K H1 a xs∧∀q,H1 q=none→Q (.ref q) (upd H1 q (.lst xs.reverse))
theorem qL{e:Expr}{te:TE}{p1 p2 q1 q2:Pos}(hc:X.calm=true)(he:PE X e te)(OU:Gl X "list")(hm1:X.mg "list" = none)(Nr:Gl X "reversed")(hm2:X.mg "reversed" = none)
  (hs:starEach [e] X.env=[(false,eval e X.env)]:=by rfl) (hs2:starEach [.Call (.Name "reversed" p2) [e] [] q2] X.env=[(false,eval (.Call (.Name "reversed" p2) [e] [] q2) X.env)]:=by rfl) :
  PE X (.Call (.Name "list" p1) [.Call (.Name "reversed" p2) [e] [] q2] [] q1) (u8 X.K te):=by
 intro pins s σ H Q I h
 refine wpAny_Call_Name_kw (fM I OU hm1 (u:=.type "list") (by decide +kernel) ?_)
 refine PyProof.Rows.callWith_type1 ?_ hs2 rfl
 rw[hs2]
 show wpAny _ _ (spliced ((false,eval (.Call (.Name "reversed" p2) [e] [] q2) X.env)::backTo q1 [])) _ _ s
 refine Calls.spliced_cons ?_
 refine wpAny_Call_Name_kw (fM I Nr hm2 (u:=.type "reversed") boot_reversed ?_)
 refine PyProof.Rows.callWith_type1 ?_ hs rfl
 rw[hs]
 show wpAny _ _ (spliced ((false,eval e X.env)::backTo q2 [])) _ _ s
 refine Calls.spliced_cons (GJ (he pins s σ H _ I h) fun u s1 ⟨x,H1,I1,r1,a,xs,ex,hx,q⟩=>?_)
 subst ex
 cases r1
 obtain⟨its,rv,p,hz⟩:=I1.list hx
 have hl:=rv.length
 have hal:a < s1.heap.objs.size:=by obtain⟨o,ho,_⟩:=p.isList;exact Heap.lt_size ho
 refine Calls.spliced_nil (call_reversed_list p.isList ?_)
 refine Calls.spliced_nil ?_
 refine lR (I.ok.hd hc) (p.isList.push _) ⟨_,Heap.get?_push_size _ rfl,rfl,rfl⟩ (Nat.ne_of_lt hal) (by rw[List.size_toArray,←hl];exact hz) fun h' tk acc c hk hS ha=>?_
 have hsz:(s1.heap.push (revObj a ((its.toArray.size:Int) - 1))).objs.size=s1.heap.objs.size+1:=Heap.size_push _ _
 have hle:s1.heap.objs.size≤(s1.heap.push (revObj a ((its.toArray.size:Int) - 1))).objs.size:=by rw[hsz];exact Nat.le_succ _
 refine⟨.ref _,_,I1.laid (a:=(s1.heap.push (revObj a ((its.toArray.size:Int) - 1))).objs.size) (o:=.lst xs.reverse) (h':=h') (t':=tk) (fun b u e=>hk b u (Nat.ne_of_lt (Heap.lt_size e)) (Heap.get?_push_of_some _ e)) hle ?_,rfl,q _ (I1.hok.fresh hle)⟩
 refine⟨by rw[List.length_reverse];exact hz,its.reverse,c,Vals.reverse rv,?_⟩
 rw[hS]
 have e:acc=its.reverse.toArray:=by
  apply Array.toList_inj.mp
  rw[ha]
 rw[e]
end
section
variable {X:Cx}
end
section
variable {X:Cx}
noncomputable abbrev ju(c:Nat):Str:=⟨#[c]⟩
noncomputable def E8(z:Str):It:=⟨fun i _=>i < z.cps.size,fun i H x H'=>H'=H∧∃c,z.cps[i]?=some c∧x = .str (ju c),fun i _=>z.cps.size≤i⟩
theorem u9{P:Program}{w:World}{K:PySem.W.Frag}{tg:Expr}{ty:String}(hty:ty = "str_ascii_iterator" ∨ ty = "str_iterator")(it:Addr)(z:Str)(t:Tok):oN P w K tg (E8 z) [it] it (fun i h=>i≤z.cps.size∧h.IsStrIter it ty z t i):=by
 have W:∀A':Around,A'.handled=none→Walks P w A' it [it] [it] z.cps.size (SignAt z) (fun i h=>h.IsStrIter it ty z t i):=fun A' hA=>by
  rcases hty with rfl|rfl
  ·exact Walks.strAscii hA it z t
  ·exact Walks.strWide hA it z t
 have nt:(["enumerate","zip","dict_itemiterator","dict_reverseitemiterator","odict_iterator","itertools.zip_longest","itertools.pairwise"].contains ty)=false:=by
  rcases hty with rfl|rfl<;>decide
 refine⟨by simp,fun i h st b hb=>?_,fun i h h' st k=>?_,?_,?_,?_⟩
 ·have e:b=it:=by simpa using hb
  subst e
  obtain⟨_,o,e,c,d⟩:=st
  exact⟨o,e,fun v q=>by rw[d]at q;cases q⟩
 ·obtain⟨hi,o,e,r⟩:=st
  exact⟨hi,o,k it (by simp) o e,r⟩
 ·intro X hP hw hK hc i pins s σ H E I hf st hg
  subst hP hw hK
  obtain⟨f0,f1,f2,f3,f4,f5⟩:=hf it (by simp)
  refine(W X.A (I.ok.hd hc)).item i s _ _ hg st.2 fun v h' tk hv st' kk=>?_
  obtain⟨c,u,hcp,rfl⟩:=hv
  have I1:Inv X pins σ H { s with heap:=h',toks:=tk }:=I.turned (fun b o hb e=>kk b o (by simpa using hb) e) f0 f1 f3 f4 f5
  obtain⟨o,e,co,d⟩:=id st'
  exact⟨_,rfl,fN (s:={ s with heap:=h',toks:=tk }) e co d nt ⟨.str (ju c),H,I1,⟨u,rfl⟩,⟨rfl,c,hcp,rfl⟩,⟨hg,st'⟩,fun b hb=>(hf b hb).1⟩⟩
 ·intro X hP hw hK hc i pins s σ H E I hf st hg
  subst hP hw hK
  obtain⟨f0,f1,f2,f3,f4,f5⟩:=hf it (by simp)
  have e:i=z.cps.size:=Nat.le_antisymm st.1 hg
  subst e
  exact(W X.A (I.ok.hd hc)).done s _ _ st.2 fun h' tk kk=>⟨rfl,I.turned (fun b o hb e=>kk b o (by simpa using hb) e) f0 f1 f3 f4 f5⟩
 ·intro A i s Q E st h
  rcases hty with rfl|rfl
  ·exact wpAny_pyIter_striter_ascii st.2 h
  ·exact wpAny_pyIter_striter_wide st.2 h
theorem yy{ys:List Str}:∀{us:List Value},Vals (ys.map V.str) us→StrsAre us ys:=by
 induction ys with
 |nil=>intro us r;rw[List.map_nil]at r;cases r;exact .nil
 |cons n ns ih=>
  intro us r
  rw[List.map_cons]at r
  cases r with
  |cons r1 r2=>
   obtain⟨t,e⟩:=r1
   subst e
   exact .cons n t (ih r2)
noncomputable def Dl(K:PySem.W.Frag):V→List V→Hp→VK→Prop:=fun x vs H Q=>∃sep p ys,x = .str sep∧vs=[.ref p]∧SqL K H p (ys.map V.str)∧(ys.map (·.length)).sum+ys.length * sep.length≤1000000∧Q (.str (Txt.join sep ys)) H
theorem yz:AU X "str.join" (Dl X.K):=by
 intro pins s σ H x vs v us Q I rx rv h
 obtain⟨sep,p,ys,rfl,rfl,hp,hz,q⟩:=h
 obtain⟨t,rfl⟩:=rx
 obtain⟨u,rfl,ru⟩:=dO rv
 cases ru
 obtain⟨its,r,pl,_⟩:=I.list hp
 exact join_list pl.isList (by simpa using yy r) (by omega) fun t' k=>⟨.str _,H,I.tok k,⟨t',rfl⟩,q⟩
theorem qM{z:Str}{acc:Array Value}(h:ItemsOf (SignAt z) acc z.cps.size):Vals (z.cps.toList.map fun c=>V.str (ju c)) acc.toList:=by
 obtain⟨hs,hP⟩:=h
 have key:∀(cs:List Nat) (us:List Value),us.length=cs.length→(∀(j:Nat) (v:Value),us[j]?=some v→∃c u,cs[j]?=some c∧v = .str (ju c) u)→Vals (cs.map fun c=>V.str (ju c)) us:=by
  intro cs
  induction cs with
  |nil=>
   intro us hl _
   cases us with
   |nil=>exact .nil
   |cons u us=>cases hl
  |cons c cs ih=>
   intro us hl hu
   cases us with
   |nil=>cases hl
   |cons u us=>
    obtain⟨c',t,e1,e2⟩:=hu 0 u rfl
    have e1':c=c':=by simpa using e1
    subst e1'
    refine .cons ⟨t,e2⟩ (ih us (by simpa using hl) fun j v e=>?_)
    exact hu (j+1) v (by simpa using e)
 refine key z.cps.toList acc.toList (by simp[hs]) fun j v e=>?_
 obtain⟨c,u,e1,e2⟩:=hP j v (by simpa using e)
 exact⟨c,u,by simpa using e1,e2⟩
theorem jv(hc:X.calm=true):dN X (.type "list") (fun xs H Q=>∃z,xs=[.str z]∧z.length≤sizeLine∧∀l,H l=none→Q (.ref l) (upd H l (.lst (z.cps.toList.map fun c=>V.str (ju c))))):=by
 intro pins s σ H xs us Q I r h
 obtain⟨z,rfl,hz,q⟩:=h
 obtain⟨u,rfl,t,rfl⟩:=dO r
 refine call_list_str (I.ok.hd hc) z t (fun h' tk acc c hk hS ha=>?_) hz
 refine⟨.ref _,_,I.laid (a:=s.heap.objs.size) (o:=.lst (z.cps.toList.map fun c=>V.str (ju c))) (h':=h') (t':=tk) hk (Nat.le_refl _) ?_,rfl,q _ (I.hok.fresh (Nat.le_refl _))⟩
 exact⟨by rw[List.length_map,Array.length_toList];exact hz,acc.toList,c,qM ha,by rw[hS]⟩
end
section
variable {X:Cx}
noncomputable def E9:V→Option Int→Option Int→Hp→VK→Prop:=fun x lo hi H Q=>∃z,x = .str z∧z.length≤sizeLine∧Q (.str (Txt.slice z lo hi)) H
theorem Bc:Cq X E9:=by
 intro pins s σ H x v vl vu lo hi sl Q I rx hs pl pu h
 obtain⟨z,rfl,hz,q⟩:=h
 obtain⟨t,rfl⟩:=rx
 refine⟨"str",_,F.slot_str_getitem.lookup,typeIs_str _ _ _,?_⟩
 obtain⟨o,e,c,d⟩:=hs
 have fin:∀l u:Option (Int×Tok),(vl=partValue l∧lo=l.map (·.1))→(vu=partValue u∧hi=u.map (·.1))→wpAny (model X.prog X.w) X.A (getItem (.str z t) (.ref sl)) (EP X pins σ Q) X.xe s:=by
  rintro l u ⟨rfl,rfl⟩ ⟨rfl,rfl⟩
  exact wpAny_getItem_str_slice (l:=l) (u:=u) (st:=none) ⟨o,e,c,d⟩ rfl (post_val_or_str ⟨Nat.le_trans (Txt.slice_le z _ _) hz,fun t' k=>⟨.str _,H,I.tok k,⟨t',rfl⟩,q⟩⟩)
 cases pl with
 |none=>
  cases pu with
  |none=>exact fin none none ⟨rfl,rfl⟩ ⟨rfl,rfl⟩
  |int j uj=>exact fin none (some (j,uj)) ⟨rfl,rfl⟩ ⟨rfl,rfl⟩
 |int i ui=>
  cases pu with
  |none=>exact fin (some (i,ui)) none ⟨rfl,rfl⟩ ⟨rfl,rfl⟩
  |int j uj=>exact fin (some (i,ui)) (some (j,uj)) ⟨rfl,rfl⟩ ⟨rfl,rfl⟩
noncomputable def Be:V→List V→Hp→VK→Prop:=fun x vs H Q=>∃a b i rest,x = .str a∧vs=[.str b]∧Builtin.Str.occurrences a b 0 a.length 1=i::rest∧Q (.int i) H
theorem u_:AU X "str.index" Be:=by
 intro pins s σ H x vs v us Q I rx rv h
 obtain⟨a,b,i,rest,rfl,rfl,ho,q⟩:=h
 obtain⟨t,rfl⟩:=rx
 obtain⟨w,rfl,u,rfl⟩:=dO rv
 exact call_gives F.slot_str_index (typeIs_str _ _ _) F.entry_str_index (F.args_str_index_2 _ _) (gives_str_index a b t u i rest ho) ⟨.int i,H,I.tok _,⟨_,rfl⟩,q⟩
def Bf(K:PySem.W.Frag)(i j k:Nat)(te:TE):TS:=fun D σ H=>te σ H fun x H1=>∃p v w u,x = .ref p∧G3 K H1 p [v,w,u]∧D.nx (((σ.set k (some u)).set j (some w)).set i (some v)) H1
theorem vc{i j k:Nat}{x y z:Str}{e:Expr}{te:TE}{px py pz pt:Pos}{kt:Nat}{pos:Pos}(hc:X.calm=true)(hN:X.N.Nodup)(hi:X.N[i]?=some x)(hj:X.N[j]?=some y)(hk:X.N[k]?=some z)
  (hx:X.env.scope.names.lookup x=some .local) (hy:X.env.scope.names.lookup y=some .local) (hz:X.env.scope.names.lookup z=some .local) (he:PE X e te)
  (hw:swappedStores [.Tuple [.Name x px,.Name y py,.Name z pz] kt pt] e X.env=pure (some [x,y,z]))
  (hs:swapsWithSole [.Tuple [.Name x px,.Name y py,.Name z pz] kt pt] e pos.line X.env=pure false) :
  PS X (.Assign [.Tuple [.Name x px,.Name y py,.Name z pz] kt pt] e pos) (Bf X.K i j k te):=by
 intro pins s σ H D I h
 refine Assign_Tuple_swapped (names:=[x,y,z]) (GJ (he pins s σ H _ I h) fun r s1 ⟨xr,H1,I1,r1,p,v,w,u,ex,hp,q⟩=>?_) hs hw
 subst ex
 cases r1
 obtain⟨its,rv,tp,_⟩:=I1.tuple hp
 obtain⟨u1,u2,u3,ei,a1,a2,a3⟩:∃u1 u2 u3,its=[u1,u2,u3]∧RelV v u1∧RelV w u2∧RelV u u3:=by
  cases rv with
  |cons a1 rv=>
   cases rv with
   |cons a2 rv=>
    cases rv with
    |cons a3 rv=>
     cases rv
     exact⟨_,_,_,rfl,a1,a2,a3⟩
 subst ei
 refine unpackItems_tuple (items:=#[u1,u2,u3]) (I.ok.hd hc) tp fun h' kp=>?_
 have I2:=I1.kept (h':=h') (t':=s1.toks) fun b o eb=>kp b o (Nat.ne_of_lt (Heap.lt_size eb)) eb
 refine assignInOrder_cons (wpAny_bindName (df I2 hN hk (.inl hz) a3 (fun s2 I3=>?_) (.inr hz)))
 refine assignInOrder_cons (wpAny_bindName (df I3 hN hj (.inl hy) a2 (fun s3 I4=>?_) (.inr hy)))
 exact assignInOrder_cons (wpAny_bindName (df I4 hN hi (.inl hx) a1 (fun s4 I5=>assignInOrder_nil ⟨_,H1,I5,q⟩) (.inr hx)))
end
end L2
namespace Zt
open PySem
open Sem (wp)
section
variable {prog:Program} {w:World} {A:Around} {E:Value→Shared→Prop} {s:Shared}
theorem nx{j t:Addr}{i:Nat}{its:Array Value}{x:Value}{Q:Value→Shared→Prop}(hj:s.heap.IsTupleIter j t i)(ht:s.heap.IsTuple t its)(hx:its[i]?=some x)
  (k:∀g:Heap,g.IsTupleIter j t (i+1)→Heap.SameBut j s.heap g→Q x { s with heap:=g }):wpAny (model prog w) A (Builtin.SmallTypes.nextOf (.ref j)) Q E s:=by
 obtain⟨ob,eb,kb,db⟩:=id hj
 obtain⟨oc,ec,_,nc,dc⟩:=ht
 unfold Builtin.SmallTypes.nextOf
 refine wpAny_bind (wpAny_callSpecial?_slot (name:=Str.ofString "__next__") hj.typeIs F.slot_tuple_iterator_next (wpAny_call_entry F.slot_tuple_iterator_next hj.typeIs F.entry_tuple_iterator_next ?_ (F.args_tuple_iterator_next_1 _)))
 show wpAny _ _ (field (.ref j) 0 >>= _) _ _ s;refine wpAny_bind (wpAny_field eb db (x:=.ref t) rfl ?_)
 show wpAny _ _ (if (Value.ref t == Value.none)=true then _ else _) _ _ s;rw[if_neg (show ¬((Value.ref t == Value.none)=true)from Bool.false_ne_true)]
 show wpAny _ _ (field (.ref j) 1 >>= _) _ _ s;refine wpAny_bind (wpAny_field eb db (x:=.int i 0) rfl ?_)
 show wpAny _ _ (seqItems? (.ref t) >>= _) _ _ s;refine wpAny_bind (wpAny_seqItems ec dc ?_)
 simp only[Int.toNat_natCast,hx];refine wpAny_bind (wpAny_setField eb db (by simp) (wpAny_pure ⟨x,rfl,wpAny_pure (k _ ?_ (Heap.SameBut.update ..))⟩))
 exact⟨_,Heap.get?_update_self _ eb (Obj.isFreed_of_fields (Obj.data_mapFields db _)),(Obj.cls_mapFields ..).trans kb,by rw[Obj.data_mapFields db];simp[rawInt]⟩
theorem E_{j t:Addr}{i:Nat}{its:Array Value}{Q:Value→Shared→Prop}(hh:A.handled=none)(hj:s.heap.IsTupleIter j t i)(ht:s.heap.IsTuple t its)(hx:its[i]?=none)
  (k:∀(g:Heap) (e:Addr),Heap.ExtBut j s.heap g→(∃o,g.get? e=some o∧o.cls = .type "StopIteration")→E (.ref e) { s with heap:=g }):wpAny (model prog w) A (Builtin.SmallTypes.nextOf (.ref j)) Q E s:=by
 obtain⟨ob,eb,kb,db⟩:=id hj
 obtain⟨oc,ec,_,nc,dc⟩:=ht
 unfold Builtin.SmallTypes.nextOf
 refine wpAny_bind (wpAny_callSpecial?_slot (name:=Str.ofString "__next__") hj.typeIs F.slot_tuple_iterator_next (wpAny_call_entry F.slot_tuple_iterator_next hj.typeIs F.entry_tuple_iterator_next ?_ (F.args_tuple_iterator_next_1 _)))
 show wpAny _ _ (field (.ref j) 0 >>= _) _ _ s;refine wpAny_bind (wpAny_field eb db (x:=.ref t) rfl ?_)
 show wpAny _ _ (if (Value.ref t == Value.none)=true then _ else _) _ _ s;rw[if_neg (show ¬((Value.ref t == Value.none)=true)from Bool.false_ne_true)]
 show wpAny _ _ (field (.ref j) 1 >>= _) _ _ s;refine wpAny_bind (wpAny_field eb db (x:=.int i 0) rfl ?_)
 show wpAny _ _ (seqItems? (.ref t) >>= _) _ _ s;refine wpAny_bind (wpAny_seqItems ec dc ?_)
 simp only[Int.toNat_natCast,hx];refine wpAny_bind (wpAny_rule (wpAny_bind (wpAny_setField eb db (by simp) ?_)))
 show wpAny _ _ (newExc (.type "StopIteration") [] >>= _) _ _ _;refine wpAny_bind ?_
 simp only[newExc,newTuple];refine wpAny_bind (wpAny_newObj_type ?_ (by size_fits))
 refine wpAny_bind (m:=firstArgMember _ _) (wpAny_of_eq (a:=Value.none) (by first|rfl|(simp only[firstArgMember];rfl)) ?_);refine wpAny_newObj_type ?_ (by size_fits)
 simp only[raiseNew];refine wpAny_bind (wpAny_handled ?_)
 first|(rw[hh])|(rw[show A.in1.handled=none from hh])
 exact wpAny_bind (wpAny_pure (wpAny_throw (k _ _ (((Heap.SameBut.update ..).extBut.push _).push _) ⟨_,Heap.get?_push_size _ rfl,rfl⟩)))
variable {z TI TO i1 i2 l1 l2:Addr} {k1 k2:Nat} {xs ys:Array Value} {x y a b:Value}
theorem m_{Q:Value→Shared→Prop}(D:ZipApart z TI TO i1 i2 l1 l2)(gz:IsZip s.heap z TI TO .none)(gI:IsPair s.heap TI (.ref i1) (.ref i2))(gO:IsPair s.heap TO a b)
  (g1:s.heap.IsTupleIter i1 l1 k1) (g2:s.heap.IsTupleIter i2 l2 k2) (t1:s.heap.IsTuple l1 xs) (t2:s.heap.IsTuple l2 ys) (hx:xs[k1]?=some x) (hy:ys[k2]?=some y)
  (k:∀g,IsZip g z TI TO (rawInt s.heap.objs.size)→IsPair g TO x y→g.IsTupleIter i1 l1 (k1+1)→g.IsTupleIter i2 l2 (k2+1)→IsPair g s.heap.objs.size x y→
   (∀c o,c≠z→c≠TO→c≠i1→c≠i2→s.heap.get? c=some o→g.get? c=some o)→Q (.ref s.heap.objs.size) { s with heap:=g }) :
  wpAny (model prog w) A (Builtin.«zip.__next__» ⟨[.ref z],[]⟩) (fun fin s'=>∃v,fin = .done (.ret v)∧Q v s') E s:=by
 show wpAny _ _ (field (.ref z) 2 >>= _) _ _ _;refine wpAny_bind (wpAny_field gz rfl (x:=.bool false) rfl ?_)
 show wpAny _ _ (field (.ref z) 3 >>= _) _ _ _;refine wpAny_bind (wpAny_field gz rfl (x:=.ref TI) rfl (wpAny_bind (wpAny_seqItems gI rfl ?_)))
 show wpAny _ _ (Builtin.SmallTypes.ownedTupleIsFree (.ref z) >>= _) _ _ _;refine wpAny_bind ?_;unfold Builtin.SmallTypes.ownedTupleIsFree
 refine wpAny_bind (wpAny_field gz rfl (x:=.none) rfl (wpAny_pure ?_));simp only[if_true]
 refine wpAny_bind (wpAny_rule (wpAny_bind (wpAny_field gz rfl (x:=.ref TO) rfl (wpAny_bind (wpAny_setField_rec gz (by simp) fun h₁ z1 q1=>?_)))))
 replace z1:IsZip h₁ z TI TO .ellipsis:=z1
 refine wpAny_bind ?_;simp only[List.zipIdx_cons,List.zipIdx_nil,List.forIn_cons,List.forIn_nil]
 refine wpAny_bind (wpAny_bind (wpAny_onRaise ?_));show wpAny _ _ (Builtin.SmallTypes.nextOf (.ref i1) >>= _) _ _ _
 refine wpAny_bind (nx (g1.extBut q1.extBut D.i1z) (t1.extBut q1.extBut D.l1z) hx fun h₂ n1 q2=>wpAny_pure ?_)
 have o2:IsPair h₂ TO a b:=q2.extBut _ _ D.TOi1 (q1.extBut _ _ D.TOz gO)
 refine wpAny_bind (wpAny_seqItems o2 rfl (wpAny_bind (wpAny_updateSeq_pair o2 fun h₃ o3 q3=>?_)))
 replace o3:IsPair h₃ TO x b:=o3
 refine wpAny_bind (wpAny_letGo (wpAny_pure ?_));refine wpAny_bind (wpAny_bind (wpAny_onRaise ?_));show wpAny _ _ (Builtin.SmallTypes.nextOf (.ref i2) >>= _) _ _ _
 refine wpAny_bind (nx (((g2.extBut q1.extBut D.i2z).extBut q2.extBut D.i12.symm).extBut q3.extBut D.TOi2.symm) (((t2.extBut q1.extBut D.l2z).extBut q2.extBut D.l2i1).extBut q3.extBut D.l2TO) hy fun h₄ n2 q4=>wpAny_pure ?_)
 have o4:IsPair h₄ TO x b:=q4.extBut _ _ D.TOi2 o3
 refine wpAny_bind (wpAny_seqItems o4 rfl (wpAny_bind (wpAny_updateSeq_pair o4 fun h₅ o5 q5=>?_)))
 replace o5:IsPair h₅ TO x y:=o5
 refine wpAny_bind (wpAny_letGo (wpAny_pure (wpAny_pure ?_)));refine wpAny_bind (wpAny_seqItems o5 rfl (wpAny_bind (wpAny_newTuple ?_)))
 have sz:h₅.objs.size=s.heap.objs.size:=by rw[q5.1,q4.1,q3.1,q2.1,q1.1]
 have z5:IsZip h₅ z TI TO .ellipsis:=q5.extBut _ _ D.TOz.symm (q4.extBut _ _ D.i2z.symm (q3.extBut _ _ D.TOz.symm (q2.extBut _ _ D.i1z.symm z1)))
 have kk:∀c o,c≠z→c≠TO→c≠i1→c≠i2→s.heap.get? c=some o→h₅.get? c=some o:=fun c o c1 c2 c3 c4 e=>q5.extBut _ _ c2 (q4.extBut _ _ c4 (q3.extBut _ _ c2 (q2.extBut _ _ c3 (q1.extBut _ _ c1 e))))
 have m1:h₅.IsTupleIter i1 l1 (k1+1):=((n1.extBut q3.extBut D.TOi1.symm).extBut q4.extBut D.i12).extBut q5.extBut D.TOi1.symm
 have m2:h₅.IsTupleIter i2 l2 (k2+1):=n2.extBut q5.extBut D.TOi2.symm
 have zl:z < h₅.objs.size:=Heap.lt_size z5
 show wpAny _ _ (Builtin.SmallTypes.ownedTupleHandOut (.ref z) (.ref h₅.objs.size) >>= _) _ _ _;refine wpAny_bind ?_;unfold Builtin.SmallTypes.ownedTupleHandOut
 have z6:IsZip (h₅.push { cls:=.type "tuple",data:=.seq #[x,y] }) z TI TO .ellipsis:=Heap.get?_push_of_some _ z5
 refine wpAny_bind (wpAny_setField_rec z6 (by simp) fun h₇ z7 q7=>?_)
 replace z7:IsZip h₇ z TI TO (rawInt h₅.objs.size):=z7
 refine wpAny_setField_rec z7 (by simp) fun h₈ z8 q8=>?_
 replace z8:IsZip h₈ z TI TO (rawInt h₅.objs.size):=z8
 have up:∀c o,c≠z→h₅.get? c=some o→h₈.get? c=some o:=fun c o c1 e=>q8.extBut _ _ c1 (q7.extBut _ _ c1 (Heap.get?_push_of_some _ e))
 have T8:IsPair h₈ h₅.objs.size x y:=q8.extBut _ _ (Nat.ne_of_gt zl) (q7.extBut _ _ (Nat.ne_of_gt zl) (Heap.get?_push_size _ rfl))
 rw[sz]at z8 T8
 refine wpAny_pure ⟨_,rfl,?_⟩
 show Q (.ref h₅.objs.size) _
 rw[sz]
 exact k h₈ z8 (up _ _ D.TOz o5) (m1.at fun o e=>up _ o D.i1z e) (m2.at fun o e=>up _ o D.i2z e) T8 fun c o c1 c2 c3 c4 e=>up c o c1 (kk c o c1 c2 c3 c4 e)
theorem qN{Q:Fin→Shared→Prop}(hh:A.handled=none)(D:ZipApart z TI TO i1 i2 l1 l2)(gz:IsZip s.heap z TI TO .none)(gI:IsPair s.heap TI (.ref i1) (.ref i2))(gO:IsPair s.heap TO a b)
  (g1:s.heap.IsTupleIter i1 l1 k1) (g2:s.heap.IsTupleIter i2 l2 k2) (t1:s.heap.IsTuple l1 xs) (t2:s.heap.IsTuple l2 ys) (he:xs[k1]?=none∨ys[k2]?=none)
  (k:∀(g:Heap) (e:Addr),(∀c o,c≠z→c≠TO→c≠i1→c≠i2→s.heap.get? c=some o→g.get? c=some o)→(∃o,g.get? e=some o∧o.cls = .type "StopIteration")→E (.ref e) { s with heap:=g }) :
  wpAny (model prog w) A (Builtin.«zip.__next__» ⟨[.ref z],[]⟩) Q E s:=by
 show wpAny _ _ (field (.ref z) 2 >>= _) _ _ _;refine wpAny_bind (wpAny_field gz rfl (x:=.bool false) rfl ?_)
 show wpAny _ _ (field (.ref z) 3 >>= _) _ _ _;refine wpAny_bind (wpAny_field gz rfl (x:=.ref TI) rfl (wpAny_bind (wpAny_seqItems gI rfl ?_)))
 show wpAny _ _ (Builtin.SmallTypes.ownedTupleIsFree (.ref z) >>= _) _ _ _;refine wpAny_bind ?_;unfold Builtin.SmallTypes.ownedTupleIsFree
 refine wpAny_bind (wpAny_field gz rfl (x:=.none) rfl (wpAny_pure ?_));simp only[if_true]
 refine wpAny_bind (wpAny_rule (wpAny_bind (wpAny_field gz rfl (x:=.ref TO) rfl (wpAny_bind (wpAny_setField_rec gz (by simp) fun h₁ z1 q1=>?_)))))
 replace z1:IsZip h₁ z TI TO .ellipsis:=z1
 refine wpAny_bind ?_;simp only[List.zipIdx_cons,List.zipIdx_nil,List.forIn_cons,List.forIn_nil]
 refine wpAny_bind (wpAny_bind (wpAny_onRaise ?_));show wpAny _ _ (Builtin.SmallTypes.nextOf (.ref i1) >>= _) _ _ _
 cases hx:xs[k1]? with
 |none=>
  refine wpAny_bind (E_ hh (g1.extBut q1.extBut D.i1z) (t1.extBut q1.extBut D.l1z) hx fun h₂ e q2 ⟨oe,ge,ce⟩=>?_)
  have z2:IsZip h₂ z TI TO .ellipsis:=q2 _ _ D.i1z.symm z1
  have ez:e≠z:=fun u=>by subst u;rw[z2]at ge;cases ge;simp at ce
  exact wpAny_setField_rec z2 (by simp) fun h₃ _ q3=>k h₃ e (fun c o c1 _ c3 _ u=>q3.extBut _ _ c1 (q2 _ _ c3 (q1.extBut _ _ c1 u))) ⟨oe,q3.extBut _ _ ez ge,ce⟩
 |some x=>
  have hy:ys[k2]?=none:=he.elim (fun q=>by rw[hx]at q;cases q) id
  refine wpAny_bind (nx (g1.extBut q1.extBut D.i1z) (t1.extBut q1.extBut D.l1z) hx fun h₂ n1 q2=>wpAny_pure ?_)
  have o2:IsPair h₂ TO a b:=q2.extBut _ _ D.TOi1 (q1.extBut _ _ D.TOz gO)
  refine wpAny_bind (wpAny_seqItems o2 rfl (wpAny_bind (wpAny_updateSeq_pair o2 fun h₃ o3 q3=>?_)))
  refine wpAny_bind (wpAny_letGo (wpAny_pure ?_));refine wpAny_bind (wpAny_bind (wpAny_onRaise ?_));show wpAny _ _ (Builtin.SmallTypes.nextOf (.ref i2) >>= _) _ _ _
  refine wpAny_bind (E_ hh (((g2.extBut q1.extBut D.i2z).extBut q2.extBut D.i12.symm).extBut q3.extBut D.TOi2.symm) (((t2.extBut q1.extBut D.l2z).extBut q2.extBut D.l2i1).extBut q3.extBut D.l2TO) hy fun h₄ e q4 ⟨oe,ge,ce⟩=>?_)
  have z4:IsZip h₄ z TI TO .ellipsis:=q4 _ _ D.i2z.symm (q3.extBut _ _ D.TOz.symm (q2.extBut _ _ D.i1z.symm z1))
  have ez:e≠z:=fun u=>by subst u;rw[z4]at ge;cases ge;simp at ce
  exact wpAny_setField_rec z4 (by simp) fun h₅ _ q5=>k h₅ e (fun c o c1 c2 c3 c4 u=>q5.extBut _ _ c1 (q4 _ _ c4 (q3.extBut _ _ c2 (q2.extBut _ _ c3 (q1.extBut _ _ c1 u))))) ⟨oe,q5.extBut _ _ ez ge,ce⟩
theorem jx{Q:Option Value→Shared→Prop}(D:ZipApart z TI TO i1 i2 l1 l2)(gz:IsZip s.heap z TI TO .none)(gI:IsPair s.heap TI (.ref i1) (.ref i2))(gO:IsPair s.heap TO a b)
  (g1:s.heap.IsTupleIter i1 l1 k1) (g2:s.heap.IsTupleIter i2 l2 k2) (t1:s.heap.IsTuple l1 xs) (t2:s.heap.IsTuple l2 ys) (hx:xs[k1]?=some x) (hy:ys[k2]?=some y)
  (k:∀g,IsZip g z TI TO (rawInt s.heap.objs.size)→IsPair g TO x y→g.IsTupleIter i1 l1 (k1+1)→g.IsTupleIter i2 l2 (k2+1)→IsPair g s.heap.objs.size x y→
   (∀c o,c≠z→c≠TO→c≠i1→c≠i2→s.heap.get? c=some o→g.get? c=some o)→Q (some (.ref s.heap.objs.size)) { s with heap:=g }):wpAny (model prog w) A (pyNext (.ref z)) Q E s:=by
 have ty:s.TypeIs (.ref z) "zip":=⟨_,gz,rfl⟩
 unfold pyNext
 exact wpAny_bind (wpAny_attempt (wpAny_callSpecial?_slot (name:=Str.ofString "__next__") ty F.slot_zip_next (wpAny_call_entry F.slot_zip_next ty F.entry_zip_next
  (m_ D gz gI gO g1 g2 t1 t2 hx hy fun g a1 a2 a3 a4 a5 a6=>wpAny_pure (k g a1 a2 a3 a4 a5 a6)) (F.args_zip_next_1 _))))
theorem kP{Q:Option Value→Shared→Prop}(hh:A.handled=none)(D:ZipApart z TI TO i1 i2 l1 l2)(gz:IsZip s.heap z TI TO .none)(gI:IsPair s.heap TI (.ref i1) (.ref i2))(gO:IsPair s.heap TO a b)
  (g1:s.heap.IsTupleIter i1 l1 k1) (g2:s.heap.IsTupleIter i2 l2 k2) (t1:s.heap.IsTuple l1 xs) (t2:s.heap.IsTuple l2 ys) (he:xs[k1]?=none∨ys[k2]?=none)
  (k:∀g:Heap,(∀c o,c≠z→c≠TO→c≠i1→c≠i2→s.heap.get? c=some o→g.get? c=some o)→Q none { s with heap:=g }):wpAny (model prog w) A (pyNext (.ref z)) Q E s:=by
 have ty:s.TypeIs (.ref z) "zip":=⟨_,gz,rfl⟩
 unfold pyNext
 refine wpAny_bind (wpAny_attempt (wpAny_callSpecial?_slot (name:=Str.ofString "__next__") ty F.slot_zip_next (wpAny_call_entry F.slot_zip_next ty F.entry_zip_next (qN hh D gz gI gO g1 g2 t1 t2 he fun g e kk ⟨o,ho,hc⟩=>?_) (F.args_zip_next_1 _))))
 exact wpAny_bind (wpAny_isInstance (T:="StopIteration") (b:=true) ⟨o,ho,hc⟩ isSubtype_stop (wpAny_pure (k _ kk)))
end
noncomputable abbrev H1(h:Heap)(l1:Addr):Heap:=h.push { cls:=.type "tuple_iterator",data:=.fields #[.ref l1,.int 0 0] }
noncomputable abbrev H2(h:Heap)(l1 l2:Addr):Heap:=(H1 h l1).push { cls:=.type "tuple_iterator",data:=.fields #[.ref l2,.int 0 0] }
noncomputable abbrev H3(h:Heap)(l1 l2:Addr):Heap:=(H2 h l1 l2).push { cls:=.type "tuple",data:=.seq #[.ref h.objs.size,.ref (H1 h l1).objs.size] }
noncomputable abbrev H4(h:Heap)(l1 l2:Addr):Heap:=(H3 h l1 l2).push { cls:=.type "tuple",data:=.seq #[.none,.none] }
noncomputable abbrev H5(h:Heap)(l1 l2:Addr):Heap:=(H4 h l1 l2).push { cls:=.type "zip",data:=.fields #[.none,.bool false,.bool false,.ref (H2 h l1 l2).objs.size,.ref (H3 h l1 l2).objs.size] }
theorem jy(l1 l2:Addr)(xs ys:Array Value) :
  Meets (Builtin.«zip.__new__» ⟨[.type "zip",.ref l1,.ref l2],[]⟩) (fun _ R s=>s.heap.IsTuple l1 xs∧s.heap.IsTuple l2 ys∧R (.ok (.ret (.ref (H4 s.heap l1 l2).objs.size))) { s with heap:=H5 s.heap l1 l2 }):=
 .of_wp fun prog w A R s h=>by
  obtain⟨hp,g,d,tk,os⟩:=s;obtain⟨e1,e2,h⟩:=h
  have hsub:=sub_zip
  have L1:Heap.IsTuple (Shared.heap ⟨hp,g,d,tk,os⟩) l1 xs:=e1
  have L2:Heap.IsTuple (Shared.heap ⟨hp.push { cls:=.type "tuple_iterator",data:=.fields #[.ref l1,.int 0 0] },g,d,tk,os⟩) l2 ys:=Heap.IsTuple.push e2 _
  wp_walk using wpAny_pyIter_tuple L1,wpAny_pyIter_tuple L2
  exact⟨_,rfl,h⟩
section
variable {prog:Program} {w:World} {A:Around} {E:Value→Shared→Prop} {s:Shared}
theorem kQ{l1 l2:Addr}{xs ys:Array Value}{Q:Value→Shared→Prop}(e1:s.heap.IsTuple l1 xs)(e2:s.heap.IsTuple l2 ys)
  (k:∀g,IsZip g (s.heap.objs.size+4) (s.heap.objs.size+2) (s.heap.objs.size+3) .none→IsPair g (s.heap.objs.size+2) (.ref s.heap.objs.size) (.ref (s.heap.objs.size+1))→
   IsPair g (s.heap.objs.size+3) .none .none→g.IsTupleIter s.heap.objs.size l1 0→g.IsTupleIter (s.heap.objs.size+1) l2 0→
   (∀c o,s.heap.get? c=some o→g.get? c=some o)→Q (.ref (s.heap.objs.size+4)) { s with heap:=g }) :
  wpAny (model prog w) A (call (.type "zip") [.ref l1,.ref l2]) Q E s:=by
 refine callType_new F.called_zip (by decide) (F.typeCall_zip_2 _ _) (F.newCall_zip_2 _ _) (fun obj=>F.args_object_init_3 obj _ _) F.entry_zip_new (jy l1 l2 xs ys) ⟨e1,e2,?_⟩
 have z1:(H1 s.heap l1).objs.size=s.heap.objs.size+1:=Heap.size_push ..
 have z2:(H2 s.heap l1 l2).objs.size=s.heap.objs.size+2:=by rw[Heap.size_push,z1]
 have z3:(H3 s.heap l1 l2).objs.size=s.heap.objs.size+3:=by rw[Heap.size_push,z2]
 have z4:(H4 s.heap l1 l2).objs.size=s.heap.objs.size+4:=by rw[Heap.size_push,z3]
 have g5:(H5 s.heap l1 l2).get? (H4 s.heap l1 l2).objs.size=some _:=Heap.get?_push_size _ rfl
 have g4:(H5 s.heap l1 l2).get? (H3 s.heap l1 l2).objs.size=some _:=Heap.get?_push_of_some _ (Heap.get?_push_size _ rfl)
 have g3:(H5 s.heap l1 l2).get? (H2 s.heap l1 l2).objs.size=some _:=Heap.get?_push_of_some _ (Heap.get?_push_of_some _ (Heap.get?_push_size _ rfl))
 have g2:(H5 s.heap l1 l2).get? (H1 s.heap l1).objs.size=some _:=Heap.get?_push_of_some _ (Heap.get?_push_of_some _ (Heap.get?_push_of_some _ (Heap.get?_push_size _ rfl)))
 have g1:(H5 s.heap l1 l2).get? s.heap.objs.size=some _:=Heap.get?_push_of_some _ (Heap.get?_push_of_some _ (Heap.get?_push_of_some _ (Heap.get?_push_of_some _ (Heap.get?_push_size _ rfl))))
 show _∧_
 rw[z2,z3,z4]at g5
 rw[z1,z2]at g3
 rw[z3]at g4
 rw[z1]at g2
 rw[z4]
 exact⟨⟨_,g5,rfl⟩,k _ g5 g3 g4 ⟨_,g1,rfl,rfl⟩ ⟨_,g2,rfl,rfl⟩ fun c o e=>Heap.get?_push_of_some _ (Heap.get?_push_of_some _ (Heap.get?_push_of_some _ (Heap.get?_push_of_some _ (Heap.get?_push_of_some _ e))))⟩
end
end Zt
namespace L2
open PySem PySem.Spec PyProof.Rows
section
variable {X:Cx} {pins:List (Addr×Obj)} {σ:St} {H:Hp} {s:Shared} {h':Heap}
theorem Inv.JN{t':Nat}{fp:List Addr}(I:Inv X pins σ H s)(k:∀b o,b ∉ fp→s.heap.get? b=some o→h'.get? b=some o)(hf:∀b∈fp,Hg X pins H b):Inv X pins σ H { s with heap:=h',toks:=t' }:=by
 have Nl:∀b u,H b=some u→b ∉ fp:=fun b u e z=>by rw[(hf b z).1]at e;cases e
 refine I.step (g':=s.gens) (d':=s.drawn) (ch:=fp) (fun b hb=>?_) (fun b o _ _ hc e _=>k b o hc e) (fun b o _ _ hc e _=>⟨o.slots,k b o hc e⟩) (fun _ _ _ _ n=>n)
  (fun b o hc e=>⟨o,k b o hc e⟩) (fun _ _ e=>e) (fun _ _ _ e=>e) (fun b ps e=>⟨#[],by rw[e];simp⟩) (fun m hm=>?_) (fun b u e=>?_) I.bare
 ·obtain⟨f0,f1,f2,f3,f4,f5⟩:=hf b hb
  exact⟨f3,f1,f4,f5⟩
 ·obtain⟨o,es,ep,ho,r⟩:=hm
  exact⟨o,es,ep,k _ o (fun z=>(hf _ z).2.1 rfl) ho,r⟩
 ·refine(I.hok b u e).stay (fun c v hc q=>k c v ?_ q) (fun _ q=>q) fun _ _ q=>q
  rcases hc with z|z
  ·rw[z];exact Nl b u e
  ·exact Nl c _ z
theorem Inv.Lr{D:Addr}{us:List Value}{ys:List V}(I:Inv X pins σ H s)(f:Hg X pins H D)(e:Hr s.heap D us.toArray)(r:Vals ys us)(hz:ys.length≤sizeLine) :
  Inv X pins σ (upd H D (.tup ys)) s:=by
 obtain⟨f0,f1,f2,f3,f4,f5⟩:=f
 have nD:∀b u,H b=some u→b≠D:=fun b u q=>aT q f0
 have hok:Id X.prog X.w (upd H D (.tup ys)) s.heap:=fun b u q=>by
  by_cases hb:b=D
  ·subst hb
   rw[ay]at q
   cases q
   exact⟨hz,us,r,e⟩
  ·rw[aw hb]at q
   exact(I.hok b u q).stay (fun _ _ _ z=>z) (fun c z=>by rw[aw (nD c _ z)];exact z) fun c xs z=>by rw[aw (nD c _ z)];exact z
 exact I.step (H':=upd H D (.tup ys)) (h':=s.heap) (g':=s.gens) (t':=s.toks) (d':=s.drawn) (ch:=[D])
  (fun b hb=>by
   have z:b=D:=by simpa using hb
   subst z
   exact⟨f3,f1,f4,f5⟩)
  (fun _ _ _ _ _ q _=>q) (fun _ o _ _ _ q _=>⟨o.slots,q⟩)
  (fun b o hb _ n=>by rw[aw (fun z=>hb (by simp[z]))];exact n)
  (fun _ o _ q=>⟨o,q⟩) (fun b xs q=>by rw[aw (nD b _ q)];exact q) (fun b o u q=>by rw[aw (nD b _ q)];exact q)
  (fun b ps q=>⟨#[],by rw[aw (nD b _ q),q];simp⟩) (fun _ q=>q) hok I.bare
end
noncomputable def Fa(K:PySem.W.Frag)(a b:Addr):It:=
  ⟨fun i H=>∃xs ys x y,G3 K H a xs∧G3 K H b ys∧xs[i]?=some x∧ys[i]?=some y,
   fun i H v H'=>∃p x y,v = .ref p∧H p=none∧H'=upd H p (.tup [x,y])∧∀xs ys,G3 K H a xs→G3 K H b ys→xs[i]?=some x∧ys[i]?=some y,
   fun i H=>∃xs ys,G3 K H a xs∧G3 K H b ys∧(xs.length≤i∨ys.length≤i)⟩
theorem vd{P:Program}{w:World}{K:PySem.W.Frag}{elts:List Expr}{k0:Nat}{JO:Pos}{z TI TO i1 i2 a b:Addr}(D:ZipApart z TI TO i1 i2 a b) :
  oN P w K (.Tuple elts k0 JO) (Fa K a b) [z,TI,TO,i1,i2] z (fun i h=>IsZip h z TI TO .none∧IsPair h TI (.ref i1) (.ref i2)∧(∃x y,IsPair h TO x y)∧h.IsTupleIter i1 a i∧h.IsTupleIter i2 b i) where
 mem:=by simp
 obj:=fun i h st c hc=>by
  obtain⟨gz,gI,⟨x,y,gO⟩,⟨o1,e1,_,d1⟩,⟨o2,e2,_,d2⟩⟩:=st
  simp only[List.mem_cons,List.not_mem_nil,or_false]at hc
  rcases hc with rfl|rfl|rfl|rfl|rfl
  ·exact⟨_,gz,fun v q=>by cases q⟩
  ·exact⟨_,gI,fun v q=>by cases q⟩
  ·exact⟨_,gO,fun v q=>by cases q⟩
  ·exact⟨_,e1,fun v q=>by rw[d1]at q;cases q⟩
  ·exact⟨_,e2,fun v q=>by rw[d2]at q;cases q⟩
 keep:=fun i h h' st k=>by
  obtain⟨gz,gI,⟨x,y,gO⟩,g1,g2⟩:=st
  exact⟨k z (by simp) _ gz,k TI (by simp) _ gI,⟨x,y,k TO (by simp) _ gO⟩,g1.at fun o e=>k i1 (by simp) o e,g2.at fun o e=>k i2 (by simp) o e⟩
 item:=by
  intro X hP hw hK hc i pins s σ H E I hf st hg
  subst hP hw hK
  obtain⟨gz,gI,⟨ta,tb,gO⟩,g1,g2⟩:=st
  obtain⟨xs,ys,x,y,Mc,MO,hx,hy⟩:=hg
  obtain⟨ia,ra,pa,za⟩:=I.tuple Mc
  obtain⟨ib,rb,pb,zb⟩:=I.tuple MO
  obtain⟨u,hu,ru⟩:=ra.get hx
  obtain⟨v,hv,rv⟩:=rb.get hy
  refine Zt.jx D gz gI gO g1 g2 (show s.heap.IsTuple a ia.toArray from pa) (show s.heap.IsTuple b ib.toArray from pb) (x:=u) (y:=v) (by simpa using hu) (by simpa using hv) fun g a1 a2 a3 a4 a5 a6=>?_
  refine⟨_,rfl,wpAny_letOwnedTupleGo_zip (s:={ s with heap:=g }) a1 fun g' z' q'=>?_⟩
  have kk:∀c o,c ∉ [z,TI,TO,i1,i2]→s.heap.get? c=some o→g'.get? c=some o:=fun c o hc e=>by
   simp only[List.mem_cons,List.not_mem_nil,or_false,not_or]at hc
   exact q'.extBut _ _ hc.1 (a6 c o hc.1 hc.2.2.1 hc.2.2.2.1 hc.2.2.2.2 e)
  have I1:Inv X pins σ H { s with heap:=g' }:=I.JN (t':=s.toks) kk hf
  have f0:Hg X pins H s.heap.objs.size:=I.IS (Nat.le_refl _) (I.hok.fresh (Nat.le_refl _))
  have eT:Hr g' s.heap.objs.size [u,v].toArray:=⟨_,q'.extBut _ _ (Nat.ne_of_gt (Heap.lt_size gz)) a5,rfl,rfl,_,rfl⟩
  have I2:=I1.Lr f0 eT (.cons ru (.cons rv .nil)) (by show 2≤sizeLine;decide)
  refine⟨.ref s.heap.objs.size,_,I2,rfl,⟨s.heap.objs.size,x,y,rfl,f0.1,rfl,fun xs' ys' h1 h2=>by rw[I.Hx h1 Mc,I.Hx h2 MO];exact⟨hx,hy⟩⟩,
   ⟨z',q'.extBut _ _ D.TIz (a6 TI _ D.TIz D.TITO D.TIi1 D.TIi2 gI),⟨_,_,q'.extBut _ _ D.TOz a2⟩,a3.extBut q'.extBut D.i1z,a4.extBut q'.extBut D.i2z⟩,fun c hc=>?_⟩
  have hlt:c < s.heap.objs.size:=by
   obtain⟨o1,e1,_⟩:=g1
   obtain⟨o2,e2,_⟩:=g2
   simp only[List.mem_cons,List.not_mem_nil,or_false]at hc
   rcases hc with rfl|rfl|rfl|rfl|rfl
   ·exact Heap.lt_size gz
   ·exact Heap.lt_size gI
   ·exact Heap.lt_size gO
   ·exact Heap.lt_size e1
   ·exact Heap.lt_size e2
  rw[aw (Nat.ne_of_lt hlt)]
  exact(hf c hc).1
 done:=by
  intro X hP hw hK hc i pins s σ H E I hf st hg
  subst hP hw hK
  obtain⟨gz,gI,⟨ta,tb,gO⟩,g1,g2⟩:=st
  obtain⟨xs,ys,Mc,MO,hl⟩:=hg
  obtain⟨ia,ra,pa,za⟩:=I.tuple Mc
  obtain⟨ib,rb,pb,zb⟩:=I.tuple MO
  have la:=ra.length
  have lb:=rb.length
  refine Zt.kP (I.ok.hd hc) D gz gI gO g1 g2 (show s.heap.IsTuple a ia.toArray from pa) (show s.heap.IsTuple b ib.toArray from pb) ?_ fun g kk=>⟨rfl,I.JN (t':=s.toks) (fun c o hc e=>?_) hf⟩
  ·rcases hl with q|q
   ·exact .inl (by simp;omega)
   ·exact .inr (by simp;omega)
  ·simp only[List.mem_cons,List.not_mem_nil,or_false,not_or]at hc
   exact kk c o hc.1 hc.2.2.1 hc.2.2.2.1 hc.2.2.2.2 e
 self:=fun _ _ _ _ _ st h=>wpAny_pyIter_zip st.1 h
section
variable {X:Cx}
def Fb(K:PySem.W.Frag)(ta:TA):TI:=fun σ H R=>ta σ H fun vs H1=>∃a b,vs=[.ref a,.ref b]∧(∃xs,G3 K H1 a xs)∧(∃ys,G3 K H1 b ys)∧R (Fa K a b) H1
theorem Bg{elts:List Expr}{k0:Nat}{JO:Pos}{a b:Expr}{ta:TA}{p pos:Pos}(hg:Gl X "zip")(hm:X.mg "zip" = none)(hv:bootBuiltins "zip" = some (.type "zip"))(ha:PA X [a,b] ta)
  (hs:starEach [a,b] X.env=[(false,eval a X.env),(false,eval b X.env)]:=by rfl) (hs2:starEach [b] X.env=[(false,eval b X.env)]:=by rfl):PI X (.Tuple elts k0 JO) (.Call (.Name "zip" p) [a,b] [] pos) (Fb X.K ta):=by
 intro pins s σ H R I h
 refine Call_ (fM I hg hm hv (PyProof.Rows.callWith_type1 (GJ (ha pos pins s σ H _ I h) fun us s1 ⟨vs,H1,I1,r1,q1⟩=>?_) (by rw[hs,hs2]) (by rw[hs2];rfl)))
 obtain⟨a,b,e,⟨xs,qa⟩,⟨ys,qb⟩,q⟩:=q1
 subst e
 obtain⟨u,v,rfl,ru,rv⟩:=uH r1
 cases ru
 cases rv
 obtain⟨ia,ra,pa,za⟩:=I1.tuple qa
 obtain⟨ib,rb,pb,zb⟩:=I1.tuple qb
 have la:a < s1.heap.objs.size:=by obtain⟨o,e,_⟩:=pa;exact Heap.lt_size e
 have lb:b < s1.heap.objs.size:=by obtain⟨o,e,_⟩:=pb;exact Heap.lt_size e
 refine Zt.kQ (show s1.heap.IsTuple a ia.toArray from pa) (show s1.heap.IsTuple b ib.toArray from pb) fun g gz gI gO g1 g2 kk=>?_
 refine wpAny_pyIter_zip (s:={ s1 with heap:=g }) gz ?_
 refine⟨_,[s1.heap.objs.size+4,s1.heap.objs.size+2,s1.heap.objs.size+3,s1.heap.objs.size,s1.heap.objs.size+1],_,_,H1,rfl,I1.kept (t':=s1.toks) kk,vd (zipApart_new la lb),⟨gz,gI,⟨_,_,gO⟩,g1,g2⟩,fun c hc=>?_,q⟩
 have hle:s1.heap.objs.size≤c:=by
  simp only[List.mem_cons,List.not_mem_nil,or_false]at hc
  rcases hc with rfl|rfl|rfl|rfl|rfl
  ·exact Nat.le_add_right _ _
  ·exact Nat.le_add_right _ _
  ·exact Nat.le_add_right _ _
  ·exact Nat.le_refl _
  ·exact Nat.le_add_right _ _
 exact I1.IS hle (I1.hok.fresh hle)
end
section
variable {env:Env} {rest:List Expr} {pos:Pos}
theorem tD{a:Expr}{gs:List Comprehension}{sc:Scope}:starEach (.ListComp a gs sc pos::rest) env=(false,eval (.ListComp a gs sc pos) env)::starEach rest env:=rfl
end
section
variable {X:Cx} {pos:Pos} {es:List Expr} {te:TE} {t:TA}
end
structure QE (X:Cx) (e:Expr) (t:TE):Prop where
 ok:PE X e t
structure QA (X:Cx) (es:List Expr) (t:TA):Prop where
 ok:PA X es t
section
variable {X:Cx} {pos:Pos} {e:Expr} {es:List Expr} {te:TE} {t:TA}
end
structure QS (X:Cx) (st:Stmt) (t:TS):Prop where
 ok:PS X st t
structure Gw (X:Cx) (st:List Stmt) (t:TS):Prop where
 ok:J4 X st t
section
variable {X:Cx} {pos:Pos} {a b e tg iter:Expr} {es:List Expr} {ta tb' te:TE} {t:TA} {st:Stmt} {sts:List Stmt} {u v tb:TS}
end
section
variable {X:Cx}
end
end L2
namespace Et
open PySem
open Sem (wp)
open AutoSeq1 (wpAny_loadPart')
end Et
namespace L2
open PySem PySem.Spec PyProof.Rows
section
variable {X:Cx}
end
end L2
namespace Wd
open PySem L2 PyProof.Rows
noncomputable def abc:Str:="abcdefghijklmnopqrstuvwxyz"
noncomputable def Hz:List Str:=["jars","deed","rest","pay","put","then","either","take","often","use"]
theorem Bh:∀i,i < 26→abc.cps.toList[i]?=some (97+i):=by decide +kernel
theorem ky:abc.length≤sizeLine∧abc.cps.toList.length=26:=by decide +kernel
theorem vf:∀i,i < 26→Builtin.Str.occurrences abc (ju (97+i)) 0 abc.length 1=[i]:=by decide +kernel
theorem rY{α:Type} [BEq α] [LawfulBEq α]:∀{xs ys:List α},xs.Nodup→(∀x∈xs,x∈ys)→xs.length≤ys.length
 |[],ys,_,_=>Nat.zero_le _
 |x::xs,ys,nd,h=>by
  have hx:=h x (List.mem_cons_self ..)
  have q:=rY (xs:=xs) (ys:=ys.erase x) (List.nodup_cons.mp nd).2 fun y hy=>by
   have ne:y≠x:=fun e=>(List.nodup_cons.mp nd).1 (e▸hy)
   exact(List.mem_erase_of_ne ne).mpr (h y (List.mem_cons_of_mem _ hy))
  rw[List.length_erase_of_mem hx]at q
  have:=List.length_pos_of_mem hx
  rw[List.length_cons]
  omega
noncomputable def cand(r:List Nat)(i:Nat):Str:=⟨((97+i % 26)::r).toArray⟩
theorem vg{r:List Nat}{i j:Nat}(h:cand r i=cand r j):i % 26=j % 26:=by
 have e:(((97+i % 26)::r).toArray).toList=(((97+j % 26)::r).toArray).toList:=congrArg (fun z:Str=>z.cps.toList) h
 simp only[List.cons.injEq]at e
 omega
theorem qO(r:List Nat)(c:Nat):((List.range 26).map fun i=>cand r (c+i)).Nodup:=by
 refine List.pairwise_map.mpr (List.Pairwise.imp_of_mem (R:=(·≠·)) ?_ List.nodup_range)
 intro a b ha hb ne e
 have h1:=List.mem_range.mp ha
 have h2:=List.mem_range.mp hb
 have h3:=vg e
 omega
theorem tE(r:List Nat)(c:Nat)(bad:List Str)(h:bad.length < 26):∃j,j < 26∧cand r (c+j) ∉ bad:=by
 refine Classical.byContradiction fun no=>?_
 have q:=rY (qO r c) (ys:=bad) fun x hx=>by
  obtain⟨j,hj,rfl⟩:=List.mem_map.mp hx
  exact Classical.byContradiction fun z=>no ⟨j,List.mem_range.mp hj,z⟩
 rw[List.length_map,List.length_range]at q
 omega
structure IsW (z:Str):Prop where
 ne:z.cps.toList≠[]
 le:z.cps.toList.length≤6
 sm:∀c∈z.cps.toList,97≤c∧c≤122
theorem IsW.cand{z:Str}(h:IsW z):∃i r,z=Wd.cand r i∧i < 26∧r.length≤5∧∀c∈r,97≤c∧c≤122:=by
 obtain⟨⟨⟨l⟩⟩,ne,le,sm⟩:∃z',_∧_∧_:=⟨z,h.ne,h.le,h.sm⟩
 obtain⟨⟨l⟩⟩:=z
 cases l with
 |nil=>exact absurd rfl h.ne
 |cons c r=>
  have q:=h.sm c (List.mem_cons_self ..)
  refine⟨c - 97,r,?_,by omega,by have:=h.le;simp at this;omega,fun d hd=>h.sm d (List.mem_cons_of_mem _ hd)⟩
  unfold Wd.cand
  rw[show 97+(c - 97) % 26=c by omega]
theorem vh{r:List Nat}(h:r.length≤5)(hs:∀c∈r,97≤c∧c≤122)(i:Nat):IsW (cand r i):=by
 refine⟨by simp[cand],by simp[cand];omega,fun c hc=>?_⟩
 have hc':c∈(97+i % 26)::r:=hc
 rcases List.mem_cons.mp hc' with e|e
 ·omega
 ·exact hs c e
theorem IsW.len{z:Str}(h:IsW z):z.length≤6:=by have q:=h.le;rw[Array.length_toList]at q;exact q
theorem IsW.line{z:Str}(h:IsW z):z.length≤sizeLine:=Nat.le_trans h.len (by decide)
theorem mn(r:List Nat)(i:Nat):Hv (cand r i).cps.toList 0=some (97+i % 26):=ci (j:=0) rfl
theorem gM(r:List Nat)(i:Nat):Txt.slice (cand r i) (some 1) none=⟨r.toArray⟩:=by
 have e:Txt.slice (cand r i) (some 1) none=StrLaws.sliceText (cand r i) (some 1) none:=rfl
 rw[e,StrLaws.sliceText_from ⟨by decide,by simp[cand];omega⟩]
 simp[cand]
theorem mo(r:List Nat)(i:Nat):(ju (97+(i+1) % 26):Str)++(⟨r.toArray⟩:Str)=cand r (i+1):=by
 refine Str.ext' ?_
 show #[97+(i+1) % 26]++r.toArray=_
 simp[cand]
theorem nb(i:Nat):Hv abc.cps.toList ((i % 26:Nat):Int)=some (97+i % 26):=ci (Bh _ (Nat.mod_lt _ (by decide)))
theorem kR(cs:List Nat):Txt.join "" (cs.map ju)=⟨cs.toArray⟩:=by
 have q:=join_nil_signs ⟨cs.toArray⟩
 have e:Txt.join "" (cs.map ju)=Str.join ⟨#[]⟩ (cs.map ju):=StrLaws.glued_eq_join _ _
 rw[e]
 exact q
theorem yA(cs:List Nat):((cs.map ju).map (·.length)).sum=cs.length:=by
 induction cs with
 |nil=>rfl
 |cons c r ih=>rw[List.map_cons,List.map_cons,List.sum_cons,ih,List.length_cons];show 1+r.length=_;omega
theorem yB{cs:List Nat}{a i:Nat}(h:cs.length≤5)(hs:∀c∈cs,97≤c∧c≤122)(ha:a≤cs.length)(hi:i < 26) :
  IsW (Txt.slice ⟨cs.toArray⟩ none (some (a:Int))++(ju (97+i):Str)++Txt.slice ⟨cs.toArray⟩ (some (a:Int)) none)∧(Txt.slice ⟨cs.toArray⟩ none (some (a:Int))).length≤5∧(Txt.slice ⟨cs.toArray⟩ (some (a:Int)) none).length≤5:=by
 have e1:Txt.slice ⟨cs.toArray⟩ none (some (a:Int))=⟨(cs.take a).toArray⟩:=by
  have e:Txt.slice ⟨cs.toArray⟩ none (some (a:Int))=StrLaws.sliceText ⟨cs.toArray⟩ none (some (a:Int)):=rfl
  rw[e,StrLaws.sliceText_to ⟨by omega,by simp;omega⟩]
  simp
 have e2:Txt.slice ⟨cs.toArray⟩ (some (a:Int)) none=⟨(cs.drop a).toArray⟩:=by
  have e:Txt.slice ⟨cs.toArray⟩ (some (a:Int)) none=StrLaws.sliceText ⟨cs.toArray⟩ (some (a:Int)) none:=rfl
  rw[e,StrLaws.sliceText_from ⟨by omega,by simp;omega⟩]
  refine Str.ext' ?_
  show((cs.drop (a:Int).toNat).take ((cs.length:Int) - a).toNat).toArray=(cs.drop a).toArray
  rw[Int.toNat_natCast,List.take_of_length_le (by rw[List.length_drop];omega)]
 rw[e1,e2]
 have e3:((⟨(cs.take a).toArray⟩:Str)++(ju (97+i):Str)++(⟨(cs.drop a).toArray⟩:Str)).cps.toList=cs.take a++[97+i]++cs.drop a:=by
  show((cs.take a).toArray++#[97+i]++(cs.drop a).toArray).toList=_
  simp
 refine⟨⟨by rw[e3];simp,by rw[e3];simp;omega,fun c hc=>?_⟩,?_,?_⟩
 ·rw[e3]at hc
  rcases List.mem_append.mp hc with hc|hc
  ·rcases List.mem_append.mp hc with hc|hc
   ·exact hs c (List.mem_of_mem_take hc)
   ·rw[List.mem_singleton.mp hc];omega
  ·exact hs c (List.mem_of_mem_drop hc)
 ·show(cs.take a).toArray.size≤5
  rw[List.size_toArray,List.length_take];omega
 ·show(cs.drop a).toArray.size≤5
  rw[List.size_toArray,List.length_drop];omega
end Wd
namespace M3
noncomputable def bC(t b:Int):Int:=(if b < 0 then -t else t) / (Int.gcd t b:Int)
noncomputable def a_(t b:Int):Int:=(if b < 0 then -b else b) / (Int.gcd t b:Int)
theorem gN{t b:Int}(h:b≠0):0 < Int.gcd t b:=Nat.gcd_pos_of_pos_right _ (by omega)
theorem vi{t b:Int}(h:b≠0):(Int.gcd t b:Int)≤b.natAbs:=by
 have q:Nat.gcd t.natAbs b.natAbs≤b.natAbs:=Nat.gcd_le_right _ (by omega)
 have e:Int.gcd t b=Nat.gcd t.natAbs b.natAbs:=rfl
 omega
theorem vj(t b:Int):Int.gcd (-t) (-b)=Int.gcd t b:=by rw[Int.gcd_neg,Int.neg_gcd]
theorem zT(t b:Int):∃x y:Int,t=(Int.gcd t b:Int) * x∧b=(Int.gcd t b:Int) * y:=by
 obtain⟨x,hx⟩:=Int.gcd_dvd_left t b
 obtain⟨y,hy⟩:=Int.gcd_dvd_right t b
 exact⟨x,y,hx,hy⟩
theorem qP{t b x y g:Int}(hg:g=(Int.gcd t b:Int))(h:b≠0)(ht:t=g * x)(hb:b=g * y):bC t b=(if y < 0 then -x else x)∧a_ t b=(if y < 0 then -y else y):=by
 have gp:0 < g:=by rw[hg];exact Int.natCast_pos.mpr (gN h)
 have hy:b < 0↔y < 0:=by
  rw[hb]
  constructor
  ·intro q
   by_cases z:y < 0
   ·exact z
   ·have:=Int.mul_nonneg (Int.le_of_lt gp) (Int.not_lt.mp z)
    omega
  ·intro q
   exact Int.mul_neg_of_pos_of_neg gp q
 unfold bC a_
 rw[←hg]
 by_cases z:y < 0
 ·rw[if_pos (hy.mpr z),if_pos (hy.mpr z),if_pos z,if_pos z]
  constructor
  ·rw[ht,←Int.mul_neg,Int.mul_ediv_cancel_left _ (by omega)]
  ·rw[hb,←Int.mul_neg,Int.mul_ediv_cancel_left _ (by omega)]
 ·rw[if_neg (fun q=>z (hy.mp q)),if_neg (fun q=>z (hy.mp q)),if_neg z,if_neg z]
  constructor
  ·rw[ht,Int.mul_ediv_cancel_left _ (by omega)]
  ·rw[hb,Int.mul_ediv_cancel_left _ (by omega)]
theorem yC{t b x y:Int}(h:b≠0)(ht:t=(Int.gcd t b:Int) * x)(hb:b=(Int.gcd t b:Int) * y):Int.gcd x y=1:=by
 have gp:=gN (t:=t) h
 have q:Int.gcd ((Int.gcd t b:Int) * x) ((Int.gcd t b:Int) * y)=(Int.gcd t b:Int).natAbs * Int.gcd x y:=Int.gcd_mul_left _ _ _
 rw[←ht,←hb,Int.natAbs_natCast]at q
 have q2:Int.gcd t b * 1=Int.gcd t b * Int.gcd x y:=by omega
 exact(Nat.eq_of_mul_eq_mul_left gp q2).symm
structure Ep (a b:Int):Prop where
 pos:0 < b
 one:Int.gcd a b=1
theorem ng{t b:Int}(h:b≠0):Ep (bC t b) (a_ t b):=by
 obtain⟨x,y,ht,hb⟩:=zT t b
 have c:=yC h ht hb
 obtain⟨e1,e2⟩:=qP rfl h ht hb
 have y0:y≠0:=fun z=>h (by rw[hb,z,Int.mul_zero])
 rw[e1,e2]
 by_cases z:y < 0
 ·rw[if_pos z,if_pos z]
  exact⟨by omega,by rw[vj];exact c⟩
 ·rw[if_neg z,if_neg z]
  exact⟨by omega,c⟩
theorem ig{a b x y:Int}(L:Ep a b)(hy:0 < y)(e:x * b=a * y):bC x y=a∧a_ x y=b:=by
 have b0:=L.pos
 have d1:b.natAbs ∣ a.natAbs * y.natAbs:=by
  rw[←Int.natAbs_mul,←e,Int.natAbs_mul]
  exact Nat.dvd_mul_left _ _
 have c:Nat.Coprime b.natAbs a.natAbs:=by
  show Nat.gcd b.natAbs a.natAbs=1
  rw[Nat.gcd_comm]
  exact L.one
 obtain⟨k,hk⟩:=Int.natAbs_dvd_natAbs.mp (c.dvd_of_dvd_mul_left d1)
 have k0:0 < k:=by
  by_cases z:0 < k
  ·exact z
  ·have:=Int.mul_nonneg (Int.le_of_lt b0) (show 0 ≤ -k by omega)
   rw[Int.mul_neg]at this
   omega
 have hx:x=a * k:=by
  have q:x * b=a * k * b:=by rw[e,hk,Int.mul_assoc,Int.mul_comm k b]
  exact Int.eq_of_mul_eq_mul_right (by omega) q
 have g:(Int.gcd x y:Int)=k:=by
  rw[hx,hk,Int.gcd_mul_right,L.one,Nat.one_mul]
  omega
 have q:=qP (g:=k) (x:=a) (y:=b) (t:=x) (b:=y) g.symm (by omega) (by rw[hx,Int.mul_comm]) (by rw[hk,Int.mul_comm])
 rw[if_neg (by omega),if_neg (by omega)]at q
 exact q
theorem tG{t b:Int}(h:b≠0):bC t b * b=t * a_ t b:=by
 obtain⟨x,y,ht,hb⟩:=zT t b
 obtain⟨e1,e2⟩:=qP rfl h ht hb
 rw[e1,e2]
 have q:x * b=t * y:=by
  have e3:x * ((Int.gcd t b:Int) * y)=(Int.gcd t b:Int) * x * y:=by rw[←Int.mul_assoc,Int.mul_comm x]
  rw[←ht,←hb]at e3
  exact e3
 by_cases z:y < 0
 ·rw[if_pos z,if_pos z,Int.neg_mul,Int.mul_neg,q]
 ·rw[if_neg z,if_neg z]
  exact q
theorem oV{t b:Int}(h:b≠0):t.fdiv (if b < 0 then -(Int.gcd t b:Int) else (Int.gcd t b:Int))=bC t b∧b.fdiv (if b < 0 then -(Int.gcd t b:Int) else (Int.gcd t b:Int))=a_ t b:=by
 have gp:(0:Int) < (Int.gcd t b:Int):=Int.natCast_pos.mpr (gN h)
 have d1:=Int.gcd_dvd_left t b
 have d2:=Int.gcd_dvd_right t b
 unfold bC a_
 by_cases z:b < 0
 ·rw[if_pos z,if_pos z,if_pos z,Int.fdiv_neg (by omega),if_pos d1,Int.fdiv_neg (by omega),if_pos d2,Int.fdiv_eq_ediv_of_dvd d1,Int.fdiv_eq_ediv_of_dvd d2,Int.neg_ediv_of_dvd d1,Int.neg_ediv_of_dvd d2]
  exact⟨rfl,rfl⟩
 ·rw[if_neg z,if_neg z,if_neg z,Int.fdiv_eq_ediv_of_dvd d1,Int.fdiv_eq_ediv_of_dvd d2]
  exact⟨rfl,rfl⟩
theorem oW(x y:Int):Int.gcd y (x.fmod y)=Int.gcd x y:=by
 have q:=Int.mul_fdiv_add_fmod x y
 have e:Int.gcd y (x.fmod y+x.fdiv y * y)=Int.gcd y (x.fmod y):=Int.gcd_add_mul_right_right _ _ _
 rw[←e,Int.mul_comm (x.fdiv y) y,Int.add_comm,q,Int.gcd_comm]
theorem vk{t b T B:Int}(h:b≠0)(h1:-T≤t)(h2:t≤T)(h3:-B≤b)(h4:b≤B)(hT:0≤T)(hB:0≤B):-T≤bC t b∧bC t b≤T∧0 < a_ t b∧a_ t b≤B:=by
 have gp:(0:Int) < (Int.gcd t b:Int):=Int.natCast_pos.mpr (gN h)
 have L:=(ng (t:=t) h).pos
 have key:∀z M:Int,0≤M→-M≤z→z≤M→-M≤z / (Int.gcd t b:Int)∧z / (Int.gcd t b:Int)≤M:=fun z M hM z1 z2=>by
  generalize (Int.gcd t b:Int)=g at gp
  have m2:M * 1≤M * g:=Int.mul_le_mul_of_nonneg_left (by omega) hM
  have m3:-M * g = -(M * g):=Int.neg_mul M g
  exact⟨Int.le_ediv_of_mul_le gp (by omega),Int.ediv_le_of_le_mul gp (by omega)⟩
 have k1:=key (if b < 0 then -t else t) T hT (by split<;>omega) (by split<;>omega)
 have k2:=key (if b < 0 then -b else b) B hB (by split<;>omega) (by split<;>omega)
 exact⟨k1.1,k1.2,L,k2.2⟩
end M3
namespace Xc
open PySem PySem.W PySem.Calls PyProof.Rows Builtin Builtin.ObjectAttr
noncomputable abbrev Bi:List Value:=[.type "ValueError",.type "Exception",.type "BaseException",.type "object"]
noncomputable def j5(K:Frag)(C:Addr):Bool:=match K.lookup C with
 |some ⟨.type "type",_,.cls cd,sl⟩=>(match cd.mro,sl.toList with
  | .ref C'::bm,[_,_,_,_,some (.builtin n),_]=>C' == C&&n == "ValueError.__new__" && !cd.hasDel&&cd.hasDict&&tailIn K Bi bm
  |_,_=>false)
 |_=>false
theorem qQ{K:Frag}{h:Heap}{C:Addr}(X:K.In h)(q:j5 K C=true):∃nm qn N bs bm sn sub ab col dd k0 k1 k2 k3 k5,
  K.lookup C=some (excClassObj nm qn C N bs bm true sn sub ab col dd k0 k1 k2 k3 k5 "ValueError.__new__")∧OwnTail h Bi bm:=by
 unfold j5 at q
 split at q
 ·rename_i dd cd sl ho
  split at q
  ·rename_i C' bm k0 k1 k2 k3 n k5 hm hs
   simp only[Bool.and_eq_true,beq_iff_eq,Bool.not_eq_true']at q
   obtain⟨⟨⟨⟨rfl,rfl⟩,Nt⟩,hdct⟩,ht⟩:=q
   obtain⟨nm,bs,mro,ns,qn,hd,sn,sub,ab,col,del⟩:=cd
   dsimp only at hm Nt hdct
   subst hm Nt hdct
   have hsl:sl=#[k0,k1,k2,k3,some (.builtin "ValueError.__new__"),k5]:=by
    obtain⟨l⟩:=sl
    simp only at hs
    rw[hs]
   subst hsl
   exact⟨nm,qn,ns,bs,bm,sn,sub,ab,col,dd,k0,k1,k2,k3,k5,ho,tail_of_in X ht⟩
  ·cases q
 ·cases q
noncomputable abbrev eQ(rest:List Value):Obj:={ cls:=.type "tuple",data:=.seq rest.toArray }
noncomputable abbrev eR(C:Addr)(t:Addr):Obj:={ cls:=.ref C,data:=.fields #[.ref t,.none,.none,.none,.bool false,.none] }
section
variable {prog:Program} {w:World} {A:Around} {K:Frag} {C f:Addr} {R:Result→Shared→Prop} {h:Heap} {g:Array GenState} {d:Drawn} {t:Nat} {os:OsState}
theorem vm{rest:List Value}(X:K.In h)(q:j5 K C=true)(hi:findIn K (.ref C) "__init__" = some (some (.ref f)))(hf:typeIn K (.ref f)=some (.type "function"))(hrest:rest.length≤sizeLine)
  (hq:codeAny (model prog w) (A.under (.builtin "type.__call__" ⟨.ref C::rest,[]⟩)) (.call (.ref f) ⟨.ref (h.objs.size+1)::rest,[]⟩) (InitBack (h.objs.size+1) R) ⟨(h.push (eQ rest)).push (eR C h.objs.size),g,d,t,os⟩) :
  codeAny (model prog w) A (.call (.ref C) ⟨rest,[]⟩) R ⟨h,g,d,t,os⟩:=by
 obtain⟨nm,qn,N,bs,bm,sn,sub,ab,col,dd,k0,k1,k2,k3,k5,hK,T⟩:=qQ X q
 have hC:=X _ _ hK
 have F0:=PySem.F.excBase_ValueError
 have f1:=tc_lookup
 have f2:=tc_bind (.ref C)
 have hT:(⟨h,g,d,t,os⟩:Shared).TypeIs (.ref C) "type":=⟨_,hC,rfl⟩
 refine codeAny_of_tree ?_
 show wpAny _ _ (callAny (.ref C) _) _ _ _
 repeat (any_goals (first|assumption|with_reducible refine wpAny_loadPart_at hC ?_|wp_step))
 refine⟨rfl,?_⟩
 refine codeAny_call_builtin_at (Code.quiet_builtin _ (by decide +kernel)) entry_typeCall (wpAny_check_type_call_sub hC ?_)
 repeat (first|with_reducible refine wpAny_loadPart_at hC ?_|with_reducible refine wpAny_madeBy_exc hC ?_|wp_step)
 refine codeAny_call_builtin_code (Code.quiet_builtin _ F0.quiet) (wpAny_check_new_subU F0 F0.hasB T hC ?_)
 refine codeAny_exc_new_subU F0 F0.hasB F0 T hC ?_ hrest
 show wpAny _ _ _ _ _ _
 have k:∀b o,h.get? b=some o→((h.push (eQ rest)).push (eR C h.objs.size)).get? b=some o:=fun b o e=>Heap.get?_push_of_some _ (Heap.get?_push_of_some _ e)
 have hx:((h.push (eQ rest)).push (eR C h.objs.size)).get? (h.objs.size+1)=some (eR C h.objs.size):=by heap_get
 have t1:Looks (model prog w) ((h.push (eQ rest)).push (eR C h.objs.size)) (typeOf (.ref (h.objs.size+1))) (.ref C):=(Looks.ld hx).andThen .now
 have hC₁:=k _ _ hC
 have hcC:(Value.ref C::bm).contains (.ref C)=true:=by simp
 have i1:=(looks_findIn (M:=model prog w) X hi).keeps k
 have b1:=(bind_fn (M:=model prog w) X (.ref (h.objs.size+1)) hf).keeps k
 show wpAny (model prog w) (A.under (.builtin "type.__call__" ⟨.ref C::rest,[]⟩)) _ _ _ ⟨(h.push (eQ rest)).push (eR C h.objs.size),g,d,t,os⟩
 unfold isInstance callSpecial? specialOf
 repeat (first|with_reducible refine wpAny_call ?_|simp only[hcC,Bool.not_true,Bool.false_eq_true,if_false]|lk)
 refine codeAny_mono hq fun r s' z=>?_
 rcases r with e|(v|_|_|_)<;>first|exact z|exact z.elim|skip
 obtain⟨rfl,z⟩:=z
 exact wpAny_pure (wpAny_pure z)
end
structure vn (h:Heap) (e:Addr) (oe:Obj) (vs:Array Value):Prop where
 at_:h.get? e=some oe
 dat:oe.data = .fields vs
 tb:vs[1]?=some .none∨∃T oT ts,vs[1]?=some (.ref T)∧T≠e∧h.get? T=some oT∧oT.data = .fields ts∧ts[3]?=some .none
section
variable {M:Model} {A:Around} {E:Value→Shared→Prop} {s:Shared}
noncomputable abbrev Er(l:List Env):List Addr:=l.filterMap (·.frame)
structure rZ (l:List Env) (e:Addr) (oe:Obj) (old:Addr→Prop) (h h':Heap):Prop where
 lies:∃Mv vs' T oT ts,h'.get? e=some Mv∧Mv.cls=oe.cls∧Mv.dict=oe.dict∧Mv.data = .fields vs'∧vs'[1]?=some (.ref T)∧h.objs.size≤T∧T≠e∧h'.get? T=some oT∧oT.data = .fields ts∧ts[3]?=some .none
 keep:∀b o,b≠e→¬old b→b ∉ Er l→h.get? b=some o→h'.get? b=some o
 slot:∀b o,b∈Er l→h.get? b=some o→∃sl,h'.get? b=some { o with slots:=sl }
theorem mq{base:Heap}{env:Env}{outer:List Env}{L e:Addr}{oe:Obj}{vs:Array Value}{head:Value}{hadNext:Bool}{Q:Unit→Shared→Prop}
  (hfr:A.frames=some (env::outer)) (hl:s.heap.FunFrames base (env::outer)) (hf:env.frame=some L) (he:s.heap.get? e=some oe) (hd:oe.data = .fields vs) (hsz:1 < vs.size)
  (h:∀h',rZ (env::outer) e oe (fun _=>False) s.heap h'→Q () { s with heap:=h' }) :
  wpAny M A (do let a ←frameOf env;let pl ←entryPlaceOf L hadNext;let b ←EntryCells.newEntry head a .none (rawInt L) .none pl;setField (.ref e) 1 b) (fun _ s'=>wpAny M A (setFlight (.ref e) none) Q E s') E s:=by
 have Nu:e ∉ (env::outer).filterMap (·.frame):=fun hm=>by
  obtain⟨_,o,ho,hnf⟩:=hl.mem hm
  rw[he]at ho;injection ho with ho;subst ho;exact hnf vs hd
 refine wpAny_bind (wpAny_frameOf_fun hfr hl hf fun h₁ hs₁=>?_)
 refine wpAny_bind (wpAny_entryPlaceOf fun pl hpl=>?_)
 unfold EntryCells.newEntry newFields
 refine wpAny_bind (wpAny_newObj_type ?_ (hpl.sizeOk5 _ _ _ _ _))
 have P7:h₁.get? e=some oe:=(hs₁.2.1 e Nu).trans he
 have P8:=Heap.get?_push_of_some (h:=h₁) { cls:=.type "traceback",dict:=none,data:=.fields ([head,.ref L,.none,rawInt L,.none]++(if pl.isEmpty then List.replicate 6 Value.none else pl)).toArray } P7
 refine wpAny_setField P8 hd hsz ?_
 have Nv:h₁.objs.size≠e:=Nat.ne_of_gt (Heap.lt_size P7)
 have hd₃:=Obj.data_mapFields hd (·.setIfInBounds 1 (Value.ref h₁.objs.size))
 have P9:=Heap.get?_update_self (Obj.mapFields (·.setIfInBounds 1 (Value.ref h₁.objs.size))) P8 (Obj.isFreed_of_fields hd₃)
 have P_:=(Heap.get?_update_other (h₁.push { cls:=.type "traceback",dict:=none,data:=.fields ([head,.ref L,.none,rawInt L,.none]++(if pl.isEmpty then List.replicate 6 Value.none else pl)).toArray })
  (Obj.mapFields (·.setIfInBounds 1 (Value.ref h₁.objs.size))) (Ne.symm Nv)).trans (Heap.get?_push_size h₁ rfl)
 unfold setFlight
 refine wpAny_bind (wpAny_field P9 hd₃ (x:=.ref h₁.objs.size) (by simp[hsz]) ?_)
 rw[if_pos (show(Value.ref h₁.objs.size != Value.none)=true from by simp)]
 refine wpAny_setField P_ rfl (by simp only[List.size_toArray,List.length_append,List.length_cons,List.length_nil]<;>omega) (h _ ?_)
 have keep:∀b o,b≠e→h₁.get? b=some o→
   (((h₁.push { cls:=.type "traceback",dict:=none,data:=.fields ([head,.ref L,.none,rawInt L,.none]++(if pl.isEmpty then List.replicate 6 Value.none else pl)).toArray }).update e (Obj.mapFields (·.setIfInBounds 1 (Value.ref h₁.objs.size)))).update h₁.objs.size
    (Obj.mapFields (·.setIfInBounds 3 ((none:Option Addr).elim Value.none fun f=>rawInt f)))).get? b=some o:=fun b o Lc hb=>by
  have QY:h₁.objs.size≠b:=Nat.ne_of_gt (Heap.lt_size hb)
  rw[Heap.get?_update_other _ _ QY,Heap.get?_update_other _ _ (Ne.symm Lc)]
  exact Heap.get?_push_of_some _ hb
 refine⟨⟨_,_,h₁.objs.size,_,_,?_,Obj.cls_mapFields _ _,?_,hd₃,by simp[hsz],Nat.le_of_eq hs₁.1.symm,Nv,Heap.get?_update_self _ P_ (Obj.isFreed_of_fields (Obj.data_mapFields rfl _)),Obj.data_mapFields rfl _,by first|(simp;done)|(rcases hpl with rfl|⟨_,_,_,_,_,_,_,rfl⟩<;>simp)⟩,fun b o Lc _ Mw hb=>keep b o Lc ((hs₁.2.1 b Mw).trans hb),fun b o Mw hb=>?_⟩
 ·rw[Heap.get?_update_other _ _ Nv];exact P9
 ·obtain⟨c,dd,da,sl⟩:=oe;cases hd;rfl
 ·obtain⟨sl,hs⟩:=hs₁.2.2 b o hb
  exact⟨sl,keep b _ (fun z=>Nu (z▸Mw)) hs⟩
def iF(vs:Array Value)(b:Addr):Prop:=vs[1]?=some (.ref b)
theorem r_{base:Heap}{env:Env}{outer:List Env}{L e:Addr}{oe:Obj}{vs:Array Value}{Q:Unit→Shared→Prop}
  (hfr:A.frames=some (env::outer)) (hl:s.heap.FunFrames base (env::outer)) (hf:env.frame=some L) (x:vn s.heap e oe vs)
  (h:∀h',rZ (env::outer) e oe (iF vs) s.heap h'→Q () { s with heap:=h' }) :
  wpAny M A (noteFrame (.ref e) env) (fun _ s'=>wpAny M A (setFlight (.ref e) none) Q E s') E s:=by
 obtain⟨he,hd,h1|⟨T,oT,ts,h1,Nv,hT,Og,h3⟩⟩:=x
 ·unfold noteFrame
  simp only[hf]
  refine wpAny_bind (wpAny_field he hd h1 ?_)
  rw[if_neg (by decide)]
  refine mq hfr hl hf he hd (Array.getElem?_eq_some_iff.mp h1).1 fun h' n=>h h' ⟨n.lies,fun b o hb _=>n.keep b o hb id,n.slot⟩
 ·unfold noteFrame
  simp only[hf]
  refine wpAny_bind (wpAny_field he hd h1 ?_)
  rw[if_pos (show(Value.ref T != Value.none)=true from by simp)]
  refine wpAny_bind (wpAny_field hT Og h3 ?_)
  rw[if_neg (show ¬((Value.none == rawInt L)=true)from by simp[rawInt])]
  refine wpAny_bind (wpAny_setField hT Og (Array.getElem?_eq_some_iff.mp h3).1 ?_)
  have other:∀b,b≠T→(s.heap.update T (Obj.mapFields (·.setIfInBounds 3 Value.none))).get? b=s.heap.get? b:=fun b hb=>Heap.get?_update_other _ _ (Ne.symm hb)
  have Ls:∀b o,s.heap.get? b=some o→(∀vs,o.data ≠ .fields vs)→b≠T:=fun b o hb hnf q=>by
   rw[q,hT]at hb;injection hb with hb;subst hb;exact hnf ts Og
  refine mq hfr (hl.of_keeps fun b o hb hnf=>⟨o,(other b (Ls b o hb hnf)).trans hb,rfl⟩) hf ((other e (Ne.symm Nv)).trans he) hd (Array.getElem?_eq_some_iff.mp h1).1 fun h' n=>h h' ⟨?_,fun b o hb ho Mw q=>n.keep b o hb id Mw ((other b fun z=>ho (by rw[z];exact h1)).trans q),fun b o Mw q=>n.slot b o Mw ((other b fun z=>?_).trans q)⟩
  ·obtain⟨Mv,vs',T',QZ,ts',a1,a2,a3,a4,a5,a6,a7⟩:=n.lies
   exact⟨Mv,vs',T',QZ,ts',a1,a2,a3,a4,a5,by simpa [Heap.size_after_update]using a6,a7⟩
  ·obtain⟨_,o',ho',hnf⟩:=hl.mem Mw
   rw[z,hT]at ho';injection ho' with ho';subst ho';exact hnf ts Og
theorem vo{base:Heap}{env:Env}{outer:List Env}{L e:Addr}{oe:Obj}{vs:Array Value}{Q:Unit→Shared→Prop}
  (hfr:A.frames=some (env::outer)) (hl:s.heap.FunFrames base (env::outer)) (hf:env.frame=some L) (x:vn s.heap e oe vs)
  (h:∀h',rZ (env::outer) e oe (iF vs) s.heap h'→Q () { s with heap:=h' }):wpAny M A (leaving env (.ref e)) Q E s:=by
 unfold leaving
 exact wpAny_bind (r_ hfr hl hf x h)
end
section
variable {M:Model} {A:Around} {E:Value→Shared→Prop} {env:Env} {K:Frag} {C:Addr}
theorem tH{s:Shared}{x:Sem Value}{Q:Flow→Shared→Prop}(q:j5 K C=true)(hh:A.handled=none)
  (h:wpAny M A x (fun v s₁=>∃e oe vs,v = .ref e∧K.In s₁.heap∧s₁.heap.get? e=some oe∧oe.cls = .ref C∧oe.data = .fields vs∧vs[1]?=some .none∧E (.ref e) s₁) E s) :
  wpAny M A (raiseStmt env (some x) none) Q E s:=by
 unfold raiseStmt
 refine wpAny_bind (wpAny_mono h (fun v s₁ h₁=>?_) fun _ _ x=>x)
 obtain⟨e,oe,vs,rfl,X,he,hc,hd,h1,hE⟩:=h₁
 obtain⟨nm,qn,N,bs,bm,sn,sub,ab,col,dd,k0,k1,k2,k3,k5,hK,T⟩:=qQ X q
 have hC:=X _ _ hK
 obtain⟨hp,g,d,tk,os⟩:=s₁
 have Q0:(Value.ref C::bm).contains (.type "BaseException")=true:=by rw[List.contains_cons,T.hasType PySem.F.excBase_ValueError.hasBase];rfl
 have Q1:(Value.ref C::bm).contains (.type "type")=false:=by rw[List.contains_cons,T.hasType (b:=false) (by decide +kernel)];rfl
 repeat (first|(with_reducible refine wpAny_loadPart_at he ?_;rw[hc])|with_reducible refine wpAny_loadPart_at hC ?_|(with_reducible refine wpAny_isSubtype_exc hC ?_;first|rw[Q0]|rw[Q1])|with_reducible refine wpAny_field he hd h1 ?_|wp_step)
 exact wpAny_raiseNew_none hh hE
end
structure ExcK (K:Frag) (C:Addr):Prop where
 ok:j5 K C=true
 sa:findIn K (.ref C) "__setattr__" = some (some (.builtin "object.__setattr__"))
 ga:findIn K (.ref C) "__getattribute__" = some (some (.builtin "BaseException.__getattribute__"))
 gh:findIn K (.ref C) "__getattr__" = some none
 be:mroIn K C (.type "BaseException")=some true
 ob:mroIn K C (.type "object")=some true
 cl:findIn K (.ref C) "__class__" = some (some (.builtin "object.__class__"))
 cg:specialIn K (.builtin "object.__class__") "__get__" = some (some (.builtin "getset_descriptor.__get__"))
 ct:takesIn K (.builtin "object.__class__")=some true
theorem ExcK.dict{K:Frag}{C:Addr}(k:ExcK K C):hasDictIn K C=true:=by
 have q:=k.ok
 unfold j5 at q
 unfold hasDictIn clsIn
 split at q
 ·rename_i dd cd sl ho
  rw[ho]
  split at q
  ·simp only[Bool.and_eq_true]at q
   exact q.1.2
  ·cases q
 ·cases q
section
variable {prog:Program} {w:World} {A:Around} {E:Value→Shared→Prop} {s:Shared} {K:Frag} {x C:Addr} {ox:Obj} {od:Option Obj} {name:Str} {expr:Bool} {Q:Value→Shared→Prop}
theorem vq{M:Model}{nameV:Value}{Q:Unit→Shared→Prop}(X:K.In s.heap)(I:InstAt s.heap x ox C od)(k:ExcK K C)(hq:Q () s) :
  wpAny M A (checkBuiltinCall "BaseException.__getattribute__" ⟨[.ref x,nameV],[]⟩) Q E s:=
 @check_slot M A E s "BaseException.__getattribute__" "BaseException" "__getattribute__" (.ref x) [nameV] [] Q (by decide +kernel) (by decide +kernel) (I.type.andThen (looks_mroIn X k.be)) (F.args_bexc_ga (.ref x) nameV) hq
theorem vt{nameV:Value}{fill:Bool}(X:K.In s.heap)(I:InstAt s.heap x ox C od)(k:ExcK K C)
  (h:codeAny (model prog w) A (.call (.builtin "BaseException.__getattribute__") ⟨[.ref x,nameV],[]⟩) (fun r s'=>match r with | .ok (.ret v)=>wpAny (model prog w) A (handedOut v) Q E s'|_=>False) s) :
  wpAny (model prog w) A (getAttrBy (.ref x) nameV fill expr) Q E s:=by
 obtain⟨hh,g,d,t,os⟩:=s
 have L0:=I.type (M:=model prog w)
 have L1:=looks_findIn (M:=model prog w) X k.ga
 have L2:=looks_findIn (M:=model prog w) X k.gh
 have f3:=F.attr_ValueError.ga.bind (.ref x)
 have Q2:(expr&&onTheHeap (Value.builtin "BaseException.__getattribute__"))=false:=by cases expr<;>rfl
 have Nw:(Value.builtin "BaseException.__getattribute__" == Value.builtin "object.__getattribute__")=false:=by decide +kernel
 have LV:(onTheHeap (Value.ref C)&&Value.builtin "BaseException.__getattribute__" == Value.builtin "object.__getattribute__")=false:=by rw[Nw];rfl
 unfold getAttrBy
 refine wpAny_holding (wpAny_bind (L0.at (wpAny_bind (L1.at ?_))))
 dsimp only
 rw[if_neg (by rw[LV];decide)]
 unfold getAttrByItsOwn hookBefore
 refine wpAny_bind ?_
 show wpAny _ _ (typeLookup (.ref C) "__getattr__") _ _ _
 refine L2.at (wpAny_bind (wpAny_attempt (wpAny_holding ?_)))
 unfold callGetattribute
 rw[if_neg (by rw[Q2];decide)]
 unfold boundAndCalled
 rw[f3]
 refine wpAny_bind (wpAny_pure (wpAny_call (codeAny_mono h fun r s' z=>?_)))
 rcases r with e|(v|_|_|_)<;>first|exact z.elim|exact z
theorem vv{nameV:Value}{R:Result→Shared→Prop}(X:K.In s.heap)(I:InstAt s.heap x ox C od)(k:ExcK K C)
  (h:wpAny (model prog w) A.in1 (Builtin.«object.__getattribute__» ⟨[.ref x,nameV],[]⟩) (fun fin s'=>match fin with | .done f=>R (.ok f) s' | .again c'=>c'.quiet=true∧codeAny (model prog w) A c' R s') (fun e s'=>R (.error e) s') s) :
  codeAny (model prog w) A (.call (.builtin "BaseException.__getattribute__") ⟨[.ref x,nameV],[]⟩) R s:=
 codeAny_call_builtin F.attr_ValueError.ga.plain F.entry_bexc_ga (vq X I k h)
theorem yD{v:Value}(X:K.In s.heap)(I:InstAt s.heap x ox C od)(k:ExcK K C)(hf:findObj K C od name=some (.value v))(hh:handedIn v=true)(h:Q v { s with toks:=s.toks+1 }) :
  wpAny (model prog w) A (getAttr (.ref x) name expr) Q E s:=by
 unfold getAttr
 refine wpAny_bind (wpAny_mkText ?_)
 refine vt (s:={ s with toks:=s.toks+1 }) X I k (vv (s:={ s with toks:=s.toks+1 }) X I k ?_)
 obtain⟨hh',g,d,t,os⟩:=s
 have L0:=I.type (M:=model prog w)
 have L1:=looks_find (M:=model prog w) X I hf
 unfold Builtin.«object.__getattribute__»
 refine wpAny_bind (wpAny_pure (wpAny_bind (wpAny_pure (wpAny_bind (L0.at (wpAny_bind (L1.at ?_)))))))
 refine wpAny_pure ?_
 show wpAny _ _ (handedOut v) _ _ _
 rw[handedOut_of hh];exact wpAny_pure h
theorem tI{od:Obj}{Q:Option Value→Shared→Prop}(X:K.In s.heap)(I:InstAt s.heap x ox C (some od))(k:ExcK K C)(h:Q (some (.ref C)) { s with toks:=s.toks+1 }) :
  wpAny (model prog w) A (getAttr? (.ref x) "__class__") Q E s:=by
 have hf:findObj K C (some od) "__class__" = some (.bind (.builtin "getset_descriptor.__get__") (.builtin "object.__class__")):=findObj_data (by obtain⟨cd,hc,_⟩:=any_some k.dict;rw[hc];rfl) k.cl k.cg k.ct
 unfold getAttr? getAttrBy?
 refine wpAny_bind (wpAny_mkText (wpAny_bind (wpAny_attempt ?_)))
 refine vt (s:={ s with toks:=s.toks+1 }) X I k (vv (s:={ s with toks:=s.toks+1 }) X I k ?_)
 obtain⟨hh',g,d,t,os⟩:=s
 have L0:=I.type (M:=model prog w)
 have L1:=looks_find (M:=model prog w) X I hf
 unfold Builtin.«object.__getattribute__»
 refine wpAny_bind (wpAny_pure (wpAny_bind (wpAny_pure (wpAny_bind (L0.at (wpAny_bind (L1.at ?_)))))))
 show wpAny _ _ (holding [Value.builtin "object.__class__"] (call (.builtin "getset_descriptor.__get__") [.builtin "object.__class__",.ref x,.ref C]) >>= ret) _ _ _
 refine wpAny_bind (wpAny_holding (wpAny_call (class_get (s:=⟨hh',g,d,t+1,os⟩) (ox:=ox) (od:=some od) X I k.ob ?_)))
 refine wpAny_pure ?_
 show wpAny _ _ (handedOut (.ref C)) _ _ _
 rw[handedOut_of rfl];exact wpAny_pure (wpAny_pure h)
end
theorem kS{K:Frag}{x C:Addr}{ox od:Obj}(k:ExcK K C):KitX K (.ref x) (.ref C) (fun h=>InstAt h x ox C (some od)) where
 ty:=fun _ _ _ I=>I.type
 it:=fun _ _ X _=>by
  obtain⟨cdD,KC,_⟩:=any_some k.dict
  unfold clsIn at KC
  split at KC
  ·rename_i c' d' Qa sl' ho
   intro A' Q' E' s' k q
   unfold isType loadHead
   exact wpAny_bind (wpAny_loadPart (k _ _ (X _ _ ho)) (wpAny_pure q))
  ·cases KC
 ne:=fun h tp dd its n sl X htp=>by
  obtain⟨cdD,KC,_⟩:=any_some k.dict
  refine Bool.eq_false_iff.mpr fun q=>?_
  have e:C=tp:=Value.ref.inj (beq_iff_eq.mp q)
  subst e
  unfold clsIn at KC
  split at KC
  ·rename_i c' d' Qa sl' ho
   have z:=(X _ _ ho).symm.trans htp
   cases z
  ·cases KC
 ca:=fun X I q=>tI X I k q
theorem oX(self:Value){h:Heap}{l:List Value}(T:OwnTail h Bi l):refuseLoop self "__setattr__" l=pure ():=by
 induction T with
 |base=>exact PySem.F.store_ValueError.passes self
 |own _ _ _ _ ih=>rw[refuseLoop_ref];exact ih
section
variable {prog:Program} {w:World} {A:Around} {E:Value→Shared→Prop} {s:Shared} {K:Frag} {x C:Addr} {ox:Obj} {od:Option Obj} {name:Str} {v:Value} {R:Result→Shared→Prop}
theorem yE{tk:Tok}{r:Option Value}(X:K.In s.heap)(I:InstAt s.heap x ox C od)(k:ExcK K C)(ht:takerIn K C name=some r)
  (h:∀b,wpAny (model prog w) A.in1 (match r with|some a=>setByDescriptor a (.ref x) v|none=>storeInOwnDict (.ref x) (.ref C) (.str name tk) name v b)
   (fun fin s'=>match fin with | .done f=>R (.ok f) s' | .again c'=>c'.quiet=true∧codeAny (model prog w) A c' R s') (fun e s'=>R (.error e) s') s) :
  codeAny (model prog w) A (.call (.builtin "object.__setattr__") ⟨[.ref x,.str name tk,v],[]⟩) R s:=by
 have SF:=PySem.F.store_object
 obtain⟨nm,qn,N,bs,bm,sn,sub,ab,col,dd,k0,k1,k2,k3,k5,hK,T⟩:=qQ X k.ok
 have hc:clsIn K C=some { name:=nm,bases:=bs,mro:=.ref C::bm,ns:=N,qualname:=qn,hasDict:=true,slotNames:=sn,subclasses:=sub,abstract:=ab,collection:=col,hasDel:=false }:=by unfold clsIn;rw[hK]
 have sub:Looks (model prog w) s.heap (isInstance (.ref x) (.type "object")) true:=I.type.andThen (looks_mroIn X k.ob)
 refine codeAny_call_builtin SF.slot.plain SF.entry (@check_slot (model prog w) _ _ s "object.__setattr__" "object" "__setattr__" (.ref x) [.str name tk,v] [] _ SF.kind SF.split sub (SF.args (.ref x) (.str name tk) v) ?_)
 obtain⟨attr,ha,hr⟩:=Option.bind_eq_some_iff.mp ht
 have hm:Looks (model prog w) s.heap (mroOf (.ref C)) (.ref C::bm):=(looks_clsIn X hc).andThen .now
 have L3:Looks (model prog w) s.heap (storeTaker? attr) r:=by
  cases attr with
  |none=>cases hr;exact .now
  |some a=>
   obtain⟨b,hb,rfl⟩:=Option.map_eq_some_iff.mp hr
   refine(looks_takesIn X hb).andThen ?_
   cases b<;>exact .now
 rw[osa_eq,refuse_eq]
 refine wpAny_bind (wpAny_bind (I.type.here (wpAny_bind (hm.here ?_))))
 rw[refuseLoop_ref,oX _ T]
 refine wpAny_pure (wpAny_bind (I.type.here (wpAny_bind ((looks_findIn X ha).here (wpAny_bind (L3.here ?_))))))
 exact h _
theorem vx{Q:Unit→Shared→Prop}(X:K.In s.heap)(hx:s.heap.get? x=some ox)(hcl:ox.cls = .ref C)(hno:∀c,ox.data ≠ .cls c)(hd:ox.dict=none)(k:ExcK K C)(ht:takerIn K C name=some none)
  (h:∀h',h'.Ns1 s.heap.objs.size (fun y=>if y=name then some v else none)→h'.get? x=some { ox with dict:=some s.heap.objs.size }→(∀b o,b≠x→s.heap.get? b=some o→h'.get? b=some o)→Q () { s with heap:=h',toks:=s.toks+2 }) :
  wpAny (model prog w) A (setAttr (.ref x) name v) Q E s:=by
 have I:InstAt s.heap x ox C none:=⟨hx,hcl,by obtain⟨a,b,c,d⟩:=ox;cases c<;>first|rfl|exact absurd rfl (hno _),by rw[hd];trivial⟩
 refine set_plain X I k.sa (yE (s:={ s with toks:=s.toks+1 }) X I k ht fun b=>?_)
 obtain⟨cd,hc,hd'⟩:=any_some k.dict
 obtain⟨oc,odd,OV,osl⟩:=ox
 dsimp only at hcl hd hno
 subst hcl hd
 obtain⟨hp,g,d,t,os⟩:=s
 unfold storeInOwnDict ownDictForStores instanceDict
 refine wpAny_bind (wpAny_pure (wpAny_bind (wpAny_bind (wpAny_loadPart hx (wpAny_bind (Looks.here (s:=⟨hp,g,d,t+1,os⟩) (looks_clsIn X hc) ?_))))))
 rw[hd']
 simp only[Bool.not_true,Bool.false_eq_true,if_false]
 rw[if_neg (by simp[typeHasDict])]
 have Qb:(hp.push { cls:=.type "dict",data:=.dict #[] }).get? x=some { cls:=Value.ref C,data:=OV,slots:=osl }:=Heap.get?_push_of_some _ hx
 have hxs:x≠hp.objs.size:=Nat.ne_of_lt (Heap.lt_size hx)
 refine wpAny_bind (wpAny_alloc' ?_)
 refine wpAny_bind (wpAny_update' Qb ?_)
 refine wpAny_pure ?_
 have hgd:((hp.push { cls:=.type "dict",data:=.dict #[] }).update x fun o=>{ cls:=o.cls,dict:=some hp.objs.size,data:=o.data,slots:=o.slots }).get? hp.objs.size=some { cls:=.type "dict",data:=.dict #[] }:=
  (Heap.get?_update_ne _ _ _ _ hxs.symm).trans (Heap.get?_push_at rfl rfl)
 have hnd:((hp.push { cls:=.type "dict",data:=.dict #[] }).update x fun o=>{ cls:=o.cls,dict:=some hp.objs.size,data:=o.data,slots:=o.slots }).Ns hp.objs.size (fun _=>none):=
  ⟨_,#[],_,hgd,rfl,fun e he=>absurd he (by simp),fun _=>rfl⟩
 show wpAny _ _ (storeInDict hp.objs.size (.str name t) name v) _ _ _
 unfold storeInDict newKeyGuard
 refine wpAny_bind (wpAny_pure (wpAny_bind (wpAny_nsSet1 (Heap.Ns1.of_empty hnd) fun h' hn' hs=>?_)))
 obtain⟨oD,esD,QO,OH,OI,KC⟩:=hn'.count (Within.cons name v Within.nil)
 refine wpAny_bind (wpAny_lookBehind OH (by rw[OI];exact pastItsLine_dict (Nat.le_trans KC (by rw[List.length_cons,List.length_nil,sizeLine_eq];omega))) ?_)
 refine wpAny_pure (h h' hn' ?_ fun b o hb q=>(hs.2 b (Nat.ne_of_lt (Heap.lt_size q))).trans ((Heap.get?_update_ne _ _ _ _ hb).trans (Heap.get?_push_of_some _ q)))
 refine(hs.2 x hxs).trans (Heap.get?_update_self _ Qb ?_)
 have hfr:=(Heap.get?_some_iff.mp hx).2
 cases OV<;>first|rfl|exact hfr
end
theorem oY{M:Model}{A:Around}{E:Value→Shared→Prop}{s:Shared}{K:Frag}{x C D:Addr}{ox:Obj}{b:Bool}{Q:Bool→Shared→Prop}(X:K.In s.heap)(hx:s.heap.get? x=some ox)(hcl:ox.cls = .ref C)(hb:mroIn K C (.ref D)=some b)
  (hD:typeIn K (.ref D)=some (.type "type")) (KC:(clsIn K D).isSome=true) (Lc:mroIn K D (.type "BaseException")=some true) (h:Q b s):wpAny M A (excMatches (.ref x) (.ref D)) Q E s:=by
 obtain⟨hp,g,d,t,os⟩:=s
 have t1:Looks M hp (typeOf (.ref x)) (.ref C):=by rw[←hcl];exact(Looks.ld hx).andThen .now
 have t2:Looks M hp (typeOf (.ref D)) (.type "type"):=looks_typeIn X hD
 have t3:Looks M hp (isType (.ref D)) true:=by
  unfold clsIn at KC
  split at KC
  ·rename_i c' d' Qa sl' ho
   intro A' Q' E' s' k q
   unfold isType loadHead
   exact wpAny_bind (wpAny_loadPart (k _ _ (X _ _ ho)) (wpAny_pure q))
  ·cases KC
 have i1:Looks M hp (isInstance (.ref D) (.type "tuple")) false:=t2.andThen (Looks.of_pure tc_notTuple)
 have i2:Looks M hp (isExcClass (.ref D)) true:=by
  unfold isExcClass
  refine t3.andThen ?_
  exact looks_mroIn X Lc
 have i3:Looks M hp (isSubtype (.ref C) (.ref D)) b:=looks_mroIn X hb
 unfold excMatches
 refine wpAny_bind (m:=isInstance (.ref D) (.type "tuple")) (i1.at ?_)
 simp only[Bool.false_eq_true,if_false]
 refine wpAny_bind (wpAny_pure ?_)
 rw[List.forIn_cons]
 refine wpAny_bind (wpAny_bind (wpAny_bind (i2.at ?_)))
 simp only[Bool.not_true,Bool.false_eq_true,if_false]
 refine wpAny_pure (wpAny_pure (wpAny_bind (t1.at ?_)))
 rw[List.forIn_cons]
 refine wpAny_bind (wpAny_bind (wpAny_bind (i3.at ?_)))
 cases b with
 |true=>exact wpAny_pure (wpAny_pure (wpAny_pure h))
 |false=>exact wpAny_pure (wpAny_pure (wpAny_pure h))
end Xc
namespace L2
open PySem PySem.Spec PyProof.Rows Xc
def Cs(X:Cx)(pins:List (Addr×Obj))(H:Hp)(h:Heap)(a C dx:Addr):Prop:=
 ∃oe vs,vn h a oe vs∧oe.cls = .ref C∧oe.dict=some dx∧Hg X pins H a∧∀T,vs[1]?=some (.ref T)→Hg X pins H T
def Dm(n:Nat)(H:Hp)(h:Heap)(a C dx:Addr):Prop:=
 ∃oe vs,vn h a oe vs∧oe.cls = .ref C∧oe.dict=some dx∧H a=none∧n≤a∧∀T,vs[1]?=some (.ref T)→H T=none∧n≤T
noncomputable def vy(P:Program)(w:World):uk:=fun outer H s E e s'=>
 ∃a C dx H',e = .ref a∧s'.os=s.os∧AllBare s'.gens∧Un (frs outer) [] H H' s.heap s'.heap∧Id P w H' s'.heap∧Dm s.heap.objs.size H' s'.heap a C dx∧E (.ref C) (some dx) H'
section
variable {X:Cx} {pins:List (Addr×Obj)} {σ:St} {H H':Hp} {s s':Shared} {a C dx:Addr}
theorem Inv.noted{oe:Obj}{vs:Array Value}{h':Heap}(I:Inv X pins σ H s)(n:rZ X.stack a oe (iF vs) s.heap h')(x:vn s.heap a oe vs)(hc:oe.cls = .ref C)(hd:oe.dict=some dx)(f:Hg X pins H a)(fT:∀T,vs[1]?=some (.ref T)→Hg X pins H T) :
  Inv X pins σ H { s with heap:=h' }∧Cs X pins H h' a C dx:=by
 have tr:∀b u,H b=some u→b≠a∧¬iF vs b∧b ∉ Er X.stack:=fun b u e=>⟨fun z=>(by rw[z,f.1]at e;cases e),fun z=>(by rw[(fT b z).1]at e;cases e),fun z=>(by rw[I.Ka b z]at e;cases e)⟩
 have ff:∀b,(b=a∨iF vs b)→Hg X pins H b:=fun b hb=>by
  rcases hb with rfl|hb
  ·exact f
  ·exact fT b hb
 have hok:Id X.prog X.w H h':=fun b u e=>(I.hok b u e).stay (fun c v hc q=>by
  rcases hc with rfl|hc
  ·obtain⟨t1,t2,t3⟩:=tr c u e;exact n.keep c v t1 t2 t3 q
  ·obtain⟨t1,t2,t3⟩:=tr c _ hc;exact n.keep c v t1 t2 t3 q) (fun _ z=>z) fun _ _ z=>z
 have Q4:∀b o,s.heap.get? b=some o→b≠a→¬iF vs b→∃o',h'.get? b=some o':=fun b o e h1 h2=>by
  by_cases hb:b∈Er X.stack
  ·obtain⟨sl,q⟩:=n.slot b o hb e;exact⟨_,q⟩
  ·exact⟨o,n.keep b o h1 h2 hb e⟩
 have go:∀ch:List Addr,(∀b,b∈ch↔(b=a∨iF vs b))→Inv X pins σ H { s with heap:=h' }:=fun ch hch=>by
  refine I.call (g':=s.gens) (t':=s.toks) (d':=s.drawn) (ch:=ch) ⟨fun b o e n1 n2 n3=>?_,fun b o e _ n2 _=>n.slot b o n2 e,fun _ _ _ z _=>z,fun b o e n1=>?_,fun _ _ z=>z,fun _ _ _ z=>z,fun _ ps z=>⟨#[],by rw[z];simp⟩⟩ hok I.bare fun b hb=>?_
  ·exact n.keep b o (fun z=>n3 ((hch b).mpr (.inl z))) (fun z=>n3 ((hch b).mpr (.inr z))) n2 e
  ·exact Q4 b o e (fun z=>n1 ((hch b).mpr (.inl z))) (fun z=>n1 ((hch b).mpr (.inr z)))
  ·obtain⟨f0,f1,f2,f3,f4,f5⟩:=ff b ((hch b).mp hb)
   exact⟨f3,f1,f4,f5⟩
 refine⟨?_,?_⟩
 ·rcases x.tb with h1|⟨T,oT,ts,h1,_⟩
  ·refine go [a] fun b=>⟨fun z=>.inl (by simpa using z),fun z=>?_⟩
   rcases z with z|z
   ·simp[z]
   ·unfold iF at z;rw[h1]at z;cases z
  ·refine go [a,T] fun b=>⟨fun z=>?_,fun z=>?_⟩
   ·simp only[List.mem_cons,List.not_mem_nil,or_false]at z
    rcases z with z|z
    ·exact .inl z
    ·exact .inr (by rw[z];exact h1)
   ·rcases z with z|z
    ·simp[z]
    ·unfold iF at z;rw[h1]at z;cases z;simp
 ·obtain⟨Mv,vs',T,oT,ts,a1,a2,a3,a4,a5,a6,a7,a8,a9,Q5⟩:=n.lies
  refine⟨Mv,vs',⟨a1,a4,.inr ⟨T,oT,ts,a5,a7,a8,a9,Q5⟩⟩,a2.trans hc,a3.trans hd,f,fun T' hT'=>?_⟩
  rw[a5]at hT'
  cases hT'
  exact I.IS a6 (I.hok.fresh a6)
theorem Inv.raised{E:XK}{e:Value}(I:Inv X pins σ H s)(h:vy X.prog X.w X.stack H s E e s'):∃a C dx H',e = .ref a∧Inv X pins σ H' s'∧Cs X pins H' s'.heap a C dx∧E (.ref C) (some dx) H':=by
 obtain⟨a,C,dx,H',rfl,os,bare,un,hok,⟨oe,vs,x,hc,hd,h0,hn,hT⟩,hE⟩:=h
 refine⟨a,C,dx,H',rfl,I.Ms (ch:=[]) os un hok bare (fun b z=>absurd z (by simp)),⟨oe,vs,x,hc,hd,I.IS hn h0,fun T z=>I.IS (hT T z).2 (hT T z).1⟩,hE⟩
end
theorem tJ{P:Program}{w:World}{K:PySem.W.Frag}{mg:Str→Option Value}{base:Heap}{N:List Str}{qual:Str}{scope:Scope}{f:Addr}{cd:Value}{A:Around}{outer:List Env}{s s':Shared}{H H':Hp}{E:XK}{pins:List (Addr×Obj)}{σ:St}{a C dx:Addr}
  (I:Inv (gU (vy P w) P w K mg base N qual scope f cd A outer s H E) pins σ H' s') (x:Cs (gU (vy P w) P w K mg base N qual scope f cd A outer s H E) pins H' s'.heap a C dx) (hE:E (.ref C) (some dx) H') :
  (gU (vy P w) P w K mg base N qual scope f cd A outer s H E).xe (.ref a) s':=by
 obtain⟨oe,vs,x,hc,hd,fa,fT⟩:=x
 have hfr:(gU (vy P w) P w K mg base N qual scope f cd A outer s H E).A.frames=some (envOfC qual scope s.heap.objs.size f cd::outer):=I.ok.frames
 have hl:=I.stack
 refine vo (s:=s') (env:=envOfC qual scope s.heap.objs.size f cd) (outer:=outer) hfr hl rfl x fun h' n=>?_
 obtain⟨I2,x2⟩:=I.noted (h':=h') n x hc hd fa fT
 obtain⟨Ny,JE,x2,hc2,hd2,Oh,Oi⟩:=x2
 have lt:∀b,Hg (gU (vy P w) P w K mg base N qual scope f cd A outer s H E) pins H' b→s.heap.objs.size≤b:=fun b q=>by
  rcases q.2.2.2.1 with z|z
  ·exact absurd (show b∈([]:List Addr)from z) (by simp)
  ·exact z
 exact⟨a,C,dx,H',rfl,I2.os,I2.bare,I2.base,I2.hok,⟨Ny,JE,x2,hc2,hd2,Oh.1,lt a Oh,fun T z=>⟨(Oi T z).1,lt T (Oi T z)⟩⟩,hE⟩
section
variable {X:Cx} {k:Nat} {f C:Addr} {fd:FuncData} {ps:List Str} {sp:Sp} {x m:Str} {p pos apos:Pos} {e o:Expr} {es:List Expr} {ta:TE} {t:TA}
noncomputable def EX(X:Cx)(pins:List (Addr×Obj))(σ:St):XK:=fun c d H'=>∀s' a C dx,c = .ref C→d=some dx→Inv X pins σ H' s'→Cs X pins H' s'.heap a C dx→X.xe (.ref a) s'
theorem sd{pins:List (Addr×Obj)}{σ:St}{H:Hp}{s:Shared}{Q:VK}{E:XK}{us:List Value}{vs:List V}(F:eh X.prog X.w X.K X.mg X.base (vy X.prog X.w) k f fd ps sp)(hr:Room k X.A)(hb:Binds X.K fd ps [])
  (hE:∀c d H',E c d H'→EX X pins σ c d H') (I:Inv X pins σ H s) (r:Vals vs us) (h:sp vs H Q E):wpAny (model X.prog X.w) X.A (call (.ref f) us) (EP X pins σ Q) X.xe s:=by
 have hl:(us++[]).length=ps.length:=by rw[List.append_nil,←r.length];exact F.len _ _ _ _ h
 have hb':=hb s us I.Jo hl
 rw[List.append_nil]at hb'
 refine wpAny_call (codeAny_mono (F.run X.A X.stack s H ⟨us,[]⟩ us vs Q E hr I.L_ hb' r h) fun r s' hq=>?_)
 cases r with
 |error e=>
  obtain⟨a,C,dx,H',rfl,I',xa,he⟩:=I.raised hq
  exact hE _ _ _ he s' a C dx rfl rfl I' xa
 |ok fl=>
  cases fl with
  |ret u=>exact I.after hq
  |next=>exact False.elim hq
  |brk=>exact False.elim hq
  |cont=>exact False.elim hq
def Bj(X:Cx)(sp:Sp)(t:TA):TE:=fun σ H Q=>t σ H fun vs H1=>∃E,sp vs H1 Q E∧∀pins c d H',E c d H'→EX X pins σ c d H'
theorem vz(F:eh X.prog X.w X.K X.mg X.base (vy X.prog X.w) k f fd ps sp)(hr:Room k X.A)(hg:Gl X x)(hm:X.mg x=some (.ref f))(hk:PySem.W.keepIn X.K (.ref f)=true)(hb:Binds X.K fd ps [])
  (ha:PA X (e::es) t) (hdb:(x == ("__debug__":Str))=false:=by decide) (he:starEach (e::es) X.env=(false,eval e X.env)::starEach es X.env:=by rfl) (hpl:(backTo pos (starEach es X.env)).any (·.1)=false:=by rfl) :
  PE X (.Call (.Name x p) (e::es) [] pos) (Bj X sp t):=by
 intro pins s σ H Q I h
 refine wpAny_Call_Name_kw (gL I hg hm ?_ hdb)
 refine PySem.W.callWith_K (h₀:=X.base) I.ok.mod.MF hk (GJ (ha pos pins s σ H _ I h) fun us s1 ⟨vs,H1,I1,r,E,q,hE⟩=>⟨I1.Jo,?_⟩) he hpl
 exact sd F hr hb (hE pins) I1 r q
end
def XO(a C:Addr)(d:Option Addr)(h:Heap):Prop:=∃oe vs,h.get? a=some oe∧oe.cls = .ref C∧oe.dict=d∧oe.data = .fields vs∧vs[1]?=some .none
def XD(dx:Addr)(fs:List (Str×V))(h:Heap):Prop:=∃mA,h.Ns1 dx mA∧(∀f,HZ (fs.lookup f) (mA f))∧PySem.Within mA (fs.map (·.1))
theorem XO.stay{a C:Addr}{d:Option Addr}{h1 h2:Heap}(x:XO a C d h1)(k:∀o,h1.get? a=some o→h2.get? a=some o):XO a C d h2:=let ⟨oe,vs,e,r⟩:=x;⟨oe,vs,k oe e,r⟩
theorem XD.stay{dx:Addr}{fs:List (Str×V)}{h1 h2:Heap}(x:XD dx fs h1)(k:∀o,h1.get? dx=some o→h2.get? dx=some o):XD dx fs h2:=let ⟨mA,⟨o,es,ep,e,r⟩,q⟩:=x;⟨mA,⟨o,es,ep,k o e,r⟩,q⟩
theorem XO.ok{P:Program}{w:World}{H:Hp}{h:Heap}{a C:Addr}{d:Option Addr}(x:XO a C d h):ObjOk P w H h a (.ext (XO a C d)):=⟨x,let ⟨oe,_,e,_⟩:=x;⟨oe,e⟩,fun _ _ y k=>y.stay k⟩
theorem XD.ok{P:Program}{w:World}{H:Hp}{h:Heap}{dx:Addr}{fs:List (Str×V)}(x:XD dx fs h):ObjOk P w H h dx (.ext (XD dx fs)):=⟨x,let ⟨_,⟨o,_,_,e,_⟩,_⟩:=x;⟨o,e⟩,fun _ _ y k=>y.stay k⟩
theorem XO.of{P:Program}{w:World}{H:Hp}{h:Heap}{a C:Addr}{d:Option Addr}(hok:Id P w H h)(e:H a=some (.ext (XO a C d))):XO a C d h:=(show ObjOk P w H h a (.ext (XO a C d))from hok a _ e).1
theorem XD.of{P:Program}{w:World}{H:Hp}{h:Heap}{a:Addr}{fs:List (Str×V)}(hok:Id P w H h)(e:H a=some (.ext (XD a fs))):XD a fs h:=(show ObjOk P w H h a (.ext (XD a fs))from hok a _ e).1
section
variable {X:Cx} {pins:List (Addr×Obj)} {σ:St} {H:Hp} {s:Shared}
theorem Inv.Lu{D:Addr}{o:HO}(I:Inv X pins σ H s)(f:Hg X pins H D)(n:ObjOk X.prog X.w (upd H D o) s.heap D o):Inv X pins σ (upd H D o) s:=by
 obtain⟨f0,f1,f2,f3,f4,f5⟩:=f
 have nD:∀b u,H b=some u→b≠D:=fun b u q=>aT q f0
 have hok:Id X.prog X.w (upd H D o) s.heap:=fun b u q=>by
  by_cases hb:b=D
  ·subst hb
   rw[ay]at q
   cases q
   exact n
  ·rw[aw hb]at q
   exact(I.hok b u q).stay (fun _ _ _ z=>z) (fun c z=>by rw[aw (nD c _ z)];exact z) fun c xs z=>by rw[aw (nD c _ z)];exact z
 exact I.step (H':=upd H D o) (h':=s.heap) (g':=s.gens) (t':=s.toks) (d':=s.drawn) (ch:=[D])
  (fun b hb=>by
   have z:b=D:=by simpa using hb
   subst z
   exact⟨f3,f1,f4,f5⟩)
  (fun _ _ _ _ _ q _=>q) (fun _ o _ _ _ q _=>⟨o.slots,q⟩)
  (fun b o hb _ n=>by rw[aw (fun z=>hb (by simp[z]))];exact n)
  (fun _ o _ q=>⟨o,q⟩) (fun b xs q=>by rw[aw (nD b _ q)];exact q) (fun b o u q=>by rw[aw (nD b _ q)];exact q)
  (fun b ps q=>⟨#[],by rw[aw (nD b _ q),q];simp⟩) (fun _ q=>q) hok I.bare
theorem Inv.forget{H':Hp}{D:Addr}{φ:Heap→Prop}(I:Inv X pins σ H s)(e:H D=some (.ext φ))(h1:H' D=none)(h2:∀b,b≠D→H' b=H b):Inv X pins σ H' s:=by
 have ne:∀b u,H b=some u→u ≠ .ext φ→b≠D:=fun b u q z y=>by rw[y,e]at q;exact z (Option.some.inj q).symm
 refine I.un (h':=s.heap) (t':=s.toks) ⟨fun _ _ q _ _ _=>q,fun _ o q _ _ _=>⟨o.slots,q⟩,fun b o q n _=>?_,fun _ o q _=>⟨o,q⟩,fun b xs q=>?_,fun b o u q=>?_,fun b ps q=>?_⟩ fun b u q=>?_
 ·by_cases z:b=D
  ·rw[z];exact h1
  ·rw[h2 b z];exact n
 ·rw[h2 b (ne b _ q fun z=>nomatch z)];exact q
 ·rw[h2 b (ne b _ q fun z=>nomatch z)];exact q
 ·exact⟨#[],by rw[h2 b (ne b _ q fun z=>nomatch z),q];simp⟩
 ·have hb:b≠D:=fun z=>by rw[z,h1]at q;cases q
  rw[h2 b hb]at q
  exact(I.hok b u q).stay (fun _ _ _ z=>z) (fun c z=>by rw[h2 c (ne c _ z fun y=>nomatch y)];exact z) fun c xs z=>by rw[h2 c (ne c _ z fun y=>nomatch y)];exact z
end
def Bl(K:PySem.W.Frag)(ta tv:TE)(f:Str):TS:=fun D σ H=>tv σ H fun y H1=>ta σ H1 fun x H2=>∃a C,x = .ref a∧H2 a=some (.ext (XO a C none))∧ExcK K C∧NoAttr K C f∧
 ∀dx,H2 dx=none→dx≠a→D.nx σ (upd (upd H2 a (.ext (XO a C (some dx)))) dx (.ext (XD dx [(f,y)])))
section
variable {X:Cx} {o value:Expr} {f:Str} {pos pos':Pos} {ta tv:TE}
theorem vA(ha:PE X o ta)(hv:PE X value tv)(hs:swapsWith value (some (.Attribute o f pos')) pos.line X.env=pure false):PS X (.Assign [.Attribute o f pos'] value pos) (Bl X.K ta tv f):=by
 intro pins s σ H D I h
 refine plainObj_wpAny_Assign_Attribute (GJ (hv pins s σ H _ I h) fun u s1 ⟨y,H1,I1,ry,q⟩=>GJ (ha pins s1 σ H1 _ I1 q) fun ov s2 ⟨x,H2,I2,rx,a,C,ex,ea,k,n,q2⟩=>?_) hs
 subst ex
 obtain rfl:ov=Value.ref a:=rx
 obtain⟨oe,vs,g1,g2,g3,g4,g5⟩:=XO.of I2.hok ea
 have ne:s2.heap.objs.size≠a:=Nat.ne_of_gt (Heap.lt_size g1)
 refine vx I2.Jo g1 g2 (fun c z=>by rw[g4]at z;cases z) g3 k n.Mt fun h' n1 n2 n3=>?_
 have J1:Inv X pins σ (upd H2 a (.ext (XO a C (some s2.heap.objs.size)))) { s2 with heap:=h',toks:=s2.toks+2 }:=
  I2.write (x:=a) (e:=a) (by rw[ea];exact True.intro) (.inl rfl) (fun b u hb z=>n3 b u hb z) ⟨_,n2⟩ (XO.ok ⟨_,vs,n2,g2,rfl,g4,g5⟩)
 have f0:H2 s2.heap.objs.size=none:=I2.hok.fresh (Nat.le_refl _)
 have f1:Hg X pins (upd H2 a (.ext (XO a C (some s2.heap.objs.size)))) s2.heap.objs.size:=I2.IS (Nat.le_refl _) (by rw[aw ne];exact f0)
 have xd:XD s2.heap.objs.size [(f,y)] h':=⟨_,n1,fun g=>by
  show HZ (List.lookup g [(f,y)]) (if g=f then some u else none)
  by_cases q:g=f
  ·subst q;rw[if_pos rfl];simp;exact ry
  ·rw[if_neg q,List.lookup_cons,beq_eq_false_iff_ne.mpr q];exact True.intro,fun g hg=>by
  by_cases q:g=f
  ·simp[q]
  ·exact absurd (show(if g=f then some u else none)=none by rw[if_neg q]) hg⟩
 exact⟨σ,_,J1.Lu f1 xd.ok,q2 _ f0 ne⟩
end
noncomputable def nh(K:PySem.W.Frag)(C:Addr)(ks:List Str):Sp:=fun vs H Q _=>∃a rest,vs = .ref a::rest∧rest.length=ks.length∧H a=some (.ext (XO a C none))∧ExcK K C∧(∀k∈ks,NoAttr K C k)∧
 ∀dx,H dx=none→dx≠a→Q .non (upd (upd H a (.ext (XO a C (some dx)))) dx (.ext (XD dx (ks.zip rest))))
section
variable {P:Program} {w:World} {K:PySem.W.Frag} {mg:Str→Option Value} {base:Heap}
theorem Dn{qual:Str}{st:Stmt}{f C:Addr}{fd:FuncData}{N ps:List Str}{k1:Str}(F:Lo K "__init__" qual st f fd)(S:bR N ps (az st))(hp:ps.length=2)
  (hbody:∀(cdv:Value) (A:Around) (outer:List Env) (s:Shared) (H:Hp) (E:XK),J4 (gU qo P w K mg base N qual (az st) f cdv A outer s H E).Ld (aW st) (Bl K (sP 0) (sP 1) k1)) :
  eh P w K mg base qo 1 f fd ps (nh K C [k1]):=
 F.ok S (fun vs H Q E ⟨a,rest,e,l,_⟩=>by rw[e,List.length_cons,l,hp];rfl) fun cdv A outer s H vs Q E hr ⟨a,rest,e,l,ea,ek,en,q⟩=>by
  obtain⟨x,rfl⟩:=List.length_eq_one_iff.mp l
  subst e
  refine⟨_,hbody cdv A outer s H E,?_⟩
  exact⟨x,rfl,.ref a,rfl,a,C,rfl,ea,ek,en k1 (by simp),fun dx h1 h2=>q dx h1 h2⟩
end
section
variable {X:Cx} {f C:Addr} {fd:FuncData} {ps ks:List Str} {x:Str} {p cpos pos:Pos} {e:Expr} {es:List Expr} {t:TA}
def Bm(X:Cx)(C:Addr)(ks:List Str)(t:TA):TS:=fun D σ H=>t σ H fun vs H1=>vs.length=ks.length∧∀pins dx od,H1 dx=none→EX X pins σ (.ref C) (some dx) (upd H1 dx (.frz od (.ext (XD dx (ks.zip vs)))))
theorem vB(F:eh X.prog X.w X.K X.mg X.base qo 1 f fd ps (nh X.K C ks))(hps:ps.length=ks.length+1)(hks:ks.length≤1000)(ek:ExcK X.K C)(en:∀k∈ks,NoAttr X.K C k)(hi:PySem.W.findIn X.K (.ref C) "__init__" = some (some (.ref f)))(hf:PySem.W.isFn X.K (.ref f)=true)(hkp:PySem.W.keepIn X.K (.ref C)=true)
  (hr:Room 2 X.A) (Ks:X.calm=true) (hg:Gl X x) (hm:X.mg x=some (.ref C)) (hb:Binds X.K fd ps []) (ha:PA X (e::es) t)
  (hdb:(x == ("__debug__":Str))=false:=by decide) (he:starEach (e::es) X.env=(false,eval e X.env)::starEach es X.env:=by rfl) (hpl:(backTo cpos (starEach es X.env)).any (·.1)=false:=by rfl) :
  PS X (.Raise (some (.Call (.Name x p) (e::es) [] cpos)) none pos) (Bm X C ks t):=by
 intro pins s σ H D I h
 rw[arm_exec_Raise]
 refine wpAny_bind (wpAny_standAt ?_)
 show wpAny _ _ (raiseStmt X.env (some (do let v ←eval (.Call (.Name x p) (e::es) [] cpos) X.env;standAt pos;pure v)) none) _ _ _
 refine tH (K:=X.K) (C:=C) ek.ok (I.ok.hd Ks) (wpAny_bind ?_)
 refine wpAny_Call_Name_kw (gL I hg hm ?_ hdb)
 refine PySem.W.callWith_K (h₀:=X.base) I.ok.mod.MF hkp (GJ (ha cpos pins s σ H _ I h) fun us s1 ⟨vs,H1,I1,r,hl,q⟩=>⟨I1.Jo,?_⟩) he hpl
 have Nz:us.length=ks.length:=by rw[←r.length];exact hl
 obtain⟨hp,g,d,tk,os⟩:=s1
 have e1:(hp.push (eQ us)).objs.size=hp.objs.size+1:=Heap.size_push _ _
 have Q6:Inv X pins σ H1 ⟨hp.push (eQ us),g,d,tk,os⟩:=I1.kept (t':=tk) fun b o q=>Heap.get?_push_of_some _ q
 have ex:((hp.push (eQ us)).push (eR C hp.objs.size)).get? (hp.objs.size+1)=some (eR C hp.objs.size):=by heap_get
 have I2:Inv X pins σ (upd H1 (hp.objs.size+1) (.ext (XO (hp.objs.size+1) C none))) ⟨(hp.push (eQ us)).push (eR C hp.objs.size),g,d,tk,os⟩:=
  Q6.laid (a:=hp.objs.size+1) (t':=tk) (fun b o q=>Heap.get?_push_of_some _ q) (Nat.le_of_eq e1) (XO.ok ⟨_,_,ex,rfl,rfl,rfl,rfl⟩)
 have n0:H1 (hp.objs.size+1)=none:=I1.hok.fresh (Nat.le_succ _)
 have r2:Vals (V.ref (hp.objs.size+1)::vs) (Value.ref (hp.objs.size+1)::us):=.cons rfl r
 have Lv:(Value.ref (hp.objs.size+1)::us++[]).length=ps.length:=by rw[List.append_nil,List.length_cons,Nz,hps]
 have hb':=hb _ (Value.ref (hp.objs.size+1)::us) I2.Jo Lv
 rw[List.append_nil]at hb'
 refine wpAny_call (vm (f:=f) I1.Jo ek.ok hi (beq_iff_eq.mp hf) (by rw[List.nil_append,Nz];exact Nat.le_of_lt (de hks)) (codeAny_mono (F.run _ X.stack _ _ ⟨Value.ref (hp.objs.size+1)::us,[]⟩ (Value.ref (hp.objs.size+1)::us) _
  (fun v H2=>v = .non∧∃dx,H1 dx=none∧dx≠hp.objs.size+1∧H2=upd (upd (upd H1 (hp.objs.size+1) (.ext (XO (hp.objs.size+1) C none))) (hp.objs.size+1) (.ext (XO (hp.objs.size+1) C (some dx)))) dx (.ext (XD dx (ks.zip vs)))) (fun _ _ _=>False) (hr.make C us [])
  (I2.L_.make C us []) hb' r2 ⟨_,vs,rfl,hl,ay,ek,en,fun dx h1 h2=>⟨rfl,dx,by rw[aw h2]at h1;exact h1,h2,rfl⟩⟩) fun r s' hq'=>?_))
 cases r with
 |error e=>exact hq'.elim
 |ok fl=>
  cases fl with
  |ret u=>
   obtain⟨v,H',I3,rv,ev,dx,d1,d2,rfl⟩:=I2.after hq'
   subst ev
   refine⟨rv,wpAny_bind (wpAny_standAt (wpAny_pure ?_))⟩
   obtain⟨oe,ws,g1,g2,g3,g4,g5⟩:=XO.of (a:=hp.objs.size+1) (C:=C) (d:=some dx) I3.hok (by rw[aw d2.symm,ay])
   have xd:XD dx (ks.zip vs) s'.heap:=XD.of I3.hok ay
   obtain⟨od,hod⟩:∃o,s'.heap.get? dx=some o:=let ⟨_,⟨o,_,_,e,_⟩,_⟩:=xd;⟨o,e⟩
   refine⟨hp.objs.size+1,oe,ws,rfl,I3.Jo,g1,g2,g4,g5,?_⟩
   have I4:Inv X pins σ (upd (upd (upd (upd H1 (hp.objs.size+1) (.ext (XO (hp.objs.size+1) C none))) (hp.objs.size+1) (.ext (XO (hp.objs.size+1) C (some dx)))) dx (.ext (XD dx (ks.zip vs)))) dx (.frz od (.ext (XD dx (ks.zip vs))))) s':=by
    have J:=I3.write (x:=dx) (e:=dx) (o:=.frz od (.ext (XD dx (ks.zip vs)))) (h':=s'.heap) (t':=s'.toks) (by rw[ay];exact True.intro) (.inl rfl) (fun _ _ _ z=>z) ⟨od,hod⟩ ⟨hod,xd.ok⟩
    exact J
   have I5:Inv X pins σ (upd H1 dx (.frz od (.ext (XD dx (ks.zip vs))))) s':=I4.forget (D:=hp.objs.size+1) (φ:=XO (hp.objs.size+1) C (some dx)) (by rw[xM,aw d2.symm,ay]) (by rw[aw d2.symm];exact n0) fun b hb=>by
    by_cases z:b=dx
    ·rw[z,ay,ay]
    ·rw[aw z,aw z,aw z,aw hb,aw hb]
   refine q pins dx od d1 s' _ C dx rfl rfl I5 ⟨oe,ws,⟨g1,g4,.inl g5⟩,g2,g3,I1.IS (Nat.le_succ _) (by rw[aw d2.symm];exact n0),fun T z=>?_⟩
   rw[g5]at z
   cases z
  |next=>exact hq'.elim
  |brk=>exact hq'.elim
  |cont=>exact hq'.elim
end
noncomputable abbrev Cx.tr(X:Cx)(E:Value→Shared→Prop)(pins:List (Addr×Obj)):Cx:={ X with xe:=E,pn:=X.pn++pins }
noncomputable abbrev Cx.Kr(X:Cx)(a:Addr):Cx:={ X with A:=X.A.mark (some (.ref a)),calm:=false,xe:=fun _ _=>False }
section
variable {X:Cx} {pins pins':List (Addr×Obj)} {σ:St} {H H':Hp} {s s':Shared} {E:Value→Shared→Prop}
theorem Cx.Ok.tr(ok:X.Ok):(X.tr E pins).Ok:=⟨ok.mod,ok.kind,ok.glob,ok.blt,ok.above,ok.inj,ok.has,ok.LQ,ok.hd,ok.frames,ok.stk,ok.MG,ok.bs,ok.KU,ok.J5,ok.J_,ok.Ix,ok.Ln⟩
theorem Cx.Ok.JF(ok:(X.tr E pins).Ok):X.Ok:=⟨ok.mod,ok.kind,ok.glob,ok.blt,ok.above,ok.inj,ok.has,ok.LQ,ok.hd,ok.frames,ok.stk,ok.MG,ok.bs,ok.KU,ok.J5,ok.J_,ok.Ix,ok.Ln⟩
theorem Cx.Ok.Kr{a:Addr}(ok:X.Ok):(X.Kr a).Ok:=⟨ok.mod,ok.kind,ok.glob,ok.blt,ok.above,ok.inj,ok.has,ok.LQ,fun z=>absurd (show false=true from z) (by decide),ok.frames,ok.stk,ok.MG,ok.bs,ok.KU,ok.J5,ok.J_,ok.Ix,ok.Ln⟩
theorem Cx.Ok.MP{a:Addr}(hc:X.calm=true→X.A.handled=none)(ok:(X.Kr a).Ok):X.Ok:=⟨ok.mod,ok.kind,ok.glob,ok.blt,ok.above,ok.inj,ok.has,ok.LQ,hc,ok.frames,ok.stk,ok.MG,ok.bs,ok.KU,ok.J5,ok.J_,ok.Ix,ok.Ln⟩
theorem Inv.tr(I:Inv X pins σ H s):Inv (X.tr E pins) [] σ H s:=⟨I.ok.tr,I.os,I.bare,I.base,I.loc,I.cell,I.free,I.Hu,fun p hp=>I.pin p (by simpa using hp),I.hok,I.len⟩
theorem Inv.JF(I:Inv (X.tr E pins) pins' σ H s):Inv X pins σ H s:=⟨I.ok.JF,I.os,I.bare,I.base,I.loc,I.cell,I.free,I.Hu,fun p hp=>I.pin p (List.mem_append_left _ hp),I.hok,I.len⟩
theorem Inv.Kr{a:Addr}(I:Inv X pins σ H s):Inv (X.Kr a) pins σ H s:=⟨I.ok.Kr,I.os,I.bare,I.base,I.loc,I.cell,I.free,I.Hu,I.pin,I.hok,I.len⟩
theorem Inv.MP{a:Addr}(hc:X.calm=true→X.A.handled=none)(I:Inv (X.Kr a) pins σ H s):Inv X pins σ H s:=⟨I.ok.MP hc,I.os,I.bare,I.base,I.loc,I.cell,I.free,I.Hu,I.pin,I.hok,I.len⟩
theorem Hg.JF{b:Addr}(f:Hg (X.tr E pins) pins' H b):Hg X pins H b:=⟨f.1,f.2.1,f.2.2.1,f.2.2.2.1,f.2.2.2.2.1,fun p hp=>f.2.2.2.2.2 p (List.mem_append_left _ hp)⟩
theorem SP.JF{D:kj}{f:Flow}(h:SP (X.tr E pins) [] D f s'):SP X pins D f s':=by
 cases f with
 |next=>obtain⟨a,b,I,q⟩:=h;exact⟨a,b,I.JF,q⟩
 |brk=>obtain⟨a,b,I,q⟩:=h;exact⟨a,b,I.JF,q⟩
 |cont=>obtain⟨a,b,I,q⟩:=h;exact⟨a,b,I.JF,q⟩
 |ret v=>obtain⟨v,a,b,I,r,q⟩:=h;exact⟨v,a,b,I.JF,r,q⟩
theorem tK{A:Around}{E:Value→Shared→Prop}{i:Nat}{n:Str}{pos:Pos}{Q:Unit→Shared→Prop}(I:Inv X pins σ H s)(hN:X.N.Nodup)(hi:X.N[i]?=some n)(hk:X.env.scope.names.lookup n=some .local)(h:∀s',Inv X pins (σ.set i none) H s'→Q () s') :
  wpAny (model X.prog X.w) A (do bindName X.env n .none;unbindBehindTheSuite X.env n pos) Q E s:=by
 obtain⟨m,hn,hl⟩:=id I.loc
 have hcls:(X.env.scope.kind == .class || (X.env.scope.kind == .module&&X.env.locals != X.env.globals))=false:=by rw[I.ok.kind];rfl
 have Lp:=I.Lp
 refine wpAny_nameGoes_keeps hk hn hcls fun h' v hn' hs=>h _ ?_
 have OW:∀b o,X.s₀.heap.get? b=some o→b≠X.env.locals:=fun b o e=>Nat.ne_of_lt (Nat.lt_of_lt_of_le (Heap.lt_size e) I.ok.above)
 refine⟨I.ok,I.os,I.bare,⟨fun b o e n hb hx=>(hs.2 b (OW b o e)).trans (I.base.keep b o e n hb hx),fun b o e n hb hx=>?_,I.base.free,fun b o e hx=>?_,I.base.tups,I.base.Jn,I.base.JD⟩,⟨_,hn',fun j y v' e1 e2 e3=>?_⟩,fun y c e=>?_,I.free,I.Hu,fun p hp=>?_,fun b ob e=>?_,by simpa using I.len⟩
 ·obtain⟨sl,e1⟩:=I.base.slot b o e n hb hx
  exact⟨sl,(hs.2 b (OW b o e)).trans e1⟩
 ·obtain⟨o',e1⟩:=I.base.there b o e hx
  exact⟨o',(hs.2 b (OW b o e)).trans e1⟩
 ·by_cases hj:j=i
  ·subst hj
   rw[List.getElem?_set]at e2
   split at e2
   ·split at e2
    ·cases e2
    ·cases e2
   ·rename_i z;exact absurd rfl z
  ·rw[List.getElem?_set_ne (Ne.symm hj)]at e2
   obtain⟨u',r',q⟩:=hl j y v' e1 e2 e3
   refine⟨u',r',?_⟩
   rcases q with⟨k,e⟩|⟨k,c,e,z⟩
   ·refine .inl ⟨k,?_⟩
    have:y≠n:=fun e=>hj (kG hN e1 (e▸hi))
    simp[this,e]
   ·exact .inr ⟨k,c,e,z.sameBut hs (Lp y c e)⟩
 ·obtain⟨w',z⟩:=I.cell y c e
  exact⟨w',z.sameBut hs (Lp y c e)⟩
 ·obtain⟨e,n,ne,nf,d⟩:=I.pin p hp
  exact⟨(hs.2 p.1 ne).trans e,n,ne,nf,d⟩
 ·refine(I.hok b ob e).stay (fun c w' hc q=>(hs.2 c ?_).trans q) (fun _ q=>q) fun _ _ q=>q
  rintro rfl
  rcases hc with rfl|hc
  ·rw[I.free]at e;cases e
  ·rw[I.free]at hc;cases hc
end
structure Bn (K:PySem.W.Frag) (Dc:Addr):Prop where
 ty:PySem.W.typeIn K (.ref Dc)=some (.type "type")
 cl:(PySem.W.clsIn K Dc).isSome=true
 be:PySem.W.mroIn K Dc (.type "BaseException")=some true
noncomputable abbrev vC(D:kj)(i:Nat):kj:={ nx:=fun σ H=>D.nx (σ.set i none) H,rt:=D.rt,bk:=fun σ H=>D.bk (σ.set i none) H,ct:=fun σ H=>D.ct (σ.set i none) H }
section
variable {X:Cx} {pins pins':List (Addr×Obj)} {σ:St} {H:Hp} {s':Shared} {E:Value→Shared→Prop} {a C dx Dc:Addr} {i:Nat} {n x:Str} {np hpos:Pos} {b₀:Stmt} {suite:List Stmt} {th:Addr→TS} {D:kj}
theorem Bo(hst:X.stack=X.env::X.outer)(Lw:X.env.frame=some X.env.locals)(hN:X.N.Nodup)(hi:X.N[i]?=some n)(hk:X.env.scope.names.lookup n=some .local)(hg:Gl X x)(hm:X.mg x=some (.ref Dc))(hD:Bn X.K Dc)
  (hs:∀a,J4 (X.Kr a) (b₀::suite) (th a)) (I:Inv (X.tr E pins) pins' σ H s') (xa:Cs (X.tr E pins) pins' H s'.heap a C dx) (hb:PySem.W.mroIn X.K C (.ref Dc)=some true)
  (q:∀oe:Obj,oe.cls = .ref C→oe.dict=some dx→(∀c,oe.data ≠ .cls c)→th a (vC D i) (σ.set i (some (.ref a))) (upd H a (.frz oe (.ext fun _=>True))))
  (hdb:(x == ("__debug__":Str))=false:=by decide) :
  wpAny (model X.prog X.w) X.A (noteFrame (.ref a) X.env) (fun _ s₂=>wpAny (model X.prog X.w) X.A (setFlight (.ref a) none) (fun _ s₃=>wpAny (model X.prog X.w) X.A (handleBy (.ref a) X.env [.ExceptHandler (some (.Name x np)) (some n) (b₀::suite) hpos]) (SP X pins D) X.xe s₃) X.xe s₂) X.xe s':=by
 have I0:Inv X pins σ H s':=I.JF
 obtain⟨oe,vs,lx,hc,hd,fa,fT⟩:=xa
 have hfr:X.A.frames=some (X.env::X.outer):=by rw[←hst];exact I0.ok.frames
 refine r_ (base:=X.base) hfr (by rw[←hst];exact I0.stack) Lw lx fun h' nt=>?_
 obtain⟨I2,Ny,JE,Md,hc2,hd2,Oh,Oi⟩:=I0.noted (h':=h') (by rw[hst];exact nt) lx hc hd fa.JF fun T z=>(fT T z).JF
 refine PySem.wpAny_handleBy_cons (codeAny_handlers_test ?_) (by intro q;cases q)
 have IH:=I2.Kr (a:=a)
 refine gL (X:=X.Kr a) IH hg hm ?_ hdb
 refine oY IH.Jo Md.at_ hc2 hb hD.ty hD.cl hD.be ?_
 refine codeAny_handlers_suite_as ?_
 -- the flight is none already
 have flight:∀{Q:Unit→Shared→Prop} {E:Value→Shared→Prop},(∀h3,Inv (X.Kr a) pins σ H { s' with heap:=h3 }→h3.get? a=some Ny→Q () { s' with heap:=h3 })→wpAny (model X.prog X.w) (X.Kr a).A (setFlight (.ref a) none) Q E { s' with heap:=h' }:=by
  intro Q E hQ
  rcases Md.tb with t1|⟨T,oT,ts,t1,t2,t3,t4,t5⟩
  ·unfold setFlight
   refine wpAny_bind (wpAny_field Md.at_ Md.dat t1 ?_)
   rw[if_neg (by decide)]
   exact wpAny_pure (hQ _ IH Md.at_)
  ·have NA:=Oi T t1
   refine wpAny_setFlight_none Md.at_ Md.dat t1 t3 t4 (Array.getElem?_eq_some_iff.mp t5).1 (hQ _ ?_ ((Heap.get?_update_other _ _ t2).trans Md.at_))
   exact Inv.turned (s:={ s' with heap:=h' }) IH (t':=s'.toks) (it:=T) (fun b o hb e=>(Heap.get?_update_other _ _ (Ne.symm hb)).trans e) NA.1 NA.2.1 NA.2.2.2.1 NA.2.2.2.2.1 NA.2.2.2.2.2
 refine flight fun h3 I3 ga=>?_
 have f3:Hg (X.Kr a) pins H a:=Oh
 have I4:Inv (X.Kr a) pins σ (upd H a (.frz Ny (.ext fun _=>True))) { s' with heap:=h3 }:=I3.Lu f3 ⟨ga,True.intro,⟨_,ga⟩,fun _ _ _ _=>True.intro⟩
 refine jm (X:=X.Kr a) I4 hN hi (.inl hk) (v:=.ref a) rfl (fun s5 I5 _=>?_) (.inr hk)
 refine wpAny_mono (hs a pins s5 _ _ (vC D i) I5 (q Ny hc2 hd2 fun c z=>by rw[Md.dat]at z;cases z)) (fun f s6 hf=>?_) fun _ _ z=>False.elim z
 have fin:∀{σ6:St} {H6:Hp} {Q:Unit→Shared→Prop},Inv (X.Kr a) pins σ6 H6 s6→(∀s7,Inv X pins (σ6.set i none) H6 s7→Q () s7)→wpAny (model X.prog X.w) X.A (do bindName X.env n .none;unbindBehindTheSuite X.env n hpos) Q X.xe s6:=fun I6 hq=>
  tK (I6.MP I0.ok.hd) hN hi hk fun s7 I7=>hq s7 I7
 cases f with
 |next=>obtain⟨σ6,H6,I6,q6⟩:=hf;exact fin I6 fun s7 I7=>⟨_,_,I7,q6⟩
 |brk=>obtain⟨σ6,H6,I6,q6⟩:=hf;exact fin I6 fun s7 I7=>⟨_,_,I7,q6⟩
 |cont=>obtain⟨σ6,H6,I6,q6⟩:=hf;exact fin I6 fun s7 I7=>⟨_,_,I7,q6⟩
 |ret u=>obtain⟨v6,σ6,H6,I6,r6,q6⟩:=hf;exact fin I6 fun s7 I7=>⟨_,_,_,I7,r6,q6⟩
end
noncomputable def tryXe(X:Cx)(pins:List (Addr×Obj))(D:kj)(hs:List ExceptHandler):Value→Shared→Prop:=fun e s₁=>
 wpAny (model X.prog X.w) X.A (noteFrame e X.env) (fun _ s₂=>wpAny (model X.prog X.w) X.A (setFlight e none) (fun _ s₃=>wpAny (model X.prog X.w) X.A (handleBy e X.env hs) (SP X pins D) X.xe s₃) X.xe s₂) X.xe s₁
theorem tryXe.passes{X:Cx}{pins:List (Addr×Obj)}{D:kj}{hs:List ExceptHandler}:PassesOwn (model X.prog X.w) X.A X.env (tryXe X pins D hs):=PassesOwn.looking
theorem Bp{X:Cx}{h₀:ExceptHandler}{body:List Stmt}{pos:Pos}{tb:(E:Value→Shared→Prop)→List (Addr×Obj)→TS}
  (hb:∀E pins,PassesOwn (model X.prog X.w) X.A X.env E→J4 (X.tr E pins) body (tb E pins)) :
  PS X (.Try body [h₀] [] [] pos) (fun D σ H=>∀pins,tb (tryXe X pins D [h₀]) pins D σ H):=by
 intro pins s σ H D I h
 refine wpAny_Try_except ?_
 refine wpAny_mono (hb (tryXe X pins D [h₀]) pins tryXe.passes [] s σ H D I.tr (h pins)) (fun f s1 q=>?_) fun e s1 q=>q
 have q':=SP.JF q
 cases f with
 |next=>exact wpAny_execs_nil q'
 |ret v=>exact q'
 |brk=>exact q'
 |cont=>exact q'
end L2
namespace L3
open PySem L2
inductive PV where
 |non|bl (b:Bool)|int (i:Int)|str (x:Str)|tup (xs:List PV)|cl (xs:List PV)|ref (a:Addr)|ty (n:String)|exc (c:Str) (ks:List Str) (ps:List PV)|cls (c:Str)
def Nc(K:PySem.W.Frag)(H:Hp)(a:Addr)(xs:List V):Prop:=
 (∃o,H a=some (.frz o (.lst xs))) ∨
  ∃(o:Obj) (its:Array Value) (n:Nat),K.lookup a=some o∧o.cls = .type "list"∧o.dict=none∧o.data = .seq its n∧its.size≤sizeLine∧Vals xs its.toList
theorem Nc.sq{K:PySem.W.Frag}{H:Hp}{a:Addr}{xs:List V}(h:Nc K H a xs):SqL K H a xs:=h.elim (fun z=>.inl (.inr z)) .inr
def NB(H:Hp)(a C:Addr)(ks:List Str)(vs:List V):Prop:=
 ∃oe dx od,H a=some (.frz oe (.ext fun _=>True))∧oe.cls = .ref C∧oe.dict=some dx∧(∀c,oe.data ≠ .cls c)∧H dx=some (.frz od (.ext (XD dx (ks.zip vs))))
def G1(K:PySem.W.Frag)(c:Str)(C:Addr):Prop:=PySem.W.nsIn K mainGlobals c=some (some (.ref C))
mutual
inductive Rep (K:PySem.W.Frag) (H:Hp):V→PV→Prop
 |non:Rep K H .non .non
 |bl (b:Bool):Rep K H (.bl b) (.bl b)
 |int (i:Int):Rep K H (.int i) (.int i)
 |str (x:Str):Rep K H (.str x) (.str x)
 |ty (n:String):Rep K H (.ty n) (.ty n)
 |ref (a:Addr):Rep K H (.ref a) (.ref a)
 |tup {a:Addr} {vs:List V} {ps:List PV}:G3 K H a vs→Reps K H vs ps→Rep K H (.ref a) (.tup ps)
 |cl {a:Addr} {vs:List V} {ps:List PV}:Nc K H a vs→Reps K H vs ps→Rep K H (.ref a) (.cl ps)
 |exc {a C:Addr} {c:Str} {ks:List Str} {vs:List V} {ps:List PV}:G1 K c C→NB H a C ks vs→Reps K H vs ps→Rep K H (.ref a) (.exc c ks ps)
 |cls {C:Addr} {c:Str}:G1 K c C→Rep K H (.ref C) (.cls c)
inductive Reps (K:PySem.W.Frag) (H:Hp):List V→List PV→Prop
 |nil:Reps K H [] []
 |cons {v:V} {p:PV} {vs:List V} {ps:List PV}:Rep K H v p→Reps K H vs ps→Reps K H (v::vs) (p::ps)
end
structure Grow (K:PySem.W.Frag) (H H':Hp):Prop where
 t:∀a vs,G3 K H a vs→G3 K H' a vs
 c:∀a vs,Nc K H a vs→Nc K H' a vs
 x:∀a o u,H a=some (.frz o u)→H' a=some (.frz o u)
theorem Grow.refl{K:PySem.W.Frag}{H:Hp}:Grow K H H:=⟨fun _ _ h=>h,fun _ _ h=>h,fun _ _ _ h=>h⟩
theorem Grow.trans{K:PySem.W.Frag}{H H1 H2:Hp}(a:Grow K H H1)(b:Grow K H1 H2):Grow K H H2:=⟨fun x vs h=>b.t x vs (a.t x vs h),fun x vs h=>b.c x vs (a.c x vs h),fun x o u h=>b.x x o u (a.x x o u h)⟩
theorem NB.mono{K:PySem.W.Frag}{H H':Hp}(g:Grow K H H'){a C:Addr}{ks:List Str}{vs:List V}(h:NB H a C ks vs):NB H' a C ks vs:=let ⟨oe,dx,od,h1,h2,h3,h4,h5⟩:=h;⟨oe,dx,od,g.x _ _ _ h1,h2,h3,h4,g.x _ _ _ h5⟩
theorem Grow.of{K:PySem.W.Frag}{H H':Hp}(h:∀a xs,H a=some (.tup xs)→H' a=some (.tup xs))(h2:∀a o u,H a=some (.frz o u)→H' a=some (.frz o u)):Grow K H H':=by
 refine⟨fun a vs q=>?_,fun a vs q=>?_,h2⟩
 ·rcases q with(q|⟨o,q⟩)|q
  ·exact .inl (.inl (h a vs q))
  ·exact .inl (.inr ⟨o,h2 a o _ q⟩)
  ·exact .inr q
 ·rcases q with⟨o,q⟩|q
  ·exact .inl ⟨o,h2 a o _ q⟩
  ·exact .inr q
theorem Grow.same{K:PySem.W.Frag}{H H':Hp}(h:∀c o,H c=some o→H' c=some o):Grow K H H':=.of (fun a _ q=>h a _ q) (fun a _ _ q=>h a _ q)
theorem Grow.new{K:PySem.W.Frag}{H:Hp}{p:Addr}{o:HO}(h:H p=none):Grow K H (upd H p o):=.same fun c u q=>by rw[aw (aT q h)];exact q
noncomputable def Mu:HO→Prop
 | .tup _=>False
 | .frz _ _=>False
 |_=>True
theorem Grow.mut{K:PySem.W.Frag}{H:Hp}{p:Addr}{o u:HO}(h:H p=some u)(m:Mu u):Grow K H (upd H p o):=
 .of (fun a xs q=>by rw[aw (fun e=>by subst e;rw[h]at q;cases q;exact m)];exact q) (fun a _ _ q=>by rw[aw (fun e=>by subst e;rw[h]at q;cases q;exact m)];exact q)
mutual
theorem Rep.mono{K:PySem.W.Frag}{H H':Hp}(g:Grow K H H'):∀{v:V} {p:PV},Rep K H v p→Rep K H' v p
 |_,_,.non=>.non
 |_,_,.bl b=>.bl b
 |_,_,.int i=>.int i
 |_,_,.str x=>.str x
 |_,_,.ty n=>.ty n
 |_,_,.ref a=>.ref a
 |_,_,.tup h r=>.tup (g.t _ _ h) (Reps.mono g r)
 |_,_,.cl h r=>.cl (g.c _ _ h) (Reps.mono g r)
 |_,_,.exc n h r=>.exc n (h.mono g) (Reps.mono g r)
 |_,_,.cls n=>.cls n
theorem Reps.mono{K:PySem.W.Frag}{H H':Hp}(g:Grow K H H'):∀{vs:List V} {ps:List PV},Reps K H vs ps→Reps K H' vs ps
 |_,_,.nil=>.nil
 |_,_,.cons a r=>.cons (Rep.mono g a) (Reps.mono g r)
end
theorem Reps.length{K:PySem.W.Frag}{H:Hp}:∀{vs:List V} {ps:List PV},Reps K H vs ps→vs.length=ps.length
 |_,_,.nil=>rfl
 |_,_,.cons _ r=>by rw[List.length_cons,List.length_cons,Reps.length r]
theorem Reps.append{K:PySem.W.Frag}{H:Hp}:∀{vs us:List V} {ps qs:List PV},Reps K H vs ps→Reps K H us qs→Reps K H (vs++us) (ps++qs)
 |_,_,_,_,.nil,s=>s
 |_,_,_,_,.cons a r,s=>.cons a (Reps.append r s)
theorem Reps.get{K:PySem.W.Frag}{H:Hp}:∀{vs:List V} {ps:List PV} {i:Nat} {p:PV},Reps K H vs ps→ps[i]?=some p→∃v,vs[i]?=some v∧Rep K H v p
 |_,_,_,_,.nil,e=>by simp at e
 |_,_,0,_,.cons a r,e=>by simp at e;subst e;exact⟨_,rfl,a⟩
 |_,_,i+1,p,.cons a r,e=>by
  obtain⟨v,h1,h2⟩:=Reps.get (i:=i) (p:=p) r (by simpa using e)
  exact⟨v,by simpa using h1,h2⟩
theorem Reps.take{K:PySem.W.Frag}{H:Hp}:∀{vs:List V} {ps:List PV} (n:Nat),Reps K H vs ps→Reps K H (vs.take n) (ps.take n)
 |_,_,0,_=>.nil
 |_,_,_+1,.nil=>.nil
 |_,_,n+1,.cons a r=>.cons a (Reps.take n r)
theorem Reps.drop{K:PySem.W.Frag}{H:Hp}:∀{vs:List V} {ps:List PV} (n:Nat),Reps K H vs ps→Reps K H (vs.drop n) (ps.drop n)
 |_,_,0,r=>r
 |_,_,_+1,.nil=>.nil
 |_,_,n+1,.cons _ r=>Reps.drop n r
theorem Reps.set{K:PySem.W.Frag}{H:Hp}{v:V}{p:PV}(q:Rep K H v p):∀{vs:List V} {ps:List PV} (n:Nat),Reps K H vs ps→Reps K H (vs.set n v) (ps.set n p)
 |_,_,_,.nil=>.nil
 |_,_,0,.cons _ r=>.cons q r
 |_,_,n+1,.cons a r=>.cons a (Reps.set q n r)
theorem Reps.eraseIdx{K:PySem.W.Frag}{H:Hp}:∀{vs:List V} {ps:List PV} (n:Nat),Reps K H vs ps→Reps K H (vs.eraseIdx n) (ps.eraseIdx n)
 |_,_,_,.nil=>.nil
 |_,_,0,.cons _ r=>r
 |_,_,n+1,.cons a r=>.cons a (Reps.eraseIdx n r)
theorem Reps.reverse{K:PySem.W.Frag}{H:Hp}:∀{vs:List V} {ps:List PV},Reps K H vs ps→Reps K H vs.reverse ps.reverse
 |_,_,.nil=>.nil
 |_,_,.cons a r=>by rw[List.reverse_cons,List.reverse_cons];exact(Reps.reverse r).append (.cons a .nil)
theorem Reps.dropLast{K:PySem.W.Frag}{H:Hp}{vs:List V}{ps:List PV}(r:Reps K H vs ps):Reps K H vs.dropLast ps.dropLast:=by
 rw[List.dropLast_eq_take,List.dropLast_eq_take,r.length]
 exact r.take _
inductive SO where
 |lst (xs:List PV)
 |dct (kvs:List (bG×PV))
 |ins (c:Str) (fs:List (Str×PV))
abbrev av:=Addr→Option SO
noncomputable def GE(S:av)(a:Addr)(o:SO):av:=fun b=>if b=a then some o else S b
theorem aa{S:av}{a:Addr}{o:SO}:GE S a o a=some o:=by unfold GE;rw[if_pos rfl]
theorem ai{S:av}{a b:Addr}{o:SO}(h:b≠a):GE S a o b=S b:=by unfold GE;rw[if_neg h]
theorem mr{S:av}{a:Addr}{o u:SO}:GE (GE S a o) a u=GE S a u:=by
 funext b;unfold GE;split<;>rfl
inductive GO (K:PySem.W.Frag) (H:Hp) {κ:Type}:List (κ×V)→List (κ×PV)→Prop
 |nil:GO K H [] []
 |cons {k:κ} {v:V} {p:PV} {vs:List (κ×V)} {ps:List (κ×PV)}:Rep K H v p→GO K H vs ps→GO K H ((k,v)::vs) ((k,p)::ps)
theorem GO.mono{K:PySem.W.Frag}{H H':Hp}(g:Grow K H H'){κ:Type}:∀{vs:List (κ×V)} {ps:List (κ×PV)},GO K H vs ps→GO K H' vs ps
 |_,_,.nil=>.nil
 |_,_,.cons a r=>.cons (a.mono g) (GO.mono g r)
theorem GO.length{K:PySem.W.Frag}{H:Hp}{κ:Type}:∀{vs:List (κ×V)} {ps:List (κ×PV)},GO K H vs ps→vs.length=ps.length
 |_,_,.nil=>rfl
 |_,_,.cons _ r=>by rw[List.length_cons,List.length_cons,GO.length r]
noncomputable def Kc(K:PySem.W.Frag)(H:Hp)(a:Addr):SO→Prop
 | .lst xs=>∃vs,H a=some (.lst vs)∧Reps K H vs xs
 | .dct kvs=>∃kv,H a=some (.dK kv)∧GO K H kv kvs
 | .ins c fs=>∃C dx f',G1 K c C∧H a=some (.ins C dx f')∧GO K H f' fs
theorem Kc.stay{K:PySem.W.Frag}{H H':Hp}(g:Grow K H H'){a:Addr}(e:H' a=H a):∀{o:SO},Kc K H a o→Kc K H' a o
 | .lst _,⟨vs,h,r⟩=>⟨vs,e.trans h,r.mono g⟩
 | .dct _,⟨vs,h,r⟩=>⟨vs,e.trans h,r.mono g⟩
 | .ins _ _,⟨C,dx,vs,n,h,r⟩=>⟨C,dx,vs,n,e.trans h,r.mono g⟩
theorem Kc.some{K:PySem.W.Frag}{H:Hp}{a:Addr}:∀{o:SO},Kc K H a o→∃u,H a=Option.some u∧Mu u
 | .lst _,⟨_,h,_⟩=>⟨_,h,trivial⟩
 | .dct _,⟨_,h,_⟩=>⟨_,h,trivial⟩
 | .ins _ _,⟨_,_,_,_,h,_⟩=>⟨_,h,trivial⟩
def GI(K:PySem.W.Frag)(H:Hp)(S:av):Prop:=∀a o,S a=some o→Kc K H a o
theorem GI.free{K:PySem.W.Frag}{H:Hp}{S:av}(r:GI K H S){p:Addr}(h:H p=none):S p=none:=by
 cases e:S p with
 |none=>rfl
 |some o=>
  obtain⟨u,q,_⟩:=(r p o e).some
  rw[h]at q;cases q
theorem GI.grow{K:PySem.W.Frag}{H H':Hp}{S:av}(r:GI K H S)(h:∀c o,H c=some o→H' c=some o):GI K H' S:=fun a o e=>by
 obtain⟨u,q,_⟩:=(r a o e).some
 exact(r a o e).stay (.same h) ((h a u q).trans q.symm)
theorem GI.other{K:PySem.W.Frag}{H:Hp}{S:av}(r:GI K H S){p:Addr}{o:HO}(h:H p=none):GI K (upd H p o) S:=r.grow fun c u q=>by rw[aw (aT q h)];exact q
theorem GI.new{K:PySem.W.Frag}{H:Hp}{S:av}(r:GI K H S){p:Addr}{u:HO}{o:SO}(h:H p=none)(q:Kc K (upd H p u) p o):GI K (upd H p u) (GE S p o):=fun a x e=>by
 by_cases z:a=p
 ·subst z;rw[aa]at e;cases e;exact q
 ·rw[ai z]at e;exact(r a x e).stay (.new h) (aw z)
theorem GI.put{K:PySem.W.Frag}{H:Hp}{S:av}(r:GI K H S){p:Addr}{u0 u:HO}{o:SO}(h:H p=some u0)(m:Mu u0)(q:Kc K (upd H p u) p o):GI K (upd H p u) (GE S p o):=fun a x e=>by
 by_cases z:a=p
 ·subst z;rw[aa]at e;cases e;exact q
 ·rw[ai z]at e;exact(r a x e).stay (.mut h m) (aw z)
abbrev b9:=List (Option PV)
noncomputable def lk:b9→Nat→Option PV
 |[],_=>none
 |x::_,0=>x
 |_::r,i+1=>lk r i
theorem vD{σ:b9}{i:Nat}{p:PV}(h:lk σ i=some p):σ[i]?=some (some p):=by
 induction σ generalizing i with
 |nil=>cases h
 |cons x r ih=>
  cases i with
  |zero=>exact congrArg some h
  |succ i=>exact ih h
structure GM (K:PySem.W.Frag) (H:Hp) (σ:St) (σ3:b9):Prop where
 len:σ.length=σ3.length
 at':∀(i:Nat) (p:PV),σ3[i]?=some (some p)→∃v,σ[i]?=some (some v)∧Rep K H v p
theorem GM.mono{K:PySem.W.Frag}{H H':Hp}{σ:St}{σ3:b9}(r:GM K H σ σ3)(g:Grow K H H'):GM K H' σ σ3:=⟨r.len,fun i p e=>let ⟨v,h,q⟩:=r.at' i p e;⟨v,h,q.mono g⟩⟩
theorem GM.set{K:PySem.W.Frag}{H:Hp}{σ:St}{σ3:b9}(r:GM K H σ σ3){v:V}{p:PV}(q:Rep K H v p)(i:Nat):GM K H (σ.set i (some v)) (σ3.set i (some p)):=by
 refine⟨by rw[List.length_set,List.length_set,r.len],fun j x e=>?_⟩
 rw[List.getElem?_set]at e ⊢
 split at e
 ·rename_i hij
  rw[if_pos hij]
  subst hij
  split at e
  ·rename_i hl
   cases e
   rw[if_pos (by rw[r.len];exact hl)]
   exact⟨v,rfl,q⟩
  ·cases e
 ·rename_i hij
  rw[if_neg hij]
  exact r.at' j x e
abbrev bN:=PV→av→Prop
abbrev bO:=PV→b9→av→Prop
abbrev aL:=b9→av→bN→bO→Prop
abbrev iG:=b9→av→(Bool→av→Prop)→bO→Prop
abbrev Fc:=b9→av→(List PV→av→Prop)→bO→Prop
abbrev FK:=PV→b9→av→(b9→av→Prop)→bO→Prop
structure iH where
 nx:b9→av→Prop
 rt:bN
 ex:bO
 bk:b9→av→Prop:=fun _ _=>False
 ct:b9→av→Prop:=fun _ _=>False
abbrev bj:=iH→b9→av→Prop
def KZ(X:Cx)(H:Hp)(E:bO):Prop:=∀(c:Str) (ks:List Str) (ps:List PV) (σ3:b9) (S':av) (H':Hp) (pins:List (Addr×Obj)) (σ:St) (s':Shared) (a C dx:Addr) (od:Obj) (vs:List V),E (.exc c ks ps) σ3 S'→G1 X.K c C→vs.length=ks.length→
 H' dx=some (.frz od (.ext (XD dx (ks.zip vs))))→Reps X.K H' vs ps→GI X.K H' S'→GM X.K H' σ σ3→Grow X.K H H'→Inv X pins σ H' s'→Cs X pins H' s'.heap a C dx→X.xe (.ref a) s'
theorem KZ.mono{X:Cx}{H H':Hp}{E:bO}(x:KZ X H E)(g:Grow X.K H H'):KZ X H' E:=fun c ks ps σ3 S' H2 pins σ s' a C dx od vs h1 h2 h3 h4 h5 h6 h7 h8 h9 Q7=>x c ks ps σ3 S' H2 pins σ s' a C dx od vs h1 h2 h3 h4 h5 h6 h7 (g.trans h8) h9 Q7
def Le(K:PySem.W.Frag)(H:Hp)(Q3:bN)(Q:VK):Prop:=∀p S' v H',Q3 p S'→Rep K H' v p→GI K H' S'→Grow K H H'→Q v H'
theorem Le.mono{K:PySem.W.Frag}{H H':Hp}{Q3:bN}{Q:VK}(r:Le K H Q3 Q)(g:Grow K H H'):Le K H' Q3 Q:=fun p S' v H2 h1 h2 h3 h4=>r p S' v H2 h1 h2 h3 (g.trans h4)
def LW(K:PySem.W.Frag)(H:Hp)(N3:b9→av→Prop)(N:St→Hp→Prop):Prop:=∀σ3 S' σ H',N3 σ3 S'→GM K H' σ σ3→GI K H' S'→Grow K H H'→N σ H'
theorem LW.mono{K:PySem.W.Frag}{H H':Hp}{Q3:b9→av→Prop}{Q:St→Hp→Prop}(r:LW K H Q3 Q)(g:Grow K H H'):LW K H' Q3 Q:=fun p S' v H2 h1 h2 h3 h4=>r p S' v H2 h1 h2 h3 (g.trans h4)
def LE(X:Cx)(t:aL):TE:=fun σ H Q=>∃σ3 S Q3 E3,GM X.K H σ σ3∧GI X.K H S∧t σ3 S Q3 E3∧KZ X H E3∧Le X.K H Q3 Q
def LT(X:Cx)(t:iG):TT:=fun σ H Q=>∃σ3 S Q3 E3,GM X.K H σ σ3∧GI X.K H S∧t σ3 S Q3 E3∧KZ X H E3∧∀b S' H',Q3 b S'→GI X.K H' S'→Grow X.K H H'→Q b H'
def LA(X:Cx)(t:Fc):TA:=fun σ H Q=>∃σ3 S Q3 E3,GM X.K H σ σ3∧GI X.K H S∧t σ3 S Q3 E3∧KZ X H E3∧∀ps S' vs H',Q3 ps S'→Reps X.K H' vs ps→GI X.K H' S'→Grow X.K H H'→Q vs H'
def LG(X:Cx)(t:FK):TG:=fun v σ H Q=>∃p σ3 S Q3 E3,Rep X.K H v p∧GM X.K H σ σ3∧GI X.K H S∧t p σ3 S Q3 E3∧KZ X H E3∧LW X.K H Q3 Q
def LS(X:Cx)(t:bj):TS:=fun D σ H=>∃σ3 S D3,GM X.K H σ σ3∧GI X.K H S∧t D3 σ3 S∧KZ X H D3.ex∧LW X.K H D3.nx D.nx∧Le X.K H D3.rt D.rt∧LW X.K H D3.bk D.bk∧LW X.K H D3.ct D.ct
structure bf (X:Cx) (e:Expr) (t:aL):Prop where
 ok:PE X e (LE X t)
structure qp (X:Cx) (e:Expr) (t:iG):Prop where
 ok:PT X e (LT X t)
structure Bq (X:Cx) (e:Expr) (t:iG):Prop where
 ok:PW X e (LT X t)
structure Gx (X:Cx) (es:List Expr) (t:Fc):Prop where
 ok:PA X es (LA X t)
structure Gy (X:Cx) (e:Expr) (t:FK):Prop where
 ok:PG X e (LG X t)
structure mv (X:Cx) (st:Stmt) (t:bj):Prop where
 ok:PS X st (LS X t)
structure eS (X:Cx) (st:List Stmt) (t:bj):Prop where
 ok:J4 X st (LS X t)
theorem aR{X:Cx}{e:Expr}{t t':TE}(h:PE X e t)(k:∀σ H Q,t' σ H Q→t σ H Q):PE X e t':=fun pins s σ H Q I q=>h pins s σ H Q I (k σ H Q q)
theorem ni{X:Cx}{e:Expr}{t t':TT}(h:PT X e t)(k:∀σ H Q,t' σ H Q→t σ H Q):PT X e t':=fun pins s σ H Q I q=>h pins s σ H Q I (k σ H Q q)
theorem vE{X:Cx}{e:Expr}{t t':TT}(h:PW X e t)(k:∀σ H Q,t' σ H Q→t σ H Q):PW X e t':=fun wh pins s σ H Q I q=>h wh pins s σ H Q I (k σ H Q q)
theorem cq{X:Cx}{e:Stmt}{t t':TS}(h:PS X e t)(k:∀D σ H,t' D σ H→t D σ H):PS X e t':=fun pins s σ H D I q=>h pins s σ H D I (k D σ H q)
theorem se{X:Cx}{e:List Stmt}{t t':TS}(h:J4 X e t)(k:∀D σ H,t' D σ H→t D σ H):J4 X e t':=fun pins s σ H D I q=>h pins s σ H D I (k D σ H q)
section
variable {X:Cx} {a b c e o:Expr} {es:List Expr} {ta tb tc te:aL} {pos:Pos}
def v3(i:Nat):aL:=fun σ S Q _=>match lk σ i with|some p=>Q p S|none=>False
theorem af(i:Nat){x:Str}(hN:X.N[i]?=some x:=by rfl)(hv:CG X.env.scope x:=by first|exact Or.inl rfl|exact Or.inr (Or.inl rfl)|exact Or.inr (Or.inr rfl))(hd:(x == ("__debug__":Str))=false:=by decide)
  (hcd:(x == ("__classdict__":Str))=false:=by decide):bf X (.Name x pos) (v3 i):=
 ⟨aR (uv hN hv hd hcd) fun σ H Q ⟨σ3,S,Q3,E3,rσ,rS,h,xo,k⟩=>by
  unfold v3 at h
  split at h
  ·rename_i p e
   obtain⟨v,ev,rv⟩:=rσ.at' i p (vD e)
   exact⟨v,ev,k p S v H h rv rS .refl⟩
  ·exact h.elim⟩
def c3(p:PV):aL:=fun _ S Q _=>Q p S
theorem ac{i:Int}{j:Nat}:bf X (.Constant (.int i) j pos) (c3 (.int i)):=⟨aR Ao fun σ H Q ⟨σ3,S,Q3,E3,rσ,rS,h,xo,k⟩=>k _ S _ H h (.int i) rS .refl⟩
theorem tL{i:Bool}{j:Nat}:bf X (.Constant (.bool i) j pos) (c3 (.bl i)):=⟨aR CH fun σ H Q ⟨σ3,S,Q3,E3,rσ,rS,h,xo,k⟩=>k _ S _ H h (.bl i) rS .refl⟩
theorem ap{i:Str}{j:Nat}:bf X (.Constant (.str i) j pos) (c3 (.str i)):=⟨aR Aq fun σ H Q ⟨σ3,S,Q3,E3,rσ,rS,h,xo,k⟩=>k _ S _ H h (.str i) rS .refl⟩
theorem Do{j:Nat}:bf X (.Constant .none j pos) (c3 .non):=⟨aR Ap fun σ H Q ⟨σ3,S,Q3,E3,rσ,rS,h,xo,k⟩=>k _ S _ H h .non rS .refl⟩
theorem Fd{x:Str}{n:String}(hg:Gl X x)(hm:X.mg x=none)(hv:bootBuiltins x=some (.type n))(hn:x ≠ "__name__":=by decide)(hd:(x == ("__debug__":Str))=false:=by decide):bf X (.Name x pos) (c3 (.ty n)):=
 ⟨aR (xQ (v:=.ty n) hg hm hv rfl hn hd) fun σ H Q ⟨σ3,S,Q3,E3,rσ,rS,h,xo,k⟩=>k _ S _ H h (.ty n) rS .refl⟩
noncomputable def ar:List aL→Fc
 |[],_,S,Q,_=>Q [] S
 |t::ts,σ,S,Q,E=>t σ S (fun x S1=>ar ts σ S1 (fun xs S2=>Q (x::xs) S2) E) E
noncomputable def MQ:List TE→TA
 |[]=>C3
 |t::ts=>zO t (MQ ts)
structure jz (X:Cx) (es:List Expr) (ts:List aL):Prop where
 ok:PA X es (MQ (ts.map (LE X)))
theorem dh:jz X [] []:=⟨AN⟩
theorem vF{ts:List aL}(hs:starEach (e::es) X.env=(false,eval e X.env)::starEach es X.env)(ha:bf X e te)(hr:jz X es ts):jz X (e::es) (te::ts):=⟨ye ha.ok hr.ok hs⟩
theorem bv:∀{ts:List aL} {σ:L2.St} {H:Hp} {Q:List V→Hp→Prop} {σ3:b9} {S:av} {Q3:List PV→av→Prop} {E3:bO},GM X.K H σ σ3→GI X.K H S→ar ts σ3 S Q3 E3→KZ X H E3→
  (∀ps S' vs H',ps.length=ts.length→Q3 ps S'→Reps X.K H' vs ps→GI X.K H' S'→Grow X.K H H'→Q vs H')→MQ (ts.map (LE X)) σ H Q
 |[],σ,H,Q,σ3,S,Q3,E3,rσ,rS,h,xo,k=>k [] S [] H rfl h .nil rS .refl
 |t::ts,σ,H,Q,σ3,S,Q3,E3,rσ,rS,h,xo,k=>
  ⟨σ3,S,_,E3,rσ,rS,h,xo,fun p S1 v H1 h1 rv GR g1=>bv (rσ.mono g1) GR h1 (xo.mono g1) fun ps S2 vs H2 hl h2 OX IM g2=>k (p::ps) S2 (v::vs) H2 (by rw[List.length_cons,List.length_cons,hl]) h2 (.cons (rv.mono g2) OX) IM (g1.trans g2)⟩
def aE(ts:List aL):aL:=fun σ S Q E=>ar ts σ S (fun xs S1=>Q (.tup xs) S1) E
theorem aC{ts:List aL}{x1:Nat}(h:jz X es ts)(hn:ts.length≤1000:=by exact Nat.le_of_ble_eq_true rfl):bf X (.Tuple es x1 pos) (aE ts):=
 ⟨aR (AO h.ok) fun σ H Q ⟨σ3,S,Q3,E3,rσ,rS,hq,xo,k⟩=>bv rσ rS hq xo fun ps S' vs H' hl q rv Ia g=>
  ⟨Nat.le_of_lt (de (by rw[rv.length,hl];exact hn)),fun p hp=>k _ S' _ _ q (.tup (G3.of ay) (rv.mono (.new hp))) (Ia.other hp) (g.trans (.new hp))⟩⟩
def bb(ts:List aL):aL:=fun σ S Q E=>ar ts σ S (fun xs S1=>∀p,S1 p=none→Q (.ref p) (GE S1 p (.lst xs))) E
theorem bI{ts:List aL}(h:jz X es ts)(hn:ts.length≤1000:=by exact Nat.le_of_ble_eq_true rfl):bf X (.List es pos) (bb ts):=
 ⟨aR (AQ h.ok) fun σ H Q ⟨σ3,S,Q3,E3,rσ,rS,hq,xo,k⟩=>bv rσ rS hq xo fun ps S' vs H' hl q rv Ia g=>
  ⟨Nat.le_of_lt (de (by rw[rv.length,hl];exact hn)),fun p hp=>k _ _ _ _ (q p (Ia.free hp)) (.ref p) (Ia.new hp ⟨vs,ay,rv.mono (.new hp)⟩) (g.trans (.new hp))⟩⟩
abbrev R3:=PV→PV→av→bN→Prop
def LR(X:Cx)(r:R3):R2:=fun x y H Q=>∃px py S Q3,Rep X.K H x px∧Rep X.K H y py∧GI X.K H S∧r px py S Q3∧Le X.K H Q3 Q
structure ii (X:Cx) (f:Value→Value→Sem Value) (r:R3):Prop where
 ok:ie X f (LR X r)
def aj(r:R3)(ta tb:aL):aL:=fun σ S Q E=>ta σ S (fun x S1=>tb σ S1 (fun y S2=>r x y S2 Q) E) E
theorem kz{r:R3}{σ:L2.St}{H:Hp}{Q:VK}:LE X (aj r ta tb) σ H Q→CS (LR X r) (LE X ta) (LE X tb) σ H Q:=fun⟨σ3,S,Q3,E3,rσ,rS,h,xo,k⟩=>
 ⟨σ3,S,_,E3,rσ,rS,h,xo,fun x S1 v H1 h1 rx GR g1=>⟨σ3,S1,_,E3,rσ.mono g1,GR,h1,xo.mono g1,fun y S2 u H2 h2 ry IM g2=>⟨x,y,S2,Q3,rx.mono g2,ry,IM,h2,k.mono (g1.trans g2)⟩⟩⟩
theorem aA{op:Operator}{r:R3}(ho:ii X (binaryOp op) r)(ha:bf X a ta)(hb:bf X b tb):bf X (.BinOp a op b pos) (aj r ta tb):=⟨aR (CT ho.ok ha.ok hb.ok) fun _ _ _=>kz⟩
theorem kT{op:CmpOp}{r:R3}(ho:ii X (compareOp op) r)(ha:bf X a ta)(hb:bf X b tb)(hm:behindInMarks op b=false):bf X (.Compare a [op] [b] pos) (aj r ta tb):=⟨aR (ya ho.ok ha.ok hb.ok hm) fun _ _ _=>kz⟩
def aJ(t:aL):iG:=fun σ S Q E=>t σ S (fun v S'=>match v with | .bl k=>Q k S'|_=>False) E
theorem vG{σ:L2.St}{H:Hp}{Q:Bool→Hp→Prop}:LT X (aJ te) σ H Q→LE X te σ H (fun x H'=>∃k,x = .bl k∧Q k H'):=fun⟨σ3,S,Q3,E3,rσ,rS,h,xo,k⟩=>
 ⟨σ3,S,_,E3,rσ,rS,h,xo,fun p S' v H' h1 rv Ia g=>by
  cases p with
  |bl z=>cases rv;exact⟨z,rfl,k z S' H' h1 Ia g⟩
  |_=>exact h1.elim⟩
theorem bw{op:CmpOp}{r:R3}(ho:ii X (compareOp op) r)(ha:bf X a ta)(hb:bf X b tb)(hm:behindInMarks op b=false):qp X (.Compare a [op] [b] pos) (aJ (aj r ta tb)):=
 ⟨ni (yb ho.ok ha.ok hb.ok hm) fun σ H Q ⟨σ3,S,Q3,E3,rσ,rS,h,xo,k⟩=>kz ⟨σ3,S,_,E3,rσ,rS,h,xo,fun p S' v H' h1 rv Ia g=>by
  cases p with
  |bl z=>cases rv;exact⟨z,rfl,k z S' H' h1 Ia g⟩
  |_=>exact h1.elim⟩⟩
theorem dP(h:bf X e te)(he:∀whole,isTrue e X.env whole=(do let v ←whole;standAt e.pos;holding [v] (truthy v)):=by intro _;rfl):qp X e (aJ te):=
 ⟨ni (Ar h.ok he) fun σ H Q q=>vG q⟩
end
section
variable {X:Cx} {a b c:Expr} {rest:List Expr} {ta tb te:aL} {tA tB:iG} {pos:Pos}
def b_(t u:iG):iG:=fun σ S Q E=>t σ S (fun c S1=>if c=true then u σ S1 Q E else Q false S1) E
def mw(t u:iG):iG:=fun σ S Q E=>t σ S (fun c S1=>if c=true then Q true S1 else u σ S1 Q E) E
def dL(t:iG):iG:=fun σ S Q E=>t σ S (fun c S1=>Q (!c) S1) E
theorem fP(ha:qp X a tA):Bq X (.BoolOp .And [a] pos) tA:=⟨xR ha.ok⟩
theorem j6(ha:qp X a tA):Bq X (.BoolOp .Or [a] pos) tA:=⟨As ha.ok⟩
theorem fQ(ha:qp X a tA)(hb:Bq X (.BoolOp .And (b::rest) pos) tB):Bq X (.BoolOp .And (a::b::rest) pos) (b_ tA tB):=
 ⟨vE (Au ha.ok hb.ok) fun σ H Q ⟨σ3,S,Q3,E3,rσ,rS,h,xo,k⟩=>⟨σ3,S,_,E3,rσ,rS,h,xo,fun c S1 H1 h1 GR g1=>by
  cases c with
  |true=>rw[if_pos rfl]at h1 ⊢;exact⟨σ3,S1,Q3,E3,rσ.mono g1,GR,h1,xo.mono g1,fun b S2 H2 h2 IM g2=>k b S2 H2 h2 IM (g1.trans g2)⟩
  |false=>rw[if_neg (by decide)]at h1 ⊢;exact k false S1 H1 h1 GR g1⟩⟩
theorem nj(ha:qp X a tA)(hb:Bq X (.BoolOp .Or (b::rest) pos) tB):Bq X (.BoolOp .Or (a::b::rest) pos) (mw tA tB):=
 ⟨vE (CI ha.ok hb.ok) fun σ H Q ⟨σ3,S,Q3,E3,rσ,rS,h,xo,k⟩=>⟨σ3,S,_,E3,rσ,rS,h,xo,fun c S1 H1 h1 GR g1=>by
  cases c with
  |true=>rw[if_pos rfl]at h1 ⊢;exact k true S1 H1 h1 GR g1
  |false=>rw[if_neg (by decide)]at h1 ⊢;exact⟨σ3,S1,Q3,E3,rσ.mono g1,GR,h1,xo.mono g1,fun b S2 H2 h2 IM g2=>k b S2 H2 h2 IM (g1.trans g2)⟩⟩⟩
theorem qq(h:Bq X a tA):qp X a tA:=⟨h.ok.pt⟩
theorem j7(ha:qp X a tA):qp X (.UnaryOp .Not a pos) (dL tA):=
 ⟨ni (Av ha.ok) fun σ H Q ⟨σ3,S,Q3,E3,rσ,rS,h,xo,k⟩=>⟨σ3,S,_,E3,rσ,rS,h,xo,fun c S1 H1 h1 GR g1=>k (!c) S1 H1 h1 GR g1⟩⟩
def vH(t u:aL):aL:=fun σ S Q E=>t σ S (fun v S1=>match v with | .bl c=>if c=true then u σ S1 Q E else Q (.bl false) S1|_=>False) E
def Br(t u:aL):aL:=fun σ S Q E=>t σ S (fun v S1=>match v with | .bl c=>if c=true then Q (.bl true) S1 else u σ S1 Q E|_=>False) E
def vI(t:aL):aL:=fun σ S Q E=>t σ S (fun v S1=>match v with | .bl c=>Q (.bl (!c)) S1|_=>False) E
def vJ(t:iG)(ta tb:aL):aL:=fun σ S Q E=>t σ S (fun c S1=>if c=true then ta σ S1 Q E else tb σ S1 Q E) E
theorem Dp(hc:qp X c tA)(ha:bf X a ta)(hb:bf X b tb):bf X (.IfExp c a b pos) (vJ tA ta tb):=
 ⟨aR (ux hc.ok ha.ok hb.ok) fun σ H Q ⟨σ3,S,Q3,E3,rσ,rS,h,xo,k⟩=>⟨σ3,S,_,E3,rσ,rS,h,xo,fun c S1 H1 h1 GR g1=>by
  cases c with
  |true=>rw[if_pos rfl]at h1 ⊢;exact⟨σ3,S1,Q3,E3,rσ.mono g1,GR,h1,xo.mono g1,k.mono g1⟩
  |false=>rw[if_neg (by decide)]at h1 ⊢;exact⟨σ3,S1,Q3,E3,rσ.mono g1,GR,h1,xo.mono g1,k.mono g1⟩⟩⟩
abbrev Dq:=PV→av→bN→Prop
noncomputable def F5(X:Cx)(r:Dq):V→Hp→VK→Prop:=fun x H Q=>∃px S Q3,Rep X.K H x px∧GI X.K H S∧r px S Q3∧Le X.K H Q3 Q
structure FL (X:Cx) (f:Value→Sem Value) (r:Dq):Prop where
 ok:El X f (F5 X r)
def ul(r:Dq)(ta:aL):aL:=fun σ S Q E=>ta σ S (fun x S1=>r x S1 Q) E
theorem oZ{op:UnaryOp}{r:Dq}(ho:FL X (unaryOp op) r)(ha:bf X a ta):bf X (.UnaryOp op a pos) (ul r ta):=
 ⟨aR (CU ho.ok ha.ok) fun σ H Q ⟨σ3,S,Q3,E3,rσ,rS,h,xo,k⟩=>⟨σ3,S,_,E3,rσ,rS,h,xo,fun p S1 v H1 h1 rv GR g1=>⟨p,S1,Q3,rv,GR,h1,k.mono g1⟩⟩⟩
noncomputable def km:Dq:=fun x S Q=>match x with | .int i=>Q (.int (-i)) S|_=>False
theorem fR:FL X (unaryOp .USub) km:=⟨fun pins s σ H x v Q I rx ⟨px,S,Q3,r1,rS,h,k⟩=>by
 cases px with
 |int i=>cases r1;exact AK pins s σ H _ v Q I rx ⟨i,rfl,k _ S _ H h (.int _) rS .refl⟩
 |_=>exact h.elim⟩
end
section
variable {X:Cx}
def bS(g:Int→Int→PV):R3:=fun x y S Q=>match x,y with | .int i,.int j=>Q (g i j) S|_,_=>False
def dQ(C:Int→Int→Prop)(g:Int→Int→PV):R3:=fun x y S Q=>match x,y with | .int i,.int j=>C i j∧Q (g i j) S|_,_=>False
theorem Bs{f:Value→Value→Sem Value}{g:Int→Int→Int}(h:ie X f (xH fun i j=>.int (g i j))):ii X f (bS fun i j=>.int (g i j)):=⟨fun pins s σ H x y v u Q I rx ry ⟨px,py,S,Q3,r1,r2,rS,q,k⟩=>by
 cases px with
 |int i=>
  cases py with
  |int j=>cases r1;cases r2;exact h pins s σ H _ _ v u Q I rx ry ⟨i,j,rfl,rfl,k _ S _ H q (.int _) rS .refl⟩
  |_=>exact q.elim
 |_=>exact q.elim⟩
theorem kA{f:Value→Value→Sem Value}{g:Int→Int→Bool}(h:ie X f (xH fun i j=>.bl (g i j))):ii X f (bS fun i j=>.bl (g i j)):=⟨fun pins s σ H x y v u Q I rx ry ⟨px,py,S,Q3,r1,r2,rS,q,k⟩=>by
 cases px with
 |int i=>
  cases py with
  |int j=>cases r1;cases r2;exact h pins s σ H _ _ v u Q I rx ry ⟨i,j,rfl,rfl,k _ S _ H q (.bl _) rS .refl⟩
  |_=>exact q.elim
 |_=>exact q.elim⟩
theorem nk{f:Value→Value→Sem Value}{C:Int→Int→Prop}{g:Int→Int→Int}(h:ie X f (rI C fun i j=>.int (g i j))):ii X f (dQ C fun i j=>.int (g i j)):=⟨fun pins s σ H x y v u Q I rx ry ⟨px,py,S,Q3,r1,r2,rS,q,k⟩=>by
 cases px with
 |int i=>
  cases py with
  |int j=>cases r1;cases r2;exact h pins s σ H _ _ v u Q I rx ry ⟨i,j,rfl,rfl,q.1,k _ S _ H q.2 (.int _) rS .refl⟩
  |_=>exact q.elim
 |_=>exact q.elim⟩
def mx(i j:Int):Prop:=j≠0∧j.natAbs < 2 ^ 8000
theorem qR{n:Nat}(h:n < 2 ^ 8000):n.log2 < 9000:=by
 by_cases z:n=0
 ·rw[z];decide +kernel
 ·exact Nat.lt_trans ((Nat.log2_lt z).mpr h) (by decide)
theorem Bt:ii X (binaryOp .Sub) (bS fun i j=>.int (i - j)):=Bs AI
theorem Bu:ii X (binaryOp .Mod) (dQ (fun _ j=>j≠0) fun i j=>.int (i.fmod j)):=nk x_
theorem yF:ii X (binaryOp .FloorDiv) (dQ mx fun i j=>.int (i.fdiv j)):=nk (Em fun _ _ _ _ _ _ _ hc q=>PyProof.Rows.floordiv_int hc.1 q (.inl (PyProof.noPylong_of_log2 (qR hc.2))))
theorem Bv:ii X (binaryOp .Pow) (dQ AG fun i j=>.int (i ^ j.toNat)):=nk AJ
theorem Dr:ii X (compareOp .Lt) (bS fun i j=>.bl (decide (i < j))):=kA CZ
theorem Ds:ii X (compareOp .LtE) (bS fun i j=>.bl (decide (i≤j))):=kA C0
theorem Dt:ii X (compareOp .Gt) (bS fun i j=>.bl (decide (j < i))):=kA C1
theorem Du:ii X (compareOp .GtE) (bS fun i j=>.bl (decide (j≤i))):=kA C2
end
end L3
namespace L2
open PySem PySem.Spec PyProof.Rows
section
variable {X:Cx}
def Dv(K:PySem.W.Frag):R2:=fun x y H Q=>∃a b xs ys,x = .ref a∧y = .ref b∧G3 K H a xs∧G3 K H b ys∧xs.length+ys.length≤sizeLine∧∀r H',(∀c o,H c=some o→H' c=some o)→G3 K H' r (xs++ys)→Q (.ref r) H'
theorem yG:ie X (binaryOp .Add) (Dv X.K):=by
 intro pins s σ H x y v u Q I rx ry h
 obtain⟨a,b,xs,ys,rfl,rfl,ha,hb,hz,q⟩:=h
 by_cases hx:xs=[]
 ·subst hx
  cases rx
  cases ry
  obtain⟨its,r1,p1,_⟩:=I.tuple ha
  obtain⟨its2,r2,p2,_⟩:=I.tuple hb
  cases r1
  obtain⟨⟨cls,dd,data,sl⟩,ho,hc,n,hd⟩:=id p1
  obtain⟨⟨OJ,dd2,data2,sl2⟩,ho2,hc2,n2,hd2⟩:=id p2
  simp only at hc hd hc2 hd2
  subst hc hd hc2 hd2
  exact concat_meets ⟨_,ho,rfl⟩ ⟨_,ho2,rfl⟩ noFill_tuple_add seq_tuple_add PySem.F.slot_tuple_add PySem.F.entry_tuple_add (PySem.F.args_tuple_add_2 _ _)
   (tuple_addW0 a b _ its2.toArray n n2 dd dd2 sl sl2 rfl) ⟨ho,ho2,⟨.ref b,H,I,rfl,q b H (fun _ _ e=>e) hb⟩⟩
 ·exact yn pins s σ H _ _ v u Q I rx ry ⟨a,b,xs,ys,rfl,rfl,ha,hb,hx,hz,fun e=>q a H (fun _ _ e=>e) (by rw[e,List.append_nil];exact ha),
   fun _ p hp=>q p _ (fun c o e=>by rw[aw (aT e hp)];exact e) (G3.of ay)⟩
end
end L2
namespace L3
open PySem L2
section
variable {X:Cx}
def aM:R3:=fun x y S Q=>match x,y with
 | .int i,.int j=>Q (.int (i+j)) S
 | .str i,.str j=>i.length+j.length≤sizeLine∧Q (.str (i++j)) S
 | .tup i,.tup j=>i.length+j.length≤sizeLine∧Q (.tup (i++j)) S
 | .ref i,.ref j=>match S i,S j with
  |some (.lst xs),some (.lst ys)=>xs.length+ys.length≤sizeLine∧∀p,S p=none→Q (.ref p) (GE S p (.lst (xs++ys)))
  |_,_=>False
 |_,_=>False
theorem aH:ii X (binaryOp .Add) aM:=⟨fun pins s σ H x y v u Q I rx ry ⟨px,py,S,Q3,r1,r2,rS,q,k⟩=>by
 unfold aM at q
 split at q
 ·cases r1;cases r2
  exact AH pins s σ H _ _ v u Q I rx ry ⟨_,_,rfl,rfl,k _ S _ H q (.int _) rS .refl⟩
 ·cases r1;cases r2
  exact qz pins s σ H _ _ v u Q I rx ry ⟨_,_,rfl,rfl,q.1,k _ S _ H q.2 (.str _) rS .refl⟩
 ·cases r1 with
  |tup h1 s1=>
   cases r2 with
   |tup h2 s2=>
    refine yG pins s σ H _ _ v u Q I rx ry ⟨_,_,_,_,rfl,rfl,h1,h2,by rw[s1.length,s2.length];exact q.1,fun r H' hs hr=>?_⟩
    exact k _ S _ H' q.2 (.tup hr ((s1.mono (.same hs)).append (s2.mono (.same hs)))) (rS.grow hs) (.same hs)
 ·cases r1;cases r2
  split at q
  ·rename_i i j xs ys e1 e2
   obtain⟨vs,h1,s1⟩:=rS _ _ e1
   obtain⟨us,h2,s2⟩:=rS _ _ e2
   exact A8 pins s σ H _ _ v u Q I rx ry ⟨_,_,_,_,rfl,rfl,h1,h2,by rw[s1.length,s2.length];exact q.1,fun p hp=>k _ _ _ _ (q.2 p (rS.free hp)) (.ref p) (rS.new hp ⟨_,ay,(s1.append s2).mono (.new hp)⟩) (.new hp)⟩
  ·exact q.elim
 ·exact q.elim⟩
end
mutual
inductive Dat (S:av):PV→PyData→Prop
 |non:Dat S .non .none
 |bl (b:Bool):Dat S (.bl b) (.bool b)
 |int (i:Int):Dat S (.int i) (.int i)
 |str (x:Str):Dat S (.str x) (.str x)
 |tup {ps:List PV} {ds:List PyData}:Ir S ps ds→Dat S (.tup ps) (.tuple ds)
 |cl {ps:List PV} {ds:List PyData}:Ir S ps ds→Dat S (.cl ps) (.list ds)
 |ref {a:Addr} {ps:List PV} {ds:List PyData}:S a=some (.lst ps)→Ir S ps ds→Dat S (.ref a) (.list ds)
inductive Ir (S:av):List PV→List PyData→Prop
 |nil:Ir S [] []
 |cons {p:PV} {d:PyData} {ps:List PV} {ds:List PyData}:Dat S p d→Ir S ps ds→Ir S (p::ps) (d::ds)
end
section
variable {X:Cx} {pins:List (Addr×Obj)} {σ:L2.St} {H:Hp} {s:Shared} {S:av}
theorem qS(I:Inv X pins σ H s)(rS:GI X.K H S):(∀{p:PV} {d:PyData},Dat S p d→∀{v:V} {u:Value},Rep X.K H v p→RelV v u→∃as,Reads s.heap u d as)∧∀{ps:List PV} {ds:List PyData},Ir S ps ds→∀{vs:List V} {us:List Value},Reps X.K H vs ps→Vals vs us→∃as,ReadsAll s.heap us ds as:=by
 have one:=@Dat.rec S (motive_1:=fun p d _=>∀{v:V} {u:Value},Rep X.K H v p→RelV v u→∃as,Reads s.heap u d as) (motive_2:=fun ps ds _=>∀{vs:List V} {us:List Value},Reps X.K H vs ps→Vals vs us→∃as,ReadsAll s.heap us ds as)
 have two:=@Ir.rec S (motive_1:=fun p d _=>∀{v:V} {u:Value},Rep X.K H v p→RelV v u→∃as,Reads s.heap u d as) (motive_2:=fun ps ds _=>∀{vs:List V} {us:List Value},Reps X.K H vs ps→Vals vs us→∃as,ReadsAll s.heap us ds as)
 have c1:∀{v:V} {u:Value},Rep X.K H v .non→RelV v u→∃as,Reads s.heap u .none as:=fun h r=>by cases h;cases r;exact⟨_,.none⟩
 have c2:∀(b:Bool) {v:V} {u:Value},Rep X.K H v (.bl b)→RelV v u→∃as,Reads s.heap u (.bool b) as:=fun b _ _ h r=>by cases h;cases r;exact⟨_,.bool b⟩
 have c3:∀(i:Int) {v:V} {u:Value},Rep X.K H v (.int i)→RelV v u→∃as,Reads s.heap u (.int i) as:=fun i _ _ h r=>by cases h;obtain⟨t,rfl⟩:=r;exact⟨_,.int i t⟩
 have c4:∀(x:Str) {v:V} {u:Value},Rep X.K H v (.str x)→RelV v u→∃as,Reads s.heap u (.str x) as:=fun x _ _ h r=>by cases h;obtain⟨t,rfl⟩:=r;exact⟨_,.str x t⟩
 have c5:∀{ps:List PV} {ds:List PyData},Ir S ps ds→(∀{vs:List V} {us:List Value},Reps X.K H vs ps→Vals vs us→∃as,ReadsAll s.heap us ds as)→∀{v:V} {u:Value},Rep X.K H v (.tup ps)→RelV v u→∃as,Reads s.heap u (.tuple ds) as:=fun _ ih _ _ h r=>by
  cases h with
  |tup h rs=>
   cases r
   obtain⟨its,rv,⟨o,ho,hc,n,hd⟩,hz⟩:=I.tuple h
   obtain⟨as,q⟩:=ih rs rv
   exact⟨as,.tuple ho hc hd (by simpa using q)⟩
 have c6:∀{ps:List PV} {ds:List PyData},Ir S ps ds→(∀{vs:List V} {us:List Value},Reps X.K H vs ps→Vals vs us→∃as,ReadsAll s.heap us ds as)→∀{v:V} {u:Value},Rep X.K H v (.cl ps)→RelV v u→∃as,Reads s.heap u (.list ds) as:=fun _ ih _ _ h r=>by
  cases h with
  |cl h rs=>
   cases r
   obtain⟨its,rv,⟨o,n,ho,hc,_,hd⟩,hz⟩:=I.list h.sq
   obtain⟨as,q⟩:=ih rs rv
   exact⟨_,.list ho hc hd (by simpa using q)⟩
 have c7:∀{a:Addr} {ps:List PV} {ds:List PyData},S a=some (.lst ps)→Ir S ps ds→(∀{vs:List V} {us:List Value},Reps X.K H vs ps→Vals vs us→∃as,ReadsAll s.heap us ds as)→∀{v:V} {u:Value},Rep X.K H v (.ref a)→RelV v u→∃as,Reads s.heap u (.list ds) as:=fun e _ ih _ _ h r=>by
  cases h
  cases r
  obtain⟨vs,hv,rs⟩:=rS _ _ e
  obtain⟨its,rv,⟨o,n,ho,hc,_,hd⟩,hz⟩:=I.list (SqL.of hv)
  obtain⟨as,q⟩:=ih rs rv
  exact⟨_,.list ho hc hd (by simpa using q)⟩
 have c8:∀{vs:List V} {us:List Value},Reps X.K H vs []→Vals vs us→∃as,ReadsAll s.heap us [] as:=fun h r=>by cases h;cases r;exact⟨_,.nil⟩
 have c9:∀{p:PV} {d:PyData} {ps:List PV} {ds:List PyData},Dat S p d→Ir S ps ds→(∀{v:V} {u:Value},Rep X.K H v p→RelV v u→∃as,Reads s.heap u d as)→(∀{vs:List V} {us:List Value},Reps X.K H vs ps→Vals vs us→∃as,ReadsAll s.heap us ds as)→∀{vs:List V} {us:List Value},Reps X.K H vs (p::ps)→Vals vs us→∃as,ReadsAll s.heap us (d::ds) as:=fun _ _ i1 i2 _ _ h r=>by
  cases h with
  |cons a rs=>
   cases r with
   |cons r1 r2=>
    obtain⟨as,q⟩:=i1 a r1
    obtain⟨bs,q2⟩:=i2 rs r2
    exact⟨_,.cons q q2⟩
 exact⟨fun h=>one c1 c2 c3 c4 c5 c6 c7 c8 c9 h,fun h=>two c1 c2 c3 c4 c5 c6 c7 c8 c9 h⟩
theorem Dat.reads(I:Inv X pins σ H s)(rS:GI X.K H S){p:PV}{d:PyData}{v:V}{u:Value}(h:Dat S p d)(r:Rep X.K H v p)(r2:RelV v u):∃as,Reads s.heap u d as:=(qS I rS).1 h r r2
end
section
variable {X:Cx}
def bt(neg:Bool):R3:=fun x y S Q=>match x,y with
 | .int i,.int j=>Q (.bl (neg != decide (i=j))) S
 | .str i,.str j=>Q (.bl (neg != decide (i=j))) S
 | .bl i,.bl j=>Q (.bl (neg != decide (i=j))) S
 |x,y=>∃d d',Dat S x d∧Dat S y d'∧d.canLay0=true∧d'.canLay0=true∧min d.depth d'.depth≤150∧Q (.bl (neg != PyData.eqv d d')) S
theorem o0(hu:X.A.units+150 < cLine):ii X (compareOp .Eq) (bt false):=⟨fun pins s σ H x y v u Q I rx ry ⟨px,py,S,Q3,r1,r2,rS,q,k⟩=>by
 unfold bt at q
 split at q
 ·cases r1;cases r2
  exact uD pins s σ H _ _ v u Q I rx ry ⟨rfl,k _ S _ H (by simpa using q) (.bl _) rS .refl⟩
 ·cases r1;cases r2
  exact uD pins s σ H _ _ v u Q I rx ry ⟨rfl,k _ S _ H (by simpa using q) (.bl _) rS .refl⟩
 ·cases r1;cases r2
  exact uD pins s σ H _ _ v u Q I rx ry ⟨rfl,k _ S _ H (by simpa using q) (.bl _) rS .refl⟩
 ·obtain⟨d,d',h1,h2,c1,c2,hd,q⟩:=q
  obtain⟨as,a1⟩:=h1.reads I rS r1 rx
  obtain⟨bs,a2⟩:=h2.reads I rS r2 ry
  exact SeqAt.compareEq_reads a1 a2 c1 c2 (by omega) ⟨.bl _,H,I,rfl,k _ S _ H (by simpa using q) (.bl _) rS .refl⟩⟩
theorem Dw(hu:X.A.units+150 < cLine):ii X (compareOp .NotEq) (bt true):=⟨fun pins s σ H x y v u Q I rx ry ⟨px,py,S,Q3,r1,r2,rS,q,k⟩=>by
 unfold bt at q
 split at q
 ·cases r1;cases r2
  exact uE pins s σ H _ _ v u Q I rx ry ⟨rfl,k _ S _ H (by simpa using q) (.bl _) rS .refl⟩
 ·cases r1;cases r2
  exact uE pins s σ H _ _ v u Q I rx ry ⟨rfl,k _ S _ H (by simpa using q) (.bl _) rS .refl⟩
 ·cases r1;cases r2
  exact uE pins s σ H _ _ v u Q I rx ry ⟨rfl,k _ S _ H (by simpa using q) (.bl _) rS .refl⟩
 ·obtain⟨d,d',h1,h2,c1,c2,hd,q⟩:=q
  obtain⟨as,a1⟩:=h1.reads I rS r1 rx
  obtain⟨bs,a2⟩:=h2.reads I rS r2 ry
  exact SeqAt.compareNe_reads a1 a2 c1 c2 (by omega) ⟨.bl _,H,I,rfl,k _ S _ H (by simpa using q) (.bl _) rS .refl⟩⟩
def Es(neg:Bool):R3:=fun x y S Q=>match y with
 | .non=>Q (.bl (neg != match x with | .non=>true|_=>false)) S
 | .bl true=>match x with | .bl true=>Q (.bl (neg != true)) S|_=>False
 |_=>False
noncomputable def kn(S:av):PV→Option (List PV)
 | .tup xs=>some xs
 | .cl xs=>some xs
 | .ref a=>match S a with|some (.lst xs)=>some xs|_=>none
 |_=>none
theorem vK{H:Hp}{S:av}{v:V}{p:PV}{xs:List PV}(rS:GI X.K H S)(r:Rep X.K H v p)(h:kn S p=some xs):∃a vs,v = .ref a∧(SqL X.K H a vs∨G3 X.K H a vs)∧Reps X.K H vs xs:=by
 unfold kn at h
 split at h
 ·cases h;cases r with|tup h1 rs=>exact⟨_,_,rfl,.inr h1,rs⟩
 ·cases h;cases r with|cl h1 rs=>exact⟨_,_,rfl,.inl h1.sq,rs⟩
 ·cases r
  split at h
  ·rename_i e
   cases h
   obtain⟨vs,hv,rs⟩:=rS _ _ e
   exact⟨_,vs,rfl,.inl (SqL.of hv),rs⟩
  ·cases h
 ·cases h
noncomputable def j9(x:PyData)(xs:List PyData):Bool:=xs.any fun y=>PyData.eqv y x
def qr(neg:Bool):R3:=fun x y S Q=>match x,y with
 | .str i,.str j=>Q (.bl (neg != !(Builtin.Str.occurrences j i 0 j.length 1).isEmpty)) S
 |x,y=>match y with
  | .ref a=>match S a with
   |some (.lst xs)=>∃d ds,Dat S x d∧Ir S xs ds∧d.canLay0=true∧PyData.canLayAll0 ds=true∧d.depth≤150∧Q (.bl (neg != j9 d ds)) S
   |some (.dct kvs)=>match x with
    | .str z=>Q (.bl (neg != (kvs.any fun kv=>decide (kv.1=Sum.inr z)))) S
    | .int z=>Q (.bl (neg != (kvs.any fun kv=>decide (kv.1=Sum.inl z)))) S
    |_=>False
   |_=>False
  | .tup xs=>∃d ds,Dat S x d∧Ir S xs ds∧d.canLay0=true∧PyData.canLayAll0 ds=true∧d.depth≤150∧Q (.bl (neg != j9 d ds)) S
  |_=>False
theorem GO.any{K:PySem.W.Frag}{H:Hp}{κ:Type} [DecidableEq κ](k:κ):∀{vs:List (κ×V)} {ps:List (κ×PV)},GO K H vs ps→(iE vs k).isSome=ps.any fun kv=>decide (kv.1=k)
 |_,_,.nil=>rfl
 |_,_,.cons (k:=k') a r=>by
  rw[List.any_cons,←GO.any k r]
  by_cases e:k'=k
  ·rw[Iy e];simp[e]
  ·rw[Iz e];simp[e]
theorem vL(hu:X.A.units+160 < cLine):ii X (compareOp .In) (qr false):=⟨fun pins s σ H x y v u Q I rx ry ⟨px,py,S,Q3,r1,r2,rS,q,k⟩=>by
 unfold qr at q
 split at q
 ·cases r1;cases r2
  exact sU pins s σ H _ _ v u Q I rx ry ⟨_,_,rfl,rfl,k _ S _ H (by simpa using q) (.bl _) rS .refl⟩
 ·split at q
  ·cases r2
   cases ry
   split at q
   ·rename_i xs e
    obtain⟨d,ds,h1,h2,c1,c2,hd,q⟩:=q
    obtain⟨as,a1⟩:=h1.reads I rS r1 rx
    obtain⟨bs,a2⟩:=(Dat.ref e h2).reads I rS (.ref _) (rfl:RelV (.ref _) (.ref _))
    exact SeqAt.in_list_reads a2 a1 c2 c1 (by omega) ⟨.bl _,H,I,rfl,k _ S _ H (by simpa [j9]using q) (.bl _) rS .refl⟩
   ·rename_i kvs e
    obtain⟨kv,hv,rk⟩:=rS _ _ e
    split at q
    ·cases r1
     exact Dh (by omega) I (DGet.k (k:=Sum.inr _) hv) rx fun s3 I3=>⟨.bl _,H,I3,rfl,k _ S _ H (by rw[rk.any];simpa using q) (.bl _) rS .refl⟩
    ·cases r1
     exact Dh (by omega) I (DGet.k (k:=Sum.inl _) hv) rx fun s3 I3=>⟨.bl _,H,I3,rfl,k _ S _ H (by rw[rk.any];simpa using q) (.bl _) rS .refl⟩
    ·exact q.elim
   ·exact q.elim
  ·rename_i xs
   obtain⟨d,ds,h1,h2,c1,c2,hd,q⟩:=q
   obtain⟨as,a1⟩:=h1.reads I rS r1 rx
   obtain⟨bs,a2⟩:=(Dat.tup h2).reads I rS r2 ry
   exact SeqAt.in_tuple_reads a2 a1 c2 c1 (by omega) ⟨.bl _,H,I,rfl,k _ S _ H (by simpa [j9]using q) (.bl _) rS .refl⟩
  ·exact q.elim⟩
theorem vM(hu:X.A.units+160 < cLine):ii X (compareOp .NotIn) (qr true):=⟨fun pins s σ H x y v u Q I rx ry ⟨px,py,S,Q3,r1,r2,rS,q,k⟩=>by
 unfold qr at q
 split at q
 ·cases r1;cases r2
  exact mZ pins s σ H _ _ v u Q I rx ry ⟨_,_,rfl,rfl,k _ S _ H (by simpa using q) (.bl _) rS .refl⟩
 ·split at q
  ·cases r2
   cases ry
   split at q
   ·rename_i xs e
    obtain⟨d,ds,h1,h2,c1,c2,hd,q⟩:=q
    obtain⟨as,a1⟩:=h1.reads I rS r1 rx
    obtain⟨bs,a2⟩:=(Dat.ref e h2).reads I rS (.ref _) (rfl:RelV (.ref _) (.ref _))
    exact SeqAt.notIn_list_reads a2 a1 c2 c1 (by omega) ⟨.bl _,H,I,rfl,k _ S _ H (by simpa [j9]using q) (.bl _) rS .refl⟩
   ·rename_i kvs e
    obtain⟨kv,hv,rk⟩:=rS _ _ e
    split at q
    ·cases r1
     exact rX (by omega) I (DGet.k (k:=Sum.inr _) hv) rx fun s3 I3=>⟨.bl _,H,I3,rfl,k _ S _ H (by rw[rk.any];simpa using q) (.bl _) rS .refl⟩
    ·cases r1
     exact rX (by omega) I (DGet.k (k:=Sum.inl _) hv) rx fun s3 I3=>⟨.bl _,H,I3,rfl,k _ S _ H (by rw[rk.any];simpa using q) (.bl _) rS .refl⟩
    ·exact q.elim
   ·exact q.elim
  ·rename_i xs
   obtain⟨d,ds,h1,h2,c1,c2,hd,q⟩:=q
   obtain⟨as,a1⟩:=h1.reads I rS r1 rx
   obtain⟨bs,a2⟩:=(Dat.tup h2).reads I rS r2 ry
   exact SeqAt.notIn_tuple_reads a2 a1 c2 c1 (by omega) ⟨.bl _,H,I,rfl,k _ S _ H (by simpa [j9]using q) (.bl _) rS .refl⟩
  ·exact q.elim⟩
end
end L3
namespace HT
open PySem PySem.Spec PyProof.Rows
section
variable {prog:Program} {w:World} {A:Around} {E:Value→Shared→Prop} {s:Shared}
theorem iI{t sl:Addr}{items:Array Value}{vl vu:Value}{lo hi:Option Int}{Q:Value→Shared→Prop}(ht:IsTup s.heap t items)(hs:s.heap.IsSliceOf sl vl vu .none)(pl:IsPart vl lo)(pu:IsPart vu hi)
  (hw:G0 items.size 0 lo=0∧G0 items.size items.size hi=items.size)
  (h:Q (.ref t) s):wpAny (model prog w) A (getItem (.ref t) (.ref sl)) Q E s:=by
 obtain⟨os,hos,hcs,hds⟩:=id hs
 have OK:s.TypeIs (.ref sl) "slice":=⟨os,hos,hcs⟩
 unfold getItem
 try with_reducible refine wpAny_holding ?_
 first|refine wpAny_bind (wpAny_pure ?_)|skip
 refine wpAny_bind (wpAny_sequenceKey ht.typeIs (by decide) ?_)
 refine wpAny_bind (wpAny_callSpecial?_slot (name:=Str.ofString "__getitem__") ht.typeIs PyProof.Rows.slot_tuple_getitem
  (wpAny_call_entry PyProof.Rows.slot_tuple_getitem ht.typeIs entry_tuple_getitem ?_ (args_tuple_getitem _ _)))
 show wpAny _ _ (Builtin.Tuple.tupleItemsOf (.ref t) >>= _) _ _ s
 refine wpAny_bind (tupleItemsOf_ ht ?_)
 refine wpAny_bind (wpAny_typeOf OK ?_)
 rw[if_pos (by decide)]
 refine wpAny_bind (eo hs pl pu ?_)
 have hyes:(((G0 items.size 0 lo:Nat):Int) == 0&&(1:Int) == 1&&(G0 items.size items.size hi - G0 items.size 0 lo) == items.size)=true:=by
  rw[hw.1,hw.2];simp
 show wpAny _ _ (if (((G0 items.size 0 lo:Nat):Int) == 0&&(1:Int) == 1&&(G0 items.size items.size hi - G0 items.size 0 lo) == items.size)=true then _ else _) _ _ s
 rw[if_pos hyes]
 unfold Builtin.Tuple.tupleIsExact
 refine wpAny_bind (wpAny_bind (wpAny_typeOf ht.typeIs (wpAny_pure ?_)))
 rw[if_pos (by decide)]
 first
  |exact wpAny_bind (wpAny_rule (wpAny_pure ⟨_,rfl,wpAny_pure h⟩))
  |exact wpAny_bind (wpAny_rule (wpAny_bind (wpAny_pure (wpAny_pure ⟨_,rfl,wpAny_pure h⟩))))
  |exact wpAny_bind (wpAny_rule (wpAny_bind (wpAny_pure ⟨_,rfl,wpAny_pure h⟩)))
end
end HT
namespace L2
open PySem PySem.Spec PyProof.Rows
section
variable {X:Cx}
noncomputable def Dx(K:PySem.W.Frag):V→Option Int→Option Int→Hp→VK→Prop:=fun x lo hi H Q=>∃a xs,x = .ref a∧G3 K H a xs∧∀r H',(∀c o,H c=some o→H' c=some o)→G3 K H' r (kL xs lo hi)→Q (.ref r) H'
theorem yH:Cq X (Dx X.K):=by
 intro pins s σ H x v vl vu lo hi sl Q I rx hs pl pu h
 obtain⟨a,xs,rfl,hx,q⟩:=h
 by_cases hw:HT.G0 xs.length 0 lo=0∧HT.G0 xs.length xs.length hi=xs.length
 ·cases rx
  obtain⟨its,r,ht,hz⟩:=I.tuple hx
  have hlen:its.toArray.size=xs.length:=by rw[List.size_toArray];exact r.length.symm
  refine⟨"tuple",_,PyProof.Rows.slot_tuple_getitem.lookup,ht.typeIs,HT.iI ht hs pl pu (by rw[hlen];exact hw) ⟨.ref a,H,I,rfl,q a H (fun _ _ e=>e) ?_⟩⟩
  have e:kL xs lo hi=xs:=by unfold kL;rw[hw.1,hw.2];simp
  rw[e];exact hx
 ·exact AT pins s σ H _ v vl vu lo hi sl Q I rx hs pl pu ⟨a,xs,rfl,hx,hw,fun p hp=>q p _ (fun c o e=>by rw[aw (aT e hp)];exact e) (G3.of ay)⟩
theorem yI(hu:X.A.units+1 < cLine):Cr X (fun x y H Q=>∃a v,x = .ref a∧DGet H a y (some v)∧Q v H):=by
 intro value slice pins s σ H x y v u Q I rx ry h hs
 obtain⟨a,z,rfl,g,q⟩:=h
 cases rx
 exact tail_any (oS I g) PySem.F.slot_dict_getitem.lookup (sZ hu I g ry fun w' s3 I3 rw'=>⟨z,H,I3,rw',q⟩) hs
theorem vN(hu:X.A.units+1 < cLine):xV X (fun o i v H Q=>∃a H',o = .ref a∧KF H a i v H'∧Q H'):=by
 intro pins s σ H o i v ov iv u Q I ro ri rv h
 obtain⟨a,H',rfl,g,q⟩:=h
 cases ro
 exact s9 hu I g ri rv fun s' I'=>⟨H',I',q⟩
end
end L2
namespace L3
open PySem L2
theorem Reps.Hv{K:PySem.W.Frag}{H:Hp}{vs:List V}{ps:List PV}{i:Int}{p:PV}(r:Reps K H vs ps)(h:L2.Hv ps i=some p):∃v,L2.Hv vs i=some v∧Rep K H v p:=by
 unfold L2.Hv at h ⊢
 rw[r.length]
 cases e:oQ ps.length i with
 |none=>rw[e]at h;cases h
 |some j=>
  rw[e]at h
  obtain⟨v,h1,h2⟩:=r.get h
  exact⟨v,h1,h2⟩
noncomputable def cr:PV→Option bG
 | .int i=>some (.inl i)
 | .str x=>some (.inr x)
 |_=>none
theorem eP{K:PySem.W.Frag}{H:Hp}{v:V}{p:PV}{k:bG}(r:Rep K H v p)(h:cr p=some k):v=kV k:=by
 cases p with
 |int i=>cases h;cases r;rfl
 |str i=>cases h;cases r;rfl
 |_=>cases h
noncomputable def dM{κ:Type} [DecidableEq κ]:List (κ×PV)→κ→Option PV
 |[],_=>none
 |(k',v)::r,k=>if k'=k then some v else dM r k
theorem GO.val{K:PySem.W.Frag}{H:Hp}{κ:Type} [DecidableEq κ]{k:κ}{p:PV}:∀{vs:List (κ×V)} {ps:List (κ×PV)},GO K H vs ps→dM ps k=some p→∃v,iE vs k=some v∧Rep K H v p
 |_,_,.nil,h=>by cases h
 |_,_,.cons (k:=k') a r,h=>by
  unfold dM at h
  split at h
  ·rename_i e;cases h;exact⟨_,Iy e,a⟩
  ·rename_i e;rw[Iz e];exact GO.val r h
section
variable {X:Cx} {a b e lo hi:Expr} {ta tb te:aL} {pos p2:Pos}
structure FM (X:Cx) (r:R3):Prop where
 ok:Cr X (LR X r)
theorem Dy{r:R3}(hr:FM X r)(ha:bf X a ta)(hb:bf X b tb)(hs:ku b):bf X (.Subscript a b pos) (aj r ta tb):=⟨aR (C8 hr.ok ha.ok hb.ok hs) fun _ _ _=>kz⟩
def ad:R3:=fun x y S Q=>match x with
 | .tup xs=>match y with | .int i=>(match Hv xs i with|some v=>Q v S|none=>False)|_=>False
 | .cl xs=>match y with | .int i=>(match Hv xs i with|some v=>Q v S|none=>False)|_=>False
 | .str z=>match y with | .int i=>z.length≤sizeLine∧(match Hv z.cps.toList i with|some c=>Q (.str ⟨#[c]⟩) S|none=>False)|_=>False
 | .ref a=>match S a with
  |some (.lst xs)=>(match y with | .int i=>(match Hv xs i with|some v=>Q v S|none=>False)|_=>False)
  |some (.dct kvs)=>(match cr y with|some k=>(match dM kvs k with|some v=>Q v S|none=>False)|none=>False)
  |_=>False
 |_=>False
theorem FN(hu:X.A.units+1 < cLine):FM X ad:=⟨fun value slice pins s σ H x y v u Q I rx ry ⟨px,py,S,Q3,r1,r2,rS,q,k⟩ hs=>by
 unfold ad at q
 split at q
 ·split at q
  ·split at q
   ·rename_i e
    cases r2
    cases r1 with
    |tup h1 rs=>
     obtain⟨w,hw,rw'⟩:=rs.Hv e
     exact AV value slice pins s σ H _ _ v u Q I rx ry ⟨_,_,_,w,rfl,rfl,h1,hw,k _ S _ H q rw' rS .refl⟩ hs
   ·exact q.elim
  ·exact q.elim
 ·split at q
  ·split at q
   ·rename_i e
    cases r2
    cases r1 with
    |cl h1 rs=>
     obtain⟨w,hw,rw'⟩:=rs.Hv e
     exact rV value slice pins s σ H _ _ v u Q I rx ry ⟨_,_,_,w,rfl,rfl,h1.sq,hw,k _ S _ H q rw' rS .refl⟩ hs
   ·exact q.elim
  ·exact q.elim
 ·split at q
  ·obtain⟨hz,q⟩:=q
   split at q
   ·rename_i e
    cases r1;cases r2
    exact AW value slice pins s σ H _ _ v u Q I rx ry ⟨_,_,_,rfl,rfl,hz,e,k _ S _ H q (.str _) rS .refl⟩ hs
   ·exact q.elim
  ·exact q.elim
 ·split at q
  ·rename_i e0
   split at q
   ·split at q
    ·rename_i e
     cases r1;cases r2
     obtain⟨vs,hv,rs⟩:=rS _ _ e0
     obtain⟨w,hw,rw'⟩:=rs.Hv e
     exact rV value slice pins s σ H _ _ v u Q I rx ry ⟨_,_,_,w,rfl,rfl,SqL.of hv,hw,k _ S _ H q rw' rS .refl⟩ hs
    ·exact q.elim
   ·exact q.elim
  ·rename_i e0
   split at q
   ·rename_i ek
    split at q
    ·rename_i ev
     cases r1
     have e1:=eP r2 ek
     subst e1
     obtain⟨kv,hv,rk⟩:=rS _ _ e0
     obtain⟨w,hw,rw'⟩:=rk.val ev
     refine yI hu value slice pins s σ H _ _ v u Q I rx ry ⟨_,w,rfl,?_,k _ S _ H q rw' rS .refl⟩ hs
     rw[←hw]
     exact DGet.k hv
    ·exact q.elim
   ·exact q.elim
  ·exact q.elim
 ·exact q.elim⟩
abbrev Ct:=b9→av→(Option Int→av→Prop)→bO→Prop
noncomputable def LO(X:Cx)(t:Ct):TO:=fun σ H Q=>∃σ3 S Q3 E3,GM X.K H σ σ3∧GI X.K H S∧t σ3 S Q3 E3∧KZ X H E3∧∀o S' H',Q3 o S'→GI X.K H' S'→Grow X.K H H'→Q o H'
structure Eu (X:Cx) (e:Option Expr) (t:Ct):Prop where
 ok:PO X e (LO X t)
noncomputable def sf:Ct:=fun _ S Q _=>Q none S
noncomputable def qu(t:aL):Ct:=fun σ S Q E=>t σ S (fun v S'=>match v with | .int i=>Q (some i) S'|_=>False) E
theorem vO{e:Option Expr}{t t':TO}(h:PO X e t)(k:∀σ H Q,t' σ H Q→t σ H Q):PO X e t':=fun pins s σ H Q I q=>h pins s σ H Q I (k σ H Q q)
theorem jA:Eu X none sf:=⟨vO yk fun σ H Q ⟨σ3,S,Q3,E3,rσ,rS,h,xo,k⟩=>k none S H h rS .refl⟩
theorem fS(h:bf X e te):Eu X (some e) (qu te):=⟨vO (ym h.ok) fun σ H Q ⟨σ3,S,Q3,E3,rσ,rS,h,xo,k⟩=>⟨σ3,S,_,E3,rσ,rS,h,xo,fun p S' v H' h1 rv Ia g=>by
 cases p with
 |int i=>cases rv;exact⟨i,rfl,k _ S' H' h1 Ia g⟩
 |_=>exact h1.elim⟩⟩
noncomputable def fU{α:Type}(xs:List α)(lo hi:Option Int):List α:=(xs.drop (HT.G0 xs.length 0 lo)).take (HT.G0 xs.length xs.length hi - HT.G0 xs.length 0 lo)
theorem Reps.cut{K:PySem.W.Frag}{H:Hp}{vs:List V}{ps:List PV}(r:Reps K H vs ps)(lo hi:Option Int):Reps K H (kL vs lo hi) (fU ps lo hi):=by
 unfold kL fU
 rw[r.length]
 exact(r.drop _).take _
def qT(x:PV)(lo hi:Option Int)(S:av)(Q:bN):Prop:=match x with
 | .tup xs=>Q (.tup (fU xs lo hi)) S
 | .cl xs=>∀p,S p=none→Q (.ref p) (GE S p (.lst (fU xs lo hi)))
 | .str z=>z.length≤sizeLine∧Q (.str (Txt.slice z lo hi)) S
 | .ref a=>match S a with|some (.lst xs)=>∀p,S p=none→Q (.ref p) (GE S p (.lst (fU xs lo hi)))|_=>False
 |_=>False
noncomputable def F6(X:Cx):V→Option Int→Option Int→Hp→VK→Prop:=fun x lo hi H Q=>∃px S Q3,Rep X.K H x px∧GI X.K H S∧qT px lo hi S Q3∧Le X.K H Q3 Q
theorem F7:Cq X (F6 X):=by
 intro pins s σ H x v vl vu lo hi sl Q I rx hs pl pu ⟨px,S,Q3,r1,rS,q,k⟩
 unfold qT at q
 split at q
 ·cases r1 with
  |tup h1 rs=>exact yH pins s σ H _ v vl vu lo hi sl Q I rx hs pl pu ⟨_,_,rfl,h1,fun r H' hh hr=>k _ S _ H' q (.tup hr ((rs.cut lo hi).mono (.same hh))) (rS.grow hh) (.same hh)⟩
 ·cases r1 with
  |cl h1 rs=>exact rW pins s σ H _ v vl vu lo hi sl Q I rx hs pl pu ⟨_,_,rfl,h1.sq,fun p hp=>k _ _ _ _ (q p (rS.free hp)) (.ref p) (rS.new hp ⟨_,ay,(rs.cut lo hi).mono (.new hp)⟩) (.new hp)⟩
 ·cases r1
  exact Bc pins s σ H _ v vl vu lo hi sl Q I rx hs pl pu ⟨_,rfl,q.1,k _ S _ H q.2 (.str _) rS .refl⟩
 ·split at q
  ·rename_i e
   cases r1
   obtain⟨vs,hv,rs⟩:=rS _ _ e
   exact rW pins s σ H _ v vl vu lo hi sl Q I rx hs pl pu ⟨_,_,rfl,SqL.of hv,fun p hp=>k _ _ _ _ (q p (rS.free hp)) (.ref p) (rS.new hp ⟨_,ay,(rs.cut lo hi).mono (.new hp)⟩) (.new hp)⟩
  ·exact q.elim
 ·exact q.elim
def b5(te:aL)(tl th:Ct):aL:=fun σ S Q E=>te σ S (fun x S1=>tl σ S1 (fun l S2=>th σ S2 (fun u S3=>qT x l u S3 Q) E) E) E
theorem eU{lo hi:Option Expr}{tl th:Ct}(he:bf X e te)(hl:Eu X lo tl)(hu:Eu X hi th):bf X (.Subscript e (.Slice lo hi none p2) pos) (b5 te tl th):=
 ⟨aR (uR F7 he.ok hl.ok hu.ok) fun σ H Q ⟨σ3,S,Q3,E3,rσ,rS,h,xo,k⟩=>⟨σ3,S,_,E3,rσ,rS,h,xo,fun x S1 v H1 h1 rx GR g1=>⟨σ3,S1,_,E3,rσ.mono g1,GR,h1,xo.mono g1,fun l S2 H2 h2 IM g2=>
  ⟨σ3,S2,_,E3,rσ.mono (g1.trans g2),IM,h2,xo.mono (g1.trans g2),fun u S3 H3 h3 LX g3=>⟨x,S3,Q3,rx.mono (g2.trans g3),LX,h3,k.mono (g1.trans (g2.trans g3))⟩⟩⟩⟩⟩
theorem yJ:ie X (binaryOp .Mult) (rI IntMulOk fun i j=>.int (i * j)):=Em fun _ _ _ _ _ _ _ hc q=>PyProof.Rows.mul_int q hc
def cD:R3:=fun x y S Q=>match x,y with
 | .int i,.int j=>IntMulOk i j∧Q (.int (i * j)) S
 | .ref a,.int j=>(match S a with|some (.lst xs)=>-(2 ^ 63)≤j∧j < 2 ^ 63∧xs.length * j.toNat≤sizeLine∧∀p,S p=none→Q (.ref p) (GE S p (.lst (List.replicate j.toNat xs).flatten))|_=>False)
 |_,_=>False
theorem Reps.rep{K:PySem.W.Frag}{H:Hp}{vs:List V}{ps:List PV}(r:Reps K H vs ps):∀n:Nat,Reps K H (List.replicate n vs).flatten (List.replicate n ps).flatten
 |0=>.nil
 |n+1=>by
  rw[List.replicate_succ,List.replicate_succ,List.flatten_cons,List.flatten_cons]
  exact r.append (Reps.rep r n)
theorem bD:ii X (binaryOp .Mult) cD:=⟨fun pins s σ H x y v u Q I rx ry ⟨px,py,S,Q3,r1,r2,rS,q,k⟩=>by
 unfold cD at q
 split at q
 ·cases r1;cases r2
  exact yJ pins s σ H _ _ v u Q I rx ry ⟨_,_,rfl,rfl,q.1,k _ S _ H q.2 (.int _) rS .refl⟩
 ·split at q
  ·rename_i e
   cases r1;cases r2
   obtain⟨vs,hv,rs⟩:=rS _ _ e
   exact A9 pins s σ H _ _ v u Q I rx ry ⟨_,_,_,rfl,rfl,hv,q.1,q.2.1,by rw[rs.length];exact q.2.2.1,fun p hp=>k _ _ _ _ (q.2.2.2 p (rS.free hp)) (.ref p) (rS.new hp ⟨_,ay,(rs.rep _).mono (.new hp)⟩) (.new hp)⟩
  ·exact q.elim
 ·exact q.elim⟩
end
end L3
namespace L2
open PySem PySem.Spec PyProof.Rows
section
variable {X:Cx}
theorem tM(hc:X.calm=true):dN X (.builtin "any") (fun xs H Q=>∃(p:Addr) (bs:List Bool),xs=[.ref p]∧SqL X.K H p (bs.map V.bl)∧Q (.bl (bs.any id)) H):=by
 intro pins s σ H xs us Q I r h
 obtain⟨p,bs,rfl,hp,q⟩:=h
 obtain⟨u,rfl,rx⟩:=dO r
 cases rx
 obtain⟨its,rv,pl,hz⟩:=I.list hp
 have hl:=rv.length
 rw[List.length_map]at hl
 have hlt:p < s.heap.objs.size:=by obtain⟨o,ho,_⟩:=pl.isList;exact Heap.lt_size ho
 refine call_any_walk (wpAny_pyIter_list pl.isList ?_)
 have up:∀b o,s.heap.get? b=some o→(s.heap.push { cls:=.type "list_iterator",data:=.fields #[.ref p,.int 0 0] }).get? b=some o:=fun b o e=>Heap.get?_push_of_some _ e
 refine⟨s.heap.objs.size,_,_,_,_,_,fun i=>(bs[i]?).getD false,rfl,Walks.list (A:=X.A.in1) (I.ok.hd hc) s.heap.objs.size p (Nat.ne_of_lt hlt) its.toArray,⟨⟨_,Heap.get?_push_size _ rfl,rfl,rfl⟩,pl.isList.push _⟩,?_,fun h' tk hk=>?_⟩
 ·intro i v s' Q' E' hv hq
  have hi:i < its.length:=by
   by_cases z:i < its.length
   ·exact z
   ·rw[Array.getElem?_eq_none (by simpa using z)]at hv;cases hv
  obtain⟨u',e1,r1⟩:=rv.get (i:=i) (x:=.bl bs[i]) (by rw[List.getElem?_map,List.getElem?_eq_getElem (by omega)];rfl)
  have e2:v=u':=by
   have z:its[i]?=some v:=by simpa using hv
   rw[z]at e1;exact Option.some.inj e1
  subst e2
  cases (show v=Value.bool bs[i] from r1)
  refine wpAny_truthy_bool ?_
  have hq':Q' ((bs[i]?).getD false) s':=hq
  rw[List.getElem?_eq_getElem (show i < bs.length by omega)]at hq'
  exact hq'
 ·have e:(List.range its.toArray.size).any (fun i=>(bs[i]?).getD false)=bs.any id:=by
   rw[List.size_toArray,←hl,Bool.eq_iff_iff,List.any_eq_true,List.any_eq_true]
   constructor
   ·rintro⟨i,hi,h1⟩
    have hi':i < bs.length:=List.mem_range.mp hi
    rw[List.getElem?_eq_getElem hi']at h1
    exact⟨bs[i],List.getElem_mem hi',h1⟩
   ·rintro⟨x,hx,h1⟩
    obtain⟨i,hi,e⟩:=List.getElem_of_mem hx
    exact⟨i,List.mem_range.mpr hi,by rw[List.getElem?_eq_getElem hi,e];exact h1⟩
  refine⟨.bl (bs.any id),H,?_,by rw[e];rfl,q⟩
  exact I.kept (t':=tk) fun b o z=>hk b o (by
   intro q2
   have q3:b=s.heap.objs.size:=by simpa using q2
   rw[q3]at z
   exact absurd (Heap.lt_size z) (Nat.lt_irrefl _)) (up b o z)
end
end L2
namespace L3
open PySem L2
abbrev nl:=List PV→av→bN→Prop
section
variable {X:Cx} {e o:Expr} {es:List Expr} {te to:aL} {ts:List aL} {x:Str} {p pos apos cpos:Pos}
noncomputable def LC(X:Cx)(r:nl):List V→Hp→VK→Prop:=fun xs H Q=>∃ps S Q3,Reps X.K H xs ps∧GI X.K H S∧r ps S Q3∧Le X.K H Q3 Q
structure dR (X:Cx) (f:Value) (r:nl):Prop where
 ok:dN X f (LC X r)
def ao(r:nl)(ts:List aL):aL:=fun σ S Q E=>ar ts σ S (fun ps S1=>r ps S1 Q) E
theorem sg{r:nl}{σ:L2.St}{H:Hp}{Q:VK}:LE X (ao r ts) σ H Q→MQ (ts.map (LE X)) σ H fun vs H1=>LC X r vs H1 Q:=fun⟨σ3,S,Q3,E3,rσ,rS,h,xo,k⟩=>
 bv rσ rS h xo fun ps S' vs H' hl q rv Ia g=>⟨ps,S',Q3,rv,Ia,q,k.mono g⟩
theorem yK{id:String}{r:nl}(hc:dR X (.builtin id) r)(hg:Gl X x)(hm:X.mg x=none)(hv:bootBuiltins x=some (.builtin id))(he:starEach (e::es) X.env=(false,eval e X.env)::starEach es X.env)(ha:jz X (e::es) ts)
  (hn:x ≠ "__name__":=by decide) (hdb:(x == ("__debug__":Str))=false:=by decide) (hpl:(backTo pos (starEach es X.env)).any (·.1)=false:=by rfl):bf X (.Call (.Name x p) (e::es) [] pos) (ao r ts):=
 ⟨aR (uO hc.ok hg hm hv ha.ok hn hdb he hpl) fun _ _ _=>sg⟩
theorem yL{id:String}{r:nl}(hc:dR X (.type id) r)(hg:Gl X x)(hm:X.mg x=none)(hv:bootBuiltins x=some (.type id))(he:starEach (e::es) X.env=(false,eval e X.env)::starEach es X.env)(ha:jz X (e::es) ts)
  (hn:x ≠ "__name__":=by decide) (hdb:(x == ("__debug__":Str))=false:=by decide) (hpl:(backTo pos (starEach es X.env)).any (·.1)=false:=by rfl):bf X (.Call (.Name x p) (e::es) [] pos) (ao r ts):=
 ⟨aR (sX hc.ok hg hm hv ha.ok hn hdb he hpl) fun _ _ _=>sg⟩
def b6:nl:=fun ps S Q=>match ps with
 |[.tup xs]=>Q (.int xs.length) S
 |[.cl xs]=>Q (.int xs.length) S
 |[.str z]=>z.length≤sizeLine∧Q (.int z.length) S
 |[.ref a]=>(match S a with|some (.lst xs)=>Q (.int xs.length) S|some (.dct kvs)=>Q (.int kvs.length) S|_=>False)
 |_=>False
theorem dS:dR X (.builtin "len") b6:=⟨fun pins s σ H xs us Q I r ⟨ps,S,Q3,rp,rS,q,k⟩=>by
 unfold b6 at q
 split at q
 ·cases rp with|cons a rr=>cases rr;cases a with|tup h rs=>exact eO pins s σ H _ us Q I r ⟨_,_,rfl,.inr h,by rw[rs.length];exact k _ S _ H q (.int _) rS .refl⟩
 ·cases rp with|cons a rr=>cases rr;cases a with|cl h rs=>exact eO pins s σ H _ us Q I r ⟨_,_,rfl,.inl h.sq,by rw[rs.length];exact k _ S _ H q (.int _) rS .refl⟩
 ·cases rp with|cons a rr=>cases rr;cases a;exact m4 pins s σ H _ us Q I r ⟨_,rfl,q.1,k _ S _ H q.2 (.int _) rS .refl⟩
 ·cases rp with
  |cons a rr=>
   cases rr;cases a
   split at q
   ·rename_i e
    obtain⟨vs,hv,rs⟩:=rS _ _ e
    exact eO pins s σ H _ us Q I r ⟨_,_,rfl,.inl (SqL.of hv),by rw[rs.length];exact k _ S _ H q (.int _) rS .refl⟩
   ·rename_i e
    obtain⟨vs,hv,rs⟩:=rS _ _ e
    exact tm pins s σ H _ us Q I r ⟨_,_,rfl,hv,by rw[rs.length];exact k _ S _ H q (.int _) rS .refl⟩
   ·exact q.elim
 ·exact q.elim⟩
def tN:nl:=fun ps S Q=>match ps with|[.int i]=>Q (.int (if i < 0 then -i else i)) S|_=>False
theorem Dz:dR X (.builtin "abs") tN:=⟨fun pins s σ H xs us Q I r ⟨ps,S,Q3,rp,rS,q,k⟩=>by
 unfold tN at q
 split at q
 ·cases rp with|cons a rr=>cases rr;cases a;exact uI pins s σ H _ us Q I r ⟨_,rfl,k _ S _ H q (.int _) rS .refl⟩
 ·exact q.elim⟩
def fV:nl:=fun ps S Q=>match ps with|[.int i,.int j]=>Q (.int (if j > i then j else i)) S|_=>False
theorem kU(hc:X.calm=true):dR X (.builtin "max") fV:=⟨fun pins s σ H xs us Q I r ⟨ps,S,Q3,rp,rS,q,k⟩=>by
 unfold fV at q
 split at q
 ·cases rp with|cons a rr=>cases rr with|cons b r3=>cases r3;cases a;cases b;exact sV hc pins s σ H _ us Q I r ⟨_,_,rfl,k _ S _ H q (.int _) rS .refl⟩
 ·exact q.elim⟩
def vP:nl:=fun ps S Q=>match ps with|[.int i,.int j]=>Q (.int (if j < i then j else i)) S|_=>False
def dU:nl:=fun ps S Q=>match ps with|[.int i]=>Q (.int i) S|[.bl b]=>Q (.int (if b then 1 else 0)) S|_=>False
theorem sh:dR X (.type "int") dU:=⟨fun pins s σ H xs us Q I r ⟨ps,S,Q3,rp,rS,q,k⟩=>by
 unfold dU at q
 split at q
 ·cases rp with|cons a rr=>cases rr;cases a;exact l4 pins s σ H _ us Q I r (.inl ⟨_,rfl,k _ S _ H q (.int _) rS .refl⟩)
 ·cases rp with|cons a rr=>cases rr;cases a;exact l4 pins s σ H _ us Q I r (.inr ⟨_,rfl,k _ S _ H q (.int _) rS .refl⟩)
 ·exact q.elim⟩
def ee:nl:=fun ps S Q=>match ps with
 |[.str z]=>z.length≤sizeLine∧∀p,S p=none→Q (.ref p) (GE S p (.lst (z.cps.toList.map fun c=>.str (ju c))))
 |[v]=>(match kn S v with|some xs=>∀p,S p=none→Q (.ref p) (GE S p (.lst xs))|none=>False)
 |_=>False
theorem kW{K:PySem.W.Frag}{H:Hp}:∀cs:List Nat,Reps K H (cs.map fun c=>V.str (ju c)) (cs.map fun c=>PV.str (ju c))
 |[]=>.nil
 |c::r=>.cons (.str _) (kW r)
theorem vQ(hc:X.calm=true):dR X (.type "list") ee:=⟨fun pins s σ H xs us Q I r ⟨ps,S,Q3,rp,rS,q,k⟩=>by
 unfold ee at q
 split at q
 ·cases rp with|cons a rr=>cases rr;cases a;exact jv hc pins s σ H _ us Q I r ⟨_,rfl,q.1,fun p hp=>k _ _ _ _ (q.2 p (rS.free hp)) (.ref p) (rS.new hp ⟨_,ay,(kW _)⟩) (.new hp)⟩
 ·cases rp with
  |cons a rr=>
   cases rr
   split at q
   ·rename_i e
    obtain⟨b,vs,rfl,hs,rs⟩:=vK rS a e
    exact m5 pins s σ H _ us Q I r ⟨_,_,rfl,hs,fun p hp=>k _ _ _ _ (q p (rS.free hp)) (.ref p) (rS.new hp ⟨_,ay,rs.mono (.new hp)⟩) (.new hp)⟩
   ·exact q.elim
 ·exact q.elim⟩
def aU:nl:=fun ps S Q=>match ps with
 |[v]=>(match kn S v with|some xs=>Q (.tup xs) S|none=>False)
 |_=>False
theorem bJ:dR X (.type "tuple") aU:=⟨fun pins s σ H xs us Q I r ⟨ps,S,Q3,rp,rS,q,k⟩=>by
 unfold aU at q
 split at q
 ·cases rp with
  |cons a rr=>
   cases rr
   split at q
   ·rename_i e
    obtain⟨b,vs,rfl,hs,rs⟩:=vK rS a e
    rcases hs with hs|hs
    ·exact g7 pins s σ H _ us Q I r ⟨_,_,rfl,.inl ⟨hs,fun p hp=>k _ S _ _ q (.tup (G3.of ay) (rs.mono (.new hp))) (rS.other hp) (.new hp)⟩⟩
    ·exact g7 pins s σ H _ us Q I r ⟨_,_,rfl,.inr ⟨hs,k _ S _ _ q (.tup hs rs) rS .refl⟩⟩
   ·exact q.elim
 ·exact q.elim⟩
noncomputable def kX:List PV→Option (List Bool)
 |[]=>some []
 | .bl b::r=>(kX r).map (b::·)
 |_::_=>none
theorem kY{K:PySem.W.Frag}{H:Hp}:∀{vs:List V} {ps:List PV} {bs:List Bool},Reps K H vs ps→kX ps=some bs→vs=bs.map V.bl
 |_,_,_,.nil,h=>by cases h;rfl
 |_,_,bs,.cons (p:=p) a r,h=>by
  cases p with
  |bl b=>
   cases a
   unfold kX at h
   cases e:kX _ with
   |none=>rw[e]at h;cases h
   |some l=>rw[e]at h;cases h;rw[kY r e];rfl
  |_=>cases h
def vR:nl:=fun ps S Q=>match ps with
 |[.ref a]=>(match S a with|some (.lst xs)=>(match kX xs with|some bs=>Q (.bl (bs.any id)) S|none=>False)|_=>False)
 |_=>False
theorem DA(hc:X.calm=true):dR X (.builtin "any") vR:=⟨fun pins s σ H xs us Q I r ⟨ps,S,Q3,rp,rS,q,k⟩=>by
 unfold vR at q
 split at q
 ·cases rp with
  |cons a rr=>
   cases rr;cases a
   split at q
   ·rename_i e
    split at q
    ·rename_i eb
     obtain⟨vs,hv,rs⟩:=rS _ _ e
     have e2:=kY rs eb
     subst e2
     exact tM hc pins s σ H _ us Q I r ⟨_,_,rfl,SqL.of hv,k _ S _ H q (.bl _) rS .refl⟩
    ·exact q.elim
   ·exact q.elim
 ·exact q.elim⟩
def iJ:nl:=fun ps S Q=>match ps with
 |[.int _]=>False
 |[.str _]=>False
 |[.bl _]=>False
 |[.non]=>False
 |[.ty _]=>False
 |[v]=>∃d,Dat S v d∧d.showable=true∧d.hasDict=false∧d.depth≤100∧d.shown.length≤sizeLine∧Q (.str d.shown) S
 |_=>False
theorem nu(hu:X.A.units+150 < cLine)(hg:X.A.guards=some []):dR X (.builtin "repr") iJ:=⟨fun pins s σ H xs us Q I r ⟨ps,S,Q3,rp,rS,q,k⟩=>by
 unfold iJ at q
 have main:∀{v:PV} {x:V} {u:Value} {a:Addr},u = .ref a→Rep X.K H x v→RelV x u→(∃d,Dat S v d∧d.showable=true∧d.hasDict=false∧d.depth≤100∧d.shown.length≤sizeLine∧Q3 (.str d.shown) S)→wpAny (model X.prog X.w) X.A (call (.builtin "repr") [u]) (EP X pins σ Q) X.xe s:=by
  rintro v x u a rfl rv rx ⟨d,hd,h1,h2,h3,h4,q⟩
  obtain⟨as,R⟩:=hd.reads I rS rv rx
  exact repr_of_reads' R h1 (PyData.noDict_hsm h2) hg (by omega) (fun _ _ e=>e) (fun h' u tk hk=>⟨.str _,H,I.kept hk,⟨u,rfl⟩,k _ S _ H q (.str _) rS .refl⟩) h4
 split at q
 ·exact q.elim
 ·exact q.elim
 ·exact q.elim
 ·exact q.elim
 ·exact q.elim
 ·rename_i n1 n2 n3 n4 n5
  cases rp with
  |cons a rr=>
   cases rr
   cases r with
   |cons r1 r2=>
    cases r2
    cases a with
    |non=>exact absurd rfl n4
    |bl b=>exact absurd rfl (n3 b)
    |int i=>exact absurd rfl (n1 i)
    |str i=>exact absurd rfl (n2 i)
    |ty i=>exact absurd rfl (n5 i)
    |ref b=>cases r1;exact main rfl (.ref b) rfl q
    |tup h rs=>cases r1;exact main rfl (.tup h rs) rfl q
    |cl h rs=>cases r1;exact main rfl (.cl h rs) rfl q
    |exc h1 h2 rs=>cases r1;exact main rfl (.exc h1 h2 rs) rfl q
    |cls h=>cases r1;exact main rfl (.cls h) rfl q
 ·exact q.elim⟩
end
section
variable {X:Cx}
end
abbrev qU:=PV→List PV→av→bN→Prop
section
variable {X:Cx} {e o:Expr} {es:List Expr} {te to:aL} {ts:List aL} {name:Str} {p pos apos cpos:Pos} {T id:String}
noncomputable def LM(X:Cx)(r:qU):V→List V→Hp→VK→Prop:=fun x xs H Q=>∃px ps S Q3,Rep X.K H x px∧Reps X.K H xs ps∧GI X.K H S∧r px ps S Q3∧Le X.K H Q3 Q
structure vS (X:Cx) (id:String) (r:qU):Prop where
 ok:AU X id (LM X r)
def um(T:String)(x:PV)(S:av):Prop:=match x with
 | .str _=>T = "str"
 | .ref a=>(match S a with|some (.lst _)=>T = "list" | some (.dct _)=>T = "dict" | _=>False)
 | .cl _=>T = "list"
 |_=>False
theorem vT{H:Hp}{S:av}{v:V}{p:PV}(rS:GI X.K H S)(r:Rep X.K H v p)(h:um T p S):En X.K T v H:=by
 cases r with
 |str x=>exact h
 |ref a=>
  unfold um at h
  simp only at h
  split at h
  ·rename_i e
   obtain⟨vs,hv,_⟩:=rS _ _ e
   exact .inl ⟨h,_,SqL.of hv⟩
  ·rename_i e
   obtain⟨vs,hv,_⟩:=rS _ _ e
   exact .inr (.inr (.inl ⟨h,.inl ⟨_,hv⟩⟩))
  ·exact h.elim
 |cl h1 _=>exact .inl ⟨h,_,h1.sq⟩
 |_=>exact h.elim
def hG(T:String)(r:qU)(to:aL)(ts:List aL):aL:=fun σ S Q E=>to σ S (fun x S1=>um T x S1∧ar ts σ S1 (fun ps S2=>r x ps S2 Q) E) E
theorem Fe{r:qU}(pa:PlainAttrs T)(slot:Slot T name id)(hty:typeOf (.builtin id)=pure (.type "method_descriptor"))(hm:vS X id r)(hs:starEach (e::es) X.env=(false,eval e X.env)::starEach es X.env)(ho:bf X o to)(ha:jz X (e::es) ts)
  (hbase:attributeBase o name X.env (eval o X.env)=eval o X.env:=by rfl)
  (hfew:((backTo cpos (starEach (e::es) X.env)).all (fun x=>!x.1)&&(backToKw cpos (keywordEach [] X.env)).all (fun x=>x.1.isSome)
   && decide ((e::es).length+([]:List Keyword).length+(if ([]:List Keyword).isEmpty then 0 else 1) < 30))=true:=by rfl)
  (hline:(apos.endLine == cpos.line)=true:=by rfl) (hplain:(backTo cpos (starEach es X.env)).any (·.1)=false:=by rfl):bf X (.Call (.Attribute o name apos) (e::es) [] cpos) (hG T r to ts):=
 ⟨aR (C_ pa slot hty hm.ok ho.ok ha.ok hbase hfew hline hs hplain) fun σ H Q ⟨σ3,S,Q3,E3,rσ,rS,h,xo,k⟩=>⟨σ3,S,_,E3,rσ,rS,h,xo,fun x S1 v H1 h1 rx GR g1=>
  ⟨vT GR rx h1.1,bv (rσ.mono g1) GR h1.2 (xo.mono g1) fun ps S2 vs H2 hl q rv IM g2=>⟨x,ps,S2,Q3,rx.mono g2,rv,IM,q,k.mono (g1.trans g2)⟩⟩⟩⟩
theorem DB{r:qU}(pa:PlainAttrs T)(slot:Slot T name id)(hty:typeOf (.builtin id)=pure (.type "method_descriptor"))(hm:vS X id r)(ho:bf X o to)
  (hbase:attributeBase o name X.env (eval o X.env)=eval o X.env:=by rfl) (hline:(apos.endLine == cpos.line)=true:=by rfl):bf X (.Call (.Attribute o name apos) [] [] cpos) (hG T r to []):=
 ⟨aR (AX pa slot hty hm.ok ho.ok hbase hline) fun σ H Q ⟨σ3,S,Q3,E3,rσ,rS,h,xo,k⟩=>⟨σ3,S,_,E3,rσ,rS,h,xo,fun x S1 v H1 h1 rx GR g1=>
  ⟨vT GR rx h1.1,⟨x,[],S1,Q3,rx,.nil,GR,h1.2,k.mono g1⟩⟩⟩⟩
def aV:qU:=fun x ps S Q=>match x,ps with
 | .ref a,[y]=>(match S a with|some (.lst xs)=>xs.length < sizeLine∧Q .non (GE S a (.lst (xs++[y])))|_=>False)
 |_,_=>False
theorem cu:vS X "list.append" aV:=⟨fun pins s σ H x xs v us Q I rx rs ⟨px,ps,S,Q3,r1,rp,rS,q,k⟩=>by
 unfold aV at q
 split at q
 ·split at q
  ·rename_i e
   cases r1
   cases rp with
   |cons b rr=>
    cases rr
    obtain⟨vs,hv,rl⟩:=rS _ _ e
    exact sY pins s σ H _ _ v us Q I rx rs ⟨_,_,_,rfl,rfl,hv,by rw[rl.length];exact q.1,k _ _ _ _ q.2 .non (rS.put hv trivial ⟨_,ay,(rl.append (.cons b .nil)).mono (.mut hv trivial)⟩) (.mut hv trivial)⟩
  ·exact q.elim
 ·exact q.elim⟩
def nv:qU:=fun x ps S Q=>match x,ps with
 | .ref a,[.ref b]=>(match S a,S b with|some (.lst xs),some (.lst ys)=>xs.length+ys.length≤sizeLine∧Q .non (GE S a (.lst (xs++ys)))|_,_=>False)
 |_,_=>False
def tO:qU:=fun x ps S Q=>match x,ps with
 | .ref a,[]=>(match S a with|some (.lst xs)=>(match xs[xs.length - 1]? with|some y=>Q y (GE S a (.lst xs.dropLast))|none=>False)|_=>False)
 | .ref a,[.int i]=>(match S a with|some (.lst xs)=>-(2 ^ 63)≤i∧i < 2 ^ 63∧(match seqIndex? i xs.length with|some j=>(match xs[j]? with|some y=>Q y (GE S a (.lst (xs.eraseIdx j)))|none=>False)|none=>False)|_=>False)
 |_,_=>False
theorem DC:vS X "list.pop" tO:=⟨fun pins s σ H x xs v us Q I rx rs ⟨px,ps,S,Q3,r1,rp,rS,q,k⟩=>by
 unfold tO at q
 split at q
 ·split at q
  ·rename_i e
   split at q
   ·rename_i ey
    cases r1
    cases rp
    obtain⟨vs,hv,rl⟩:=rS _ _ e
    rw[←rl.length]at ey
    obtain⟨y',OY,ry⟩:=rl.get ey
    exact AY pins s σ H _ _ v us Q I rx rs ⟨_,_,_,rfl,rfl,hv,OY,k _ _ _ _ q (ry.mono (.mut hv trivial)) (rS.put hv trivial ⟨_,ay,rl.dropLast.mono (.mut hv trivial)⟩) (.mut hv trivial)⟩
   ·exact q.elim
  ·exact q.elim
 ·split at q
  ·rename_i e
   obtain⟨h1,h2,q⟩:=q
   split at q
   ·rename_i ej
    split at q
    ·rename_i ey
     cases r1
     cases rp with
     |cons b rr=>
      cases rr;cases b
      obtain⟨vs,hv,rl⟩:=rS _ _ e
      obtain⟨y',OY,ry⟩:=rl.get ey
      rw[←rl.length]at ej
      exact uV pins s σ H _ _ v us Q I rx rs ⟨_,_,_,_,_,rfl,rfl,hv,h1,h2,ej,OY,k _ _ _ _ q (ry.mono (.mut hv trivial)) (rS.put hv trivial ⟨_,ay,(rl.eraseIdx _).mono (.mut hv trivial)⟩) (.mut hv trivial)⟩
    ·exact q.elim
   ·exact q.elim
  ·exact q.elim
 ·exact q.elim⟩
def nw:qU:=fun x ps S Q=>match x,ps with
 | .ref a,[]=>(match S a with|some (.lst xs)=>Q .non (GE S a (.lst []))|_=>False)
 |_,_=>False
theorem yM:vS X "list.clear" nw:=⟨fun pins s σ H x xs v us Q I rx rs ⟨px,ps,S,Q3,r1,rp,rS,q,k⟩=>by
 unfold nw at q
 split at q
 ·split at q
  ·rename_i e
   cases r1;cases rp
   obtain⟨vs,hv,rl⟩:=rS _ _ e
   exact uW pins s σ H _ _ v us Q I rx rs ⟨_,_,rfl,rfl,hv,k _ _ _ _ q .non (rS.put hv trivial ⟨_,ay,.nil⟩) (.mut hv trivial)⟩
  ·exact q.elim
 ·exact q.elim⟩
noncomputable def texts:List PV→Option (List Str)
 |[]=>some []
 | .str b::r=>(texts r).map (b::·)
 |_::_=>none
theorem kZ{K:PySem.W.Frag}{H:Hp}:∀{vs:List V} {ps:List PV} {bs:List Str},Reps K H vs ps→texts ps=some bs→vs=bs.map V.str
 |_,_,_,.nil,h=>by cases h;rfl
 |_,_,bs,.cons (p:=p) a r,h=>by
  cases p with
  |str b=>
   cases a
   unfold texts at h
   cases e:texts _ with
   |none=>rw[e]at h;cases h
   |some l=>rw[e]at h;cases h;rw[kZ r e];rfl
  |_=>cases h
def my:qU:=fun x ps S Q=>match x,ps with
 | .str z,[.ref a]=>(match S a with|some (.lst xs)=>(match texts xs with|some ys=>(ys.map (·.length)).sum+ys.length * z.length≤1000000∧Q (.str (Txt.join z ys)) S|none=>False)|_=>False)
 |_,_=>False
theorem vU:vS X "str.join" my:=⟨fun pins s σ H x xs v us Q I rx rs ⟨px,ps,S,Q3,r1,rp,rS,q,k⟩=>by
 unfold my at q
 split at q
 ·split at q
  ·rename_i e
   split at q
   ·rename_i et
    cases r1
    cases rp with
    |cons b rr=>
     cases rr;cases b
     obtain⟨vs,hv,rl⟩:=rS _ _ e
     have e2:=kZ rl et
     subst e2
     exact yz pins s σ H _ _ v us Q I rx rs ⟨_,_,_,rfl,rfl,SqL.of hv,q.1,k _ S _ H q.2 (.str _) rS .refl⟩
   ·exact q.elim
  ·exact q.elim
 ·exact q.elim⟩
def jB:qU:=fun x ps S Q=>match x,ps with
 | .str a,[.str b]=>(match Builtin.Str.occurrences a b 0 a.length 1 with|i::_=>Q (.int i) S|[]=>False)
 |_,_=>False
theorem yN:vS X "str.index" jB:=⟨fun pins s σ H x xs v us Q I rx rs ⟨px,ps,S,Q3,r1,rp,rS,q,k⟩=>by
 unfold jB at q
 split at q
 ·split at q
  ·rename_i e
   cases r1
   cases rp with
   |cons b rr=>
    cases rr;cases b
    exact u_ pins s σ H _ _ v us Q I rx rs ⟨_,_,_,_,rfl,rfl,e,k _ S _ H q (.int _) rS .refl⟩
  ·exact q.elim
 ·exact q.elim⟩
end
section
variable {X:Cx} {e c:Expr} {te:aL} {st:Stmt} {rest a b:List Stmt} {t u:bj} {tc:iG} {pos:Pos}
def aS:bj:=fun D σ S=>D.nx σ S
def ak(t u:bj):bj:=fun D σ S=>t { D with nx:=u D } σ S
theorem aK:eS X [] aS:=⟨se xS fun D σ H ⟨σ3,S,D3,rσ,rS,h,xo,n,r,bk,ct⟩=>n σ3 S σ H h rσ rS .refl⟩
theorem ah(h1:mv X st t)(h2:eS X rest u):eS X (st::rest) (ak t u):=
 ⟨se (uy h1.ok h2.ok) fun D σ H ⟨σ3,S,D3,rσ,rS,h,xo,n,r,bk,ct⟩=>⟨σ3,S,{ D3 with nx:=u D3 },rσ,rS,h,xo,fun σ4 S' σ' H' h' LY Ia g=>⟨σ4,S',D3,LY,Ia,h',xo.mono g,n.mono g,r.mono g,bk.mono g,ct.mono g⟩,r,bk,ct⟩⟩
theorem am(h1:mv X st t):eS X [st] t:=⟨mV h1.ok⟩
def aI(te:aL):bj:=fun D σ S=>te σ S (fun _ S1=>D.nx σ S1) D.ex
theorem bc(he:bf X e te)(hs:swapsWith e none pos.line X.env=pure false:=by rfl):mv X (.Expr e pos) (aI te):=
 ⟨cq (xT he.ok hs) fun D σ H ⟨σ3,S,D3,rσ,rS,h,xo,n,r,bk,ct⟩=>⟨σ3,S,_,D3.ex,rσ,rS,h,xo,fun p S1 v H1 h1 rv GR g1=>n σ3 S1 σ H1 h1 (rσ.mono g1) GR g1⟩⟩
def aG(te:aL):bj:=fun D σ S=>te σ S D.rt D.ex
theorem aD(he:bf X e te):mv X (.Return (some e) pos) (aG te):=
 ⟨cq (Aw he.ok) fun D σ H ⟨σ3,S,D3,rσ,rS,h,xo,n,r,bk,ct⟩=>⟨σ3,S,D3.rt,D3.ex,rσ,rS,h,xo,r⟩⟩
def bp(c:iG)(t u:bj):bj:=fun D σ S=>c σ S (fun b S1=>if b=true then t D σ S1 else u D σ S1) D.ex
theorem aY(hc:qp X c tc)(ha:eS X a t)(hb:eS X b u):mv X (.If c a b pos) (bp tc t u):=
 ⟨cq (CM hc.ok ha.ok hb.ok) fun D σ H ⟨σ3,S,D3,rσ,rS,h,xo,n,r,bk,ct⟩=>⟨σ3,S,_,D3.ex,rσ,rS,h,xo,fun z S1 H1 h1 GR g1=>by
  cases z with
  |true=>rw[if_pos rfl]at h1 ⊢;exact⟨σ3,S1,D3,rσ.mono g1,GR,h1,xo.mono g1,n.mono g1,r.mono g1,bk.mono g1,ct.mono g1⟩
  |false=>rw[if_neg (by decide)]at h1 ⊢;exact⟨σ3,S1,D3,rσ.mono g1,GR,h1,xo.mono g1,n.mono g1,r.mono g1,bk.mono g1,ct.mono g1⟩⟩⟩
def au(i:Nat)(te:aL):bj:=fun D σ S=>te σ S (fun v S1=>D.nx (σ.set i (some v)) S1) D.ex
theorem vV{i:Nat}{D:kj}{σ:L2.St}{H:Hp}:LS X (au i te) D σ H→xY (LE X te) (oM i) D σ H:=fun⟨σ3,S,D3,rσ,rS,h,xo,n,r,bk,ct⟩=>
 ⟨σ3,S,_,D3.ex,rσ,rS,h,xo,fun p S1 v H1 h1 rv GR g1=>n _ S1 _ H1 h1 ((rσ.mono g1).set rv i) GR g1⟩
theorem DD{i:Nat}{x:Str}{pos':Pos}(hN:X.N.Nodup)(hi:X.N[i]?=some x)(hx:zK X.env.scope x)(he:bf X e te)(hs:swapsWith e (some (.Name x pos')) pos.line X.env=pure false:=by rfl)
  (hf:X.fn x=true∨X.env.scope.names.lookup x=some .local:=by first|exact .inl rfl|exact .inr rfl|assumption):mv X (.Assign [.Name x pos'] e pos) (au i te):=⟨cq (AB hN hi hx he.ok hs hf) fun _ _ _=>vV⟩
def tP(i j:Nat)(ta tb:aL):bj:=fun D σ S=>ta σ S (fun v S1=>tb σ S1 (fun w S2=>D.nx ((σ.set i (some v)).set j (some w)) S2) D.ex) D.ex
theorem zU{i j:Nat}{x y:Str}{a b:Expr}{ta tb:aL}{px py pt:Pos}{kt k2 MH}(hc:X.calm=true)(hN:X.N.Nodup)(hi:X.N[i]?=some x)(hj:X.N[j]?=some y)(hij:i≠j)
  (hx:X.env.scope.names.lookup x=some .local) (hy:X.env.scope.names.lookup y=some .local) (ha:jz X [a,b] [ta,tb])
  (hw:swappedStores [.Tuple [.Name x px,.Name y py] kt pt] (.Tuple [a,b] k2 MH) X.env=pure (some [x,y]):=by rfl)
  (hs:swapsWithSole [.Tuple [.Name x px,.Name y py] kt pt] (.Tuple [a,b] k2 MH) pos.line X.env=pure false:=by rfl) :
  mv X (.Assign [.Tuple [.Name x px,.Name y py] kt pt] (.Tuple [a,b] k2 MH) pos) (tP i j ta tb):=
 ⟨cq (AC hc hN hi hj hij hx hy ha.ok hw hs) fun D σ H ⟨σ3,S,D3,rσ,rS,h,xo,n,r,bk,ct⟩=>
  ⟨σ3,S,_,D3.ex,rσ,rS,h,xo,fun v S1 v' H1 h1 rv GR g1=>⟨σ3,S1,_,D3.ex,rσ.mono g1,GR,h1,xo.mono g1,fun w S2 w' H2 h2 rw' IM g2=>
   ⟨v',w',rfl,n _ S2 _ H2 h2 (((rσ.mono (g1.trans g2)).set (rv.mono g2) i).set rw' j) IM (g1.trans g2)⟩⟩⟩⟩
def k4(i j k:Nat)(te:aL):bj:=fun D σ S=>te σ S (fun p S1=>match p with | .tup [v,w,u]=>D.nx (((σ.set k (some u)).set j (some w)).set i (some v)) S1|_=>False) D.ex
theorem yO{i j k:Nat}{x y z:Str}{px py pz pt:Pos}{kt:Nat}(hc:X.calm=true)(hN:X.N.Nodup)(hi:X.N[i]?=some x)(hj:X.N[j]?=some y)(hk:X.N[k]?=some z)
  (hx:X.env.scope.names.lookup x=some .local) (hy:X.env.scope.names.lookup y=some .local) (hz:X.env.scope.names.lookup z=some .local) (he:bf X e te)
  (hw:swappedStores [.Tuple [.Name x px,.Name y py,.Name z pz] kt pt] e X.env=pure (some [x,y,z]):=by rfl)
  (hs:swapsWithSole [.Tuple [.Name x px,.Name y py,.Name z pz] kt pt] e pos.line X.env=pure false:=by rfl):mv X (.Assign [.Tuple [.Name x px,.Name y py,.Name z pz] kt pt] e pos) (k4 i j k te):=
 ⟨cq (vc hc hN hi hj hk hx hy hz he.ok hw hs) fun D σ H ⟨σ3,S,D3,rσ,rS,h,xo,n,r,bk,ct⟩=>⟨σ3,S,_,D3.ex,rσ,rS,h,xo,fun p S1 v H1 h1 rv GR g1=>by
  dsimp only at h1
  split at h1
  ·cases rv with
   |tup hq rs=>
    cases rs with
    |cons r1 rs=>
     cases rs with
     |cons r2 rs=>
      cases rs with
      |cons r3 rs=>
       cases rs
       exact⟨_,_,_,_,rfl,hq,n _ S1 _ H1 h1 ((((rσ.mono g1).set r3 k).set r2 j).set r1 i) GR g1⟩
  ·exact h1.elim⟩⟩
inductive Tg where
 |n (i:Nat)|tp (l:Tg)|nil|cons (a r:Tg)
mutual
noncomputable def Tg.put:Tg→PV→b9→Option b9
 | .n i,p,σ=>some (σ.set i (some p))
 | .tp l,.tup xs,σ=>l.HM xs σ
 |_,_,_=>none
noncomputable def Tg.HM:Tg→List PV→b9→Option b9
 | .nil,[],σ=>some σ
 | .cons a r,x::xs,σ=>(match a.put x σ with|some σ'=>r.HM xs σ'|none=>none)
 |_,_,_=>none
end
noncomputable def Tg.len:Tg→Nat
 | .cons _ r=>r.len+1
 |_=>0
mutual
noncomputable def Tg.g2(K:PySem.W.Frag):Tg→TG
 | .n i=>oM i
 | .tp l=>CP K l.len (l.Mx K)
 |_=>fun _ _ _ _=>False
noncomputable def Tg.Mx(K:PySem.W.Frag):Tg→zL
 | .nil=>CO
 | .cons a r=>zM (a.g2 K) (r.Mx K)
 |_=>fun _ _ _ _=>False
end
noncomputable def Tg.under(own:Nat):Tg→Bool
 | .n i=>decide (i < own)
 | .tp l=>l.under own
 | .nil=>true
 | .cons a r=>a.under own&&r.under own
theorem Tg.Kt:∀(g:Tg) {ps:List PV} {σ3 σ4:b9},g.HM ps σ3=some σ4→ps.length=g.len
 | .nil,ps,σ3,σ4,h=>by
  cases ps with
  |nil=>rfl
  |cons _ _=>unfold Tg.HM at h;cases h
 | .cons a r,ps,σ3,σ4,h=>by
  cases ps with
  |nil=>unfold Tg.HM at h;cases h
  |cons x xs=>
   unfold Tg.HM at h
   split at h
   ·rw[List.length_cons,Tg.Kt r h];rfl
   ·cases h
 | .n _,ps,σ3,σ4,h=>by unfold Tg.HM at h;cases h
 | .tp _,ps,σ3,σ4,h=>by unfold Tg.HM at h;cases h
mutual
theorem Tg.KG{K:PySem.W.Frag}{H:Hp}{own:Nat}:∀(g:Tg) {v:V} {p:PV} {σ:L2.St} {σ3 σ4:b9} {Q:L2.St→Hp→Prop},Rep K H v p→GM K H σ σ3→g.put p σ3=some σ4→(∀σ',GM K H σ' σ4→(g.under own=true→σ'.drop own=σ.drop own)→Q σ' H)→g.g2 K v σ H Q
 | .n i,v,p,σ,σ3,σ4,Q,r,rσ,h,k=>by
  unfold Tg.put at h
  cases h
  unfold Tg.g2
  refine k _ (rσ.set r i) fun hb=>?_
  have hi:i < own:=of_decide_eq_true hb
  rw[List.drop_set]
  rw[if_pos hi]
 | .tp l,v,p,σ,σ3,σ4,Q,r,rσ,h,k=>by
  cases p with
  |tup xs=>
   unfold Tg.put at h
   cases r with
   |tup hq rs=>
    have hg:=Tg.K0 (own:=own) l rs rσ h k
    unfold Tg.g2
    exact⟨_,_,rfl,hq,rs.length.trans (Tg.Kt l h),hg⟩
  |_=>unfold Tg.put at h;cases h
 | .nil,v,p,σ,σ3,σ4,Q,r,rσ,h,k=>by unfold Tg.put at h;cases h
 | .cons _ _,v,p,σ,σ3,σ4,Q,r,rσ,h,k=>by unfold Tg.put at h;cases h
theorem Tg.K0{K:PySem.W.Frag}{H:Hp}{own:Nat}:∀(g:Tg) {vs:List V} {ps:List PV} {σ:L2.St} {σ3 σ4:b9} {Q:L2.St→Hp→Prop},Reps K H vs ps→GM K H σ σ3→g.HM ps σ3=some σ4→(∀σ',GM K H σ' σ4→(g.under own=true→σ'.drop own=σ.drop own)→Q σ' H)→g.Mx K vs σ H Q
 | .nil,vs,ps,σ,σ3,σ4,Q,r,rσ,h,k=>by
  cases ps with
  |nil=>
   unfold Tg.HM at h
   cases h
   cases r
   unfold Tg.Mx
   exact⟨rfl,k _ rσ fun _=>rfl⟩
  |cons _ _=>unfold Tg.HM at h;cases h
 | .cons a r',vs,ps,σ,σ3,σ4,Q,r,rσ,h,k=>by
  cases ps with
  |nil=>unfold Tg.HM at h;cases h
  |cons x xs=>
   unfold Tg.HM at h
   split at h
   ·rename_i σ5 e5
    cases r with
    |cons r1 r2=>
     unfold Tg.Mx
     refine⟨_,_,rfl,Tg.KG (own:=own) a r1 rσ e5 fun σ' LY d1=>Tg.K0 (own:=own) r' r2 LY h fun Q8 OZ d2=>k Q8 OZ fun hb=>?_⟩
     have hb':a.under own=true∧r'.under own=true:=by simpa [Tg.under]using hb
     rw[d2 hb'.2,d1 hb'.1]
   ·cases h
 | .n _,vs,ps,σ,σ3,σ4,Q,r,rσ,h,k=>by unfold Tg.HM at h;cases h
 | .tp _,vs,ps,σ,σ3,σ4,Q,r,rσ,h,k=>by unfold Tg.HM at h;cases h
end
structure yP (X:Cx) (e:Expr) (g:Tg):Prop where
 ok:PG X e (g.g2 X.K)
structure yQ (X:Cx) (es:List Expr) (g:Tg):Prop where
 ok:CN X es (g.Mx X.K)
 len:(assignEach es X.env).length=g.len
theorem F8(i:Nat){x:Str}(hN:X.N.Nodup)(hi:X.N[i]?=some x)(hx:zK X.env.scope x)(hf:X.fn x=true∨X.env.scope.names.lookup x=some .local:=by first|exact .inl rfl|exact .inr rfl|assumption):yP X (.Name x pos) (.n i):=⟨by
 have h:=xW (pos:=pos) hN hi hx hf
 unfold Tg.g2
 exact h⟩
theorem mz:yQ X [] .nil:=⟨by unfold Tg.Mx;exact xX,rfl⟩
theorem cw{es:List Expr}{a r:Tg}(h1:yP X e a)(h2:yQ X es r)(hs:(assignEach (e::es) X.env).map (·.2)=assign e X.env::(assignEach es X.env).map (·.2):=by rfl)(hl:(assignEach (e::es) X.env).length=(assignEach es X.env).length+1:=by rfl):yQ X (e::es) (.cons a r):=
 ⟨by unfold Tg.Mx;exact uz h1.ok h2.ok hs,by rw[hl,h2.len];rfl⟩
theorem Cu{es:List Expr}{k:Nat}{l:Tg}(hc:X.calm=true)(h:yQ X es l)(hst:(assignEach es X.env).findIdx? (·.1)=none:=by rfl):yP X (.Tuple es k pos) (.tp l):=⟨by
 have h:=Ay (pos:=pos) (k:=k) hc h.ok h.len hst
 unfold Tg.g2
 exact h⟩
def yR(te:aL)(g:Tg):bj:=fun D σ S=>te σ S (fun v S1=>match g.put v σ with|some σ'=>D.nx σ' S1|none=>False) D.ex
end
noncomputable def gW{κ:Type} [DecidableEq κ](kvs:List (κ×PV))(k:κ)(v:PV):List (κ×PV):=
 if (kvs.any fun kv=>decide (kv.1=k))=true then kvs.map (fun kv=>if kv.1=k then (kv.1,v) else kv) else kvs++[(k,v)]
theorem GO.append{K:PySem.W.Frag}{H:Hp}{κ:Type}:∀{vs us:List (κ×V)} {ps qs:List (κ×PV)},GO K H vs ps→GO K H us qs→GO K H (vs++us) (ps++qs)
 |_,_,_,_,.nil,s=>s
 |_,_,_,_,.cons a r,s=>.cons a (GO.append r s)
theorem GO.put{K:PySem.W.Frag}{H:Hp}{κ:Type} [DecidableEq κ]{k:κ}{v:V}{p:PV}(q:Rep K H v p){vs:List (κ×V)}{ps:List (κ×PV)}(r:GO K H vs ps):GO K H (fJ vs k v) (gW ps k p):=by
 have e:(vs.any fun kv=>decide (kv.1=k))=(ps.any fun kv=>decide (kv.1=k)):=by rw[kM,r.any]
 unfold fJ gW
 rw[e]
 split
 ·clear e
  rename_i h
  clear h
  induction r with
  |nil=>exact .nil
  |@cons k' v' p' vs' ps' a r ih=>
   rw[List.map_cons,List.map_cons]
   by_cases z:k'=k
   ·rw[if_pos z,if_pos z];exact .cons q ih
   ·rw[if_neg z,if_neg z];exact .cons a ih
 ·exact r.append (.cons q .nil)
def cN(o i v:PV)(S:av)(Q:av→Prop):Prop:=match o with
 | .ref a=>(match S a with
  |some (.lst xs)=>(match i with | .int k=>(match oQ xs.length k with|some j=>Q (GE S a (.lst (xs.set j v)))|none=>False)|_=>False)
  |some (.dct kvs)=>(match cr i with|some k=>kvs.length < sizeLine∧Q (GE S a (.dct (gW kvs k v)))|none=>False)
  |_=>False)
 |_=>False
section
variable {X:Cx} {e o i:Expr} {te to ti:aL} {pos pos':Pos}
noncomputable def Ff(X:Cx):V→V→V→Hp→(Hp→Prop)→Prop:=fun o i v H Q=>∃po pi pv S Q3,Rep X.K H o po∧Rep X.K H i pi∧Rep X.K H v pv∧GI X.K H S∧cN po pi pv S Q3∧∀S' H',Q3 S'→GI X.K H' S'→Grow X.K H H'→Q H'
theorem Bw(hu:X.A.units+1 < cLine):xV X (Ff X):=by
 intro pins s σ H o i v ov iv u Q I ro ri rv ⟨po,pi,pv,S,Q3,r1,r2,r3,rS,q,k⟩
 unfold cN at q
 split at q
 ·split at q
  ·rename_i e
   split at q
   ·split at q
    ·rename_i ej
     cases r1;cases r2
     obtain⟨vs,hv,rl⟩:=rS _ _ e
     rw[←rl.length]at ej
     exact uS pins s σ H _ _ _ ov iv u Q I ro ri rv ⟨_,_,_,_,rfl,rfl,hv,ej,k _ _ q (rS.put hv trivial ⟨_,ay,((rl.set r3 _).mono (.mut hv trivial))⟩) (.mut hv trivial)⟩
    ·exact q.elim
   ·exact q.elim
  ·rename_i e
   split at q
   ·rename_i ek
    cases r1
    have e1:=eP r2 ek
    subst e1
    obtain⟨kv,hv,rk⟩:=rS _ _ e
    exact vN hu pins s σ H _ _ _ ov iv u Q I ro ri rv ⟨_,_,rfl,KF.k hv (by rw[rk.length];exact q.1),k _ _ q.2 (rS.put hv trivial ⟨_,ay,(rk.put r3).mono (.mut hv trivial)⟩) (.mut hv trivial)⟩
   ·exact q.elim
  ·exact q.elim
 ·exact q.elim
def di(te to ti:aL):bj:=fun D σ S=>te σ S (fun v S1=>to σ S1 (fun o S2=>ti σ S2 (fun i S3=>cN o i v S3 (fun S4=>D.nx σ S4)) D.ex) D.ex) D.ex
theorem fD(hu:X.A.units+1 < cLine)(he:bf X e te)(ho:bf X o to)(hi:bf X i ti)
  (ha:∀v,assign (.Subscript o i pos') X.env v=(do
   let ov ←holding [v] (eval o X.env)
   let iv ←holding [v,ov] (eval i X.env)
   standAt pos'
   holding [v,ov,iv] (setItem ov iv v)
   release [v,ov,iv] []):=by intro _;rfl)
  (hs:swapsWithSole [.Subscript o i pos'] e pos.line X.env=pure false:=by rfl) (hw:swappedStores [.Subscript o i pos'] e X.env=pure none:=by rfl)
  (h1:(assignEach [.Subscript o i pos'] X.env).map (·.2)=[assign (.Subscript o i pos') X.env]:=by rfl):mv X (.Assign [.Subscript o i pos'] e pos) (di te to ti):=
 ⟨cq (AA he.ok (Az ho.ok hi.ok (Bw hu) ha) hs hw h1) fun D σ H ⟨σ3,S,D3,rσ,rS,h,xo,n,r,bk,ct⟩=>⟨σ3,S,_,D3.ex,rσ,rS,h,xo,fun v S1 v' H1 h1 rv GR g1=>
  ⟨σ3,S1,_,D3.ex,rσ.mono g1,GR,h1,xo.mono g1,fun o S2 o' H2 h2 ro IM g2=>⟨σ3,S2,_,D3.ex,rσ.mono (g1.trans g2),IM,h2,xo.mono (g1.trans g2),fun i S3 i' H3 h3 ri LX g3=>
   ⟨o,i,v,S3,_,ro.mono g3,ri,rv.mono (g2.trans g3),LX,h3,fun S4 H4 h4 O_ g4=>n _ S4 _ H4 h4 (rσ.mono (g1.trans (g2.trans (g3.trans g4)))) O_ (g1.trans (g2.trans (g3.trans g4)))⟩⟩⟩⟩⟩
end
end L3
namespace L2
open PySem PySem.Spec PyProof.Rows
section
variable {X:Cx} {tg:Expr}
def Fg(K:PySem.W.Frag)(tl:TE):TI:=fun σ H R=>tl σ H fun x H1=>(∃a,x = .ref a∧(∃xs,SqL K H1 a xs)∧R (Ej K a) H1)∨(∃a,x = .ref a∧(∃xs,G3 K H1 a xs)∧R (EM K a) H1)∨∃z,x = .str z∧R (E8 z) H1
theorem Bx{l:Expr}{tl:TE}(hl:PE X l tl):PI X tg l (Fg X.K tl):=by
 intro pins s σ H R I h
 refine GJ (hl pins s σ H _ I h) fun v s1 ⟨x,H1,I1,r1,q1⟩=>?_
 rcases q1 with⟨a,e,⟨xs,hq⟩,q⟩|⟨a,e,⟨xs,hq⟩,q⟩|⟨z,e,q⟩
 ·subst e
  cases r1
  obtain⟨its,rv,p,hz⟩:=I1.list hq
  refine wpAny_pyIter_list p.isList ?_
  refine⟨s1.heap.objs.size,[s1.heap.objs.size],_,_,H1,rfl,I1.kept (t':=s1.toks) fun b o e=>Heap.get?_push_of_some _ e,sQ a _,⟨_,Heap.get?_push_size _ rfl,rfl,rfl⟩,fun b hb=>?_,q⟩
  have e:b=s1.heap.objs.size:=by simpa using hb
  subst e
  exact I1.IS (Nat.le_refl _) (I1.hok.fresh (Nat.le_refl _))
 ·subst e
  cases r1
  obtain⟨its,rv,p,hz⟩:=I1.tuple hq
  refine wpAny_pyIter_tuple (show s1.heap.IsTuple a its.toArray from p) ?_
  refine⟨s1.heap.objs.size,[s1.heap.objs.size],_,_,H1,rfl,I1.kept (t':=s1.toks) fun b o e=>Heap.get?_push_of_some _ e,qx a _,⟨_,Heap.get?_push_size _ rfl,rfl,rfl⟩,fun b hb=>?_,q⟩
  have e:b=s1.heap.objs.size:=by simpa using hb
  subst e
  exact I1.IS (Nat.le_refl _) (I1.hok.fresh (Nat.le_refl _))
 ·subst e
  obtain⟨t,rfl⟩:=r1
  have fin:∀ty,(ty = "str_ascii_iterator" ∨ ty = "str_iterator")→EL X pins σ tg R (.ref s1.heap.objs.size) { s1 with heap:=s1.heap.push { cls:=.type ty,data:=.fields #[.str z t,.int 0 0] } }:=fun ty hty=>by
   refine⟨s1.heap.objs.size,[s1.heap.objs.size],_,_,H1,rfl,I1.kept (t':=s1.toks) fun b o e=>Heap.get?_push_of_some _ e,u9 hty _ z t,⟨Nat.zero_le _,_,Heap.get?_push_size _ rfl,rfl,rfl⟩,fun b hb=>?_,q⟩
   have e:b=s1.heap.objs.size:=by simpa using hb
   subst e
   exact I1.IS (Nat.le_refl _) (I1.hok.fresh (Nat.le_refl _))
  cases ha:z.cps.all (· < 128)
  ·exact wpAny_pyIter_wide ha (fin _ (.inr rfl))
  ·exact wpAny_pyIter_ascii ha (fin _ (.inl rfl))
end
end L2
namespace L3
open PySem L2
structure Fh where
 items:List PV
 keep:av→Prop
def j_(K:PySem.W.Frag)(H0:Hp)(J:It)(src:Fh):Prop:=∀(i:Nat) (S:av) (H:Hp),Grow K H0 H→GI K H S→src.keep S→
 (∀p,src.items[i]?=some p→J.go i H∧∀x H',J.N_ i H x H'→Rep K H' x p∧GI K H' S∧Grow K H H')∧(i=src.items.length→J.stop i H)
abbrev tQ:=b9→av→(Fh→av→Prop)→bO→Prop
def LI(X:Cx)(t:tQ):TI:=fun σ H R=>∃σ3 S R3 E3,GM X.K H σ σ3∧GI X.K H S∧t σ3 S R3 E3∧KZ X H E3∧∀src S' J H',R3 src S'→j_ X.K H' J src→GI X.K H' S'→Grow X.K H H'→R J H'
structure yS (X:Cx) (tg iter:Expr) (t:tQ):Prop where
 ok:PI X tg iter (LI X t)
theorem ny{X:Cx}{tg iter:Expr}{t t':TI}(h:PI X tg iter t)(k:∀σ H R,t' σ H R→t σ H R):PI X tg iter t':=fun pins s σ H R I q=>h pins s σ H R I (k σ H R q)
section
variable {X:Cx} {e tg:Expr} {es:List Expr} {te:aL} {ts:List aL} {p pos:Pos}
noncomputable def fE(S:av):PV→Option Fh
 | .tup xs=>some ⟨xs,fun _=>True⟩
 | .cl xs=>some ⟨xs,fun _=>True⟩
 | .str z=>some ⟨z.cps.toList.map fun c=>.str (ju c),fun _=>True⟩
 | .ref a=>(match S a with|some (.lst xs)=>some ⟨xs,fun S'=>S' a=some (.lst xs)⟩|_=>none)
 |_=>none
def bg(te:aL):tQ:=fun σ S R E=>te σ S (fun v S1=>match fE S1 v with|some src=>R src S1|none=>False) E
end
section
variable {X:Cx} {e tg a b:Expr} {es:List Expr} {te ta tb:aL} {ts:List aL} {p pos:Pos}
theorem vW{K:PySem.W.Frag}{H0:Hp}{a:Addr}{xs:List PV}:j_ K H0 (Ej K a) ⟨xs,fun S'=>S' a=some (.lst xs)⟩:=by
 intro i S H g rS hk
 obtain⟨vs,hv,rs⟩:=rS a _ hk
 refine⟨fun p hp=>?_,fun hi=>⟨vs,SqL.of hv,by rw[rs.length,hi];exact Nat.le_refl _⟩⟩
 obtain⟨v,hx,rv⟩:=rs.get hp
 refine⟨⟨vs,v,SqL.of hv,hx⟩,fun x H' ⟨e,h⟩=>?_⟩
 subst e
 have:=h vs (SqL.of hv)
 rw[hx]at this
 cases this
 exact⟨rv,rS,.refl⟩
theorem yT{K:PySem.W.Frag}{H0:Hp}{a:Addr}{vs:List V}{xs:List PV}(h:G3 K H0 a vs)(rs:Reps K H0 vs xs):j_ K H0 (EM K a) ⟨xs,fun _=>True⟩:=by
 intro i S H g rS _
 have hv:=g.t _ _ h
 refine⟨fun p hp=>?_,fun hi=>⟨vs,hv,by rw[rs.length,hi];exact Nat.le_refl _⟩⟩
 obtain⟨v,hx,rv⟩:=rs.get hp
 refine⟨⟨vs,v,hv,hx⟩,fun x H' ⟨e,h⟩=>?_⟩
 subst e
 have:=h vs hv
 rw[hx]at this
 cases this
 exact⟨rv.mono g,rS,.refl⟩
theorem By{K:PySem.W.Frag}{H0:Hp}{a:Addr}{vs:List V}{xs:List PV}(h:Nc K H0 a vs)(rs:Reps K H0 vs xs):j_ K H0 (Ej K a) ⟨xs,fun _=>True⟩:=by
 intro i S H g rS _
 have hv:=(g.c _ _ h).sq
 refine⟨fun p hp=>?_,fun hi=>⟨vs,hv,by rw[rs.length,hi];exact Nat.le_refl _⟩⟩
 obtain⟨v,hx,rv⟩:=rs.get hp
 refine⟨⟨vs,v,hv,hx⟩,fun x H' ⟨e,h⟩=>?_⟩
 subst e
 have:=h vs hv
 rw[hx]at this
 cases this
 exact⟨rv.mono g,rS,.refl⟩
theorem yU{K:PySem.W.Frag}{H0:Hp}{z:Str}:j_ K H0 (E8 z) ⟨z.cps.toList.map fun c=>.str (ju c),fun _=>True⟩:=by
 intro i S H g rS _
 refine⟨fun p hp=>?_,fun hi=>by show z.cps.size≤i;rw[hi,List.length_map,Array.length_toList];exact Nat.le_refl _⟩
 rw[List.getElem?_map]at hp
 cases hc:z.cps.toList[i]? with
 |none=>rw[hc]at hp;cases hp
 |some c=>
  rw[hc]at hp
  cases hp
  have hc':z.cps[i]?=some c:=by simpa using hc
  refine⟨?_,fun x H' ⟨e,c',h1,h2⟩=>?_⟩
  ·show i < z.cps.size
   by_cases hi:i < z.cps.size
   ·exact hi
   ·rw[Array.getElem?_eq_none (by omega)]at hc';cases hc'
  ·subst e
   rw[hc']at h1
   cases h1
   subst h2
   exact⟨.str _,rS,.refl⟩
theorem dk(he:bf X e te):yS X tg e (bg te):=⟨ny (Bx he.ok) fun σ H R ⟨σ3,S,R3,E3,rσ,rS,h,xo,k⟩=>⟨σ3,S,_,E3,rσ,rS,h,xo,fun v S1 v' H1 h1 rv GR g1=>by
 dsimp only at h1
 split at h1
 ·rename_i src hs
  unfold fE at hs
  split at hs
  ·cases hs
   cases rv with
   |tup hq rs=>exact .inr (.inl ⟨_,rfl,⟨_,hq⟩,k _ S1 _ H1 h1 (yT hq rs) GR g1⟩)
  ·cases hs
   cases rv with
   |cl hq rs=>exact .inl ⟨_,rfl,⟨_,hq.sq⟩,k _ S1 _ H1 h1 (By hq rs) GR g1⟩
  ·cases hs
   cases rv
   exact .inr (.inr ⟨_,rfl,k _ S1 _ H1 h1 yU GR g1⟩)
  ·cases rv
   split at hs
   ·rename_i ea
    cases hs
    obtain⟨vs,hv,rs⟩:=GR _ _ ea
    exact .inl ⟨_,rfl,⟨_,SqL.of hv⟩,k _ S1 _ H1 h1 vW GR g1⟩
   ·cases hs
  ·cases hs
 ·exact h1.elim⟩⟩
noncomputable def bH(lo:Int)(n:Nat):List PV:=(List.range n).map fun(i:Nat)=>PV.int (lo+i)
theorem tR{K:PySem.W.Frag}{H0:Hp}{lo:Int}{n:Nat}:j_ K H0 (Ek lo n) ⟨bH lo n,fun _=>True⟩:=by
 intro i S H g rS _
 refine⟨fun p hp=>?_,fun hi=>by show n≤i;rw[hi];simp[bH]⟩
 unfold bH at hp
 rw[List.getElem?_map]at hp
 by_cases hi:i < n
 ·rw[List.getElem?_range hi]at hp
  cases hp
  refine⟨hi,fun x H' ⟨e,h⟩=>?_⟩
  subst e h
  exact⟨.int _,rS,.refl⟩
 ·rw[List.getElem?_eq_none (by simpa using hi)]at hp
  cases hp
def cM(ta:aL):tQ:=fun σ S R E=>ta σ S (fun v S1=>match v with | .int j=>-(2 ^ 62)≤j∧j < 2 ^ 62∧R ⟨bH 0 j.toNat,fun _=>True⟩ S1|_=>False) E
theorem bP(hs:starEach [a] X.env=[(false,eval a X.env)])(hg:Gl X "range")(hm:X.mg "range" = none)(ha:jz X [a] [ta]):yS X tg (.Call (.Name "range" p) [a] [] pos) (cM ta):=
 ⟨ny (sR hg hm ha.ok hs) fun σ H R ⟨σ3,S,R3,E3,rσ,rS,h,xo,k⟩=>⟨σ3,S,_,E3,rσ,rS,h,xo,fun v S1 v' H1 h1 rv GR g1=>by
  dsimp only at h1
  split at h1
  ·cases rv
   exact⟨_,rfl,h1.1,h1.2.1,k _ S1 _ H1 h1.2.2 tR GR g1⟩
  ·exact h1.elim⟩⟩
def Bz(ta tb:aL):tQ:=fun σ S R E=>ta σ S (fun v S1=>tb σ S1 (fun w S2=>match v,w with | .int i,.int j=>(-(2 ^ 62)≤i∧i < 2 ^ 62∧-(2 ^ 62)≤j∧j < 2 ^ 62)∧R ⟨bH i (j - i).toNat,fun _=>True⟩ S2|_,_=>False) E) E
noncomputable def o8(xs:List PV):List PV:=xs.mapIdx fun i x=>.tup [.int i,x]
def vX(ta:aL):tQ:=fun σ S R E=>ta σ S (fun v S1=>match v with
 | .tup xs=>R ⟨o8 xs,fun _=>True⟩ S1
 | .ref a=>(match S1 a with|some (.lst xs)=>R ⟨o8 xs,fun S'=>S' a=some (.lst xs)⟩ S1|_=>False)
 |_=>False) E
noncomputable def dr(xs ys:List PV):List PV:=(xs.zip ys).map fun z=>.tup [z.1,z.2]
theorem vY{K:PySem.W.Frag}{H0:Hp}{a b:Addr}{vs us:List V}{xs ys:List PV}(h1:G3 K H0 a vs)(h2:G3 K H0 b us)(r1:Reps K H0 vs xs)(r2:Reps K H0 us ys):j_ K H0 (Fa K a b) ⟨dr xs ys,fun _=>True⟩:=by
 intro i S H g rS _
 have hv:=g.t _ _ h1
 have hu:=g.t _ _ h2
 have l1:=r1.length
 have l2:=r2.length
 refine⟨fun p hp=>?_,fun hi=>⟨vs,us,hv,hu,?_⟩⟩
 ·unfold dr at hp
  rw[List.getElem?_map]at hp
  cases hz:(xs.zip ys)[i]? with
  |none=>rw[hz]at hp;cases hp
  |some z=>
   rw[hz]at hp
   cases hp
   obtain⟨e1,e2⟩:=List.getElem?_zip_eq_some.mp hz
   obtain⟨v,hx',rv⟩:=r1.get e1
   obtain⟨u,hy',ru⟩:=r2.get e2
   refine⟨⟨vs,us,v,u,hv,hu,hx',hy'⟩,fun x H' ⟨q,x2,y2,e3,hq,e4,h⟩=>?_⟩
   subst e3 e4
   obtain⟨k1,k2⟩:=h vs us hv hu
   rw[hx']at k1
   rw[hy']at k2
   cases k1;cases k2
   exact⟨.tup (G3.of ay) (.cons ((rv.mono g).mono (.new hq)) (.cons ((ru.mono g).mono (.new hq)) .nil)),rS.other hq,.new hq⟩
 ·have e:(dr xs ys).length=min xs.length ys.length:=by simp[dr]
  rw[e]at hi
  by_cases hle:xs.length≤ys.length
  ·exact .inl (by omega)
  ·exact .inr (by omega)
def nz(ta tb:aL):tQ:=fun σ S R E=>ta σ S (fun v S1=>tb σ S1 (fun w S2=>match v,w with
 | .tup xs,.tup ys=>R ⟨dr xs ys,fun _=>True⟩ S2
 |_,_=>False) E) E
theorem vZ{elts:List Expr}{k0:Nat}{JO:Pos}(hs:starEach [a,b] X.env=[(false,eval a X.env),(false,eval b X.env)])(hs2:starEach [b] X.env=[(false,eval b X.env)])(hg:Gl X "zip")(hm:X.mg "zip" = none)(hv:bootBuiltins "zip" = some (.type "zip"))(ha:jz X [a,b] [ta,tb]) :
  yS X (.Tuple elts k0 JO) (.Call (.Name "zip" p) [a,b] [] pos) (nz ta tb):=
 ⟨ny (Bg hg hm hv ha.ok hs hs2) fun σ H R ⟨σ3,S,R3,E3,rσ,rS,h,xo,k⟩=>⟨σ3,S,_,E3,rσ,rS,h,xo,fun v S1 v' H1 h1 rv GR g1=>⟨σ3,S1,_,E3,rσ.mono g1,GR,h1,xo.mono g1,fun w S2 w' H2 h2 rw' IM g2=>by
  dsimp only at h2
  split at h2
  ·cases rv with
   |tup hq rs=>
    cases rw' with
    |tup hq2 NC=>exact⟨_,_,rfl,⟨_,g2.t _ _ hq⟩,⟨_,hq2⟩,k _ S2 _ H2 h2 (vY (g2.t _ _ hq) hq2 (rs.mono g2) NC) IM (g1.trans g2)⟩
  ·exact h2.elim⟩⟩⟩
end
section
variable {X:Cx} {iter tg c:Expr} {body:List Stmt} {ti:tQ} {g:Tg} {tb:bj} {tc:iG} {pos:Pos}
noncomputable def o9(g:Tg)(tb:bj)(D:iH)(keep:av→Prop):List PV→b9→av→Prop
 |[],σ,S=>keep S∧D.nx σ S
 |x::r,σ,S=>keep S∧match g.put x σ with|some σ'=>tb { D with nx:=o9 g tb D keep r,ct:=o9 g tb D keep r,bk:=D.nx } σ' S|none=>False
def bM(ti:tQ)(g:Tg)(tb:bj):bj:=fun D σ S=>ti σ S (fun src S1=>o9 g tb D src.keep src.items σ S1) D.ex
theorem dt(hp:PassesOwn (model X.prog X.w) X.A X.env X.xe)(hc:X.calm=true)(hi:yS X tg iter ti)(hg:yP X tg g)(hb:eS X body tb)(hs:∀x,foldedSetIterable iter X.env x=pure x:=by intro _;rfl):mv X (.For tg iter body [] pos) (bM ti g tb):=
 ⟨cq (AE hp hc hi.ok hg.ok hb.ok hs) fun D σ H ⟨σ3,S,D3,rσ,rS,h,xo,n,r,bk,ct⟩=>⟨σ3,S,_,D3.ex,rσ,rS,h,xo,fun src S1 J H1 h1 sim GR g1=>by
  refine⟨fun i m σ' H'=>i+m=src.items.length∧∃σ4 S',GM X.K H' σ' σ4∧GI X.K H' S'∧Grow X.K H1 H'∧o9 g tb D3 src.keep (src.items.drop i) σ4 S',⟨src.items.length,Nat.zero_add _,σ3,S1,rσ.mono g1,GR,.refl,by simpa using h1⟩,?_⟩
  rintro i m σ' H' ⟨hm,σ4,S',LY,Ia,g',hw⟩
  cases hd:src.items.drop i with
  |nil=>
   rw[hd]at hw
   have hi:i=src.items.length:=by
    have:=congrArg List.length hd
    rw[List.length_drop,List.length_nil]at this
    omega
   exact .inl ⟨(sim i S' H' g' Ia hw.1).2 hi,n _ S' _ H' hw.2 LY Ia (g1.trans g')⟩
  |cons x rest=>
   rw[hd]at hw
   have hx:src.items[i]?=some x:=by
    have:=congrArg (fun l=>l[0]?) hd
    simpa using this
   have hrest:src.items.drop (i+1)=rest:=by
    have:=congrArg List.tail hd
    simpa [List.tail_drop]using this
   have hlt:i < src.items.length:=by
    by_cases z:i < src.items.length
    ·exact z
    ·rw[List.getElem?_eq_none (by omega)]at hx;cases hx
   obtain⟨go,yl⟩:=(sim i S' H' g' Ia hw.1).1 x hx
   refine .inr ⟨go,fun σ5 H5=>∃σ6 S6,GM X.K H5 σ5 σ6∧GI X.K H5 S6∧Grow X.K H1 H5∧o9 g tb D3 src.keep rest σ6 S6,?_,fun v H5 hv=>?_⟩
   ·rintro σ5 H5 ⟨σ6,S6,q1,q2,q3,q4⟩
    exact⟨m - 1,by omega,by omega,σ6,S6,q1,q2,q3,by rw[hrest];exact q4⟩
   ·obtain⟨rv,Pa,g5⟩:=yl v H5 hv
    obtain⟨_,hw⟩:=hw
    split at hw
    ·rename_i σ6 e6
     refine Tg.KG (own:=0) g rv (LY.mono g5) e6 fun σ7 Oj _=>?_
     exact⟨σ6,S',_,Oj,Pa,hw,xo.mono (g1.trans (g'.trans g5)),fun σ8 S8 σ9 H9 q1 q2 q3 q4=>⟨σ8,S8,q2,q3,g'.trans (g5.trans q4),q1⟩,r.mono (g1.trans (g'.trans g5)),n.mono (g1.trans (g'.trans g5)),
      fun σ8 S8 σ9 H9 q1 q2 q3 q4=>⟨σ8,S8,q2,q3,g'.trans (g5.trans q4),q1⟩⟩
    ·exact hw.elim⟩⟩
def ij(tc:iG)(tb:bj):bj:=fun D σ S=>∃W:Nat→b9→av→Prop,(∃m,W m σ S)∧∀m σ S,W m σ S→
 tc σ S (fun b S1=>if b=true then ∃N:b9→av→Prop,(∀σ' S',N σ' S'→∃m',m' < m∧W m' σ' S')∧tb { D with nx:=N,ct:=N,bk:=D.nx } σ S1 else D.nx σ S1) D.ex
theorem iK(hp:PassesOwn (model X.prog X.w) X.A X.env X.xe)(hc:qp X c tc)(hb:eS X body tb):mv X (.While c body [] pos) (ij tc tb):=
 ⟨cq (uA hp hc.ok hb.ok) fun D σ H ⟨σ3,S,D3,rσ,rS,⟨W,⟨m0,w0⟩,turn⟩,xo,n,r,bk,ct⟩=>by
  refine⟨fun m σ' H'=>∃σ4 S',GM X.K H' σ' σ4∧GI X.K H' S'∧Grow X.K H H'∧W m σ4 S',⟨m0,σ3,S,rσ,rS,.refl,w0⟩,?_⟩
  rintro m σ' H' ⟨σ4,S',LY,Ia,g',w'⟩
  refine⟨σ4,S',_,D3.ex,LY,Ia,turn m σ4 S' w',xo.mono g',fun b S1 H1 h1 GR g1=>?_⟩
  cases b with
  |true=>
   rw[if_pos rfl]at h1 ⊢
   obtain⟨N,hN,h1⟩:=h1
   refine⟨fun σ5 H5=>∃σ6 S6,GM X.K H5 σ5 σ6∧GI X.K H5 S6∧Grow X.K H H5∧N σ6 S6,?_,?_⟩
   ·rintro σ5 H5 ⟨σ6,S6,q1,q2,q3,q4⟩
    obtain⟨m',hm,w6⟩:=hN σ6 S6 q4
    exact⟨m',hm,σ6,S6,q1,q2,q3,w6⟩
   ·exact⟨σ4,S1,_,LY.mono g1,GR,h1,xo.mono (g'.trans g1),fun σ8 S8 σ9 H9 q1 q2 q3 q4=>⟨σ8,S8,q2,q3,g'.trans (g1.trans q4),q1⟩,r.mono (g'.trans g1),n.mono (g'.trans g1),
     fun σ8 S8 σ9 H9 q1 q2 q3 q4=>⟨σ8,S8,q2,q3,g'.trans (g1.trans q4),q1⟩⟩
  |false=>
   rw[if_neg (by decide)]at h1 ⊢
   exact n _ S1 _ H1 h1 (LY.mono g1) GR (g'.trans g1)⟩
end
noncomputable def gX:bO:=fun _ _ _=>False
theorem KZ.no{X:Cx}{H:Hp}:KZ X H gX:=fun _ _ _ _ _ _ _ _ _ _ _ _ _ _ h=>h.elim
section
variable {X:Cx} {elt iter tg c:Expr} {ifs:List Expr} {scope:Scope} {pos:Pos} {ti:tQ} {g:Tg} {tc:iG} {te:aL} {fs N:List Str} {own:Nat} {fr:List Nat}
noncomputable def eA(g:Tg)(tc:iG)(te:aL)(σ':b9)(keep:av→Prop)(fin:List PV→av→Prop):List PV→List PV→av→Prop
 |[],ys,S=>keep S∧ys.length≤sizeLine∧fin ys S
 |x::r,ys,S=>keep S∧ys.length≤sizeLine∧match g.put x σ' with
  |some σ2=>tc σ2 S (fun b S3=>if b=true then te σ2 S3 (fun y S4=>eA g tc te σ' keep fin r (ys++[y]) S4) gX else eA g tc te σ' keep fin r ys S3) gX
  |none=>False
def cO:iG:=fun _ S Q _=>Q true S
structure Cv (X:Cx) (ifs:List Expr) (t:iG):Prop where
 ok:PF X ifs (LT X t)
theorem qV{t t':TT}(h:PF X ifs t)(k:∀σ H Q,t' σ H Q→t σ H Q):PF X ifs t':=fun pins s σ H Q I q=>h pins s σ H Q I (k σ H Q q)
theorem dW:Cv X [] cO:=⟨qV Ba fun σ H Q ⟨σ3,S,Q3,E3,rσ,rS,h,xo,k⟩=>k true S H h rS .refl⟩
theorem DE(h:qp X c tc):Cv X [c] tc:=⟨Bb h.ok⟩
noncomputable def ko(own:Nat)(fr:List Nat)(σ:b9):b9:=List.replicate own none++fr.map fun j=>lk σ j
theorem yV{K:PySem.W.Frag}{H:Hp}{σ:L2.St}{σ3:b9}(r:GM K H σ σ3)(own:Nat)(fr:List Nat):GM K H (eu own fr σ) (ko own fr σ3):=by
 refine⟨by unfold eu ko;simp,fun i p e=>?_⟩
 unfold ko at e
 unfold eu
 by_cases hi:i < own
 ·rw[List.getElem?_append_left (by simpa using hi),List.getElem?_replicate,if_pos hi]at e
  cases e
 ·rw[List.getElem?_append_right (by simpa using hi),List.length_replicate,List.getElem?_map]at e ⊢
  cases hj:fr[i - own]? with
  |none=>rw[hj]at e;cases e
  |some j=>
   rw[hj]at e
   simp only[Option.map_some,Option.some.injEq]at e ⊢
   obtain⟨v,hv,rv⟩:=r.at' j p (vD e)
   exact⟨v,by rw[hv];rfl,rv⟩
def bh(ti:tQ)(g:Tg)(tc:iG)(te:aL)(own:Nat)(fr:List Nat):aL:=fun σ S Q E=>ti σ S (fun src S1=>eA g tc te (ko own fr σ) src.keep (fun ys S2=>∀p,S2 p=none→Q (.ref p) (GE S2 p (.lst ys))) src.items [] S1) E
theorem mB{σ:L2.St}{H:Hp}{Q:VK}(Lv:g.under own=true)(B0:Bk):LE X (bh ti g tc te own fr) σ H Q→u6 (LI X ti) (g.g2 X.K) (fun σ H Q=>∃σ3 S Q3,GM X.K H σ σ3∧GI X.K H S∧tc σ3 S Q3 gX∧∀b S' H',Q3 b S'→GI X.K H' S'→Grow X.K H H'→Q b H')
  (fun σ H Q=>∃σ3 S Q3,GM X.K H σ σ3∧GI X.K H S∧te σ3 S Q3 gX∧Le X.K H Q3 Q) own fr σ H Q:=fun⟨σ3,S,Q3,E3,rσ,rS,h,xo,k⟩=>by
 refine⟨σ3,S,_,E3,rσ,rS,h,xo,fun src S1 J H1 h1 sim GR g1=>?_⟩
 refine⟨fun i m ys H'=>i+m=src.items.length∧∃zs S',Reps X.K H' ys zs∧GI X.K H' S'∧Grow X.K H1 H'∧eA g tc te (ko own fr σ3) src.keep (fun ys S2=>∀p,S2 p=none→Q3 (.ref p) (GE S2 p (.lst ys))) (src.items.drop i) zs S',⟨src.items.length,Nat.zero_add _,[],S1,.nil,GR,.refl,by simpa using h1⟩,?_⟩
 rintro i m ys H' ⟨hm,zs,S',rz,Ia,g',hw⟩
 cases hd:src.items.drop i with
 |nil=>
  rw[hd]at hw
  have hi:i=src.items.length:=by
   have:=congrArg List.length hd
   rw[List.length_drop,List.length_nil]at this
   omega
  refine .inl ⟨(sim i S' H' g' Ia hw.1).2 hi,by rw[rz.length];exact hw.2.1,fun D hD=>?_⟩
  exact k _ _ _ _ (hw.2.2 D (Ia.free hD)) (.ref D) (Ia.new hD ⟨_,ay,rz.mono (.new hD)⟩) (g1.trans (g'.trans (.new hD)))
 |cons x rest=>
  rw[hd]at hw
  have hx:src.items[i]?=some x:=by
   have:=congrArg (fun l=>l[0]?) hd
   simpa using this
  have hrest:src.items.drop (i+1)=rest:=by
   have:=congrArg List.tail hd
   simpa [List.tail_drop]using this
  have hlt:i < src.items.length:=by
   by_cases z:i < src.items.length
   ·exact z
   ·rw[List.getElem?_eq_none (by omega)]at hx;cases hx
  obtain⟨go,yl⟩:=(sim i S' H' g' Ia hw.1).1 x hx
  refine .inr ⟨go,by rw[rz.length];exact hw.2.1,fun ys' H5=>∃zs' S6,Reps X.K H5 ys' zs'∧GI X.K H5 S6∧Grow X.K H1 H5∧eA g tc te (ko own fr σ3) src.keep (fun ys S2=>∀p,S2 p=none→Q3 (.ref p) (GE S2 p (.lst ys))) rest zs' S6,?_,fun v H5 hv=>?_⟩
  ·rintro ys' H5 ⟨zs',S6,q1,q2,q3,q4⟩
   exact⟨m - 1,by omega,by omega,zs',S6,q1,q2,q3,by rw[hrest];exact q4⟩
  ·obtain⟨rv,Pa,g5⟩:=yl v H5 hv
   obtain⟨_,_,hw⟩:=hw
   split at hw
   ·rename_i σ6 e6
    refine Tg.KG (own:=own) g rv ((yV rσ own fr).mono (g1.trans (g'.trans g5))) e6 fun σ7 Oj d7=>⟨d7 Lv,?_⟩
    refine⟨σ6,S',_,Oj,Pa,hw,fun b S8 H8 h8 Qc g8=>?_⟩
    cases b with
    |true=>
     rw[if_pos rfl]at h8 ⊢
     exact⟨σ6,S8,_,Oj.mono g8,Qc,h8,fun y S9 y' H9 h9 ry Q9 g9=>⟨zs++[y],S9,(rz.mono (g5.trans (g8.trans g9))).append (.cons ry .nil),Q9,g'.trans (g5.trans (g8.trans g9)),h9⟩⟩
    |false=>
     rw[if_neg (by decide)]at h8 ⊢
     exact⟨zs,S8,rz.mono (g5.trans g8),Qc,g'.trans (g5.trans g8),h8⟩
   ·exact hw.elim
theorem BA(fs:List Str)(own:Nat)(fr:List Nat)(N:List Str)(Lv:g.under own=true)(hc:X.calm=true)(hclos:closureFor scope X.env=pure (cC X.env fs))(hcell:∀y∈scope.names,y.2 ≠ .cell)(hkind:scope.kind = .function)
  (hnames:∀x∈scope.names,x.2 = .local→scope.names.lookup x.1=some .local) (hcl:ck X.env fs) (hhas:hasB (relabel scope X.env).names (cC X.env fs)=true)
  (hlen:N.length=own+fr.length) (hN:(N.drop own).map some=fr.map fun j=>X.N[j]?) (hF:Hs X.env scope (cC X.env fs) (N.drop own))
  (hi:yS X tg iter ti) (hg:∀B,yP (X.IL N scope fs B) tg g) (hf:∀B,Cv (X.IL N scope fs B) ifs tc) (he:∀B,bf (X.IL N scope fs B) elt te)
  (hs:∀x,foldedSetIterable iter X.env x=pure x:=by intro _;rfl):bf X (.ListComp elt [⟨tg,iter,ifs,0⟩] scope pos) (bh ti g tc te own fr):=
 ⟨aR (yw fs own fr N hc hclos hcell hkind hnames hcl hhas hlen hN hF hi.ok (fun B=>(hg B).ok)
  (fun B=>qV (hf B).ok fun σ H Q ⟨σ3,S,Q3,rσ,rS,h,k⟩=>⟨σ3,S,Q3,gX,rσ,rS,h,.no,k⟩) (fun B=>aR (he B).ok fun σ H Q ⟨σ3,S,Q3,rσ,rS,h,k⟩=>⟨σ3,S,Q3,gX,rσ,rS,h,.no,k⟩) hs) fun _ _ _=>mB Lv ⟨0,X.s₀,X.H₀,[],[]⟩⟩
theorem BB(fs:List Str)(own:Nat)(fr:List Nat)(N:List Str){i:Nat}{y:Str}{py spos:Pos}(hX:X.N.Nodup)(hix:X.N[i]?=some y)(hy:X.env.scope.names.lookup y=some .local)
  (hsw:swapsWith (.ListComp elt [⟨tg,iter,ifs,0⟩] scope pos) (some (.Name y py)) spos.line X.env=pure true)
  (Lv:g.under own=true) (hc:X.calm=true) (hclos:closureFor scope X.env=pure (cC X.env fs)) (hcell:∀y∈scope.names,y.2 ≠ .cell) (hkind:scope.kind = .function)
  (hnames:∀x∈scope.names,x.2 = .local→scope.names.lookup x.1=some .local) (hcl:ck X.env fs) (hhas:hasB (relabel scope X.env).names (cC X.env fs)=true)
  (hlen:N.length=own+fr.length) (hN:(N.drop own).map some=fr.map fun j=>X.N[j]?) (hF:Hs X.env scope (cC X.env fs) (N.drop own))
  (hi:yS X tg iter ti) (hg:∀B,yP (X.IL N scope fs B) tg g) (hf:∀B,Cv (X.IL N scope fs B) ifs tc) (he:∀B,bf (X.IL N scope fs B) elt te)
  (hs:∀x,foldedSetIterable iter X.env x=pure x:=by intro _;rfl):mv X (.Assign [.Name y py] (.ListComp elt [⟨tg,iter,ifs,0⟩] scope pos) spos) (au i (bh ti g tc te own fr)):=
 ⟨cq (yx fs own fr N hX hix hy hsw hc hclos hcell hkind hnames hcl hhas hlen hN hF hi.ok (fun B=>(hg B).ok)
  (fun B=>qV (hf B).ok fun σ H Q ⟨σ3,S,Q3,rσ,rS,h,k⟩=>⟨σ3,S,Q3,gX,rσ,rS,h,.no,k⟩) (fun B=>aR (he B).ok fun σ H Q ⟨σ3,S,Q3,rσ,rS,h,k⟩=>⟨σ3,S,Q3,gX,rσ,rS,h,.no,k⟩) hs)
  fun D σ H ⟨σ3,S,D3,rσ,rS,h,xo,n,r,bk,ct⟩=>mB Lv ⟨0,X.s₀,X.H₀,[],[]⟩ ⟨σ3,S,_,D3.ex,rσ,rS,h,xo,fun p S1 v H1 h1 rv GR g1=>n _ S1 _ H1 h1 ((rσ.mono g1).set rv i) GR g1⟩⟩
end
abbrev aF:=List PV→av→bN→bO→Prop
noncomputable def DF(K:PySem.W.Frag)(n:Nat)(sp:aF):Sp:=fun vs H Q _=>vs.length=n∧∃ps S Q3 E3,Reps K H vs ps∧GI K H S∧sp ps S Q3 E3∧Le K H Q3 Q
structure Me (P:Program) (w:World) (K:PySem.W.Frag) (mg:Str→Option Value) (base:Heap) (k:Nat) (f:Addr) (fd:FuncData) (ps:List Str) (sp:aF):Prop where
 ok:eh P w K mg base qo k f fd ps (DF K ps.length sp)
section
variable {X:Cx} {e o:Expr} {es:List Expr} {te to:aL} {ts:List aL} {x:Str} {p pos apos cpos:Pos} {k:Nat} {f:Addr} {fd:FuncData} {ps:List Str} {sp:aF}
def ae(sp:aF)(ts:List aL):aL:=fun σ S Q E=>ar ts σ S (fun ps S1=>sp ps S1 Q E) E
theorem BC(F:Me X.prog X.w X.K X.mg X.base k f fd ps sp)(hr:Room k X.A)(hg:Gl X x)(hm:X.mg x=some (.ref f))(hk:PySem.W.keepIn X.K (.ref f)=true)(hb:Binds X.K fd ps [])(he:starEach (e::es) X.env=(false,eval e X.env)::starEach es X.env)(ha:jz X (e::es) ts)
  (hl:ts.length=ps.length:=by rfl) (hdb:(x == ("__debug__":Str))=false:=by decide) (hpl:(backTo pos (starEach es X.env)).any (·.1)=false:=by rfl):bf X (.Call (.Name x p) (e::es) [] pos) (ae sp ts):=
 ⟨aR (yf F.ok hr hg hm hk hb .nil zR ha.ok hdb he hpl) fun σ H Q ⟨σ3,S,Q3,E3,rσ,rS,h,xo,k⟩=>bv rσ rS h xo fun ps' S' vs H' hl' q rv Ia g=>by
  rw[List.append_nil]
  exact⟨by rw[rv.length,hl',hl],ps',S',Q3,E3,rv,Ia,q,k.mono g⟩⟩
end
noncomputable def aB(n:Nat)(args:List PV):b9:=args.map some++List.replicate (n - args.length) none
def bi(n:Nat)(t:bj):aF:=fun args S Q _=>t { nx:=fun _ S'=>Q .non S',rt:=Q,ex:=gX } (aB n args) S
theorem mC{K:PySem.W.Frag}{H:Hp}{N:List Str}{vs:List V}{ps:List PV}(r:Reps K H vs ps):GM K H (L2.fB N vs) (aB N.length ps):=by
 refine⟨by unfold L2.fB aB;simp[r.length],fun i p e=>?_⟩
 unfold aB at e
 unfold L2.fB
 by_cases hi:i < ps.length
 ·rw[List.getElem?_append_left (by simpa using hi),List.getElem?_map]at e
  cases hp:ps[i]? with
  |none=>rw[hp]at e;cases e
  |some q=>
   rw[hp]at e
   cases e
   obtain⟨v,hv,rv⟩:=r.get hp
   rw[List.getElem?_append_left (by rw[List.length_map,r.length];exact hi),List.getElem?_map,hv]
   exact⟨v,rfl,rv⟩
 ·rw[List.getElem?_append_right (by simpa using hi),List.getElem?_replicate]at e
  split at e
  ·cases e
  ·cases e
section
variable {P:Program} {w:World} {K:PySem.W.Frag} {mg:Str→Option Value} {base:Heap}
noncomputable abbrev Ev(P:Program)(w:World)(K:PySem.W.Frag)(mg:Str→Option Value)(base:Heap)(N:List Str)(qual:Str)(st:Stmt)(f:Addr)(cdv:Value)(A:Around)(outer:List Env)(s:Shared)(H:Hp)(E:XK):Cx:=(gU qo P w K mg base N qual (az st) f cdv A outer s H E).Ld
theorem Fi{x qual:Str}{st:Stmt}{f:Addr}{fd:FuncData}{N ps:List Str}{k:Nat}{t:bj}(F:Lo K x qual st f fd)(S:bR N ps (az st))
  (hbody:∀(cdv:Value) (A:Around) (outer:List Env) (s:Shared) (H:Hp) (E:XK),Room k (A.deeper (PyProof.Rows.envOfC qual (az st) s.heap.objs.size f cdv))→eS (Ev P w K mg base N qual st f cdv A outer s H E) (aW st) t) :
  Me P w K mg base (k+1) f fd ps (bi N.length t):=
 ⟨F.ok S (fun vs H Q E h=>h.1) fun cdv A outer s H vs Q E hr ⟨hl,ps',S',Q3,E3,rv,rS,q,kk⟩=>⟨_,(hbody cdv A outer s H E hr).ok,aB N.length ps',S',_,mC rv,rS,q,.no,fun σ3 S2 σ2 H2 h2 _ IM g2=>kk _ S2 _ H2 h2 .non IM g2,kk,fun _ _ _ _ h2=>h2.elim,fun _ _ _ _ h2=>h2.elim⟩⟩
end
section
variable {X:Cx} {o e f:Expr} {to te tf:aL} {pos apos cpos:Pos}
noncomputable def ik:List (aL×aL)→b9→av→(List (PV×PV)→av→Prop)→bO→Prop
 |[],_,S,Q,_=>Q [] S
 |(tk,tv)::r,σ,S,Q,E=>tk σ S (fun x S1=>tv σ S1 (fun y S2=>ik r σ S2 (fun ps S3=>Q ((x,y)::ps) S3) E) E) E
noncomputable def k6:List (PV×PV)→Option (List (bG×PV))
 |[]=>some []
 |(x,y)::r=>match cr x,k6 r with|some k,some l=>some ((k,y)::l)|_,_=>none
noncomputable def jC(kvs more:List (bG×PV)):List (bG×PV):=more.foldl (fun acc kv=>gW acc kv.1 kv.2) kvs
structure Ew (X:Cx) (pos:Pos) (keys:List (Option Expr)) (values:List Expr) (JM:List (aL×aL)):Prop where
 ok:Dj X pos keys values (JM.map fun t=>(LE X t.1,LE X t.2))
theorem v0:Ew X pos [] [] []:=⟨yq⟩
theorem cW{k v:Expr}{ks:List (Option Expr)}{vs:List Expr}{tk tv:aL}{JM:List (aL×aL)}(hk:bf X k tk)(hv:bf X v tv)(hr:Ew X pos ks vs JM):Ew X pos (some k::ks) (v::vs) ((tk,tv)::JM):=⟨uZ hk.ok hv.ok hr.ok⟩
inductive mD (K:PySem.W.Frag) (H:Hp):List (V×V)→List (PV×PV)→Prop
 |nil:mD K H [] []
 |cons {a b:V} {p q:PV} {vs:List (V×V)} {ps:List (PV×PV)}:Rep K H a p→Rep K H b q→mD K H vs ps→mD K H ((a,b)::vs) ((p,q)::ps)
theorem k7:∀{JM:List (aL×aL)} {σ:L2.St} {H:Hp} {Q:List (V×V)→Hp→Prop} {σ3:b9} {S:av} {Q3:List (PV×PV)→av→Prop} {E3:bO},GM X.K H σ σ3→GI X.K H S→ik JM σ3 S Q3 E3→KZ X H E3→
  (∀ps S' vs H',ps.length=JM.length→Q3 ps S'→mD X.K H' vs ps→GI X.K H' S'→Grow X.K H H'→Q vs H')→m7 (JM.map fun t=>(LE X t.1,LE X t.2)) σ H Q
 |[],σ,H,Q,σ3,S,Q3,E3,rσ,rS,h,xo,k=>k [] S [] H rfl h .nil rS .refl
 |(tk,tv)::ts,σ,H,Q,σ3,S,Q3,E3,rσ,rS,h,xo,k=>
  ⟨σ3,S,_,E3,rσ,rS,h,xo,fun p S1 v H1 h1 rv GR g1=>⟨σ3,S1,_,E3,rσ.mono g1,GR,h1,xo.mono g1,fun p2 S2 v2 H2 h2 Pb IM g2=>k7 (rσ.mono (g1.trans g2)) IM h2 (xo.mono (g1.trans g2)) fun ps S3 vs H3 hl h3 OX LX g3=>
   k ((p,p2)::ps) S3 ((v,v2)::vs) H3 (by rw[List.length_cons,List.length_cons,hl]) h3 (.cons (rv.mono (g2.trans g3)) (Pb.mono g3) OX) LX (g1.trans (g2.trans g3))⟩⟩
theorem mE{K:PySem.W.Frag}{H:Hp}:∀{vs:List (V×V)} {ps:List (PV×PV)} {l:List (bG×PV)},mD K H vs ps→k6 ps=some l→∃kvs:List (bG×V),vs=kvs.map (fun kv=>(kV kv.1,kv.2))∧GO K H kvs l
 |_,_,_,.nil,h=>by cases h;exact⟨[],rfl,.nil⟩
 |_,_,l,.cons a b r,h=>by
  unfold k6 at h
  split at h
  ·rename_i k l' ek el
   cases h
   obtain⟨kvs,e,q⟩:=mE r el
   refine⟨(k,_)::kvs,?_,.cons b q⟩
   rw[List.map_cons,←e,eP a ek]
  ·cases h
theorem GO.merge{K:PySem.W.Frag}{H:Hp}{more:List (bG×V)}{m3:List (bG×PV)}(r:GO K H more m3):∀{kvs:List (bG×V)} {k3:List (bG×PV)},GO K H kvs k3→GO K H (jr kvs more) (jC k3 m3):=by
 induction r with
 |nil=>intro kvs k3 q;exact q
 |cons a r ih=>intro kvs k3 q;exact ih (q.put a)
def k8(JM:List (aL×aL)):aL:=fun σ S Q E=>∀p,S p=none→ik JM σ (GE S p (.dct [])) (fun ps S2=>S2 p=some (.dct [])∧match k6 ps with|some kvs=>Q (.ref p) (GE S2 p (.dct (jC [] kvs)))|none=>False) E
theorem v5{keys:List (Option Expr)}{values:List Expr}{JM:List (aL×aL)}(h:Ew X pos keys values JM)(hall:keys.all (·.isSome)=true:=by rfl)(hl:keys.length=values.length:=by rfl)(h0:keys≠[]:=by exact List.cons_ne_nil _ _)(OL:keys.length≤15:=by decide)
  (ht:JM.length≤15:=by exact Nat.le_of_ble_eq_true rfl):bf X (.Dict keys values pos) (k8 JM):=
 ⟨aR (yr h.ok hall hl h0 OL) fun σ H Q ⟨σ3,S,Q3,E3,rσ,rS,hq,xo,k⟩=>fun p hp=>by
  have g0:Grow X.K H (upd H p (.dK [])):=.new hp
  refine k7 (rσ.mono g0) (rS.new hp (o:=.dct []) ⟨[],ay,.nil⟩) (hq p (rS.free hp)) (xo.mono g0) fun ps S' vs H' hl' q rv Ia g=>?_
  obtain⟨e,q⟩:=q
  obtain⟨kv,hv,rk⟩:=Ia _ _ e
  cases rk
  refine⟨hv,?_⟩
  split at q
  ·rename_i kvs ek
   obtain⟨l,el,rl⟩:=mE rv ek
   refine⟨l,el,?_,k _ _ _ _ q (.ref p) (Ia.put hv trivial ⟨_,ay,(GO.merge rl .nil).mono (.mut hv trivial)⟩) (g0.trans (g.trans (.mut hv trivial)))⟩
   have z1:∀{vs:List (V×V)} {ps:List (PV×PV)},mD X.K H' vs ps→vs.length=ps.length:=by
    intro vs ps r
    induction r with
    |nil=>rfl
    |cons _ _ _ ih=>rw[List.length_cons,List.length_cons,ih]
   have z2:=congrArg List.length el
   rw[List.length_map,z1 rv,hl']at z2
   omega
  ·exact q.elim⟩
def o_(te:aL):aL:=fun σ S Q E=>te σ S (fun x S1=>match x with
 | .ref a=>(match S1 a with|some (.lst xs)=>∀p,S1 p=none→Q (.ref p) (GE S1 p (.lst xs.reverse))|_=>False)
 |_=>False) E
theorem BD{p1 p2 q1 q2:Pos}(hs:starEach [e] X.env=[(false,eval e X.env)])(hc:X.calm=true)(he:bf X e te)(OU:Gl X "list")(hm1:X.mg "list" = none)(Nr:Gl X "reversed")(hm2:X.mg "reversed" = none):bf X (.Call (.Name "list" p1) [.Call (.Name "reversed" p2) [e] [] q2] [] q1) (o_ te):=
 ⟨aR (qL hc he.ok OU hm1 Nr hm2 hs rfl) fun σ H Q ⟨σ3,S,Q3,E3,rσ,rS,h,xo,k⟩=>⟨σ3,S,_,E3,rσ,rS,h,xo,fun x S1 v H1 h1 rx GR g1=>by
  dsimp only at h1
  split at h1
  ·cases rx
   split at h1
   ·rename_i ea
    obtain⟨vs,hv,rs⟩:=GR _ _ ea
    exact⟨_,_,rfl,SqL.of hv,fun q hq=>k _ _ _ _ (h1 q (GR.free hq)) (.ref q) (GR.new hq ⟨_,ay,rs.reverse.mono (.new hq)⟩) (g1.trans (.new hq))⟩
   ·exact h1.elim
  ·exact h1.elim⟩⟩
end
def ba:R3:=bS fun i j=>.int (i - j)
def fW:R3:=dQ (fun _ j=>j≠0) fun i j=>.int (i.fmod j)
def hJ:R3:=dQ mx fun i j=>.int (i.fdiv j)
def iL:R3:=dQ AG fun i j=>.int (i ^ j.toNat)
def nA:R3:=bS fun i j=>.bl (decide (i < j))
def xI:R3:=bS fun i j=>.bl (decide (i≤j))
def kB:R3:=bS fun i j=>.bl (decide (j < i))
def v7:R3:=bS fun i j=>.bl (decide (j≤i))
section
variable {X:Cx}
theorem cx:ii X (binaryOp .Sub) ba:=Bt
theorem fF:ii X (binaryOp .Mod) fW:=Bu
theorem jD:ii X (binaryOp .FloorDiv) hJ:=yF
theorem mF:ii X (binaryOp .Pow) iL:=Bv
theorem lS:ii X (compareOp .Lt) nA:=Dr
theorem BE:ii X (compareOp .LtE) xI:=Ds
theorem lT:ii X (compareOp .Gt) kB:=Dt
theorem BF:ii X (compareOp .GtE) v7:=Du
end
theorem si{A:Around}{k:Nat}(hr:Room k A):A.units+1 < cLine:=by have:=hr.un;omega
theorem hU{A:Around}{k:Nat}(hr:Room k A):A.units+150 < cLine:=by have:=hr.un;omega
theorem sj{A:Around}{k:Nat}(hr:Room k A):A.units+160 < cLine:=by have:=hr.un;omega
structure Ex (K:PySem.W.Frag) (mg:Str→Option Value) (x:Str) (st:Stmt) (ps:List Str) (f:Addr) (fd:FuncData):Prop where
 F:Lo K x x st f fd
 b:Binds K fd ps []
 k:PySem.W.keepIn K (.ref f)=true
 m:mg x=some (.ref f)
theorem Me.zero{P:Program}{w:World}{K:PySem.W.Frag}{mg:Str→Option Value}{base:Heap}{k:Nat}{f:Addr}{fd:FuncData}{ps:List Str}{sp:aF}(h:sp=fun _ _ _ _=>False):Me P w K mg base k f fd ps sp:=by
 subst h
 exact⟨⟨fun vs H Q E q=>q.1,fun A outer s H args us vs Q E _ _ _ _ ⟨_,_,_,_,_,_,_,q,_⟩=>q.elim⟩⟩
theorem Fj{K:PySem.W.Frag}{H:Hp}{a:Addr}{ns:List Int}{sp:aF}(hO:yt H)(hS:SqL K H a (ns.map V.int))(h:sp [.cl (ns.map PV.int)] (fun _=>none) (fun v _=>v = .bl true) gX):DF K 1 sp [.ref a] H (fun v _=>v = .bl true) fun _ _ _=>False:=by
 have hr:∀l:List Int,Reps K H (l.map V.int) (l.map PV.int):=by
  intro l
  induction l with
  |nil=>exact .nil
  |cons x r ih=>exact .cons (.int x) ih
 refine⟨rfl,[.cl (ns.map PV.int)],fun _=>none,_,gX,.cons (.cl (vs:=ns.map V.int) ?_ (hr ns)) .nil,(fun b o e=>by simp at e),h,fun p S' v H' q rv rS g=>?_⟩
 ·rcases hS with(q|q)|q
  ·rcases hO a with z|⟨o,xs,z⟩
   ·rw[z]at q;cases q
   ·rw[z]at q;cases q
  ·exact .inl q
  ·exact .inr q
 ·subst q
  cases rv
  rfl
end L3
namespace L2
open PySem PySem.Spec PyProof.Rows
section
variable {X:Cx}
end
end L2
namespace HT
open PySem PySem.Spec PyProof.Rows
section
variable {prog:Program} {w:World} {A:Around} {E:Value→Shared→Prop} {s:Shared}
end
end HT
namespace L2
open PySem PySem.Spec PyProof.Rows
section
variable {X:Cx} {e st:Expr} {te ts:TE} {p2 pos:Pos}
end
end L2
namespace L3
open PySem L2
section
variable {X:Cx} {e st:Expr} {te ts:aL} {p2 pos:Pos}
noncomputable def il:List PV→Option (List Int)
 |[]=>some []
 | .int i::r=>(il r).map (i::·)
 |_::_=>none
theorem pe:∀ns:List Int,il (ns.map PV.int)=some ns
 |[]=>rfl
 |n::ns=>by rw[List.map_cons];unfold il;rw[pe ns];rfl
theorem mG{K:PySem.W.Frag}{H:Hp}:∀{vs:List V} {ps:List PV} {ns:List Int},Reps K H vs ps→il ps=some ns→vs=ns.map V.int
 |_,_,_,.nil,h=>by cases h;rfl
 |_,_,ns,.cons (p:=p) a r,h=>by
  cases p with
  |int b=>
   cases a
   unfold il at h
   cases e:il _ with
   |none=>rw[e]at h;cases h
   |some l=>rw[e]at h;cases h;rw[mG r e];rfl
  |_=>cases h
def BG(te ts:aL):aL:=fun σ S Q E=>te σ S (fun x S1=>ts σ S1 (fun y S2=>match x,y with | .tup xs,.int i=>i = -1∧Q (.tup xs.reverse) S2|_,_=>False) E) E
end
end L3
namespace L2
open PySem PySem.Spec PyProof.Rows
section
variable {X:Cx}
end
end L2
namespace L3
open PySem L2
section
variable {X:Cx} {a b c:Expr} {ta tb tc:aL} {pos:Pos}
def nB(r r':R3)(ta tb tc:aL):aL:=fun σ S Q E=>ta σ S (fun x S1=>tb σ S1 (fun y S2=>r x y S2 fun z S3=>match z with | .bl k=>if k=true then tc σ S3 (fun w S4=>r' y w S4 Q) E else Q (.bl false) S3|_=>False) E) E
theorem qW{r r':R3}{σ:L2.St}{H:Hp}{Q:VK}:LE X (nB r r' ta tb tc) σ H Q→uF (LR X r) (LR X r') (LE X ta) (LE X tb) (LE X tc) σ H Q:=fun⟨σ3,S,Q3,E3,rσ,rS,h,xo,k⟩=>
 ⟨σ3,S,_,E3,rσ,rS,h,xo,fun x S1 v H1 h1 rx GR g1=>⟨σ3,S1,_,E3,rσ.mono g1,GR,h1,xo.mono g1,fun y S2 u H2 h2 ry IM g2=>⟨x,y,S2,_,rx.mono g2,ry,IM,h2,fun z S3 w H3 h3 rz LX g3=>by
  split at h3
  ·rename_i k'
   cases rz
   refine⟨k',rfl,?_⟩
   cases k' with
   |false=>rw[if_neg (by decide)]at h3 ⊢;exact k _ S3 _ H3 h3 (.bl false) LX (g1.trans (g2.trans g3))
   |true=>
    rw[if_pos rfl]at h3 ⊢
    exact⟨σ3,S3,_,E3,rσ.mono (g1.trans (g2.trans g3)),LX,h3,xo.mono (g1.trans (g2.trans g3)),fun w' S4 v4 H4 h4 r4 O_ g4=>⟨y,w',S4,Q3,ry.mono (g3.trans g4),r4,O_,h4,k.mono (g1.trans (g2.trans (g3.trans g4)))⟩⟩
  ·exact h3.elim⟩⟩⟩
theorem yW{op op':CmpOp}{r r':R3}(ho:ii X (compareOp op) r)(ho':ii X (compareOp op') r')(ha:bf X a ta)(hb:bf X b tb)(hc:bf X c tc)(hm:lastMarks [op,op'] [b,c]=false:=by with_unfolding_all rfl):qp X (.Compare a [op,op'] [b,c] pos) (aJ (nB r r' ta tb tc)):=
 ⟨ni (uG ho.ok ho'.ok ha.ok hb.ok hc.ok hm) fun σ H Q ⟨σ3,S,Q3,E3,rσ,rS,h,xo,k⟩=>qW ⟨σ3,S,_,E3,rσ,rS,h,xo,fun p S' v H' h1 rv Ia g=>by
  cases p with
  |bl z=>cases rv;exact⟨z,rfl,k z S' H' h1 Ia g⟩
  |_=>exact h1.elim⟩⟩
end
end L3
namespace L2
open PySem PySem.Spec PyProof.Rows PySem.AutoSeq1
section
variable {X:Cx}
end
end L2
namespace L3
open PySem L2
section
variable {X:Cx}
end
end L3
namespace C
open PySem L2 L3
def fX:bj:=(ak (au 3 (bh (bg (b5 (v3 0) (qu (v3 1)) (qu (c3 (.int 63))))) (.n 0) cO (ao fV [(v3 0),(aj ba (c3 (.int 0)) (v3 0))]) 1 []))
  (ak (au 4 (aj aM (c3 (.int 7919)) (v3 1)))
  (ak (bM (bg (v3 3)) (.n 2) (au 4 (aj fW (aj aM (aj cD (v3 4) (c3 (.int 48271))) (aj fW (v3 2) (c3 (.int 2147483629)))) (c3 (.int 2147483647)))))
  (aG (k8 [((c3 (.str "seed")),(v3 4)),((c3 (.str "number")),(c3 (.int 0))),((c3 (.str "left")),(o_ (bh (bg (v3 3)) (.n 0) (aJ (aj v7 (v3 0) (aj iL (c3 (.int 10)) (c3 (.int 18))))) (v3 0) 1 [])))])))))
def fY:bj:=(ak (ij (b_ (aJ (aj (bt false) (aj ad (v3 0) (c3 (.str "number"))) (c3 (.int 0)))) (aJ (aj kB (ao b6 [(aj ad (v3 0) (c3 (.str "left")))]) (c3 (.int 0))))) (di (hG "list" tO (aj ad (v3 0) (c3 (.str "left"))) []) (v3 0) (c3 (.str "number"))))
  (ak (au 2 (aj ad (v3 0) (c3 (.str "number"))))
  (ak (bp (aJ (aj kB (v3 2) (c3 (.int 0)))) (ak (di (aj hJ (v3 2) (v3 1)) (v3 0) (c3 (.str "number")))
  (aG (aj fW (v3 2) (v3 1)))) aS)
  (ak (au 3 (aj fW (aj aM (aj cD (aj ad (v3 0) (c3 (.str "seed"))) (c3 (.int 48271))) (c3 (.int 7919))) (c3 (.int 2147483647))))
  (ak (di (aj fW (aj aM (aj cD (v3 3) (c3 (.int 40692))) (c3 (.int 104729))) (c3 (.int 2147483399))) (v3 0) (c3 (.str "seed")))
  (ak (au 4 (aj fW (aj cD (aj ad (v3 0) (c3 (.str "seed"))) (aj ad (v3 0) (c3 (.str "seed")))) (c3 (.int 2147483563))))
  (aG (aj fW (aj aM (aj cD (aj fW (aj cD (v3 3) (v3 3)) (c3 (.int 2147483629))) (c3 (.int 2147483563))) (v3 4)) (v3 1)))))))))
def im:bj:=(ak (tP 2 3 (ao fV [(v3 0),(aj ba (c3 (.int 0)) (v3 0))]) (v3 1))
  (ak (ij (aJ (aj kB (v3 3) (c3 (.int 0)))) (tP 2 3 (v3 3) (aj fW (v3 2) (v3 3))))
  (aG (aE [(aj hJ (v3 0) (v3 2)),(aj hJ (v3 1) (v3 2))]))))
def eV(GC:aF):bj:=(ak (au 2 (c3 (.str "abcdefghijklmnopqrstuvwxyz")))
  (ak (au 3 (bb [(c3 (.str "jars")),(c3 (.str "deed")),(c3 (.str "rest")),(c3 (.str "pay")),(c3 (.str "put")),(c3 (.str "then")),(c3 (.str "either")),(c3 (.str "take")),(c3 (.str "often")),(c3 (.str "use"))]))
  (ak (au 5 (hG "str" my (c3 (.str "")) [(bh (cM (ae GC [(v3 0),(c3 (.int 6))])) (.n 0) cO (aj ad (v3 2) (ae GC [(v3 1),(c3 (.int 26))])) 1 [0,2])]))
  (ak (k4 6 7 8 (aE [(ae GC [(v3 0),(aj aM (ao b6 [(v3 5)]) (c3 (.int 1)))]),(ae GC [(v3 0),(c3 (.int 26))]),(aj (bt false) (ae GC [(v3 0),(c3 (.int 2))]) (c3 (.int 0)))]))
  (ak (au 9 (bb []))
  (ak (bM (cM (v3 1)) (.n 4) (ak (au 10 (aj aM (aj aM (b5 (v3 5) sf (qu (v3 6))) (aj ad (v3 2) (aj fW (aj aM (v3 7) (v3 4)) (c3 (.int 26))))) (b5 (v3 5) (qu (v3 6)) sf)))
  (ak (bp (dL (aJ (v3 8))) (au 10 (hG "str" my (c3 (.str "")) [(bh (cM (aj aM (c3 (.int 1)) (ae GC [(v3 0),(c3 (.int 6))]))) (.n 0) cO (aj ad (v3 2) (ae GC [(v3 1),(c3 (.int 26))])) 1 [0,2])])) aS)
  (ak (ij (mw (aJ (aj (qr false) (v3 10) (v3 3))) (aJ (aj (qr false) (v3 10) (v3 9)))) (au 10 (aj aM (aj ad (v3 2) (aj fW (aj aM (hG "str" jB (v3 2) [(aj ad (v3 10) (c3 (.int 0)))]) (c3 (.int 1))) (c3 (.int 26)))) (b5 (v3 10) (qu (c3 (.int 1))) sf))))
  (aI (hG "list" aV (v3 9) [(v3 10)]))))))
  (aG (v3 9))))))))
def fZ(GC IU:aF):bj:=(ak (au 1 (ae GC [(v3 0),(c3 (.int 4))]))
  (ak (bp (aJ (aj (bt false) (v3 1) (c3 (.int 0)))) (aG (aE [(c3 (.int 0)),(c3 (.int 1))])) aS)
  (ak (bp (aJ (aj nA (v3 1) (c3 (.int 3)))) (aG (aE [(aj aM (c3 (.int 1)) (ae GC [(v3 0),(c3 (.int 5))])),(c3 (.int 1))])) aS)
  (aG (ae IU [(ae GC [(v3 0),(c3 (.int 1000))]),(aj aM (c3 (.int 1)) (ae GC [(v3 0),(c3 (.int 9))]))])))))
def f_(GC IA:aF):bj:=(ak (au 2 (ae GC [(v3 0),(c3 (.int 7))]))
  (ak (bp (aJ (aj (bt false) (v3 2) (c3 (.int 0)))) (aG (aE [(c3 (.str "rest"))])) aS)
  (ak (bp (mw (aJ (aj nA (v3 2) (c3 (.int 4)))) (aJ (aj (bt false) (ao b6 [(v3 1)]) (c3 (.int 0))))) (aG (aE [(c3 (.str "pay")),(ae IA [(v3 0)])])) aS)
  (ak (au 3 (aj ad (bb [(c3 (.int 1)),(c3 (.int 2)),(aj aM (c3 (.int 1)) (ae GC [(v3 0),(c3 (.int 9))]))]) (ae GC [(v3 0),(c3 (.int 3))])))
  (aG (aE [(c3 (.str "put")),(aj ad (v3 1) (ae GC [(v3 0),(ao b6 [(v3 1)])])),(v3 3)]))))))
def gf(GC HH s0:aF):bj:=(ak (au 4 (ae GC [(v3 0),(c3 (.int 12))]))
  (ak (bp (mw (aJ (aj (bt false) (v3 3) (c3 (.int 0)))) (mw (aJ (aj nA (aj ad (v3 2) (c3 (.int 0))) (c3 (.int 2)))) (aJ (aj nA (v3 4) (c3 (.int 3)))))) (aG (ae HH [(v3 0),(v3 1)])) aS)
  (ak (bp (aJ (aj nA (v3 4) (c3 (.int 5)))) (ak (di (aj ba (aj ad (v3 2) (c3 (.int 0))) (c3 (.int 1))) (v3 2) (c3 (.int 0)))
  (aG (aE [(c3 (.str "often")),(ae s0 [(v3 0),(v3 1),(v3 2),(aj ba (v3 3) (c3 (.int 1)))])]))) aS)
  (ak (di (aj ba (aj ad (v3 2) (c3 (.int 0))) (c3 (.int 2))) (v3 2) (c3 (.int 0)))
  (ak (au 5 (ae s0 [(v3 0),(v3 1),(v3 2),(aj ba (v3 3) (c3 (.int 1)))]))
  (ak (au 6 (ae s0 [(v3 0),(v3 1),(v3 2),(aj ba (v3 3) (c3 (.int 1)))]))
  (ak (bp (aJ (aj nA (v3 4) (c3 (.int 8)))) (aG (aE [(c3 (.str "then")),(v3 5),(v3 6)])) aS)
  (ak (bp (mw (aJ (aj (bt false) (v3 4) (c3 (.int 8)))) (aJ (aj (bt false) (ao b6 [(v3 1)]) (c3 (.int 0))))) (aG (aE [(c3 (.str "either")),(v3 5),(v3 6)])) aS)
  (ak (au 7 (aj ad (bb [(c3 (.int 1)),(c3 (.int 1)),(c3 (.int 2)),(aj aM (c3 (.int 1)) (ae GC [(v3 0),(c3 (.int 9))]))]) (ae GC [(v3 0),(c3 (.int 4))])))
  (aG (aE [(c3 (.str "take")),(aj ad (v3 1) (ae GC [(v3 0),(ao b6 [(v3 1)])])),(v3 7),(v3 5),(v3 6)])))))))))))
def cy(s0:aF):bj:=(ak (bp (aJ (aj (bt false) (aj ad (v3 0) (c3 (.int 0))) (c3 (.str "then")))) (aG (aj cD (ae s0 [(aj ad (v3 0) (c3 (.int 1)))]) (ae s0 [(aj ad (v3 0) (c3 (.int 2)))]))) aS)
  (ak (bp (mw (aJ (aj (bt false) (aj ad (v3 0) (c3 (.int 0))) (c3 (.str "either")))) (aJ (aj (bt false) (aj ad (v3 0) (c3 (.int 0))) (c3 (.str "take"))))) (aG (aj aM (ae s0 [(aj ad (v3 0) (ul km (c3 (.int 2))))]) (ae s0 [(aj ad (v3 0) (ul km (c3 (.int 1))))]))) aS)
  (aG (c3 (.int 1)))))
def b7(G8 s0:aF):bj:=(ak (bp (aJ (aj (bt false) (aj ad (v3 0) (c3 (.int 0))) (c3 (.str "often")))) (aG (aj aM (ae G8 [(aj ad (v3 0) (c3 (.int 1)))]) (ae s0 [(aj ad (v3 0) (c3 (.int 1)))]))) aS)
  (ak (bp (aJ (aj (qr false) (aj ad (v3 0) (c3 (.int 0))) (aE [(c3 (.str "then")),(c3 (.str "either")),(c3 (.str "take"))]))) (aG (aj aM (ae s0 [(aj ad (v3 0) (ul km (c3 (.int 2))))]) (ae s0 [(aj ad (v3 0) (ul km (c3 (.int 1))))]))) aS)
  (aG (c3 (.int 0)))))
def cE(IB G8 IV HH:aF):bj:=(ak (au 4 (ae IB [(v3 0),(v3 1),(bb [(aj ba (v3 2) (c3 (.int 1)))]),(c3 (.int 5))]))
  (ak (bp (aJ (aj kB (aj aM (ae G8 [(v3 4)]) (ae IV [(v3 4)])) (v3 3))) (au 4 (aE [(c3 (.str "then")),(aE [(c3 (.str "often")),(ae HH [(v3 0),(v3 1)])]),(ae HH [(v3 0),(v3 1)])])) aS)
  (aG (v3 4))))
def eW(Ie GC Jq:aF):bj:=(ak (au 4 (ae Ie [(v3 0),(c3 (.int 8))]))
  (ak (au 5 (ao aU [(b5 (v3 4) sf (qu (ae GC [(v3 0),(aj aM (v3 1) (c3 (.int 1)))])))]))
  (ak (au 6 (aj ad (bb [(c3 (.int 0)),(c3 (.int 4))]) (ae GC [(v3 0),(c3 (.int 2))])))
  (ak (au 7 (aj aM (c3 (.int 1)) (ae GC [(v3 0),(v3 2)])))
  (ak (au 8 (bh (cM (v3 7)) (.n 0) cO (aE [(aj ad (v3 6) (aj aM (v3 2) (v3 0))),(ae Jq [(v3 1),(v3 3),(v3 5),(aj hJ (c3 (.int 24)) (v3 4))])]) 1 [0,6,5,7,3,4]))
  (aG (aE [(v3 5),(ao aU [(v3 8)])])))))))
def k9:bj:=(ak (ij (aJ (aj (bt true) (v3 1) (c3 (.int 0)))) (ak (au 2 (aj fW (v3 0) (v3 1)))
  (ak (au 0 (v3 1))
  (au 1 (v3 2)))))
  (aG (ao tN [(v3 0)])))
def io(Lx:aF):bj:=(ak (au 2 (ae Lx [(v3 0),(v3 1)]))
  (ak (bp (aJ (aj nA (v3 1) (c3 (.int 0)))) (au 2 (ul km (v3 2))) aS)
  (aG (aE [(aj hJ (v3 0) (v3 2)),(aj hJ (v3 1) (v3 2))]))))
def qX(IW:aF):bj:=(aG (ae IW [(aj aM (aj cD (aj ad (v3 0) (c3 (.int 0))) (aj ad (v3 1) (c3 (.int 1)))) (aj cD (aj ad (v3 1) (c3 (.int 0))) (aj ad (v3 0) (c3 (.int 1))))),(aj cD (aj ad (v3 0) (c3 (.int 1))) (aj ad (v3 1) (c3 (.int 1))))]))
def nC(IW:aF):bj:=(aG (ae IW [(aj cD (aj ad (v3 0) (c3 (.int 0))) (aj ad (v3 1) (c3 (.int 0)))),(aj cD (aj ad (v3 0) (c3 (.int 1))) (aj ad (v3 1) (c3 (.int 1))))]))
def k_:bj:=(aG (aj ad (v3 0) (aj aM (ul km (c3 (.int 2))) (aj ad (v3 1) (c3 (.int 0))))))
def gi:bj:=(aG (ao aU [(bh (bg (v3 0)) (.n 0) cO (vJ (aJ (aj (bt false) (v3 0) (v3 1))) (v3 2) (c3 (.int 0))) 1 [1,2])]))
def nE:bj:=(aG (ao aU [(bh (nz (v3 0) (v3 1)) (.tp (.cons (.n 0) (.cons (.n 1) .nil))) cO (aj aM (v3 0) (v3 1)) 2 [])]))
def eX:bj:=(aG (ao aU [(bh (bg (v3 0)) (.n 0) cO (aj cD (v3 0) (v3 1)) 1 [1])]))
def nF(Kd Mf:aF):bj:=(ak (au 2 (bh (nz (aj ad (v3 0) (c3 (.int 1))) (aj ad (v3 0) (c3 (.int 2)))) (.tp (.cons (.n 0) (.cons (.n 1) .nil))) cO (aj aM (v3 1) (ao fV [(c3 (.int 0)),(aj cD (ul km (v3 0)) (aj ba (v3 2) (c3 (.int 1))))])) 2 [1]))
  (aG (aE [(ae Mf [(aj ad (v3 0) (c3 (.int 0))),(aE [(v3 1),(c3 (.int 1))])]),(ae Kd [(aj ad (v3 0) (c3 (.int 1))),(v3 1)]),(ao aU [(v3 2)])])))
def cP(HI:aF):bj:=(aG (aE [(aE [(c3 (.int 0)),(c3 (.int 1))]),(ae HI [(v3 0),(aj ad (v3 1) (c3 (.int 1))),(ul km (aj ad (v3 1) (c3 (.int 2))))]),(ae HI [(v3 0),(aj ad (v3 1) (c3 (.int 1))),(aj ad (v3 1) (c3 (.int 2)))])]))
def gj(IU:aF):bj:=(aG (ae IU [(aj aM (aj cD (aj ad (v3 0) (c3 (.int 0))) (aj ad (v3 1) (c3 (.int 1)))) (aj cD (aj ad (v3 1) (c3 (.int 0))) (aj ad (v3 0) (c3 (.int 1))))),(aj cD (aj ad (v3 0) (c3 (.int 1))) (aj ad (v3 1) (c3 (.int 1))))]))
end C
namespace Zu
open PySem
open Sem (wp)
theorem nn{a b:Nat}(h:a≠b):@Ne Addr a b:=h
abbrev bW(h:Heap)(T:Nat)(a b c:Value):Prop:=h.get? T=some { cls:=.type "tuple",data:=.seq #[a,b,c] }
section
variable {prog:Program} {w:World} {A:Around} {E:Value→Shared→Prop} {s:Shared}
theorem nG{T:Addr}{a b c x:Value}{k:Nat}{Q:Unit→Shared→Prop}(hT:bW s.heap T a b c)
  (h:∀h',h'.get? T=some { cls:=.type "tuple",data:=.seq ((#[a,b,c]:Array Value).setIfInBounds k x) }→Heap.SameBut T s.heap h'→Q () { s with heap:=h' }) :
  wpAny (model prog w) A (updateSeq T (·.setIfInBounds k x)) Q E s:=by
 refine wpAny_updateSeq hT rfl (h _ ?_ (Heap.SameBut.update ..))
 rw[Heap.get?_update_self _ hT rfl]
 simp[Obj.mapSeq]
variable {n l1 l2 l3:Nat} {i:Nat} {xs ys zs:Array Value} {x y z a b c:Value}
theorem m_{Q:Value→Shared→Prop}(d1:l1 < n)(d2:l2 < n)(d3:l3 < n)(gz:IsZip s.heap (n+5) (n+3) (n+4) .none)(gI:bW s.heap (n+3) (.ref n) (.ref (n+1)) (.ref (n+2)))(gO:bW s.heap (n+4) a b c)
  (g1:s.heap.IsTupleIter n l1 i) (g2:s.heap.IsTupleIter (n+1) l2 i) (g3:s.heap.IsTupleIter (n+2) l3 i) (t1:s.heap.IsTuple l1 xs) (t2:s.heap.IsTuple l2 ys) (t3:s.heap.IsTuple l3 zs) (hx:xs[i]?=some x) (hy:ys[i]?=some y) (hz:zs[i]?=some z)
  (k:∀g,IsZip g (n+5) (n+3) (n+4) (rawInt s.heap.objs.size)→bW g (n+4) x y z→g.IsTupleIter n l1 (i+1)→g.IsTupleIter (n+1) l2 (i+1)→g.IsTupleIter (n+2) l3 (i+1)→bW g s.heap.objs.size x y z→
   (∀c o,c≠n+5→c≠n+4→c≠n→c≠n+1→c≠n+2→s.heap.get? c=some o→g.get? c=some o)→Q (.ref s.heap.objs.size) { s with heap:=g }) :
  wpAny (model prog w) A (Builtin.«zip.__next__» ⟨[.ref (n+5)],[]⟩) (fun fin s'=>∃v,fin = .done (.ret v)∧Q v s') E s:=by
 show wpAny _ _ (field (.ref (n+5)) 2 >>= _) _ _ _;refine wpAny_bind (wpAny_field gz rfl (x:=.bool false) rfl ?_)
 show wpAny _ _ (field (.ref (n+5)) 3 >>= _) _ _ _;refine wpAny_bind (wpAny_field gz rfl (x:=.ref (n+3)) rfl (wpAny_bind (wpAny_seqItems gI rfl ?_)))
 show wpAny _ _ (Builtin.SmallTypes.ownedTupleIsFree (.ref (n+5)) >>= _) _ _ _;refine wpAny_bind ?_;unfold Builtin.SmallTypes.ownedTupleIsFree
 refine wpAny_bind (wpAny_field gz rfl (x:=.none) rfl (wpAny_pure ?_));simp only[if_true]
 refine wpAny_bind (wpAny_rule (wpAny_bind (wpAny_field gz rfl (x:=.ref (n+4)) rfl (wpAny_bind (wpAny_setField_rec gz (by simp) fun h₁ z1 q1=>?_)))))
 replace z1:IsZip h₁ (n+5) (n+3) (n+4) .ellipsis:=z1
 refine wpAny_bind ?_;simp only[List.zipIdx_cons,List.zipIdx_nil,List.forIn_cons,List.forIn_nil]
 refine wpAny_bind (wpAny_bind (wpAny_onRaise ?_));show wpAny _ _ (Builtin.SmallTypes.nextOf (.ref n) >>= _) _ _ _
 refine wpAny_bind (Zt.nx (g1.extBut q1.extBut (nn (by omega))) (t1.extBut q1.extBut (nn (by omega))) hx fun h₂ n1 q2=>wpAny_pure ?_)
 have o2:bW h₂ (n+4) a b c:=q2.extBut _ _ (nn (by omega)) (q1.extBut _ _ (nn (by omega)) gO)
 refine wpAny_bind (wpAny_seqItems o2 rfl (wpAny_bind (nG o2 fun h₃ o3 q3=>?_)))
 replace o3:bW h₃ (n+4) x b c:=o3
 refine wpAny_bind (wpAny_letGo (wpAny_pure ?_));refine wpAny_bind (wpAny_bind (wpAny_onRaise ?_));show wpAny _ _ (Builtin.SmallTypes.nextOf (.ref (n+1)) >>= _) _ _ _
 refine wpAny_bind (Zt.nx (((g2.extBut q1.extBut (nn (by omega))).extBut q2.extBut (nn (by omega))).extBut q3.extBut (nn (by omega))) (((t2.extBut q1.extBut (nn (by omega))).extBut q2.extBut (nn (by omega))).extBut q3.extBut (nn (by omega))) hy fun h₄ n2 q4=>wpAny_pure ?_)
 have o4:bW h₄ (n+4) x b c:=q4.extBut _ _ (nn (by omega)) o3
 refine wpAny_bind (wpAny_seqItems o4 rfl (wpAny_bind (nG o4 fun h₅ o5 q5=>?_)))
 replace o5:bW h₅ (n+4) x y c:=o5
 refine wpAny_bind (wpAny_letGo (wpAny_pure ?_));refine wpAny_bind (wpAny_bind (wpAny_onRaise ?_));show wpAny _ _ (Builtin.SmallTypes.nextOf (.ref (n+2)) >>= _) _ _ _
 refine wpAny_bind (Zt.nx (((((g3.extBut q1.extBut (nn (by omega))).extBut q2.extBut (nn (by omega))).extBut q3.extBut (nn (by omega))).extBut q4.extBut (nn (by omega))).extBut q5.extBut (nn (by omega))) (((((t3.extBut q1.extBut (nn (by omega))).extBut q2.extBut (nn (by omega))).extBut q3.extBut (nn (by omega))).extBut q4.extBut (nn (by omega))).extBut q5.extBut (nn (by omega))) hz fun h₆ n3 q6=>wpAny_pure ?_)
 have o6:bW h₆ (n+4) x y c:=q6.extBut _ _ (nn (by omega)) o5
 refine wpAny_bind (wpAny_seqItems o6 rfl (wpAny_bind (nG o6 fun h₇ o7 q7=>?_)))
 replace o7:bW h₇ (n+4) x y z:=o7
 refine wpAny_bind (wpAny_letGo (wpAny_pure (wpAny_pure ?_)));refine wpAny_bind (wpAny_seqItems o7 rfl (wpAny_bind (wpAny_newTuple ?_)))
 have sz:h₇.objs.size=s.heap.objs.size:=by rw[q7.1,q6.1,q5.1,q4.1,q3.1,q2.1,q1.1]
 have kk:∀c o,c≠n+5→c≠n+4→c≠n→c≠n+1→c≠n+2→s.heap.get? c=some o→h₇.get? c=some o:=fun c o c1 c2 c3 c4 c5 e=>q7.extBut _ _ c2 (q6.extBut _ _ c5 (q5.extBut _ _ c2 (q4.extBut _ _ c4 (q3.extBut _ _ c2 (q2.extBut _ _ c3 (q1.extBut _ _ c1 e))))))
 have z7:IsZip h₇ (n+5) (n+3) (n+4) .ellipsis:=q7.extBut _ _ (nn (by omega)) (q6.extBut _ _ (nn (by omega)) (q5.extBut _ _ (nn (by omega)) (q4.extBut _ _ (nn (by omega)) (q3.extBut _ _ (nn (by omega)) (q2.extBut _ _ (nn (by omega)) z1)))))
 have m1:h₇.IsTupleIter n l1 (i+1):=((((n1.extBut q3.extBut (nn (by omega))).extBut q4.extBut (nn (by omega))).extBut q5.extBut (nn (by omega))).extBut q6.extBut (nn (by omega))).extBut q7.extBut (nn (by omega))
 have m2:h₇.IsTupleIter (n+1) l2 (i+1):=((n2.extBut q5.extBut (nn (by omega))).extBut q6.extBut (nn (by omega))).extBut q7.extBut (nn (by omega))
 have m3:h₇.IsTupleIter (n+2) l3 (i+1):=n3.extBut q7.extBut (nn (by omega))
 have zl:n+5 < h₇.objs.size:=Heap.lt_size z7
 show wpAny _ _ (Builtin.SmallTypes.ownedTupleHandOut (.ref (n+5)) (.ref h₇.objs.size) >>= _) _ _ _;refine wpAny_bind ?_;unfold Builtin.SmallTypes.ownedTupleHandOut
 have z8:IsZip (h₇.push { cls:=.type "tuple",data:=.seq #[x,y,z] }) (n+5) (n+3) (n+4) .ellipsis:=Heap.get?_push_of_some _ z7
 refine wpAny_bind (wpAny_setField_rec z8 (by simp) fun h₉ z9 q9=>?_)
 replace z9:IsZip h₉ (n+5) (n+3) (n+4) (rawInt h₇.objs.size):=z9
 refine wpAny_setField_rec z9 (by simp) fun g za qa=>?_
 replace za:IsZip g (n+5) (n+3) (n+4) (rawInt h₇.objs.size):=za
 have up:∀c o,c≠n+5→h₇.get? c=some o→g.get? c=some o:=fun c o c1 e=>qa.extBut _ _ c1 (q9.extBut _ _ c1 (Heap.get?_push_of_some _ e))
 have T8:bW g h₇.objs.size x y z:=qa.extBut _ _ (Nat.ne_of_gt zl) (q9.extBut _ _ (Nat.ne_of_gt zl) (Heap.get?_push_size _ rfl))
 rw[sz]at za T8
 refine wpAny_pure ⟨_,rfl,?_⟩
 show Q (.ref h₇.objs.size) _
 rw[sz]
 exact k g za (up _ _ (nn (by omega)) o7) (m1.at fun o e=>up _ o (nn (by omega)) e) (m2.at fun o e=>up _ o (nn (by omega)) e) (m3.at fun o e=>up _ o (nn (by omega)) e) T8 fun c o c1 c2 c3 c4 c5 e=>up c o c1 (kk c o c1 c2 c3 c4 c5 e)
theorem qN{Q:Fin→Shared→Prop}(hh:A.handled=none)(d1:l1 < n)(gz:IsZip s.heap (n+5) (n+3) (n+4) .none)(gI:bW s.heap (n+3) (.ref n) (.ref (n+1)) (.ref (n+2)))
  (g1:s.heap.IsTupleIter n l1 i) (t1:s.heap.IsTuple l1 xs) (hx:xs[i]?=none)
  (k:∀(g:Heap) (e:Addr),(∀c o,c≠n+5→c≠n+4→c≠n→c≠n+1→c≠n+2→s.heap.get? c=some o→g.get? c=some o)→(∃o,g.get? e=some o∧o.cls = .type "StopIteration")→E (.ref e) { s with heap:=g }) :
  wpAny (model prog w) A (Builtin.«zip.__next__» ⟨[.ref (n+5)],[]⟩) Q E s:=by
 show wpAny _ _ (field (.ref (n+5)) 2 >>= _) _ _ _;refine wpAny_bind (wpAny_field gz rfl (x:=.bool false) rfl ?_)
 show wpAny _ _ (field (.ref (n+5)) 3 >>= _) _ _ _;refine wpAny_bind (wpAny_field gz rfl (x:=.ref (n+3)) rfl (wpAny_bind (wpAny_seqItems gI rfl ?_)))
 show wpAny _ _ (Builtin.SmallTypes.ownedTupleIsFree (.ref (n+5)) >>= _) _ _ _;refine wpAny_bind ?_;unfold Builtin.SmallTypes.ownedTupleIsFree
 refine wpAny_bind (wpAny_field gz rfl (x:=.none) rfl (wpAny_pure ?_));simp only[if_true]
 refine wpAny_bind (wpAny_rule (wpAny_bind (wpAny_field gz rfl (x:=.ref (n+4)) rfl (wpAny_bind (wpAny_setField_rec gz (by simp) fun h₁ z1 q1=>?_)))))
 replace z1:IsZip h₁ (n+5) (n+3) (n+4) .ellipsis:=z1
 refine wpAny_bind ?_;simp only[List.zipIdx_cons,List.zipIdx_nil,List.forIn_cons,List.forIn_nil]
 refine wpAny_bind (wpAny_bind (wpAny_onRaise ?_));show wpAny _ _ (Builtin.SmallTypes.nextOf (.ref n) >>= _) _ _ _
 refine wpAny_bind (Zt.E_ hh (g1.extBut q1.extBut (nn (by omega))) (t1.extBut q1.extBut (nn (by omega))) hx fun h₂ e q2 ⟨oe,ge,ce⟩=>?_)
 have z2:IsZip h₂ (n+5) (n+3) (n+4) .ellipsis:=q2 _ _ (nn (by omega)) z1
 have ez:e≠n+5:=fun u=>by subst u;rw[z2]at ge;cases ge;simp at ce
 exact wpAny_setField_rec z2 (by simp) fun h₃ _ q3=>k h₃ e (fun c o c1 _ c3 _ _ u=>q3.extBut _ _ c1 (q2 _ _ c3 (q1.extBut _ _ c1 u))) ⟨oe,q3.extBut _ _ ez ge,ce⟩
theorem jx{Q:Option Value→Shared→Prop}(d1:l1 < n)(d2:l2 < n)(d3:l3 < n)(gz:IsZip s.heap (n+5) (n+3) (n+4) .none)(gI:bW s.heap (n+3) (.ref n) (.ref (n+1)) (.ref (n+2)))(gO:bW s.heap (n+4) a b c)
  (g1:s.heap.IsTupleIter n l1 i) (g2:s.heap.IsTupleIter (n+1) l2 i) (g3:s.heap.IsTupleIter (n+2) l3 i) (t1:s.heap.IsTuple l1 xs) (t2:s.heap.IsTuple l2 ys) (t3:s.heap.IsTuple l3 zs) (hx:xs[i]?=some x) (hy:ys[i]?=some y) (hz:zs[i]?=some z)
  (k:∀g,IsZip g (n+5) (n+3) (n+4) (rawInt s.heap.objs.size)→bW g (n+4) x y z→g.IsTupleIter n l1 (i+1)→g.IsTupleIter (n+1) l2 (i+1)→g.IsTupleIter (n+2) l3 (i+1)→bW g s.heap.objs.size x y z→
   (∀c o,c≠n+5→c≠n+4→c≠n→c≠n+1→c≠n+2→s.heap.get? c=some o→g.get? c=some o)→Q (some (.ref s.heap.objs.size)) { s with heap:=g }):wpAny (model prog w) A (pyNext (.ref (n+5))) Q E s:=by
 have ty:s.TypeIs (.ref (n+5)) "zip":=⟨_,gz,rfl⟩
 unfold pyNext
 exact wpAny_bind (wpAny_attempt (wpAny_callSpecial?_slot (name:=Str.ofString "__next__") ty F.slot_zip_next (wpAny_call_entry F.slot_zip_next ty F.entry_zip_next
  (m_ d1 d2 d3 gz gI gO g1 g2 g3 t1 t2 t3 hx hy hz fun g a1 a2 a3 a4 a5 a6 a7=>wpAny_pure (k g a1 a2 a3 a4 a5 a6 a7)) (F.args_zip_next_1 _))))
theorem kP{Q:Option Value→Shared→Prop}(hh:A.handled=none)(d1:l1 < n)(gz:IsZip s.heap (n+5) (n+3) (n+4) .none)(gI:bW s.heap (n+3) (.ref n) (.ref (n+1)) (.ref (n+2)))
  (g1:s.heap.IsTupleIter n l1 i) (t1:s.heap.IsTuple l1 xs) (hx:xs[i]?=none)
  (k:∀g:Heap,(∀c o,c≠n+5→c≠n+4→c≠n→c≠n+1→c≠n+2→s.heap.get? c=some o→g.get? c=some o)→Q none { s with heap:=g }):wpAny (model prog w) A (pyNext (.ref (n+5))) Q E s:=by
 have ty:s.TypeIs (.ref (n+5)) "zip":=⟨_,gz,rfl⟩
 unfold pyNext
 refine wpAny_bind (wpAny_attempt (wpAny_callSpecial?_slot (name:=Str.ofString "__next__") ty F.slot_zip_next (wpAny_call_entry F.slot_zip_next ty F.entry_zip_next (qN hh d1 gz gI g1 t1 hx fun g e kk ⟨o,ho,hc⟩=>?_) (F.args_zip_next_1 _))))
 exact wpAny_bind (wpAny_isInstance (T:="StopIteration") (b:=true) ⟨o,ho,hc⟩ isSubtype_stop (wpAny_pure (k _ kk)))
end
theorem F9(a b c:Value):checkTypeCall "zip" ⟨[a,b,c],[]⟩=pure ():=by kernel_rfl
theorem F_(a b c:Value):checkBuiltinCall "zip.__new__" ⟨[.type "zip",a,b,c],[]⟩=pure ():=by kernel_rfl
theorem Ga(a b c d:Value):argsOk "object.__init__" ⟨[a,b,c,d],[]⟩:=by
 unfold argsOk;rw[signature?_of (id:="object.__init__") (n:="__init__".toList.reverse) (o:="object".toList.reverse) (by kernel_rfl) F.owner_object];kernel_rfl
noncomputable abbrev it(l:Addr):Obj:={ cls:=.type "tuple_iterator",data:=.fields #[.ref l,.int 0 0] }
noncomputable abbrev K3(h:Heap)(l1 l2 l3:Addr):Heap:=((h.push (it l1)).push (it l2)).push (it l3)
noncomputable abbrev K4(h:Heap)(l1 l2 l3:Addr):Heap:=(K3 h l1 l2 l3).push { cls:=.type "tuple",data:=.seq #[.ref h.objs.size,.ref (h.push (it l1)).objs.size,.ref ((h.push (it l1)).push (it l2)).objs.size] }
noncomputable abbrev K5(h:Heap)(l1 l2 l3:Addr):Heap:=(K4 h l1 l2 l3).push { cls:=.type "tuple",data:=.seq #[.none,.none,.none] }
noncomputable abbrev K6(h:Heap)(l1 l2 l3:Addr):Heap:=(K5 h l1 l2 l3).push { cls:=.type "zip",data:=.fields #[.none,.bool false,.bool false,.ref (K3 h l1 l2 l3).objs.size,.ref (K4 h l1 l2 l3).objs.size] }
theorem jy(l1 l2 l3:Addr)(xs ys zs:Array Value) :
  Meets (Builtin.«zip.__new__» ⟨[.type "zip",.ref l1,.ref l2,.ref l3],[]⟩) (fun _ R s=>s.heap.IsTuple l1 xs∧s.heap.IsTuple l2 ys∧s.heap.IsTuple l3 zs∧R (.ok (.ret (.ref (K5 s.heap l1 l2 l3).objs.size))) { s with heap:=K6 s.heap l1 l2 l3 }):=
 .of_wp fun prog w A R s h=>by
  obtain⟨hp,g,d,tk,os⟩:=s;obtain⟨e1,e2,e3,h⟩:=h
  have hsub:=sub_zip
  have L1:Heap.IsTuple (Shared.heap ⟨hp,g,d,tk,os⟩) l1 xs:=e1
  have L2:Heap.IsTuple (Shared.heap ⟨hp.push { cls:=.type "tuple_iterator",data:=.fields #[.ref l1,.int 0 0] },g,d,tk,os⟩) l2 ys:=Heap.IsTuple.push e2 _
  have L3:Heap.IsTuple (Shared.heap ⟨(hp.push { cls:=.type "tuple_iterator",data:=.fields #[.ref l1,.int 0 0] }).push { cls:=.type "tuple_iterator",data:=.fields #[.ref l2,.int 0 0] },g,d,tk,os⟩) l3 zs:=Heap.IsTuple.push (Heap.IsTuple.push e3 _) _
  wp_walk using wpAny_pyIter_tuple L1,wpAny_pyIter_tuple L2,wpAny_pyIter_tuple L3
  exact⟨_,rfl,h⟩
section
variable {prog:Program} {w:World} {A:Around} {E:Value→Shared→Prop} {s:Shared}
theorem kQ{l1 l2 l3:Addr}{xs ys zs:Array Value}{Q:Value→Shared→Prop}(e1:s.heap.IsTuple l1 xs)(e2:s.heap.IsTuple l2 ys)(e3:s.heap.IsTuple l3 zs)
  (k:∀g,IsZip g (s.heap.objs.size+5) (s.heap.objs.size+3) (s.heap.objs.size+4) .none→bW g (s.heap.objs.size+3) (.ref s.heap.objs.size) (.ref (s.heap.objs.size+1)) (.ref (s.heap.objs.size+2))→
   bW g (s.heap.objs.size+4) .none .none .none→g.IsTupleIter s.heap.objs.size l1 0→g.IsTupleIter (s.heap.objs.size+1) l2 0→g.IsTupleIter (s.heap.objs.size+2) l3 0→
   (∀c o,s.heap.get? c=some o→g.get? c=some o)→Q (.ref (s.heap.objs.size+5)) { s with heap:=g }) :
  wpAny (model prog w) A (call (.type "zip") [.ref l1,.ref l2,.ref l3]) Q E s:=by
 refine callType_new F.called_zip (by decide) (F9 _ _ _) (F_ _ _ _) (fun obj=>Ga obj _ _ _) F.entry_zip_new (jy l1 l2 l3 xs ys zs) ⟨e1,e2,e3,?_⟩
 have z1:(s.heap.push (it l1)).objs.size=s.heap.objs.size+1:=Heap.size_push ..
 have z2:((s.heap.push (it l1)).push (it l2)).objs.size=s.heap.objs.size+2:=by rw[Heap.size_push,z1]
 have z3:(K3 s.heap l1 l2 l3).objs.size=s.heap.objs.size+3:=by rw[Heap.size_push,z2]
 have z4:(K4 s.heap l1 l2 l3).objs.size=s.heap.objs.size+4:=by rw[Heap.size_push,z3]
 have z5:(K5 s.heap l1 l2 l3).objs.size=s.heap.objs.size+5:=by rw[Heap.size_push,z4]
 have p:∀{h:Heap} {b:Addr} {o o':Obj},h.get? b=some o→(h.push o').get? b=some o:=fun e=>Heap.get?_push_of_some _ e
 have g6:(K6 s.heap l1 l2 l3).get? (K5 s.heap l1 l2 l3).objs.size=some _:=Heap.get?_push_size _ rfl
 have g5:(K6 s.heap l1 l2 l3).get? (K4 s.heap l1 l2 l3).objs.size=some _:=p (Heap.get?_push_size _ rfl)
 have g4:(K6 s.heap l1 l2 l3).get? (K3 s.heap l1 l2 l3).objs.size=some _:=p (p (Heap.get?_push_size _ rfl))
 have g3:(K6 s.heap l1 l2 l3).get? ((s.heap.push (it l1)).push (it l2)).objs.size=some _:=p (p (p (Heap.get?_push_size _ rfl)))
 have g2:(K6 s.heap l1 l2 l3).get? (s.heap.push (it l1)).objs.size=some _:=p (p (p (p (Heap.get?_push_size _ rfl))))
 have g1:(K6 s.heap l1 l2 l3).get? s.heap.objs.size=some _:=p (p (p (p (p (Heap.get?_push_size _ rfl)))))
 show _∧_
 rw[z3,z4,z5]at g6
 rw[z4]at g5
 rw[z1,z2,z3]at g4
 rw[z2]at g3
 rw[z1]at g2
 rw[z5]
 exact⟨⟨_,g6,rfl⟩,k _ g6 g4 g5 ⟨_,g1,rfl,rfl⟩ ⟨_,g2,rfl,rfl⟩ ⟨_,g3,rfl,rfl⟩ fun c o x=>p (p (p (p (p (p x)))))⟩
end
end Zu
namespace L2
open PySem PySem.Spec PyProof.Rows
noncomputable def Fk(K:PySem.W.Frag)(a b c:Addr):It:=
  ⟨fun i H=>∃xs ys zs x y z,G3 K H a xs∧G3 K H b ys∧G3 K H c zs∧xs[i]?=some x∧ys[i]?=some y∧zs[i]?=some z,
   fun i H v H'=>∃p x y z,v = .ref p∧H p=none∧H'=upd H p (.tup [x,y,z])∧∀xs ys zs,G3 K H a xs→G3 K H b ys→G3 K H c zs→xs[i]?=some x∧ys[i]?=some y∧zs[i]?=some z,
   fun i H=>∃xs,G3 K H a xs∧xs.length≤i⟩
theorem v8{P:Program}{w:World}{K:PySem.W.Frag}{elts:List Expr}{k0:Nat}{JO:Pos}{n a b c:Nat}(d1:a < n)(d2:b < n)(d3:c < n) :
  oN P w K (.Tuple elts k0 JO) (Fk K a b c) [n+5,n+3,n+4,n,n+1,n+2] (n+5) (fun i h=>IsZip h (n+5) (n+3) (n+4) .none∧Zu.bW h (n+3) (.ref n) (.ref (n+1)) (.ref (n+2))∧(∃x y z,Zu.bW h (n+4) x y z)∧h.IsTupleIter n a i∧h.IsTupleIter (n+1) b i∧h.IsTupleIter (n+2) c i) where
 mem:=by simp
 obj:=fun i h st c hc=>by
  obtain⟨gz,gI,⟨x,y,z,gO⟩,⟨o1,e1,_,f1⟩,⟨o2,e2,_,f2⟩,⟨o3,e3,_,f3⟩⟩:=st
  simp only[List.mem_cons,List.not_mem_nil,or_false]at hc
  rcases hc with rfl|rfl|rfl|rfl|rfl|rfl
  ·exact⟨_,gz,fun v q=>by cases q⟩
  ·exact⟨_,gI,fun v q=>by cases q⟩
  ·exact⟨_,gO,fun v q=>by cases q⟩
  ·exact⟨_,e1,fun v q=>by rw[f1]at q;cases q⟩
  ·exact⟨_,e2,fun v q=>by rw[f2]at q;cases q⟩
  ·exact⟨_,e3,fun v q=>by rw[f3]at q;cases q⟩
 keep:=fun i h h' st k=>by
  obtain⟨gz,gI,⟨x,y,z,gO⟩,g1,g2,g3⟩:=st
  exact⟨k _ (by simp) _ gz,k _ (by simp) _ gI,⟨x,y,z,k _ (by simp) _ gO⟩,g1.at fun o e=>k _ (by simp) o e,g2.at fun o e=>k _ (by simp) o e,g3.at fun o e=>k _ (by simp) o e⟩
 item:=by
  intro X hP hw hK hc i pins s σ H E I hf st hg
  subst hP hw hK
  obtain⟨gz,gI,⟨ta,tb,tc,gO⟩,g1,g2,g3⟩:=st
  obtain⟨xs,ys,zs,x,y,z,Mc,MO,Qd,hx,hy,hz⟩:=hg
  obtain⟨ia,ra,pa,za⟩:=I.tuple Mc
  obtain⟨ib,rb,pb,zb⟩:=I.tuple MO
  obtain⟨ic,rc,pc,zc⟩:=I.tuple Qd
  obtain⟨u,hu,ru⟩:=ra.get hx
  obtain⟨v,hv,rv⟩:=rb.get hy
  obtain⟨t,ht,rt⟩:=rc.get hz
  refine Zu.jx d1 d2 d3 gz gI gO g1 g2 g3 (show s.heap.IsTuple a ia.toArray from pa) (show s.heap.IsTuple b ib.toArray from pb) (show s.heap.IsTuple c ic.toArray from pc) (x:=u) (y:=v) (z:=t) (by simpa using hu) (by simpa using hv) (by simpa using ht) fun g a1 a2 a3 a4 a5 a6 a7=>?_
  refine⟨_,rfl,wpAny_letOwnedTupleGo_zip (s:={ s with heap:=g }) a1 fun g' z' q'=>?_⟩
  have kk:∀c o,c ∉ ([n+5,n+3,n+4,n,n+1,n+2]:List Addr)→s.heap.get? c=some o→g'.get? c=some o:=fun c o hc e=>by
   simp only[List.mem_cons,List.not_mem_nil,or_false,not_or]at hc
   exact q'.extBut _ _ hc.1 (a7 c o hc.1 hc.2.2.1 hc.2.2.2.1 hc.2.2.2.2.1 hc.2.2.2.2.2 e)
  have I1:Inv X pins σ H { s with heap:=g' }:=I.JN (t':=s.toks) kk hf
  have f0:Hg X pins H s.heap.objs.size:=I.IS (Nat.le_refl _) (I.hok.fresh (Nat.le_refl _))
  have eT:Hr g' s.heap.objs.size [u,v,t].toArray:=⟨_,q'.extBut _ _ (Nat.ne_of_gt (Heap.lt_size gz)) a6,rfl,rfl,_,rfl⟩
  have I2:=I1.Lr f0 eT (.cons ru (.cons rv (.cons rt .nil))) (by show 3≤sizeLine;decide)
  refine⟨.ref s.heap.objs.size,_,I2,rfl,⟨s.heap.objs.size,x,y,z,rfl,f0.1,rfl,fun xs' ys' zs' h1 h2 h3=>by rw[I.Hx h1 Mc,I.Hx h2 MO,I.Hx h3 Qd];exact⟨hx,hy,hz⟩⟩,
   ⟨z',q'.extBut _ _ (Zu.nn (by omega)) (a7 _ _ (Zu.nn (by omega)) (Zu.nn (by omega)) (Zu.nn (by omega)) (Zu.nn (by omega)) (Zu.nn (by omega)) gI),⟨_,_,_,q'.extBut _ _ (Zu.nn (by omega)) a2⟩,a3.extBut q'.extBut (Zu.nn (by omega)),a4.extBut q'.extBut (Zu.nn (by omega)),a5.extBut q'.extBut (Zu.nn (by omega))⟩,fun c hc=>?_⟩
  have hlt:c < s.heap.objs.size:=by
   obtain⟨o1,e1,_⟩:=g1
   obtain⟨o2,e2,_⟩:=g2
   obtain⟨o3,e3,_⟩:=g3
   simp only[List.mem_cons,List.not_mem_nil,or_false]at hc
   rcases hc with rfl|rfl|rfl|rfl|rfl|rfl
   ·exact Heap.lt_size gz
   ·exact Heap.lt_size gI
   ·exact Heap.lt_size gO
   ·exact Heap.lt_size e1
   ·exact Heap.lt_size e2
   ·exact Heap.lt_size e3
  rw[aw (Nat.ne_of_lt hlt)]
  exact(hf c hc).1
 done:=by
  intro X hP hw hK hc i pins s σ H E I hf st hg
  subst hP hw hK
  obtain⟨gz,gI,⟨ta,tb,tc,gO⟩,g1,g2,g3⟩:=st
  obtain⟨xs,Mc,hl⟩:=hg
  obtain⟨ia,ra,pa,za⟩:=I.tuple Mc
  have la:=ra.length
  refine Zu.kP (I.ok.hd hc) d1 gz gI g1 (show s.heap.IsTuple a ia.toArray from pa) (by simp;omega) fun g kk=>⟨rfl,I.JN (t':=s.toks) (fun c o hc e=>?_) hf⟩
  simp only[List.mem_cons,List.not_mem_nil,or_false,not_or]at hc
  exact kk c o hc.1 hc.2.2.1 hc.2.2.2.1 hc.2.2.2.2.1 hc.2.2.2.2.2 e
 self:=fun _ _ _ _ _ st h=>wpAny_pyIter_zip st.1 h
section
variable {X:Cx}
def Fl(K:PySem.W.Frag)(ta:TA):TI:=fun σ H R=>ta σ H fun vs H1=>∃a b c,vs=[.ref a,.ref b,.ref c]∧(∃xs,G3 K H1 a xs)∧(∃ys,G3 K H1 b ys)∧(∃zs,G3 K H1 c zs)∧R (Fk K a b c) H1
theorem BH{elts:List Expr}{k0:Nat}{JO:Pos}{a b c:Expr}{ta:TA}{p pos:Pos}(hg:Gl X "zip")(hm:X.mg "zip" = none)(hv:bootBuiltins "zip" = some (.type "zip"))(ha:PA X [a,b,c] ta)
  (hs:starEach [a,b,c] X.env=[(false,eval a X.env),(false,eval b X.env),(false,eval c X.env)]) (hs2:starEach [b,c] X.env=[(false,eval b X.env),(false,eval c X.env)]):PI X (.Tuple elts k0 JO) (.Call (.Name "zip" p) [a,b,c] [] pos) (Fl X.K ta):=by
 intro pins s σ H R I h
 refine Call_ (fM I hg hm hv (PyProof.Rows.callWith_type1 (GJ (ha pos pins s σ H _ I h) fun us s1 ⟨vs,H1,I1,r1,q1⟩=>?_) (by rw[hs,hs2]) (by rw[hs2];rfl)))
 obtain⟨a,b,c,e,⟨xs,qa⟩,⟨ys,qb⟩,⟨zs,qc⟩,q⟩:=q1
 subst e
 obtain⟨u,us,rfl⟩:∃u us',us=u::us':=by cases r1;exact⟨_,_,rfl⟩
 cases r1 with
 |cons ru r1=>
 obtain⟨v,t,rfl,rv,rt⟩:=uH r1
 cases ru
 cases rv
 cases rt
 obtain⟨ia,ra,pa,za⟩:=I1.tuple qa
 obtain⟨ib,rb,pb,zb⟩:=I1.tuple qb
 obtain⟨ic,rc,pc,zc⟩:=I1.tuple qc
 have la:a < s1.heap.objs.size:=by obtain⟨o,e,_⟩:=pa;exact Heap.lt_size e
 have lb:b < s1.heap.objs.size:=by obtain⟨o,e,_⟩:=pb;exact Heap.lt_size e
 have lc:c < s1.heap.objs.size:=by obtain⟨o,e,_⟩:=pc;exact Heap.lt_size e
 refine Zu.kQ (show s1.heap.IsTuple a ia.toArray from pa) (show s1.heap.IsTuple b ib.toArray from pb) (show s1.heap.IsTuple c ic.toArray from pc) fun g gz gI gO g1 g2 g3 kk=>?_
 refine wpAny_pyIter_zip (s:={ s1 with heap:=g }) gz ?_
 refine⟨_,[s1.heap.objs.size+5,s1.heap.objs.size+3,s1.heap.objs.size+4,s1.heap.objs.size,s1.heap.objs.size+1,s1.heap.objs.size+2],_,_,H1,rfl,I1.kept (t':=s1.toks) kk,v8 la lb lc,⟨gz,gI,⟨_,_,_,gO⟩,g1,g2,g3⟩,fun c hc=>?_,q⟩
 have hle:s1.heap.objs.size≤c:=by
  simp only[List.mem_cons,List.not_mem_nil,or_false]at hc
  rcases hc with rfl|rfl|rfl|rfl|rfl|rfl
  ·exact Nat.le_add_right _ _
  ·exact Nat.le_add_right _ _
  ·exact Nat.le_add_right _ _
  ·exact Nat.le_refl _
  ·exact Nat.le_add_right _ _
  ·exact Nat.le_add_right _ _
 exact I1.IS hle (I1.hok.fresh hle)
end
end L2
namespace L3
open PySem L2
section
variable {X:Cx} {a b c:Expr} {ta tb tc:aL} {p pos:Pos}
noncomputable def DG(z:PV×PV×PV):PV:=.tup [z.1,z.2.1,z.2.2]
noncomputable def eY(xs ys zs:List PV):List PV:=(xs.zip (ys.zip zs)).map DG
theorem v9{K:PySem.W.Frag}{H0:Hp}{a b c:Addr}{vs us ws:List V}{xs ys zs:List PV}(h1:G3 K H0 a vs)(h2:G3 K H0 b us)(h3:G3 K H0 c ws)(r1:Reps K H0 vs xs)(r2:Reps K H0 us ys)(r3:Reps K H0 ws zs)(l12:xs.length≤ys.length)(l13:xs.length≤zs.length):j_ K H0 (Fk K a b c) ⟨eY xs ys zs,fun _=>True⟩:=by
 intro i S H g rS _
 have hv:=g.t _ _ h1
 have hu:=g.t _ _ h2
 have hw:=g.t _ _ h3
 have l1:=r1.length
 refine⟨fun p hp=>?_,fun hi=>⟨vs,hv,?_⟩⟩
 ·unfold eY at hp
  rw[List.getElem?_map]at hp
  cases hz:(xs.zip (ys.zip zs))[i]? with
  |none=>rw[hz]at hp;cases hp
  |some z=>
   rw[hz]at hp
   cases hp
   obtain⟨e1,Q_⟩:=List.getElem?_zip_eq_some.mp hz
   obtain⟨e2,e3⟩:=List.getElem?_zip_eq_some.mp Q_
   obtain⟨v,hx',rv⟩:=r1.get e1
   obtain⟨u,hy',ru⟩:=r2.get e2
   obtain⟨t,hz',rt⟩:=r3.get e3
   refine⟨⟨vs,us,ws,v,u,t,hv,hu,hw,hx',hy',hz'⟩,fun x H' ⟨q,x2,y2,z2,e3,hq,e4,h⟩=>?_⟩
   subst e3 e4
   obtain⟨k1,k2,k3⟩:=h vs us ws hv hu hw
   rw[hx']at k1
   rw[hy']at k2
   rw[hz']at k3
   cases k1;cases k2;cases k3
   exact⟨.tup (G3.of ay) (.cons ((rv.mono g).mono (.new hq)) (.cons ((ru.mono g).mono (.new hq)) (.cons ((rt.mono g).mono (.new hq)) .nil))),rS.other hq,.new hq⟩
 ·have e:(eY xs ys zs).length=min xs.length (min ys.length zs.length):=by simp[eY]
  rw[e]at hi
  omega
def v_(ta tb tc:aL):tQ:=fun σ S R E=>ta σ S (fun v S1=>tb σ S1 (fun w S2=>tc σ S2 (fun x S3=>match v,w,x with
 | .tup xs,.tup ys,.tup zs=>xs.length≤ys.length∧xs.length≤zs.length∧R ⟨eY xs ys zs,fun _=>True⟩ S3
 |_,_,_=>False) E) E) E
theorem BI{elts:List Expr}{k0:Nat}{JO:Pos}(hs:starEach [a,b,c] X.env=[(false,eval a X.env),(false,eval b X.env),(false,eval c X.env)])(hs2:starEach [b,c] X.env=[(false,eval b X.env),(false,eval c X.env)])(hg:Gl X "zip")(hm:X.mg "zip" = none)(hv:bootBuiltins "zip" = some (.type "zip"))(ha:jz X [a,b,c] [ta,tb,tc]) :
  yS X (.Tuple elts k0 JO) (.Call (.Name "zip" p) [a,b,c] [] pos) (v_ ta tb tc):=
 ⟨ny (BH hg hm hv ha.ok hs hs2) fun σ H R ⟨σ3,S,R3,E3,rσ,rS,h,xo,k⟩=>⟨σ3,S,_,E3,rσ,rS,h,xo,fun v S1 v' H1 h1 rv GR g1=>⟨σ3,S1,_,E3,rσ.mono g1,GR,h1,xo.mono g1,fun w S2 w' H2 h2 rw' IM g2=>⟨σ3,S2,_,E3,(rσ.mono g1).mono g2,IM,h2,(xo.mono g1).mono g2,fun x S3 x' H3 h3 Pc LX g3=>by
  dsimp only at h3
  split at h3
  ·cases rv with
   |tup hq rs=>
    cases rw' with
    |tup hq2 NC=>
     cases Pc with
     |tup Qe Ra=>exact⟨_,_,_,rfl,⟨_,g3.t _ _ (g2.t _ _ hq)⟩,⟨_,g3.t _ _ hq2⟩,⟨_,Qe⟩,k _ S3 _ H3 h3.2.2 (v9 (g3.t _ _ (g2.t _ _ hq)) (g3.t _ _ hq2) Qe ((rs.mono g2).mono g3) (NC.mono g3) Ra h3.1 h3.2.1) LX ((g1.trans g2).trans g3)⟩
  ·exact h3.elim⟩⟩⟩⟩
end
end L3
namespace L2
open PySem PySem.Spec PyProof.Rows
theorem jE:fillsNumberSlot (.type "tuple") "mul" = pure false:=
 PySem.fillsNumberSlot_seq (id:="tuple.__mul__") (r:=some (.builtin "tuple.__rmul__")) F.slot_tuple_mul.lookup (by decide +kernel) F.slot_tuple_rmul.lookup (by decide +kernel)
theorem nH:seqRepeat? (.type "tuple")=pure (some (.builtin "tuple.__mul__")):=by
 unfold seqRepeat?
 rw[PySem.seqSlot_of (T:="tuple") (name:="__mul__") (id:="tuple.__mul__") F.slot_tuple_mul.lookup (by decide +kernel),PySem.seqSlot_of (T:="tuple") (name:="__rmul__") (id:="tuple.__rmul__") F.slot_tuple_rmul.lookup (by decide +kernel)]
 rfl
theorem lg(a:Int)(t:Tok)(l:Addr)(its:Array Value)(n:Nat)(dd:Option Addr)(sl:Array (Option Value)) :
  Meets (Builtin.«int.__rmul__» ⟨[.int a t,.ref l],[]⟩) (fun _ R s=>s.heap.get? l=some { cls:=.type "tuple",dict:=dd,data:=.seq its n,slots:=sl }∧R (.ok (.ret Value.notImplemented)) s):=
 .of_wp fun prog w A R s h=>by obtain⟨hp,g,d,tk,os⟩:=s;obtain⟨hl,h⟩:=h;wp_walk;exact⟨_,rfl,h⟩
theorem DH(l:Addr)(x:Value)(n:Nat)(dd:Option Addr)(sl:Array (Option Value))(t:Tok) :
  Meets (Builtin.«tuple.__mul__» ⟨[.ref l,.int 1 t],[]⟩) (fun _ R s=>s.heap.get? l=some { cls:=.type "tuple",dict:=dd,data:=.seq #[x] n,slots:=sl }∧R (.ok (.ret (.ref l))) s):=
 .of_wp fun prog w A R s h=>by
  obtain⟨hp,g,d,tk,os⟩:=s;obtain⟨hl,h⟩:=h
  have t1:=AutoSeq1.idx_int
  wp_walk using wpAny_loadPart' hl
  exact⟨_,rfl,h⟩
theorem DI(l:Addr)(x:Value)(n:Nat)(dd:Option Addr)(sl:Array (Option Value))(t:Tok) :
  Meets (Builtin.«tuple.__mul__» ⟨[.ref l,.int 0 t],[]⟩) (fun _ R s=>s.heap.get? l=some { cls:=.type "tuple",dict:=dd,data:=.seq #[x] n,slots:=sl }∧R (.ok (.ret (.ref s.heap.objs.size))) { s with heap:=s.heap.push { cls:=.type "tuple",data:=.seq #[] } }):=
 .of_wp fun prog w A R s h=>by
  obtain⟨hp,g,d,tk,os⟩:=s;obtain⟨hl,h⟩:=h
  have t1:=AutoSeq1.idx_int
  wp_walk using wpAny_loadPart' hl
  exact⟨_,rfl,h⟩
theorem sk(x:Value)(m:Nat):(List.replicate m (#[x]:Array Value)).foldl (·++·) #[]=(List.replicate m x).toArray:=by
 have:=jq [x] m []
 rw[List.nil_append]at this
 refine this.trans ?_
 rw[List.flatten_replicate_singleton]
theorem DJ(l:Addr)(x:Value)(n:Nat)(dd:Option Addr)(sl:Array (Option Value))(k:Int)(t:Tok)(h2:2≤k)(hk:k≤2 ^ 20) :
  Meets (Builtin.«tuple.__mul__» ⟨[.ref l,.int k t],[]⟩) (fun _ R s=>s.heap.get? l=some { cls:=.type "tuple",dict:=dd,data:=.seq #[x] n,slots:=sl }∧R (.ok (.ret (.ref s.heap.objs.size))) { s with heap:=s.heap.push { cls:=.type "tuple",data:=.seq ((List.replicate k.toNat #[x]).foldl (·++·) #[]) } }):=
 .of_wp fun prog w A R s h=>by
  obtain⟨hp,g,d,tk,os⟩:=s;obtain⟨hl,h⟩:=h
  have t1:=AutoSeq1.idx_int
  have c1:¬((decide (k < -(2 ^ 63)) || decide (k≥2 ^ 63))=true):=by rw[Bool.or_eq_true,decide_eq_true_eq,decide_eq_true_eq];omega
  have c2:¬(((#[x]:Array Value).isEmpty || k == 1)=true):=by
   have:(k == 1)=false:=by rw[beq_eq_false_iff_ne];omega
   rw[this];simp
  have c3:¬((decide (k≤0) || (#[x]:Array Value).isEmpty)=true):=by
   have:decide (k≤0)=false:=decide_eq_false (by omega)
   rw[this];simp
  have c4:¬(((#[x]:Array Value).size:Int) * k > (2 ^ 63 - 1) / 8):=by show ¬((1:Int) * k > _);omega
  have sl:(2:Int) ^ 20≤(sizeLine:Int):=by decide
  have c5:¬(Builtin.Tuple.tupleTooMany (((#[x]:Array Value).size:Int) * k)=true):=by show ¬(decide ((1:Int) * k > (sizeLine:Int))=true);rw[decide_eq_true_eq];omega
  wp_walk using wpAny_loadPart' hl
  rw[if_neg c1]
  wp_walk using wpAny_loadPart' hl
  rw[if_neg c2]
  wp_walk using wpAny_loadPart' hl
  rw[if_neg c3]
  wp_walk using wpAny_loadPart' hl
  rw[if_neg c4]
  wp_walk using wpAny_loadPart' hl
  rw[if_neg c5]
  wp_walk using wpAny_loadPart' hl
  have c6:¬((List.replicate k.toNat (#[x]:Array Value)).foldl (·++·) #[]).size > sizeLine:=by
   rw[sk,List.size_toArray,List.length_replicate];have:=Int.toNat_of_nonneg (show 0≤k by omega);omega
  rw[if_neg c6]
  wp_walk using wpAny_loadPart' hl
  exact⟨_,rfl,h⟩
section
variable {X:Cx}
def DK(H H':Hp):Prop:=∀c o,H c=some o→H' c=some o
def DL(K:PySem.W.Frag):R2:=fun x y H Q=>∃l k x0,x = .ref l∧y = .int k∧G3 K H l [x0]∧0≤k∧k≤2 ^ 20∧∀r H',DK H H'→G3 K H' r (List.replicate k.toNat x0)→Q (.ref r) H'
theorem yX:ie X (binaryOp .Mult) (DL X.K):=by
 intro pins s σ H x y v u Q I rx ry h
 obtain⟨l,k,x0,rfl,rfl,hH,h1,h2,q⟩:=h
 cases rx
 obtain⟨t,rfl⟩:=ry
 obtain⟨its,r1,p1,_⟩:=I.tuple hH
 obtain⟨w,rfl,Rb⟩:=r1.one
 obtain⟨⟨cls,dd,data,sl⟩,ho,hc,n,hd⟩:=id p1
 simp only at hc hd
 subst hc hd
 have new:∀(ys:List V) (us:List Value),Vals ys us→ys.length≤sizeLine→ys=List.replicate k.toNat x0→∃v H1,Inv X pins σ H1 { s with heap:=s.heap.push { cls:=.type "tuple",data:=.seq us.toArray } }∧RelV v (.ref s.heap.objs.size)∧Q v H1:=fun ys us r hz e=>
  ⟨.ref s.heap.objs.size,_,I.laid (t':=s.toks) (o:=.tup ys) (fun b ob q=>Heap.get?_push_of_some _ q) (Nat.le_refl _) ⟨hz,_,r,Hr.new _ _⟩,rfl,
   q _ _ (fun c o z=>by rw[aw (aT z (I.hok.fresh (Nat.le_refl _)))];exact z) (by rw[←e];exact G3.of ay)⟩
 refine wpAny_binaryOp_repeat_ref (T:="tuple") (U:="int") (by decide) ⟨_,ho,rfl⟩ (fun s'=>typeIs_int s' k t) jE F.fills_int_mul F.slot_int_rmul nH F.slot_int_index.lookup
  (call_meets F.slot_int_rmul (typeIs_int s k t) F.entry_int_rmul (F.args_int_rmul_2 _ _) (lg k t l _ n dd sl) ⟨ho,rfl,⟨_,ho,rfl⟩,?_⟩)
 by_cases k0:k=0
 ·subst k0
  exact call_meets F.slot_tuple_mul ⟨_,ho,rfl⟩ F.entry_tuple_mul (F.args_tuple_mul_2 _ _) (DI l w n dd sl t) ⟨ho,new [] [] .nil (Nat.zero_le _) rfl⟩
 by_cases k1:k=1
 ·subst k1
  exact call_meets F.slot_tuple_mul ⟨_,ho,rfl⟩ F.entry_tuple_mul (F.args_tuple_mul_2 _ _) (DH l w n dd sl t) ⟨ho,⟨.ref l,H,I,rfl,q l H (fun _ _ e=>e) hH⟩⟩
 ·refine call_meets F.slot_tuple_mul ⟨_,ho,rfl⟩ F.entry_tuple_mul (F.args_tuple_mul_2 _ _) (DJ l w n dd sl k t (by omega) h2) ⟨ho,?_⟩
  rw[sk]
  have hz:(2:Nat) ^ 20≤sizeLine:=by decide
  have e:∀m:Nat,Vals (List.replicate m x0) (List.replicate m w):=fun m=>by
   induction m with
   |zero=>exact .nil
   |succ m ih=>rw[List.replicate_succ,List.replicate_succ];exact .cons Rb ih
  exact new _ _ (e k.toNat) (by rw[List.length_replicate];omega) rfl
end
end L2
namespace L3
open PySem L2
section
variable {X:Cx}
def ph:R3:=fun x y S Q=>match x,y with
 | .tup [v],.int k=>0≤k∧k≤2 ^ 20∧Q (.tup (List.replicate k.toNat v)) S
 |_,_=>False
theorem sr:ii X (binaryOp .Mult) ph:=⟨fun pins s σ H x y v u Q I rx ry ⟨px,py,S,Q3,r1,r2,rS,q,k⟩=>by
 unfold ph at q
 split at q
 ·cases r2
  cases r1 with
  |tup hq rs=>
   cases rs with
   |cons r0 rn=>
    cases rn
    refine yX pins s σ H _ _ v u Q I rx ry ⟨_,_,_,rfl,rfl,hq,q.1,q.2.1,fun r H' hh hr=>k _ S _ H' q.2.2 (.tup hr ?_) (rS.grow hh) (.same hh)⟩
    have e:∀m:Nat,Reps X.K H (List.replicate m _) (List.replicate m _):=fun m=>by
     induction m with
     |zero=>exact .nil
     |succ m ih=>rw[List.replicate_succ,List.replicate_succ];exact .cons r0 ih
    exact(e _).mono (.same hh)
 ·exact q.elim⟩
end
end L3
namespace C
open PySem L2 L3
def ip:bj:=(aG (aE [(aE [(c3 (.int 0)),(c3 (.int 1))]),(aj ph (aE [(c3 (.int 0))]) (ao b6 [(v3 0)])),(aj ph (aE [(c3 (.int 0))]) (ao b6 [(v3 0)]))]))
def lh(Ke KH:aF):bj:=(ak (au 2 (bh (v_ (aj ad (v3 0) (c3 (.int 1))) (aj ad (v3 0) (c3 (.int 2))) (aj ad (v3 1) (c3 (.int 2)))) (.tp (.cons (.n 0) (.cons (.n 1) (.cons (.n 2) .nil)))) cO (ao fV [(v3 1),(aj ba (v3 2) (v3 0))]) 3 []))
  (aG (aE [(ae KH [(aj ad (v3 0) (c3 (.int 0))),(aj ad (v3 1) (c3 (.int 0)))]),(ae Ke [(aj ad (v3 0) (c3 (.int 1))),(aj ad (v3 1) (c3 (.int 1)))]),(ao aU [(v3 2)])])))
def bT(IY Jg Mg s0 s1:aF):bj:=(ak (au 3 (ae IY [(v3 0)]))
  (ak (bM (bg (v3 2)) (.n 4) (au 3 (ae Jg [(v3 3),(ae Mg [(ae s1 [(v3 0),(aj ad (v3 1) (c3 (.int 1))),(aj ad (v3 4) (c3 (.int 1)))]),(aj ad (v3 4) (c3 (.int 0)))])])))
  (aG (v3 3))))
def eZ(IY HI Jg Ly JG s0 s1:aF):bj:=(ak (au 3 (aj ad (v3 1) (c3 (.int 0))))
  (ak (au 4 (ae IY [(v3 0)]))
  (ak (bp (aJ (aj (bt false) (v3 3) (c3 (.str "pay")))) (aG (aE [(aj ad (v3 1) (c3 (.int 1))),(aj ad (v3 4) (c3 (.int 1))),(aj ad (v3 4) (c3 (.int 2)))])) aS)
  (ak (bp (aJ (aj (bt false) (v3 3) (c3 (.str "put")))) (aG (aE [(aj ad (v3 4) (c3 (.int 0))),(ae HI [(v3 0),(aj ad (v3 1) (c3 (.int 1))),(aj ad (v3 1) (c3 (.int 2)))]),(aj ad (v3 4) (c3 (.int 2)))])) aS)
  (ak (bp (aJ (aj (bt false) (v3 3) (c3 (.str "then")))) (aG (ae Jg [(ae s1 [(v3 0),(aj ad (v3 1) (c3 (.int 1))),(aj ad (v3 2) (c3 (.int 0)))]),(ae s1 [(v3 0),(aj ad (v3 1) (c3 (.int 2))),(aj ad (v3 2) (c3 (.int 1)))])])) aS)
  (ak (bp (aJ (aj (bt false) (v3 3) (c3 (.str "often")))) (aG (ae s0 [(v3 0),(v3 1),(v3 2)])) aS)
  (ak (bp (aJ (aj (qr true) (v3 3) (aE [(c3 (.str "either")),(c3 (.str "take"))]))) (aG (v3 4)) aS)
  (ak (au 5 (ae s1 [(v3 0),(ae Ly [(v3 1),(v3 2)]),(aj ad (v3 2) (c3 (.int 1)))]))
  (ak (bp (b_ (aJ (aj (bt false) (v3 3) (c3 (.str "take")))) (aJ (aj (bt false) (aj ad (v3 2) (c3 (.int 0))) (c3 (.int 0))))) (aG (ae Jg [(ae JG [(v3 0),(v3 1)]),(v3 5)])) aS)
  (aG (v3 5)))))))))))
def nI(KI:aF):bj:=(aG (ae KI [(aj ad (v3 0) (c3 (.int 0))),(aj ad (aj ad (aj ad (v3 0) (c3 (.int 1))) (v3 1)) (c3 (.int 1))),(v3 2)]))
def cF(GC Kf Ie IB:aF):bj:=(ak (bp (aJ (aj (bt false) (ae GC [(v3 0),(c3 (.int 2))]) (c3 (.int 0)))) (aG (ae Kf [(v3 0),(c3 (.int 4)),(c3 (.int 4)),(c3 (.int 20))])) aS)
  (ak (au 1 (ae Ie [(v3 0),(c3 (.int 8))]))
  (ak (au 2 (ao aU [(b5 (v3 1) sf (qu (ae GC [(v3 0),(c3 (.int 5))])))]))
  (ak (au 3 (aj aM (c3 (.int 1)) (ae GC [(v3 0),(c3 (.int 4))])))
  (aG (aE [(v3 2),(ao aU [(bh (cM (v3 3)) (.n 0) cO (aE [(aj ad (v3 3) (aj aM (c3 (.int 4)) (v3 0))),(ae IB [(v3 1),(v3 2),(bb [(c3 (.int 19))]),(c3 (.int 5))])]) 1 [0,2,1])])]))))))
def cQ(GC s0:aF):bj:=(ak (bp (aJ (aj (bt false) (aj ad (v3 1) (c3 (.int 0))) (c3 (.str "then")))) (ak (au 4 (ae s0 [(v3 0),(aj ad (v3 1) (c3 (.int 1))),(v3 2),(v3 3)]))
  (aG (aE [(v3 4),(ae s0 [(v3 0),(aj ad (v3 1) (c3 (.int 2))),(v3 2),(v3 3)])]))) aS)
  (ak (bp (mw (aJ (aj (bt false) (aj ad (v3 1) (c3 (.int 0))) (c3 (.str "either")))) (aJ (aj (bt false) (aj ad (v3 1) (c3 (.int 0))) (c3 (.str "take"))))) (ak (au 5 (ae GC [(v3 0),(c3 (.int 2))]))
  (aG (aE [(v3 5),(ae s0 [(v3 0),(aj ad (v3 1) (aj ba (v3 5) (c3 (.int 2)))),(v3 2),(v3 3)])]))) aS)
  (ak (au 6 (bb []))
  (ak (bM (cM (aj cD (ae GC [(v3 0),(c3 (.int 4))]) (ao dU [(aj (bt false) (aj ad (v3 1) (c3 (.int 0))) (c3 (.str "often")))]))) (.n 7) (bp (aJ (aj kB (aj ad (v3 2) (c3 (.int 0))) (c3 (.int 0)))) (ak (di (aj ba (aj ad (v3 2) (c3 (.int 0))) (c3 (.int 1))) (v3 2) (c3 (.int 0)))
  (ak (au 8 (aj aM (c3 (.int 1)) (ae GC [(v3 0),(aj ad (bb [(c3 (.int 3)),(v3 3)]) (ae GC [(v3 0),(c3 (.int 2))]))])))
  (aI (hG "list" aV (v3 6) [(aE [(v3 8),(ae s0 [(v3 0),(aj ad (v3 1) (c3 (.int 1))),(v3 2),(v3 3)])])])))) aS))
  (aG (ao aU [(v3 6)]))))))
def dX(GC Ht s0:aF):bj:=(ak (au 5 (bb []))
  (ak (bM (cM (aj aM (c3 (.int 1)) (ae GC [(v3 0),(c3 (.int 3))]))) (.n 6) (ak (di (aj ba (aj ad (v3 2) (c3 (.int 0))) (c3 (.int 1))) (v3 2) (c3 (.int 0)))
  (bp (b_ (aJ (aj kB (v3 3) (c3 (.int 0)))) (b_ (aJ (aj kB (aj ad (v3 2) (c3 (.int 0))) (c3 (.int 0)))) (aJ (aj (bt false) (ae GC [(v3 0),(c3 (.int 3))]) (c3 (.int 0)))))) (ak (au 7 (aj aM (c3 (.int 1)) (ae GC [(v3 0),(aj ad (bb [(c3 (.int 4)),(v3 4)]) (ae GC [(v3 0),(c3 (.int 2))]))])))
  (aI (hG "list" aV (v3 5) [(aE [(c3 (.str "again")),(v3 7),(ae s0 [(v3 0),(v3 1),(v3 2),(aj ba (v3 3) (c3 (.int 1))),(v3 4)])])]))) (bp (mw (aJ (aj v7 (aj ad (v3 2) (c3 (.int 0))) (c3 (.int 0)))) (aJ (aj (bt false) (v3 5) (bb [])))) (ak (au 8 (ae GC [(v3 0),(ao b6 [(aj ad (v3 1) (c3 (.int 1)))])]))
  (aI (hG "list" aV (v3 5) [(aE [(c3 (.str "do")),(v3 8),(ae Ht [(v3 0),(aj ad (aj ad (aj ad (v3 1) (c3 (.int 1))) (v3 8)) (c3 (.int 1))),(bb [(c3 (.int 3))]),(aj ad (bb [(c3 (.int 3)),(v3 4)]) (ae GC [(v3 0),(c3 (.int 2))]))])])]))) aS))))
  (aG (ao aU [(v3 5)]))))
end C
namespace Zv
open PySem
open Sem (wp)
abbrev Gb(h:Heap)(n:Nat)(f0 f1:Value):Prop:=h.get? (n+4:Nat)=some { cls:=.type "zip",dict:=none,data:=.fields #[f0,f1,.bool false,.ref (n+2:Nat),.ref (n+3:Nat)],slots:=#[] }
section
variable {prog:Program} {w:World} {A:Around} {E:Value→Shared→Prop} {s:Shared} {n l1 l2:Nat} {i:Nat} {xs ys:Array Value} {x y:Value} {T:Nat} {oT:Obj} {f1:Value}
end
noncomputable def DM(n i:Nat):List Value:=(List.range i).map fun j=>Value.ref (n+6+j:Nat)
structure St (h:Heap) (n l1 l2:Nat) (xs ys:Array Value) (i:Nat):Prop where
 sz:h.objs.size=n+6+i
 I:IsPair h (n+2:Nat) (.ref n) (.ref (n+1:Nat))
 z:∃f1,(f1 = .bool false∨f1 = .bool true)∧Gb h n (rawInt (n+6:Nat)) f1
 g1:h.IsListIter n l1 i
 g2:h.IsListIter (n+1:Nat) l2 i
 t1:h.IsList l1 xs
 t2:h.IsList l2 ys
 S:∃c,h.get? (n+5:Nat)=some { cls:=.type "list",dict:=none,data:=.seq (DM n i).toArray c,slots:=#[] }
 its:∀j x y,j < i→xs[j]?=some x→ys[j]?=some y→IsPair h (n+6+j:Nat) x y
structure Gz (h:Heap) (n:Nat) (xs ys:Array Value):Prop where
 sz:n+6+xs.size≤h.objs.size
 S:∃c,h.get? (n+5:Nat)=some { cls:=.type "list",dict:=none,data:=.seq (DM n xs.size).toArray c,slots:=#[] }
 its:∀j x y,xs[j]?=some x→ys[j]?=some y→IsPair h (n+6+j:Nat) x y
section
variable {prog:Program} {w:World} {A:Around} {R:Result→Shared→Prop} {n l1 l2:Nat} {xs ys:Array Value}
end
section
variable {prog:Program} {w:World} {A:Around} {E:Value→Shared→Prop} {s:Shared} {n l1 l2:Nat} {xs ys:Array Value}
end
end Zv
namespace L2
open PySem PySem.Spec PyProof.Rows
structure MR (K:PySem.W.Frag) (x:Str) (st:Stmt) (T:Addr) (f:Addr) (fd:FuncData):Prop where
 ex:∃(oc:Value) (od:Option Addr) (kV doc pm:Value) (an:Option Addr) (cdv ct:Value) (osl:Array (Option Value)),
  fd=PySem.W.fnOf x x (cj st) (aW st) (az st) (.ref T) kV doc pm an cdv ct∧K.lookup f=some ⟨oc,od,.func fd,osl⟩∧PySem.W.codeIn K cdv x=true
 kp:PySem.W.keepIn K (.ref f)=true
section
variable {P:Program} {w:World} {K:PySem.W.Frag} {mg:Str→Option Value} {base:Heap}
theorem MR.ok{x:Str}{st:Stmt}{T f:Addr}{fd:FuncData}{N ps:List Str}{k:Nat}{sp:Sp}(F:MR K x st T f fd)(S:bR N ps (az st))(len:∀vs H Q E,sp vs H Q E→vs.length=ps.length)
  (hbody:∀(cdv:Value) (A:Around) (outer:List Env) (s:Shared) (H:Hp) (vs:List V) (Q:VK) (E:XK),Room k (A.deeper (envOfC x (az st) s.heap.objs.size f cdv))→sp vs H Q E→
   ∃t,J4 (gU qo P w K mg base N x (az st) f cdv A outer s H E).Ld (aW st) t∧t { nx:=fun _ H'=>Q .non H',rt:=Q } (fB N vs) H):eh P w K mg base qo (k+1) f fd ps sp:=by
 obtain⟨oc,od,kV,doc,pm,an,cdv,ct,osl,rfl,lk,hcd⟩:=F.ex
 refine uN lk hcd S len fun A outer s H vs Q E hr LU=>?_
 obtain⟨t,h,q⟩:=hbody cdv A outer s H vs Q E hr LU
 exact⟨t,h.Ld,q⟩
end
section
variable {X:Cx}
end
end L2
namespace L3
open PySem L2
section
variable {P:Program} {w:World} {K:PySem.W.Frag} {mg:Str→Option Value} {base:Heap}
structure Fm (K:PySem.W.Frag) (mg:Str→Option Value) (x:Str) (st:Stmt) (ps:List Str) (T:Addr) (f:Addr) (fd:FuncData):Prop where
 F:MR K x st T f fd
 b:Binds K fd ps []
 d:Binds K fd ps [.bool true]
 k:PySem.W.keepIn K (.ref f)=true
 m:mg x=some (.ref f)
end
section
variable {X:Cx} {e o:Expr} {es:List Expr} {te to:aL} {ts:List aL} {x:Str} {p pos apos cpos:Pos} {k:Nat} {f:Addr} {fd:FuncData} {ps:List Str} {sp:aF}
end
section
variable {X:Cx} {a b:Expr} {ta tb:aL}
end
end L3
namespace L2
open PySem PySem.Spec PyProof.Rows
noncomputable def iM(its:Array Value)(z:Str)(u:Tok)(i:Nat)(_:Option Fin×Unit):Sem (ForInStep (Option Fin×Unit)):=
 match its[i]? with
 |some y=>do
  let __do_lift ←eqBool y (Value.str z u)
  if __do_lift=true then do
   let __do_lift ←retInt (i:Int)
   pure (ForInStep.done (some __do_lift,()))
  else pure (ForInStep.yield (none,()))
 |_=>pure (ForInStep.yield (none,()))
theorem pk{prog:Program}{w:World}{A:Around}{E:Value→Shared→Prop}{z:Str}{u:Tok}{its:Array Value}{k:Nat}{Q:Option Fin×Unit→Shared→Prop}(hk:∃t,its[k]?=some (.str z t)) :
  ∀(m i:Nat) (s:Shared),i+m=its.size→i≤k→(∀j v,i≤j→j < k→its[j]?=some v→∃a t,v = .str a t∧a≠z)→(∀tk,Q (some (.done (.ret (.int k tk))),()) { s with toks:=s.toks+1 })→
  wpAny (model prog w) A (forIn (List.range' i m 1) ((none,()):Option Fin×Unit) (iM its z u)) Q E s
 |0,i,s,hm,hi,h,q=>by
  obtain⟨t,hk⟩:=hk
  have:=(Array.getElem?_eq_some_iff.mp hk).1
  omega
 |m+1,i,s,hm,hi,h,q=>by
  rw[List.range'_succ,List.forIn_cons]
  have hlt:i < its.size:=by omega
  by_cases e:i=k
  ·subst e
   obtain⟨t,hk⟩:=hk
   refine wpAny_bind ?_
   unfold iM
   rw[hk]
   refine wpAny_bind (wpAny_eqBool_str ?_)
   rw[decide_eq_true rfl,if_pos rfl]
   exact wpAny_bind (wpAny_bind (wpAny_mkInt (wpAny_pure (wpAny_pure (wpAny_pure (q _))))))
  ·have hv:=Array.getElem?_eq_getElem hlt
   obtain⟨a,t,ea,ne⟩:=h i _ (Nat.le_refl _) (by omega) hv
   refine wpAny_bind ?_
   have eb:iM its z u i (none,())=(do let __do_lift ←eqBool (Value.str a t) (Value.str z u);if __do_lift=true then do { let __do_lift ←retInt (i:Int);pure (ForInStep.done (some __do_lift,())) } else pure (ForInStep.yield (none,()))):=by
    unfold iM
    rw[hv,ea]
   rw[eb]
   refine wpAny_bind (wpAny_eqBool_str ?_)
   rw[decide_eq_false ne,if_neg (by decide)]
   exact wpAny_pure (pk hk m (i+1) s (by omega) (by omega) (fun j v h1 h2=>h j v (by omega) h2) q)
theorem BJ(l:Addr)(its:Array Value)(n:Nat)(dd:Option Addr)(sl:Array (Option Value))(z:Str)(u:Tok)(k:Nat)(hk:∃t,its[k]?=some (.str z t))(h:∀j v,j < k→its[j]?=some v→∃a t,v = .str a t∧a≠z) :
  Meets (Builtin.«tuple.index» ⟨[.ref l,.str z u],[]⟩) (fun _ R s=>s.heap.get? l=some { cls:=.type "tuple",dict:=dd,data:=.seq its n,slots:=sl }∧∀tk,R (.ok (.ret (.int k tk))) { s with toks:=s.toks+1 }):=
 .of_wp fun prog w A R s hh=>by
  obtain⟨hp,g,d,tk,os⟩:=s;obtain⟨hl,q⟩:=hh
  wp_walk using wpAny_loadPart' hl
  show wpAny _ _ (forIn (⟨0,min its.size its.size,1,Nat.one_pos⟩:Std.Legacy.Range) ((none,()):Option Fin×Unit) (iM its z u)) _ _ _
  rw[Std.Legacy.Range.forIn_eq_forIn_range']
  have e:Std.Legacy.Range.size ⟨0,min its.size its.size,1,Nat.one_pos⟩=its.size:=by unfold Std.Legacy.Range.size;simp
  rw[e]
  exact pk hk its.size 0 _ (by omega) (Nat.zero_le _) (fun j v _ hj hv=>h j v hj hv) fun tk'=>wpAny_pure ⟨_,rfl,q tk'⟩
section
variable {X:Cx}
noncomputable def yY(K:PySem.W.Frag):V→List V→Hp→VK→Prop:=fun x vs H Q=>∃(l:Addr) (zs:List Str) (z:Str) (k:Nat),x = .ref l∧vs=[.str z]∧G3 K H l (zs.map V.str)∧zs[k]?=some z∧(∀j:Nat,j < k→zs[j]?≠some z)∧Q (.int k) H
theorem tS:AU X "tuple.index" (yY X.K):=by
 intro pins s σ H x vs v us Q I rx rv h
 obtain⟨l,zs,z,k,rfl,rfl,hT,hk,hf,q⟩:=h
 cases rx
 obtain⟨w,rfl,u,rfl⟩:=dO rv
 obtain⟨its,r1,p1,_⟩:=I.tuple hT
 obtain⟨⟨cls,dd,data,sl⟩,ho,hc,n,hd⟩:=id p1
 simp only at hc hd
 subst hc hd
 refine call_meets PySem.F.slot_tuple_index ⟨_,ho,rfl⟩ PySem.F.entry_tuple_index (PySem.F.args_tuple_index_2 _ _) (BJ l its.toArray n dd sl z u k ?_ ?_) ⟨ho,fun tk=>⟨.int k,H,I.tok _,⟨_,rfl⟩,q⟩⟩
 ·obtain⟨v,hv,t,rfl⟩:=r1.get (i:=k) (x:=.str z) (by rw[List.getElem?_map,hk];rfl)
  exact⟨t,by simpa using hv⟩
 ·intro j v hj hv
  have hjl:j < its.length:=by simpa using(Array.getElem?_eq_some_iff.mp hv).1
  have hl:=r1.length
  rw[List.length_map]at hl
  obtain⟨v',hv',t,rfl⟩:=r1.get (i:=j) (x:=.str (zs[j]'(by omega))) (by rw[List.getElem?_map,List.getElem?_eq_getElem (by omega)];rfl)
  have e:v = .str (zs[j]'(by omega)) t:=by
   have h1:its[j]?=some v:=by simpa using hv
   rw[hv']at h1;cases h1;rfl
  exact⟨_,t,e,fun h=>hf j hj (by rw[List.getElem?_eq_getElem (by omega),h])⟩
theorem yZ{pins:List (Addr×Obj)}{σ:St}{H:Hp}{s:Shared}{a:Addr}{xs:List V}(I:Inv X pins σ H s)(h:G3 X.K H a xs):s.TypeIs (.ref a) "tuple"∧∀b,Value.ref a = .ref b→∃ob,s.heap.get? b=some ob∧ob.dict=none:=by
 rcases h with h|⟨o,its,n,hk,hc,hd,_⟩
 ·obtain⟨z,its,r,o,e,hd,hc,_⟩:=h.ok I.hok
  exact⟨⟨o,e,hc⟩,fun b q=>by cases q;exact⟨o,e,hd⟩⟩
 ·exact⟨⟨o,I.Jo a o hk,hc⟩,fun b q=>by cases q;exact⟨o,I.Jo _ o hk,hd⟩⟩
variable {o e:Expr} {es:List Expr} {to:TE} {t:TA} {name:Str} {apos cpos:Pos} {id:String} {r:V→List V→Hp→VK→Prop}
def Fn(K:PySem.W.Frag)(r:V→List V→Hp→VK→Prop)(to:TE)(t:TA):TE:=fun σ H Q=>to σ H fun x H1=>(∃a xs,x = .ref a∧G3 K H1 a xs)∧t σ H1 fun xs H2=>r x xs H2 Q
theorem BK(pa:PlainAttrs "tuple")(slot:Slot "tuple" name id)(hty:typeOf (.builtin id)=pure (.type "method_descriptor"))(hm:AU X id r)(ho:PE X o to)(ha:PA X (e::es) t)
  (hbase:attributeBase o name X.env (eval o X.env)=eval o X.env:=by rfl)
  (hfew:((backTo cpos (starEach (e::es) X.env)).all (fun x=>!x.1)&&(backToKw cpos (keywordEach [] X.env)).all (fun x=>x.1.isSome)
   && decide ((e::es).length+([]:List Keyword).length+(if ([]:List Keyword).isEmpty then 0 else 1) < 30))=true:=by rfl)
  (hline:(apos.endLine == cpos.line)=true:=by rfl) (hs:starEach (e::es) X.env=(false,eval e X.env)::starEach es X.env:=by rfl) (hplain:(backTo cpos (starEach es X.env)).any (·.1)=false:=by rfl) :
  PE X (.Call (.Attribute o name apos) (e::es) [] cpos) (Fn X.K r to t):=by
 intro pins s σ H Q I h
 refine wpAny_Call_method_late hbase hfew hline rfl (GJ (ho pins s σ H _ I h) fun v s1 ⟨x,H1,I1,r1,⟨a,xs,ex,hT⟩,q1⟩=>?_)
 subst ex
 have r1':=r1
 cases r1
 obtain⟨h1,h2⟩:=yZ I1 hT
 refine⟨"tuple",id,pa,slot,hty,h1,h2,?_⟩
 have hA:=ha cpos pins s1 σ H1 _ I1 q1
 rw[hs]at hA ⊢
 refine Calls.callWith_builtin (by show(false || (backTo cpos (starEach es X.env)).any (·.1))=false;rw[hplain]<;>rfl) (Calls.evalArgs_plain ?_)
 exact GJ hA fun us s2 ⟨vs,H2,I2,r2,q2⟩=>hm pins s2 σ H2 _ vs _ us Q I2 r1' r2 q2
end
end L2
namespace L3
open PySem L2
section
variable {X:Cx}
noncomputable def e9:List PV→Option (List Str)
 |[]=>some []
 | .str z::r=>(e9 r).map (z::·)
 |_::_=>none
theorem e_:∀zs:List Str,e9 (zs.map PV.str)=some zs
 |[]=>rfl
 |z::r=>by show(e9 (r.map PV.str)).map (z::·)=_;rw[e_ r];rfl
theorem mH:∀{ps:List PV} {zs:List Str},e9 ps=some zs→ps=zs.map PV.str
 |[],zs,h=>by cases h;rfl
 | .str z::r,zs,h=>by
  unfold e9 at h
  cases e:e9 r with
  |none=>rw[e]at h;cases h
  |some ws=>rw[e]at h;cases h;rw[mH e];rfl
def gP:qU:=fun x ps S Q=>match x,ps with
 | .tup xs,[.str z]=>(match e9 xs with|some zs=>∃k:Nat,zs[k]?=some z∧(∀j:Nat,j < k→zs[j]?≠some z)∧Q (.int k) S|none=>False)
 |_,_=>False
theorem mI{K:PySem.W.Frag}{H:Hp}:∀{vs:List V} {zs:List Str},Reps K H vs (zs.map PV.str)→vs=zs.map V.str
 |[],[],_=>rfl
 |v::vs,z::zs,.cons a r=>by cases a;rw[mI r];rfl
theorem pp:vS X "tuple.index" gP:=⟨fun pins s σ H x xs v us Q I rx rs ⟨px,ps,S,Q3,r1,rp,rS,q,k⟩=>by
 unfold gP at q
 split at q
 ·split at q
  ·rename_i e
   obtain⟨j,hk,hf,q⟩:=q
   cases r1 with
   |tup hq rs'=>
    rw[mH e]at rs'
    have ev:=mI rs'
    subst ev
    cases rp with
    |cons b rr=>
     cases rr;cases b
     exact tS pins s σ H _ _ v us Q I rx rs ⟨_,_,_,j,rfl,rfl,hq,hk,hf,k _ S _ H q (.int _) rS .refl⟩
  ·exact q.elim
 ·exact q.elim⟩
variable {o e:Expr} {es:List Expr} {to:aL} {ts:List aL} {name:Str} {apos cpos:Pos} {id:String}
def wa(r:qU)(to:aL)(ts:List aL):aL:=fun σ S Q E=>to σ S (fun x S1=>match x with | .tup _=>ar ts σ S1 (fun ps S2=>r x ps S2 Q) E|_=>False) E
theorem zV{r:qU}(pa:PlainAttrs "tuple")(slot:Slot "tuple" name id)(hty:typeOf (.builtin id)=pure (.type "method_descriptor"))(hm:vS X id r)(hs:starEach (e::es) X.env=(false,eval e X.env)::starEach es X.env)(ho:bf X o to)(ha:jz X (e::es) ts)
  (hbase:attributeBase o name X.env (eval o X.env)=eval o X.env:=by rfl)
  (hfew:((backTo cpos (starEach (e::es) X.env)).all (fun x=>!x.1)&&(backToKw cpos (keywordEach [] X.env)).all (fun x=>x.1.isSome)
   && decide ((e::es).length+([]:List Keyword).length+(if ([]:List Keyword).isEmpty then 0 else 1) < 30))=true:=by rfl)
  (hline:(apos.endLine == cpos.line)=true:=by rfl) (hplain:(backTo cpos (starEach es X.env)).any (·.1)=false:=by rfl):bf X (.Call (.Attribute o name apos) (e::es) [] cpos) (wa r to ts):=
 ⟨aR (BK pa slot hty hm.ok ho.ok ha.ok hbase hfew hline hs hplain) fun σ H Q ⟨σ3,S,Q3,E3,rσ,rS,h,xo,k⟩=>⟨σ3,S,_,E3,rσ,rS,h,xo,fun x S1 v H1 h1 rx GR g1=>by
  dsimp only at h1
  split at h1
  ·have Pc:=rx
   cases rx with
   |tup hq rs=>exact⟨⟨_,_,rfl,hq⟩,bv (rσ.mono g1) GR h1 (xo.mono g1) fun ps S2 vs H2 hl q rv IM g2=>⟨_,ps,S2,Q3,Pc.mono g2,rv,IM,q,k.mono (g1.trans g2)⟩⟩
  ·exact h1.elim⟩⟩
end
end L3
namespace L2
open PySem PySem.Spec PyProof.Rows
section
variable {X:Cx}
end
end L2
namespace L3
open PySem L2
section
variable {X:Cx} {a b:Expr} {ta tb:aL} {p pos:Pos}
end
end L3
namespace C
open PySem L2 L3
end C
namespace L3
open PySem L2 Xc
def Fo(K:PySem.W.Frag)(H:Hp)(E3:bO)(E:XK):Prop:=∀(c:Str) (ks:List Str) (ps:List PV) (S':av) (H':Hp) (C dx:Addr) (od:Obj) (vs:List V),E3 (.exc c ks ps) [] S'→G1 K c C→vs.length=ks.length→
 H' dx=some (.frz od (.ext (XD dx (ks.zip vs))))→Reps K H' vs ps→GI K H' S'→Grow K H H'→E (.ref C) (some dx) H'
noncomputable def Fp(K:PySem.W.Frag)(n:Nat)(sp:aF):Sp:=fun vs H Q E=>vs.length=n∧∃ps S Q3 E3,Reps K H vs ps∧GI K H S∧sp ps S Q3 E3∧Le K H Q3 Q∧Fo K H E3 E
structure Lf (P:Program) (w:World) (K:PySem.W.Frag) (mg:Str→Option Value) (base:Heap) (k:Nat) (f:Addr) (fd:FuncData) (ps:List Str) (sp:aF):Prop where
 ok:eh P w K mg base (vy P w) k f fd ps (Fp K ps.length sp)
theorem Lf.zero{P:Program}{w:World}{K:PySem.W.Frag}{mg:Str→Option Value}{base:Heap}{k:Nat}{f:Addr}{fd:FuncData}{ps:List Str}{sp:aF}(h:sp=fun _ _ _ _=>False):Lf P w K mg base k f fd ps sp:=by
 subst h
 exact⟨⟨fun vs H Q E q=>q.1,fun A outer s H args us vs Q E _ _ _ _ ⟨_,_,_,_,_,_,_,q,_⟩=>q.elim⟩⟩
def cR(sp:aF)(ts:List aL):aL:=fun σ S Q E=>ar ts σ S (fun ps S1=>sp ps S1 Q (fun p _ S'=>E p σ S')) E
def lU(n:Nat)(t:bj):aF:=fun args S Q E=>t { nx:=fun _ S'=>Q .non S',rt:=Q,ex:=fun p _ S'=>E p [] S' } (aB n args) S
section
variable {X:Cx} {e o:Expr} {es:List Expr} {te to:aL} {ts:List aL} {x:Str} {p pos apos cpos:Pos} {k:Nat} {f:Addr} {fd:FuncData} {ps:List Str} {sp:aF}
theorem y_(F:Lf X.prog X.w X.K X.mg X.base k f fd ps sp)(hr:Room k X.A)(hg:Gl X x)(hm:X.mg x=some (.ref f))(hk:PySem.W.keepIn X.K (.ref f)=true)(hb:Binds X.K fd ps [])(he:starEach (e::es) X.env=(false,eval e X.env)::starEach es X.env)(ha:jz X (e::es) ts)
    (hl:ts.length=ps.length:=by rfl) (hdb:(x == ("__debug__":Str))=false:=by decide) (hpl:(backTo pos (starEach es X.env)).any (·.1)=false:=by rfl):bf X (.Call (.Name x p) (e::es) [] pos) (cR sp ts):=
  ⟨aR (vz F.ok hr hg hm hk hb ha.ok hdb he hpl) fun σ H Q ⟨σ3,S,Q3,E3,rσ,rS,h,xo,k⟩=>bv rσ rS h xo fun ps' S' vs H' hl' q rv Ia g=>
    ⟨fun c d H2=>∃(cn:Str) (ks:List Str) (ps2:List PV) (S2:av) (C dx:Addr) (od:Obj) (JE:List V),c = .ref C∧d=some dx∧E3 (.exc cn ks ps2) σ3 S2∧G1 X.K cn C∧JE.length=ks.length∧H2 dx=some (.frz od (.ext (XD dx (ks.zip JE))))∧Reps X.K H2 JE ps2∧GI X.K H2 S2∧Grow X.K H' H2,
     ⟨by rw[rv.length,hl',hl],ps',S',Q3,_,rv,Ia,q,k.mono g,fun cn ks ps2 S2 H2 C dx od JE h1 h2 h3 h4 h5 h6 h7=>⟨cn,ks,ps2,S2,C,dx,od,JE,rfl,rfl,h1,h2,h3,h4,h5,h6,h7⟩⟩,
     fun pins c d H2 ⟨cn,ks,ps2,S2,C,dx,od,JE,e1,e2,h1,h2,h3,h4,h5,h6,h7⟩ s' a C' Qf e3 e4 I xa=>by
      subst e1 e2;cases e3;cases e4
      exact xo cn ks ps2 σ3 S2 H2 pins σ s' a _ _ od JE h1 h2 h3 h4 h5 h6 (rσ.mono (g.trans h7)) (g.trans h7) I xa⟩⟩
end
section
variable {P:Program} {w:World} {K:PySem.W.Frag} {mg:Str→Option Value} {base:Heap}
noncomputable abbrev pA(P:Program)(w:World)(K:PySem.W.Frag)(mg:Str→Option Value)(base:Heap)(N:List Str)(qual:Str)(st:Stmt)(f:Addr)(cdv:Value)(A:Around)(outer:List Env)(s:Shared)(H:Hp)(E:XK):Cx:=gU (vy P w) P w K mg base N qual (az st) f cdv A outer s H E
theorem DN{x qual:Str}{st:Stmt}{f:Addr}{fd:FuncData}{N ps:List Str}{k:Nat}{t:bj}(F:Lo K x qual st f fd)(S:bR N ps (az st))
  (hbody:∀(cdv:Value) (A:Around) (outer:List Env) (s:Shared) (H:Hp) (E:XK),Room k (A.deeper (PyProof.Rows.envOfC qual (az st) s.heap.objs.size f cdv))→eS (pA P w K mg base N qual st f cdv A outer s H E) (aW st) t) :
  Lf P w K mg base (k+1) f fd ps (lU N.length t):=by
 obtain⟨oc,od,kV,doc,pm,an,cdv,ct,osl,rfl,lk,hcd⟩:=F.ex
 refine⟨uN lk hcd S (fun vs H Q E h=>h.1) fun A outer s H vs Q E hr ⟨hl,ps',S',Q3,E3,rv,rS,q,kk,kx⟩=>⟨_,(hbody cdv A outer s H E hr).ok,aB N.length ps',S',_,mC rv,rS,q,?_,fun σ3 S2 σ2 H2 h2 _ IM g2=>kk _ S2 _ H2 h2 .non IM g2,kk,fun _ _ _ _ h2=>h2.elim,fun _ _ _ _ h2=>h2.elim⟩⟩
 exact fun c ks ps2 σ3 S2 H2 pins σ s' a C dx od JE h1 h2 h3 h4 h5 h6 h7 h8 I xa=>tJ I xa (kx c ks ps2 S2 H2 C dx od JE h1 h2 h3 h4 h5 h6 h8)
end
structure BL (K:PySem.W.Frag) (mg:Str→Option Value) (x qual:Str) (st:Stmt) (ps ks:List Str) (C f:Addr) (fd:FuncData):Prop where
 F:Lo K "__init__" qual st f fd
 b:Binds K fd ps []
 cn:G1 K x C
 m:mg x=some (.ref C)
 ek:ExcK K C
 en:∀k∈ks,NoAttr K C k
 hi:PySem.W.findIn K (.ref C) "__init__" = some (some (.ref f))
 hf:PySem.W.isFn K (.ref f)=true
 kp:PySem.W.keepIn K (.ref C)=true
def du(c:Str)(ks:List Str)(ts:List aL):bj:=fun D σ S=>ar ts σ S (fun ps S1=>D.ex (.exc c ks ps) σ S1) D.ex
section
variable {X:Cx} {e:Expr} {es:List Expr} {ts:List aL} {x qual:Str} {st:Stmt} {p pos cpos:Pos} {f C:Addr} {fd:FuncData} {ps ks:List Str}
theorem zd(T:BL X.K X.mg x qual st ps ks C f fd)(F:eh X.prog X.w X.K X.mg X.base qo 1 f fd ps (nh X.K C ks))(hps:ps.length=ks.length+1)(hr:Room 2 X.A)(Ks:X.calm=true)(hg:Gl X x)(he:starEach (e::es) X.env=(false,eval e X.env)::starEach es X.env)(ha:jz X (e::es) ts)
  (hl:ts.length=ks.length:=by rfl) (hks:ks.length≤1000:=by exact Nat.le_of_ble_eq_true rfl) (hdb:(x == ("__debug__":Str))=false:=by decide) (hpl:(backTo cpos (starEach es X.env)).any (·.1)=false:=by rfl) :
  mv X (.Raise (some (.Call (.Name x p) (e::es) [] cpos)) none pos) (du x ks ts):=
 ⟨cq (vB F hps hks T.ek T.en T.hi T.hf T.kp hr Ks hg T.m T.b ha.ok hdb he hpl) fun D σ H ⟨σ3,S,D3,rσ,rS,h,xo,n,r,bk,ct⟩=>bv rσ rS h xo fun ps' S' vs H' hl' q rv Ia g=>
  ⟨by rw[rv.length,hl',hl],fun pins dx od hdx s' a C' Qf e3 e4 I xa=>by
   cases e3;cases e4
   exact xo x ks ps' σ3 S' _ pins σ s' a C dx od vs q T.cn (by rw[rv.length,hl',hl]) ay (rv.mono (.new hdx)) (Ia.other hdx) (rσ.mono (g.trans (.new hdx))) (g.trans (.new hdx)) I xa⟩⟩
end
noncomputable abbrev zW(D:iH)(i:Nat):iH:={ nx:=fun σ S=>D.nx (σ.set i none) S,rt:=D.rt,ex:=gX,bk:=fun σ S=>D.bk (σ.set i none) S,ct:=fun σ S=>D.ct (σ.set i none) S }
def ze(cs:List Str)(i:Nat)(tb th:bj):bj:=fun D σ S=>tb { D with ex:=fun p σ' S'=>match p with | .exc c _ _=>cs.contains c=true∧th (zW D i) (σ'.set i (some p)) S'|_=>False } σ S
theorem GM.unset{K:PySem.W.Frag}{H:Hp}{σ:L2.St}{σ3:b9}(r:GM K H σ σ3)(i:Nat):GM K H (σ.set i none) (σ3.set i none):=by
 refine⟨by rw[List.length_set,List.length_set,r.len],fun j x e=>?_⟩
 rw[List.getElem?_set]at e ⊢
 split at e
 ·split at e
  ·cases e
  ·cases e
 ·rename_i hij
  rw[if_neg hij]
  exact r.at' j x e
theorem LW.unset{K:PySem.W.Frag}{H:Hp}{N3:b9→av→Prop}{N:L2.St→Hp→Prop}(n:LW K H N3 N)(i:Nat):LW K H (fun σ S=>N3 (σ.set i none) S) (fun σ H=>N (σ.set i none) H):=fun σ3 S' σ H' h1 h2 h3 h4=>n _ S' _ H' h1 (h2.unset i) h3 h4
noncomputable def KJ(K:PySem.W.Frag)(Dc:Addr):List Str→Prop
 |[]=>True
 |c::r=>(∃C,G1 K c C∧PySem.W.mroIn K C (.ref Dc)=some true)∧KJ K Dc r
theorem G1.inj{K:PySem.W.Frag}{c:Str}{C D:Addr}(h1:G1 K c C)(h2:G1 K c D):C=D:=by
 have e:=(show PySem.W.nsIn K mainGlobals c=some (some (.ref C))from h1).symm.trans h2
 injection e with e;injection e with e;injection e
theorem KJ.at_{K:PySem.W.Frag}{Dc:Addr}:∀{cs:List Str} {c:Str} {C:Addr},KJ K Dc cs→cs.contains c=true→G1 K c C→PySem.W.mroIn K C (.ref Dc)=some true
 |[],_,_,_,h,_=>by simp at h
 |d::r,c,C,⟨⟨D,h1,h2⟩,h3⟩,h,hc=>by
  rw[List.contains_cons,Bool.or_eq_true]at h
  rcases h with h|h
  ·cases beq_iff_eq.mp h;rw[hc.inj h1];exact h2
  ·exact KJ.at_ h3 h hc
section
variable {X:Cx} {body suite:List Stmt} {b₀:Stmt} {n x:Str} {i:Nat} {np hpos pos:Pos} {tb th:bj} {Dc:Addr} {cs:List Str}
theorem DO(hst:X.stack=X.env::X.outer)(Lw:X.env.frame=some X.env.locals)(hN:X.N.Nodup)(hi:X.N[i]?=some n)(hk:X.env.scope.names.lookup n=some .local)(hg:Gl X x)(hm:X.mg x=some (.ref Dc))(hD:Bn X.K Dc)(hcs:KJ X.K Dc cs)
  (hb:∀E pins,PassesOwn (model X.prog X.w) X.A X.env E→eS (X.tr E pins) body tb) (hs:∀a,eS (X.Kr a) (b₀::suite) th) (hdb:(x == ("__debug__":Str))=false:=by decide) :
  mv X (.Try body [.ExceptHandler (some (.Name x np)) (some n) (b₀::suite) hpos] [] [] pos) (ze cs i tb th):=
 ⟨cq (Bp (tb:=fun E pins=>LS (X.tr E pins) tb) fun E pins hp=>(hb E pins hp).ok) fun D σ H ⟨σ3,S,D3,rσ,rS,h,xo,nx,rt,bk,ct⟩ pins=>
  ⟨σ3,S,_,rσ,rS,h,fun c ks ps Rc S' H' pins' σ' s' a C dx od vs h1 h2 h3 h4 h5 h6 h7 h8 I xa=>by
   have fa:H' a=none:=by obtain⟨_,_,_,_,_,f,_⟩:=xa;exact f.1
   have Re:dx≠a:=aT h4 fa
   refine Bo hst Lw hN hi hk hg hm hD (fun a=>(hs a).ok) I xa (hcs.at_ h1.1 h2) (fun oe o1 o2 o3=>?_) hdb
   have gr:Grow X.K H' (upd H' a (.frz oe (.ext fun _=>True))):=.new fa
   exact⟨Rc.set i (some (.exc c ks ps)),S',zW D3 i,(h7.mono gr).set (.exc h2 ⟨oe,dx,od,ay,o1,o2,o3,by rw[aw Re];exact h4⟩ (h5.mono gr)) i,h6.other fa,h1.2,.no,
    (nx.mono (h8.trans gr)).unset i,rt.mono (h8.trans gr),(bk.mono (h8.trans gr)).unset i,(ct.mono (h8.trans gr)).unset i⟩,nx,rt,bk,ct⟩⟩
end
theorem pB{K:PySem.W.Frag}{H:Hp}{f:Str}{p:PV}:∀{ks:List Str} {vs:List V} {ps:List PV},Reps K H vs ps→(ks.zip ps).lookup f=some p→∃v,(ks.zip vs).lookup f=some v∧Rep K H v p
 |[],_,_,_,e=>by simp at e
 |_::_,_,_,.nil,e=>by simp at e
 |k::ks,_,_,.cons a r,e=>by
  rw[List.zip_cons_cons,List.lookup_cons]at e ⊢
  split at e
  ·cases e;exact⟨_,rfl,a⟩
  ·exact pB r e
noncomputable def JP(K:PySem.W.Frag):List (Str×Str)→Prop
 |[]=>True
 |(c,f)::r=>(∃C,G1 K c C∧ExcK K C∧NoAttr K C f)∧JP K r
theorem JP.at_{K:PySem.W.Frag}:∀{l:List (Str×Str)} {c f:Str} {C:Addr},JP K l→l.contains (c,f)=true→G1 K c C→ExcK K C∧NoAttr K C f
 |[],_,_,_,_,h,_=>by simp at h
 |(d,g)::r,c,f,C,⟨⟨D,h1,h2,h3⟩,h4⟩,h,hc=>by
  rw[List.contains_cons,Bool.or_eq_true]at h
  rcases h with h|h
  ·cases beq_iff_eq.mp h;rw[hc.inj h1];exact⟨h2,h3⟩
  ·exact JP.at_ h4 h hc
def ka(l:List (Str×Str))(f:Str)(te:aL):aL:=fun σ S Q E=>te σ S (fun p S1=>match p with | .exc c ks ps=>l.contains (c,f)=true∧(match (ks.zip ps).lookup f with|some v=>Q v S1|none=>False)|_=>False) E
theorem iN{X:Cx}{pins:List (Addr×Obj)}{σ:L2.St}{H:Hp}{s:Shared}{a C:Addr}{ks:List Str}{vs:List V}(I:Inv X pins σ H s)(h:NB H a C ks vs):∃(oe od:Obj) (mA:Str→Option Value),PySem.W.InstAt s.heap a oe C (some od)∧(∀name,PySem.W.lookIn name od=some (mA name))∧∀f,HZ ((ks.zip vs).lookup f) (mA f):=by
 obtain⟨oe,dx,od,h1,h2,h3,h4,h5⟩:=h
 have g1:=(show ObjOk X.prog X.w H s.heap a (.frz oe (.ext fun _=>True))from I.hok a _ h1).1
 have g2:=(show ObjOk X.prog X.w H s.heap dx (.frz od (.ext (XD dx (ks.zip vs))))from I.hok dx _ h5)
 obtain⟨g3,⟨mA,m1,m2,m3⟩,_⟩:=g2
 obtain⟨od',e1,hl⟩:=l5 m1
 rw[g3]at e1;cases e1
 exact⟨oe,od,mA,⟨g1,h2,by obtain⟨p1,p2,p3,p4⟩:=oe;cases p3<;>first|rfl|exact absurd rfl (h4 _),by rw[h3];exact g3⟩,hl,m2⟩
section
variable {X:Cx} {e:Expr} {te:aL} {f:Str} {pos:Pos} {l:List (Str×Str)}
theorem wb(hl:JP X.K l)(he:bf X e te)(hb:attributeBase e f X.env (eval e X.env)=eval e X.env):bf X (.Attribute e f pos) (ka l f te):=
 ⟨fun pins s σ H Q I ⟨σ3,S,Q3,E3,rσ,rS,h,xo,k⟩=>by
  refine rQ hb (GJ (he.ok pins s σ H (fun v H1=>∃p S1,Rep X.K H1 v p∧GI X.K H1 S1∧Grow X.K H H1∧(match p with | .exc c ks ps=>l.contains (c,f)=true∧(match (ks.zip ps).lookup f with|some v=>Q3 v S1|none=>False)|_=>False)) I ⟨σ3,S,_,E3,rσ,rS,h,xo,fun p S1 v H1 h1 rv GR g1=>⟨p,S1,rv,GR,g1,h1⟩⟩) fun u s1 ⟨v,H1,I1,rv,p,S1,rp,GR,g1,q⟩=>?_)
  split at q
  ·rename_i c ks ps
   obtain⟨q1,q2⟩:=q
   split at q2
   ·rename_i p' hp'
    cases rp with
    |exc hn hx rs=>
     cases rv
     obtain⟨ek,na⟩:=hl.at_ q1 hn
     obtain⟨oe,od,mA,J,hlk,rel⟩:=iN I1 hx
     obtain⟨v',hv',Nd⟩:=pB rs hp'
     obtain⟨u,hu,ru⟩:=HZ.some_of (v:=v') (o:=mA f) (by rw[←hv'];exact rel f)
     exact yD I1.Jo J ek (PySem.W.findObj_own ek.dict na rfl (by rw[hlk,hu])) (l6 ru) ⟨v',H1,I1.tok _,ru,k _ S1 _ H1 q2 Nd GR g1⟩
   ·exact q2.elim
  ·exact q.elim⟩
theorem DP{x:Str}{C:Addr}(hg:Gl X x)(hm:X.mg x=some (.ref C))(hc:G1 X.K x C)(hd:(x == ("__debug__":Str))=false:=by decide):bf X (.Name x pos) (c3 (.cls x)):=
 ⟨aR (xP (v:=.ref C) hg hm rfl hd) fun σ H Q ⟨σ3,S,Q3,E3,rσ,rS,h,xo,k⟩=>k _ S _ H h (.cls hc) rS .refl⟩
end
noncomputable def XTab(K:PySem.W.Frag):List (Str×Str×Bool)→Prop
 |[]=>True
 |(c,d,b)::r=>(∃C D,G1 K c C∧G1 K d D∧ExcK K C∧PySem.W.kitOne K (.ref C) (.ref D)=some b∧PySem.W.kitOne K (.ref C) (.type "ValueError")=some true)∧XTab K r
noncomputable def hV(c d:Str):List (Str×Str×Bool)→Option Bool
 |[]=>none
 |(c',d',b)::r=>if c=c'∧d=d' then some b else hV c d r
theorem XTab.at_{K:PySem.W.Frag}:∀{l:List (Str×Str×Bool)} {c d:Str} {b:Bool} {C D:Addr},XTab K l→hV c d l=some b→G1 K c C→G1 K d D→ExcK K C∧PySem.W.kitOne K (.ref C) (.ref D)=some b
 |[],_,_,_,_,_,_,h,_,_=>by cases h
 |(c',d',b')::r,c,d,b,C,D,⟨⟨C',D',h1,h2,h3,h4,h5⟩,h6⟩,h,hc,hd=>by
  unfold hV at h
  split at h
  ·rename_i e
   obtain⟨rfl,rfl⟩:=e
   cases h
   rw[hc.inj h1,hd.inj h2]
   exact⟨h3,h4⟩
  ·exact XTab.at_ h6 h hc hd
theorem XTab.ve{K:PySem.W.Frag}:∀{l:List (Str×Str×Bool)} {c:Str} {C:Addr},XTab K l→l.any (fun t=>t.1 == c)=true→G1 K c C→ExcK K C∧PySem.W.kitOne K (.ref C) (.type "ValueError")=some true
 |[],_,_,_,h,_=>by simp at h
 |(c',d',b')::r,c,C,⟨⟨C',D',h1,h2,h3,h4,h5⟩,h6⟩,h,hc=>by
  rw[List.any_cons,Bool.or_eq_true]at h
  rcases h with h|h
  ·have e:c'=c:=beq_iff_eq.mp h
   subst e
   rw[hc.inj h1]
   exact⟨h3,h5⟩
  ·exact XTab.ve h6 h hc
noncomputable def tT(l:List (Str×Str×Bool))(c:Str):List PV→Option Bool
 |[]=>some false
 | .cls d::r=>(match hV c d l with|some true=>some true|some false=>tT l c r|none=>none)
 |_::_=>none
def eB(l:List (Str×Str×Bool)):nl:=fun ps S Q=>match ps with
 |[.exc c _ _,.cls d]=>(match hV c d l with|some b=>Q (.bl b) S|none=>False)
 |[.exc c _ _,.ty n]=>n = "ValueError"∧l.any (fun t=>t.1 == c)=true∧Q (.bl true) S
 |[.exc c _ _,.tup ds]=>l.any (fun t=>t.1 == c)=true∧(match tT l c ds with|some b=>Q (.bl b) S|none=>False)
 |_=>False
theorem Ku{K:PySem.W.Frag}{H:Hp}{l:List (Str×Str×Bool)}{c:Str}{C:Addr}(T:XTab K l)(hc:G1 K c C):∀{ds:List PV} {b:Bool} {vs:List V} {its:List Value},tT l c ds=some b→Reps K H vs ds→Vals vs its→PySem.W.kitAny K (.ref C) its=some b
 |[],b,_,_,h,.nil,.nil=>h
 |p::ds,b,_,_,h,.cons a rs,r=>by
  cases p with
  |cls d=>
   cases a with
   |@cls D _ hd=>
    cases r with
    |@cons _ u _ us r1 r2=>
     cases (show u=Value.ref D from r1)
     show(match PySem.W.kitOne K (.ref C) (.ref D)with|some true=>some true|some false=>PySem.W.kitAny K (.ref C) us|none=>none)=_
     unfold tT at h
     split at h
     ·rename_i e;rw[(T.at_ e hc hd).2];exact h
     ·rename_i e;rw[(T.at_ e hc hd).2];exact Ku T hc h rs r2
     ·cases h
  |_=>cases h
theorem jF{X:Cx}{l:List (Str×Str×Bool)}(T:XTab X.K l):dR X (.builtin "isinstance") (eB l):=⟨fun pins s σ H xs us Q I r ⟨ps,S,Q3,rp,rS,q,k⟩=>by
 unfold eB at q
 split at q
 ·rename_i c ks as d
  split at q
  ·rename_i b hb
   cases rp with
   |cons a rr=>
    cases rr with
    |cons b' r3=>
     cases r3
     cases r with
     |cons r1 r2=>
      cases r2 with
      |cons r4 r5=>
       cases r5
       cases a with
       |exc hn hx rs=>
        cases b' with
        |cls hd=>
         cases r1;cases r4
         obtain⟨ek,e⟩:=T.at_ hb hn hd
         obtain⟨oe,od,mA,J,_,_⟩:=iN I hx
         exact PySem.W.kia_one (kS ek) I.Jo J e (fun z=>nomatch z) fun tk=>⟨.bl _,H,I.tok _,rfl,k _ S _ H q (.bl _) rS .refl⟩
  ·exact q.elim
 ·rename_i c ks as n
  obtain⟨rfl,q1,q2⟩:=q
  cases rp with
  |cons a rr=>
   cases rr with
   |cons b' r3=>
    cases r3
    cases r with
    |cons r1 r2=>
     cases r2 with
     |cons r4 r5=>
      cases r5
      cases a with
      |exc hn hx rs=>
       cases b'
       cases r1;cases r4
       obtain⟨ek,e⟩:=T.ve q1 hn
       obtain⟨oe,od,mA,J,_,_⟩:=iN I hx
       exact PySem.W.kia_one (kS ek) I.Jo J e (fun z=>nomatch z) fun tk=>⟨.bl _,H,I.tok _,rfl,k _ S _ H q2 (.bl _) rS .refl⟩
 ·rename_i c ks as ds
  obtain⟨q1,q⟩:=q
  split at q
  ·rename_i b hb
   cases rp with
   |cons a rr=>
    cases rr with
    |cons b' r3=>
     cases r3
     cases r with
     |cons r1 r2=>
      cases r2 with
      |cons r4 r5=>
       cases r5
       cases a with
       |exc hn hx rs=>
        cases b' with
        |tup h1 NC=>
         cases r1;cases r4
         obtain⟨ek,_⟩:=T.ve q1 hn
         obtain⟨oe,od,mA,J,_,_⟩:=iN I hx
         obtain⟨its,rv,⟨⟨oc,odd,OV,osl⟩,ho,hc,n,hd⟩,_⟩:=I.tuple h1
         simp only at hc hd
         subst hc hd
         exact PySem.W.kia_tup (kS ek) I.Jo J ho (Ku T hn hb NC rv) (fun z=>nomatch z) fun tk=>⟨.bl _,H,I.tok _,rfl,k _ S _ H q (.bl _) rS .refl⟩
  ·exact q.elim
 ·exact q.elim⟩
noncomputable def zf(s:Stmt):List Stmt:=match s with
 | .ClassDef _ _ _ body _ _ _ _ _ _ _=>body
 |_=>[]
section
variable {P:Program} {w:World} {K:PySem.W.Frag} {mg:Str→Option Value} {base:Heap} {N:List Str} {qual:Str} {st:Stmt} {f:Addr} {cdv:Value} {A:Around} {outer:List Env} {s:Shared} {H:Hp} {E:XK}
theorem FO:PassesOwn (model (pA P w K mg base N qual st f cdv A outer s H E).prog (pA P w K mg base N qual st f cdv A outer s H E).w) (pA P w K mg base N qual st f cdv A outer s H E).A (pA P w K mg base N qual st f cdv A outer s H E).env (pA P w K mg base N qual st f cdv A outer s H E).xe:=PassesOwn.leaving
end
end L3
namespace L3
open PySem L2
end L3
namespace CX
open PySem L2 L3
noncomputable abbrev ND:List (Str×Str):=[("NoHouse","word"),("NoHouse","name")]
noncomputable abbrev IZ:List (Str×Str×Bool):=[("NoHouse","DueError",true),("NoHouse","BadText",false),("NoHouse","Stuck",false),("NoHouse","TooLong",false),("NoHouse","NoStory",false),("NoHouse","TooMany",false),("NoHouse","NoRow",false)]
def fc(JH:aF):bj:=(ak (yR (v3 0) (.tp (.cons (.n 2) (.cons (.n 3) .nil))))
  (ak (au 5 (bh (cM (ao b6 [(v3 2)])) (.n 0) (aJ (aj (qr false) (aj ad (v3 1) (v3 0)) (b5 (v3 1) sf (qu (v3 0))))) (aj ad (v3 1) (v3 0)) 1 [2]))
  (ak (bp (aJ (aj kB (ao b6 [(v3 5)]) (c3 (.int 0)))) (aG (aE [(c3 (.str "twice")),(aj ad (v3 5) (c3 (.int 0)))])) aS)
  (ak (au 6 (bh (bg (v3 3)) (.tp (.cons (.n 0) (.cons (.n 1) .nil))) cO (v3 0) 2 []))
  (ak (bM (cM (ao b6 [(v3 3)])) (.n 4) (ak (bp (aJ (aj (qr false) (aj ad (v3 6) (v3 4)) (b5 (v3 6) sf (qu (v3 4))))) (aG (aE [(c3 (.str "twice")),(aj ad (v3 6) (v3 4))])) aS)
  (ak (au 7 (ae JH [(aj ad (aj ad (v3 3) (v3 4)) (c3 (.int 1))),(v3 2),(v3 1)]))
  (bp (aJ (aj (Es true) (v3 7) (c3 .non))) (aG (v3 7)) aS))))
  (aG (c3 .non)))))))
end CX
namespace L2
open PySem PySem.Spec PyProof.Rows Xc
section
variable {X:Cx} {k:Nat} {f C:Addr} {fd:FuncData} {ps:List Str} {sp:Sp} {m:Str} {pos apos:Pos} {e o:Expr} {es:List Expr} {ta:TE} {t:TA}
def BM(X:Cx)(C:Addr)(m:Str)(sp:Sp)(ta:TE)(t:TA):TE:=fun σ H Q=>ta σ H fun x H1=>∃a dx fs,x = .ref a∧H1 a=some (.ins C dx fs)∧fs.lookup m=none∧
 t σ H1 fun vs H2=>∃E,sp (x::vs) H2 Q E∧∀pins c d H',E c d H'→EX X pins σ c d H'
theorem we{pl:Sem Bool}(he:PE X o ta)(c:Cls X.K C)(hm:uL X.K C m f)(F:eh X.prog X.w X.K X.mg X.base (vy X.prog X.w) k f fd ps sp)(hr:Room k X.A)(hb:Binds X.K fd ps [])(ha:PA X (e::es) t)
  (hst:starEach (e::es) X.env=(false,eval e X.env)::starEach es X.env) (hpl:(backTo pos (starEach es X.env)).any (·.1)=false)
  (ht:eval (.Call (.Attribute o m apos) (e::es) [] pos) X.env=(do
   let ov ←eval o X.env
   standAt apos.atName
   let (f,first) ←holding [ov] (getMethod ov m pl)
   callWith pos f first (backTo pos (starEach (e::es) X.env)) (backToKw pos (keywordEach [] X.env)))) :
  PE X (.Call (.Attribute o m apos) (e::es) [] pos) (BM X C m sp ta t):=by
 intro pins s σ H Q I h
 refine PySem.W.methodCall_KW (pl:=pl) (GJ (he pins s σ H _ I h) fun u s1 ⟨x,H1,I1,rx,a,dx,fs,ex,ea,l,q⟩=>?_) ht
 subst ex
 obtain rfl:u=Value.ref a:=rx
 refine qB I1 ea c hm l ?_
 refine PySem.W.callWith_K (first:=[.ref a]) (h₀:=X.base) I.ok.mod.MF hm.kp (GJ (ha pos pins s1 σ H1 _ I1 q) fun us s2 ⟨vs,H2,I2,r,E,q2,hE⟩=>⟨I2.Jo,?_⟩) hst hpl
 exact sd (us:=.ref a::us) (vs:=.ref a::vs) F hr hb (hE pins) I2 (.cons rfl r) q2
end
end L2
namespace L3
open PySem L2 Xc
section
variable {P:Program} {w:World} {K:PySem.W.Frag} {mg:Str→Option Value} {base:Heap}
structure bd (K:PySem.W.Frag) (mg:Str→Option Value) (x:Str) (st:Stmt) (ps:List Str):Prop where
 ex:∃f fd,Ex K mg x st ps f fd
structure wf (K:PySem.W.Frag) (c m q:Str) (st:Stmt) (ps:List Str):Prop where
 ex:∃C f fd,G1 K c C∧Cls K C∧uL K C m f∧Lo K m q st f fd∧Binds K fd ps []
structure Cw (K:PySem.W.Frag) (mg:Str→Option Value) (c:Str) (fl:List Str):Prop where
 ex:∃C,G1 K c C∧mg c=some (.ref C)∧Cls K C∧PySem.W.makesIn K C=true∧PySem.W.keepIn K (.ref C)=true∧∀f∈fl,NoAttr K C f
structure Hq (P:Program) (w:World) (K:PySem.W.Frag) (mg:Str→Option Value) (base:Heap) (k:Nat) (x:Str) (n:Nat) (sp:aF):Prop where
 ex:∃f fd ps,ps.length=n∧Me P w K mg base k f fd ps sp∧mg x=some (.ref f)∧PySem.W.keepIn K (.ref f)=true∧Binds K fd ps []
structure Mh (P:Program) (w:World) (K:PySem.W.Frag) (mg:Str→Option Value) (base:Heap) (k:Nat) (x:Str) (n:Nat) (sp:aF):Prop where
 ex:∃f fd ps,ps.length=n∧Lf P w K mg base k f fd ps sp∧mg x=some (.ref f)∧PySem.W.keepIn K (.ref f)=true∧Binds K fd ps []
structure Fq (P:Program) (w:World) (K:PySem.W.Frag) (mg:Str→Option Value) (base:Heap) (k:Nat) (c m:Str) (n:Nat) (sp:aF):Prop where
 ex:∃C f fd ps,ps.length=n∧Me P w K mg base k f fd ps sp∧G1 K c C∧Cls K C∧uL K C m f∧Binds K fd ps []
structure BN (P:Program) (w:World) (K:PySem.W.Frag) (mg:Str→Option Value) (base:Heap) (k:Nat) (c m:Str) (n:Nat) (sp:aF):Prop where
 ex:∃C f fd ps,ps.length=n∧Lf P w K mg base k f fd ps sp∧G1 K c C∧Cls K C∧uL K C m f∧Binds K fd ps []
theorem fG{x:Str}{st:Stmt}{ps:List Str}{k n:Nat}{t:bj}{sp:aF}(N:List Str)(O:bd K mg x st ps)
  (hbody:∀(f:Addr) (cdv:Value) (A:Around) (outer:List Env) (s:Shared) (H:Hp) (E:XK),Room k (A.deeper (PyProof.Rows.envOfC x (az st) s.heap.objs.size f cdv))→N.Nodup→eS (Ev P w K mg base N x st f cdv A outer s H E) (aW st) t) (e:sp=bi N.length t)
  (hn:ps.length=n:=by rfl) (S:bR N ps (az st):=by exact⟨rfl,rfl,rfl,by decide +kernel,rfl,by decide +kernel,by decide +kernel⟩):Hq P w K mg base (k+1) x n sp:=by
 subst e
 obtain⟨f,fd,o⟩:=O.ex
 exact⟨f,fd,ps,hn,Fi o.F S fun cdv A outer s H E hr=>hbody f cdv A outer s H E hr S.nd,o.m,o.k,o.b⟩
theorem FP{x:Str}{st:Stmt}{ps:List Str}{k n:Nat}{t:bj}{sp:aF}(N:List Str)(O:bd K mg x st ps)
  (hbody:∀(f:Addr) (cdv:Value) (A:Around) (outer:List Env) (s:Shared) (H:Hp) (E:XK),Room k (A.deeper (PyProof.Rows.envOfC x (az st) s.heap.objs.size f cdv))→N.Nodup→eS (pA P w K mg base N x st f cdv A outer s H E) (aW st) t) (e:sp=lU N.length t)
  (hn:ps.length=n:=by rfl) (S:bR N ps (az st):=by exact⟨rfl,rfl,rfl,by decide +kernel,rfl,by decide +kernel,by decide +kernel⟩):Mh P w K mg base (k+1) x n sp:=by
 subst e
 obtain⟨f,fd,o⟩:=O.ex
 exact⟨f,fd,ps,hn,DN o.F S fun cdv A outer s H E hr=>hbody f cdv A outer s H E hr S.nd,o.m,o.k,o.b⟩
theorem Gc{c m q:Str}{st:Stmt}{ps:List Str}{k n:Nat}{t:bj}{sp:aF}(N:List Str)(O:wf K c m q st ps)
  (hbody:∀(f:Addr) (cdv:Value) (A:Around) (outer:List Env) (s:Shared) (H:Hp) (E:XK),Room k (A.deeper (PyProof.Rows.envOfC q (az st) s.heap.objs.size f cdv))→N.Nodup→eS (Ev P w K mg base N q st f cdv A outer s H E) (aW st) t) (e:sp=bi N.length t)
  (hn:ps.length=n:=by rfl) (S:bR N ps (az st):=by exact⟨rfl,rfl,rfl,by decide +kernel,rfl,by decide +kernel,by decide +kernel⟩):Fq P w K mg base (k+1) c m n sp:=by
 subst e
 obtain⟨C,f,fd,o1,o2,o3,o4,o5⟩:=O.ex
 exact⟨C,f,fd,ps,hn,Fi o4 S fun cdv A outer s H E hr=>hbody f cdv A outer s H E hr S.nd,o1,o2,o3,o5⟩
theorem Fr{c m q:Str}{st:Stmt}{ps:List Str}{k n:Nat}{t:bj}{sp:aF}(N:List Str)(O:wf K c m q st ps)
  (hbody:∀(f:Addr) (cdv:Value) (A:Around) (outer:List Env) (s:Shared) (H:Hp) (E:XK),Room k (A.deeper (PyProof.Rows.envOfC q (az st) s.heap.objs.size f cdv))→N.Nodup→eS (pA P w K mg base N q st f cdv A outer s H E) (aW st) t) (e:sp=lU N.length t)
  (hn:ps.length=n:=by rfl) (S:bR N ps (az st):=by exact⟨rfl,rfl,rfl,by decide +kernel,rfl,by decide +kernel,by decide +kernel⟩):BN P w K mg base (k+1) c m n sp:=by
 subst e
 obtain⟨C,f,fd,o1,o2,o3,o4,o5⟩:=O.ex
 exact⟨C,f,fd,ps,hn,DN o4 S fun cdv A outer s H E hr=>hbody f cdv A outer s H E hr S.nd,o1,o2,o3,o5⟩
theorem Gd{x:Str}{st:Stmt}{ps:List Str}{k:Nat}{t:bj}{sp:aF}{f:Addr}{fd:FuncData}(N:List Str)(o:Ex K mg x st ps f fd)
  (hbody:∀(f:Addr) (cdv:Value) (A:Around) (outer:List Env) (s:Shared) (H:Hp) (E:XK),Room k (A.deeper (PyProof.Rows.envOfC x (az st) s.heap.objs.size f cdv))→N.Nodup→eS (Ev P w K mg base N x st f cdv A outer s H E) (aW st) t) (e:sp=bi N.length t)
  (S:bR N ps (az st):=by exact⟨rfl,rfl,rfl,by decide +kernel,rfl,by decide +kernel,by decide +kernel⟩):Me P w K mg base (k+1) f fd ps sp:=by
 subst e
 exact Fi o.F S fun cdv A outer s H E hr=>hbody f cdv A outer s H E hr S.nd
def qY:aF:=fun _ _ _ _=>False
theorem Hq.zero{x:Str}{st:Stmt}{ps:List Str}{k n:Nat}(O:bd K mg x st ps)(hn:ps.length=n:=by rfl):Hq P w K mg base k x n qY:=by
 obtain⟨f,fd,o⟩:=O.ex
 exact⟨f,fd,ps,hn,.zero rfl,o.m,o.k,o.b⟩
theorem Mh.zero{x:Str}{st:Stmt}{ps:List Str}{k n:Nat}(O:bd K mg x st ps)(hn:ps.length=n:=by rfl):Mh P w K mg base k x n qY:=by
 obtain⟨f,fd,o⟩:=O.ex
 exact⟨f,fd,ps,hn,.zero rfl,o.m,o.k,o.b⟩
theorem nJ{b n:Nat}{x:Str}{st:Stmt}{ps:List Str}{r:Nat→aF}(O:bd K mg x st ps)(h:∀j,Hq P w K mg base (b+j) x n (r j)→Hq P w K mg base (b+j+1) x n (r (j+1)))(h0:r 0=qY)(hn:ps.length=n:=by rfl):∀j,Hq P w K mg base (b+j) x n (r j)
 |0=>by rw[h0];exact .zero O hn
 |j+1=>h j (nJ O h h0 hn j)
theorem DQ{b n:Nat}{x:Str}{st:Stmt}{ps:List Str}{r:Nat→aF}(O:bd K mg x st ps)(h:∀j,Mh P w K mg base (b+j) x n (r j)→Mh P w K mg base (b+j+1) x n (r (j+1)))(h0:r 0=qY)(hn:ps.length=n:=by rfl):∀j,Mh P w K mg base (b+j) x n (r j)
 |0=>by rw[h0];exact .zero O hn
 |j+1=>h j (DQ O h h0 hn j)
end
section
variable {X:Cx} {a b e o:Expr} {es:List Expr} {ta tb te to:aL} {ts:List aL} {x c m f:Str} {p pos apos cpos:Pos} {j k n:Nat} {sp:aF}
theorem c4(O:Hq X.prog X.w X.K X.mg X.base k x n sp)(hr:Room j X.A)(ha:jz X (e::es) ts)(hj:k≤j:=by omega)(hl:ts.length=n:=by rfl)(hg:Gl X x:=by rfl)(he:starEach (e::es) X.env=(false,eval e X.env)::starEach es X.env:=by rfl)(hdb:(x == ("__debug__":Str))=false:=by decide)(hpl:(backTo pos (starEach es X.env)).any (·.1)=false:=by rfl) :
  bf X (.Call (.Name x p) (e::es) [] pos) (ae sp ts):=by
 obtain⟨f,fd,ps,hn,F,h1,h2,h3⟩:=O.ex
 exact BC F (hr.mono hj) hg h1 h2 h3 he ha (hl.trans hn.symm) hdb hpl
theorem cX(O:Mh X.prog X.w X.K X.mg X.base k x n sp)(hr:Room j X.A)(ha:jz X (e::es) ts)(hj:k≤j:=by omega)(hl:ts.length=n:=by rfl)(hg:Gl X x:=by rfl)(he:starEach (e::es) X.env=(false,eval e X.env)::starEach es X.env:=by rfl)(hdb:(x == ("__debug__":Str))=false:=by decide)(hpl:(backTo pos (starEach es X.env)).any (·.1)=false:=by rfl) :
  bf X (.Call (.Name x p) (e::es) [] pos) (cR sp ts):=by
 obtain⟨f,fd,ps,hn,F,h1,h2,h3⟩:=O.ex
 exact y_ F (hr.mono hj) hg h1 h2 h3 he ha (hl.trans hn.symm) hdb hpl
theorem cB{id:String}{r:nl}(hc:dR X (.builtin id) r)(hm:X.mg x=none)(ha:jz X (e::es) ts)(hg:Gl X x:=by rfl)(hv:bootBuiltins x=some (.builtin id):=by decide +kernel)(he:starEach (e::es) X.env=(false,eval e X.env)::starEach es X.env:=by rfl)
  (hnn:x ≠ "__name__":=by decide) (hdb:(x == ("__debug__":Str))=false:=by decide) (hpl:(backTo pos (starEach es X.env)).any (·.1)=false:=by rfl):bf X (.Call (.Name x p) (e::es) [] pos) (ao r ts):=yK hc hg hm hv he ha hnn hdb hpl
theorem cT{id:String}{r:nl}(hc:dR X (.type id) r)(hm:X.mg x=none)(ha:jz X (e::es) ts)(hg:Gl X x:=by rfl)(hv:bootBuiltins x=some (.type id):=by decide +kernel)(he:starEach (e::es) X.env=(false,eval e X.env)::starEach es X.env:=by rfl)
  (hnn:x ≠ "__name__":=by decide) (hdb:(x == ("__debug__":Str))=false:=by decide) (hpl:(backTo pos (starEach es X.env)).any (·.1)=false:=by rfl):bf X (.Call (.Name x p) (e::es) [] pos) (ao r ts):=yL hc hg hm hv he ha hnn hdb hpl
theorem lc{r:List Expr}(ha:bf X a ta)(hr:jz X r ts)(hs:starEach (a::r) X.env=(false,eval a X.env)::starEach r X.env:=by rfl):jz X (a::r) (ta::ts):=vF hs ha hr
theorem l1(ha:bf X a ta)(hs:starEach [a] X.env=(false,eval a X.env)::starEach [] X.env:=by rfl):jz X [a] [ta]:=vF hs ha dh
theorem aP{i:Int}{q:Nat}{p2:Pos}(hr:Room j X.A)(ha:bf X a ta)(hs:ku (.Constant (.int i) q p2):=by exact fun _ _=>rfl):bf X (.Subscript a (.Constant (.int i) q p2) pos) (aj ad ta (c3 (.int i))):=Dy (FN (si hr)) ha ac hs
theorem bY(hr:Room j X.A)(ha:bf X a ta)(hb:bf X b tb)(hs:ku b:=by exact fun _ _=>rfl):bf X (.Subscript a b pos) (aj ad ta tb):=Dy (FN (si hr)) ha hb hs
theorem fK(hr:Room j X.A)(ha:bf X a ta)(hb:bf X b tb):qp X (.Compare a [.Eq] [b] pos) (aJ (aj (bt false) ta tb)):=bw (o0 (hU hr)) ha hb (aQ _)
theorem Fs(hr:Room j X.A)(ha:bf X a ta)(hb:bf X b tb):qp X (.Compare a [.NotEq] [b] pos) (aJ (aj (bt true) ta tb)):=bw (Dw (hU hr)) ha hb (aQ _)
theorem s4(i:Nat){pos':Pos}(nd:X.N.Nodup)(he:bf X e te)(hi:X.N[i]?=some x:=by rfl)(hx:zK X.env.scope x:=by first|exact Or.inl rfl|exact Or.inr rfl)(hs:swapsWith e (some (.Name x pos')) pos.line X.env=pure false:=by rfl)
  (hf:X.fn x=true∨X.env.scope.names.lookup x=some .local:=by first|exact .inl rfl|exact .inr rfl|assumption):mv X (.Assign [.Name x pos'] e pos) (au i te):=DD nd hi hx he hs hf
theorem gn(i:Nat)(nd:X.N.Nodup)(hi:X.N[i]?=some x:=by rfl)(hx:zK X.env.scope x:=by first|exact Or.inl rfl|exact Or.inr rfl)(hf:X.fn x=true∨X.env.scope.names.lookup x=some .local:=by first|exact .inl rfl|exact .inr rfl|assumption):yP X (.Name x pos) (.n i):=F8 i nd hi hx hf
def wg:bj:=fun D _ S=>D.rt .non S
theorem BO:mv X (.Return none pos) wg:=⟨cq xU fun D σ H ⟨σ3,S,D3,rσ,rS,h,xo,n,r,bk,ct⟩=>r _ S _ H h .non rS .refl⟩
end
structure BP (T:String) (name:Str) (id:String):Prop where
 pa:PlainAttrs T
 slot:Slot T name id
 ty:typeOf (.builtin id)=pure (.type "method_descriptor")
section
variable {X:Cx} {e o:Expr} {es:List Expr} {to:aL} {ts:List aL} {name:Str} {T id:String} {p pos apos cpos:Pos} {r:qU}
theorem bU:BP "list" "append" "list.append":=⟨PySem.F.plainAttrs_list,PySem.F.slot_list_append,PySem.F.type_list_append⟩
theorem BQ:BP "list" "pop" "list.pop":=⟨PySem.F.plainAttrs_list,PySem.F.slot_list_pop,PySem.F.type_list_pop⟩
theorem wj:BP "list" "clear" "list.clear":=⟨PySem.F.plainAttrs_list,PySem.F.slot_list_clear,PySem.F.type_list_clear⟩
theorem ss:BP "str" "join" "str.join":=⟨PySem.F.plainAttrs_str,PySem.F.slot_str_join,PySem.F.type_str_join⟩
theorem wk:BP "str" "index" "str.index":=⟨PySem.F.plainAttrs_str,PySem.F.slot_str_index,PySem.F.type_str_index⟩
theorem uq(k:BP T name id)(hm:vS X id r)(ho:bf X o to)(ha:jz X (e::es) ts)(hs:starEach (e::es) X.env=(false,eval e X.env)::starEach es X.env:=by rfl)
  (hbase:attributeBase o name X.env (eval o X.env)=eval o X.env:=by rfl)
  (hfew:((backTo cpos (starEach (e::es) X.env)).all (fun x=>!x.1)&&(backToKw cpos (keywordEach [] X.env)).all (fun x=>x.1.isSome)
   && decide ((e::es).length+([]:List Keyword).length+(if ([]:List Keyword).isEmpty then 0 else 1) < 30))=true:=by rfl)
  (hline:(apos.endLine == cpos.line)=true:=by rfl) (hplain:(backTo cpos (starEach es X.env)).any (·.1)=false:=by rfl):bf X (.Call (.Attribute o name apos) (e::es) [] cpos) (hG T r to ts):=Fe k.pa k.slot k.ty hm hs ho ha hbase hfew hline hplain
theorem DR(k:BP T name id)(hm:vS X id r)(ho:bf X o to)
  (hbase:attributeBase o name X.env (eval o X.env)=eval o X.env:=by rfl) (hline:(apos.endLine == cpos.line)=true:=by rfl):bf X (.Call (.Attribute o name apos) [] [] cpos) (hG T r to []):=DB k.pa k.slot k.ty hm ho hbase hline
end
section
variable {X:Cx} {tg iter elt:Expr} {ifs:List Expr} {scope:Scope} {pos:Pos} {ti:tQ} {g:Tg} {tc:iG} {te:aL}
theorem wm(fs:List Str)(own:Nat)(fr:List Nat)(N:List Str)(hi:yS X tg iter ti)(hg:∀B,yP (X.IL N scope fs B) tg g)(hf:∀B,Cv (X.IL N scope fs B) ifs tc)(he:∀B,bf (X.IL N scope fs B) elt te)
  (Lv:g.under own=true:=by rfl) (hc:X.calm=true:=by rfl) (hclos:closureFor scope X.env=pure (cC X.env fs):=by rfl) (hcell:∀y∈scope.names,y.2 ≠ .cell:=by decide +kernel) (hkind:scope.kind = .function:=by rfl)
  (hnames:∀x∈scope.names,x.2 = .local→scope.names.lookup x.1=some .local:=by decide +kernel) (hcl:ck X.env fs:=by repeat' first|exact trivial|exact⟨_,rfl⟩|constructor) (hhas:hasB (relabel scope X.env).names (cC X.env fs)=true:=by rfl)
  (hlen:N.length=own+fr.length:=by rfl) (hN:(N.drop own).map some=fr.map (fun j=>X.N[j]?):=by rfl) (hF:Hs X.env scope (cC X.env fs) (N.drop own):=by repeat' first|exact trivial|exact .inl rfl|exact .inr rfl|exact rfl|apply And.intro)
  (hs:∀x,foldedSetIterable iter X.env x=pure x:=by intro _;rfl):bf X (.ListComp elt [⟨tg,iter,ifs,0⟩] scope pos) (bh ti g tc te own fr):=BA fs own fr N Lv hc hclos hcell hkind hnames hcl hhas hlen hN hF hi hg hf he hs
theorem Ey(fs:List Str)(own:Nat)(fr:List Nat)(N:List Str)(i:Nat){y:Str}{py spos:Pos}(hX:X.N.Nodup)(hi:yS X tg iter ti)(hg:∀B,yP (X.IL N scope fs B) tg g)(hf:∀B,Cv (X.IL N scope fs B) ifs tc)(he:∀B,bf (X.IL N scope fs B) elt te)
  (hix:X.N[i]?=some y:=by rfl) (hy:X.env.scope.names.lookup y=some .local:=by rfl) (hsw:swapsWith (.ListComp elt [⟨tg,iter,ifs,0⟩] scope pos) (some (.Name y py)) spos.line X.env=pure true:=by rfl)
  (Lv:g.under own=true:=by rfl) (hc:X.calm=true:=by rfl) (hclos:closureFor scope X.env=pure (cC X.env fs):=by rfl) (hcell:∀y∈scope.names,y.2 ≠ .cell:=by decide +kernel) (hkind:scope.kind = .function:=by rfl)
  (hnames:∀x∈scope.names,x.2 = .local→scope.names.lookup x.1=some .local:=by decide +kernel) (hcl:ck X.env fs:=by repeat' first|exact trivial|exact⟨_,rfl⟩|constructor) (hhas:hasB (relabel scope X.env).names (cC X.env fs)=true:=by rfl)
  (hlen:N.length=own+fr.length:=by rfl) (hN:(N.drop own).map some=fr.map (fun j=>X.N[j]?):=by rfl) (hF:Hs X.env scope (cC X.env fs) (N.drop own):=by repeat' first|exact trivial|exact .inl rfl|exact .inr rfl|exact rfl|apply And.intro)
  (hs:∀x,foldedSetIterable iter X.env x=pure x:=by intro _;rfl):mv X (.Assign [.Name y py] (.ListComp elt [⟨tg,iter,ifs,0⟩] scope pos) spos) (au i (bh ti g tc te own fr)):=BB fs own fr N hX hix hy hsw Lv hc hclos hcell hkind hnames hcl hhas hlen hN hF hi hg hf he hs
end
noncomputable def eC(f:Str)(v:PV):List (Str×PV)→List (Str×PV)
 |[]=>[(f,v)]
 |(g,x)::r=>if g=f then (g,v)::r else (g,x)::eC f v r
theorem GO.look{K:PySem.W.Frag}{H:Hp}{f:Str}{p:PV}:∀{vs:List (Str×V)} {ps:List (Str×PV)},GO K H vs ps→ps.lookup f=some p→∃v,vs.lookup f=some v∧Rep K H v p
 |_,_,.nil,e=>by simp at e
 |_,_,.cons a r,e=>by
  rw[List.lookup_cons]at e ⊢
  split at e
  ·cases e;exact⟨_,rfl,a⟩
  ·exact GO.look r e
theorem GO.My{K:PySem.W.Frag}{H:Hp}{f:Str}:∀{vs:List (Str×V)} {ps:List (Str×PV)},GO K H vs ps→ps.lookup f=none→vs.lookup f=none
 |_,_,.nil,_=>rfl
 |_,_,.cons a r,e=>by
  rw[List.lookup_cons]at e ⊢
  split at e
  ·cases e
  ·exact GO.My r e
theorem GO.putF{K:PySem.W.Frag}{H:Hp}{f:Str}{v:V}{p:PV}(q:Rep K H v p):∀{vs:List (Str×V)} {ps:List (Str×PV)},GO K H vs ps→GO K H (L2.putF f v vs) (eC f p ps)
 |_,_,.nil=>.cons q .nil
 |_,_,.cons (k:=k) a r=>by
  unfold L2.putF eC
  split
  ·exact .cons q r
  ·exact .cons a (GO.putF q r)
def jG(c:Str)(S:av)(x:PV)(k:Addr→List (Str×PV)→Prop):Prop:=match x with
 | .ref a=>(match S a with|some (.ins c' fs)=>c'=c∧k a fs|_=>False)
 |_=>False
theorem nK{K:PySem.W.Frag}{H:Hp}{S:av}{c:Str}{C:Addr}{x:PV}{v:V}{k:Addr→List (Str×PV)→Prop}(hC:G1 K c C)(rS:GI K H S)(r:Rep K H v x)(h:jG c S x k):∃a dx fs f',x = .ref a∧v = .ref a∧S a=some (.ins c fs)∧H a=some (.ins C dx f')∧GO K H f' fs∧k a fs:=by
 unfold jG at h
 split at h
 ·rename_i a
  split at h
  ·rename_i c' fs e
   obtain⟨rfl,h⟩:=h
   obtain⟨C',dx,f',n,q,rf⟩:=(show Kc K H a (.ins c' fs)from rS a _ e)
   cases hC.inj n
   cases r
   exact⟨a,dx,fs,f',rfl,rfl,e,q,rf,h⟩
  ·exact h.elim
 ·exact h.elim
def dv(c f:Str)(te:aL):aL:=fun σ S Q E=>te σ S (fun x S1=>jG c S1 x fun _ fs=>match fs.lookup f with|some v=>Q v S1|none=>False) E
def eE(c f:Str)(te to:aL):bj:=fun D σ S=>te σ S (fun v S1=>to σ S1 (fun x S2=>jG c S2 x fun a fs=>fs.length < 1000∧D.nx σ (GE S2 a (.ins c (eC f v fs)))) D.ex) D.ex
def nL(c m:Str)(sp:aF)(to:aL)(ts:List aL):aL:=fun σ S Q E=>to σ S (fun x S1=>jG c S1 x fun _ fs=>fs.lookup m=none∧ar ts σ S1 (fun ps S2=>sp (x::ps) S2 Q (fun p _ S'=>E p σ S')) E) E
def wn(c:Str)(sp:aF)(ts:List aL):aL:=fun σ S Q E=>ar ts σ S (fun ps S1=>∀x,S1 x=none→sp (.ref x::ps) (GE S1 x (.ins c [])) (fun v S2=>v = .non∧Q (.ref x) S2) gX) E
section
variable {X:Cx} {e o value:Expr} {es:List Expr} {te to:aL} {ts:List aL} {x c m f:Str} {fl:List Str} {p pos pos' apos:Pos} {j k n:Nat} {sp:aF}
theorem wo(hC:Cw X.K X.mg c fl)(he:bf X e te)(hf:f∈fl:=by decide)(hb:attributeBase e f X.env (eval e X.env)=eval e X.env:=by rfl):bf X (.Attribute e f pos) (dv c f te):=by
 obtain⟨C,hn,hm,hc,Pd,hkp,na⟩:=hC.ex
 refine⟨aR (AL he.ok hb) fun σ H Q ⟨σ3,S,Q3,E3,rσ,rS,h,xo,k⟩=>⟨σ3,S,_,E3,rσ,rS,h,xo,fun p S1 v H1 h1 rv GR g1=>?_⟩⟩
 obtain⟨a,dx,fs,f',rfl,rfl,e1,e2,rf,h2⟩:=nK hn GR rv h1
 split at h2
 ·rename_i p' hp'
  obtain⟨v',hv',Nd⟩:=rf.look hp'
  exact⟨a,C,dx,f',v',rfl,e2,hc,na _ hf,hv',k _ S1 _ H1 h2 Nd GR g1⟩
 ·exact h2.elim
theorem Cy(hC:Cw X.K X.mg c fl)(he:bf X value te)(ho:bf X o to)(hf:f∈fl:=by decide)(hs:swapsWith value (some (.Attribute o f pos')) pos.line X.env=pure false:=by rfl):mv X (.Assign [.Attribute o f pos'] value pos) (eE c f te to):=by
 obtain⟨C,hn,hm,hc,Pd,hkp,na⟩:=hC.ex
 refine⟨cq (AM ho.ok he.ok hs) fun D σ H ⟨σ3,S,D3,rσ,rS,h,xo,nx,r,bk,ct⟩=>⟨σ3,S,_,D3.ex,rσ,rS,h,xo,fun v S1 v' H1 h1 rv GR g1=>⟨σ3,S1,_,D3.ex,rσ.mono g1,GR,h1,xo.mono g1,fun x S2 x' H2 h2 rx IM g2=>?_⟩⟩⟩
 obtain⟨a,dx,fs,f',rfl,rfl,e1,e2,rf,h3,h4⟩:=nK hn IM rx h2
 have gm:Grow X.K H2 (upd H2 a (.ins C dx (putF f v' f'))):=.mut e2 trivial
 refine⟨a,C,dx,f',rfl,e2,hc,na _ hf,by rw[rf.length];exact h3,nx _ _ _ _ h4 (rσ.mono (g1.trans (g2.trans gm))) (IM.put e2 trivial ⟨C,dx,_,hn,ay,((rf.mono gm).putF ((rv.mono g2).mono gm))⟩) (g1.trans (g2.trans gm))⟩
theorem Ge{pl:Sem Bool}(O:BN X.prog X.w X.K X.mg X.base k c m n sp)(hr:Room j X.A)(ho:bf X o to)(ha:jz X (e::es) ts)(hj:k≤j:=by omega)(hl:ts.length+1=n:=by rfl)
    (hst:starEach (e::es) X.env=(false,eval e X.env)::starEach es X.env:=by rfl) (hpl:(backTo pos (starEach es X.env)).any (·.1)=false:=by rfl)
    (ht:eval (.Call (.Attribute o m apos) (e::es) [] pos) X.env=(do
      let ov ←eval o X.env
      standAt apos.atName
      let (f,first) ←holding [ov] (getMethod ov m pl)
      callWith pos f first (backTo pos (starEach (e::es) X.env)) (backToKw pos (keywordEach [] X.env))):=by rfl):bf X (.Call (.Attribute o m apos) (e::es) [] pos) (nL c m sp to ts):=by
  obtain⟨C,f,fd,ps,hn,F,h1,h2,h3,h4⟩:=O.ex
  refine⟨aR (we ho.ok h2 h3 F.ok (hr.mono hj) h4 ha.ok hst hpl ht) fun σ H Q ⟨σ3,S,Q3,E3,rσ,rS,h,xo,k⟩=>⟨σ3,S,_,E3,rσ,rS,h,xo,fun p S1 v H1 q1 rv GR g1=>?_⟩⟩
  obtain⟨a,dx,fs,f',rfl,rfl,e1,e2,rf,q2,q3⟩:=nK h1 GR rv q1
  refine⟨a,dx,f',rfl,e2,rf.My q2,bv (rσ.mono g1) GR q3 (xo.mono g1) fun ps' S' vs H' hl' q Nd Ia g=>?_⟩
  refine⟨fun c d H2=>∃(cn:Str) (ks:List Str) (ps2:List PV) (S2:av) (C dx:Addr) (od:Obj) (JE:List V),c = .ref C∧d=some dx∧E3 (.exc cn ks ps2) σ3 S2∧G1 X.K cn C∧JE.length=ks.length∧H2 dx=some (.frz od (.ext (XD dx (ks.zip JE))))∧Reps X.K H2 JE ps2∧GI X.K H2 S2∧Grow X.K H' H2,
     ⟨by rw[List.length_cons,Nd.length,hl',hl,hn],.ref a::ps',S',Q3,_,.cons (.ref a) Nd,Ia,q,k.mono (g1.trans g),fun cn ks ps2 S2 H2 C dx od JE h1 h2 h3 h4 h5 h6 h7=>⟨cn,ks,ps2,S2,C,dx,od,JE,rfl,rfl,h1,h2,h3,h4,h5,h6,h7⟩⟩,
     fun pins c d H2 ⟨cn,ks,ps2,S2,C,dx,od,JE,e1,e2,h1,h2,h3,h4,h5,h6,h7⟩ s' a C' Qf e3 e4 I xa=>?_⟩
  subst e1 e2;cases e3;cases e4
  exact xo cn ks ps2 σ3 S2 H2 pins σ s' a _ _ od JE h1 h2 h3 h4 h5 h6 (rσ.mono ((g1.trans g).trans h7)) ((g1.trans g).trans h7) I xa
theorem Gf(hC:Cw X.K X.mg c fl)(O:Fq X.prog X.w X.K X.mg X.base k c "__init__" n sp)(hr:Room j X.A)(ha:jz X (e::es) ts)(hj:k+1≤j:=by omega)(hl:ts.length+1=n:=by rfl)(hg:Gl X c:=by rfl)(he:starEach (e::es) X.env=(false,eval e X.env)::starEach es X.env:=by rfl)(hdb:(c == ("__debug__":Str))=false:=by decide)(hpl:(backTo pos (starEach es X.env)).any (·.1)=false:=by rfl) :
  bf X (.Call (.Name c p) (e::es) [] pos) (wn c sp ts):=by
 obtain⟨C,hn,hm,hc,Pd,hkp,na⟩:=hC.ex
 obtain⟨C',f,fd,ps,hps,F,h1,h2,h3,h4⟩:=O.ex
 cases hn.inj h1
 refine⟨aR (yg ⟨Pd,h3.at_,h3.fn,hkp⟩ F.ok (hr.mono hj) hg hm h4 .nil zR ha.ok hdb he hpl) fun σ H Q ⟨σ3,S,Q3,E3,rσ,rS,h,xo,k⟩=>bv rσ rS h xo fun ps' S' vs H' hl' q rv Ia g x dx hx hdx hne=>?_⟩
 rw[List.append_nil]
 have g1:Grow X.K H' (upd H' dx (.own x)):=.new hdx
 have LV:upd H' dx (.own x) x=none:=by rw[aw (Ne.symm hne)];exact hx
 have g2:Grow X.K (upd H' dx (.own x)) (upd (upd H' dx (.own x)) x (.ins C dx [])):=.new LV
 refine⟨by rw[List.length_cons,rv.length,hl',hl,hps],.ref x::ps',GE S' x (.ins c []),_,_,.cons (.ref x) (rv.mono (g1.trans g2)),(Ia.other hdx).new LV ⟨C,dx,[],hn,ay,.nil⟩,q x (Ia.free hx),fun p S2 v H2 hq Pb IM gg=>?_⟩
 obtain⟨rfl,q2⟩:=hq
 cases Pb
 exact⟨rfl,k _ S2 _ H2 q2 (.ref x) IM (g.trans ((g1.trans g2).trans gg))⟩
end
structure Ez (P:Program) (w:World) (K:PySem.W.Frag) (mg:Str→Option Value) (base:Heap) (x:Str) (ks:List Str):Prop where
 ex:∃qual st ps C f fd,BL K mg x qual st ps ks C f fd∧eh P w K mg base qo 1 f fd ps (nh K C ks)∧ps.length=ks.length+1
structure EA (K:PySem.W.Frag) (mg:Str→Option Value) (x q:Str) (st:Stmt) (ps ks:List Str):Prop where
 ex:∃C f fd,BL K mg x q st ps ks C f fd
structure Ft (K:PySem.W.Frag) (mg:Str→Option Value) (x:Str) (cs:List Str):Prop where
 ex:∃D,mg x=some (.ref D)∧Bn K D∧KJ K D cs
structure xJ (K:PySem.W.Frag) (mg:Str→Option Value) (x:Str):Prop where
 ex:∃C,mg x=some (.ref C)∧G1 K x C
section
variable {P:Program} {w:World} {K:PySem.W.Frag} {mg:Str→Option Value} {base:Heap}
theorem FQ{x q k1:Str}{st:Stmt}{ps:List Str}(N:List Str)(h:EA K mg x q st ps [k1])(hp:ps.length=2)
  (hb:∀(f:Addr) (cdv:Value) (A:Around) (outer:List Env) (s:Shared) (H:Hp) (E:XK),J4 (gU qo P w K mg base N q (az st) f cdv A outer s H E).Ld (aW st) (Bl K (sP 0) (sP 1) k1))
  (S:bR N ps (az st):=by exact⟨rfl,rfl,rfl,by decide +kernel,rfl,by decide +kernel,by decide +kernel⟩):Ez P w K mg base x [k1]:=by
 obtain⟨C,f,fd,T⟩:=h.ex
 exact⟨q,st,ps,C,f,fd,T,Dn T.F S hp (hb f),hp⟩
end
section
variable {X:Cx} {e:Expr} {es:List Expr} {ts:List aL} {x:Str} {p pos cpos:Pos} {ks:List Str} {j:Nat}
theorem FR(T:Ez X.prog X.w X.K X.mg X.base x ks)(hr:Room j X.A)(ha:jz X (e::es) ts)(hj:2≤j:=by omega)(Ks:X.calm=true:=by rfl)(hg:Gl X x:=by rfl)(he:starEach (e::es) X.env=(false,eval e X.env)::starEach es X.env:=by rfl)
  (hl:ts.length=ks.length:=by rfl) (hks:ks.length≤1000:=by exact Nat.le_of_ble_eq_true rfl) (hdb:(x == ("__debug__":Str))=false:=by decide) (hpl:(backTo cpos (starEach es X.env)).any (·.1)=false:=by rfl) :
  mv X (.Raise (some (.Call (.Name x p) (e::es) [] cpos)) none pos) (du x ks ts):=by
 obtain⟨qual,st,ps,C,f,fd,T,F,hp⟩:=T.ex
 exact zd T F hp (hr.mono hj) Ks hg he ha hl hks hdb hpl
theorem zg(h:xJ X.K X.mg x)(hg:Gl X x:=by rfl)(hd:(x == ("__debug__":Str))=false:=by decide):bf X (.Name x pos) (c3 (.cls x)):=let ⟨_,h1,h2⟩:=h.ex;DP hg h1 h2 hd
theorem Gg{n:String}(hm:X.mg x=none)(hg:Gl X x:=by rfl)(hv:bootBuiltins x=some (.type n):=by decide +kernel)(hn:x ≠ "__name__":=by decide)(hd:(x == ("__debug__":Str))=false:=by decide):bf X (.Name x pos) (c3 (.ty n)):=Fd hg hm hv hn hd
end
section
variable {X:Cx} {body suite:List Stmt} {b₀:Stmt} {n x:Str} {np hpos pos:Pos} {tb th:bj} {cs:List Str}
theorem Gh(i:Nat)(T:Ft X.K X.mg x cs)(hN:X.N.Nodup)(hb:∀E pins,PassesOwn (model X.prog X.w) X.A X.env E→eS (X.tr E pins) body tb)(hs:∀a,eS (X.Kr a) (b₀::suite) th)
  (hst:X.stack=X.env::X.outer:=by rfl) (Lw:X.env.frame=some X.env.locals:=by rfl) (hi:X.N[i]?=some n:=by rfl) (hk:X.env.scope.names.lookup n=some .local:=by rfl) (hg:Gl X x:=by rfl) (hdb:(x == ("__debug__":Str))=false:=by decide) :
  mv X (.Try body [.ExceptHandler (some (.Name x np)) (some n) (b₀::suite) hpos] [] [] pos) (ze cs i tb th):=by
 obtain⟨D,h1,h2,h3⟩:=T.ex
 exact DO hst Lw hN hi hk hg h1 h2 h3 hb hs hdb
end
section
variable {P:Program} {w:World} {K:PySem.W.Frag} {mg:Str→Option Value} {base:Heap}
structure FS (K:PySem.W.Frag) (mg:Str→Option Value) (x:Str) (st:Stmt) (ps:List Str):Prop where
 ex:∃T f fd,Fm K mg x st ps T f fd
structure GA (P:Program) (w:World) (K:PySem.W.Frag) (mg:Str→Option Value) (base:Heap) (k:Nat) (x:Str) (n:Nat) (sp:aF):Prop where
 ex:∃f fd ps,ps.length=n∧Me P w K mg base k f fd ps sp∧mg x=some (.ref f)∧PySem.W.keepIn K (.ref f)=true∧Binds K fd ps []∧Binds K fd ps [.bool true]
end
section
variable {X:Cx} {e:Expr} {es:List Expr} {ts:List aL} {x:Str} {p pos:Pos} {j k n:Nat} {sp:aF}
end
end L3
namespace L2
open PySem PySem.Spec PyProof.Rows
section
variable {X:Cx}
theorem tU(hc:X.calm=true):dN X (.builtin "min") (fun xs H Q=>∃(p:Addr) (ns:List Int),xs=[.ref p]∧SqL X.K H p (ns.map V.int)∧0 < ns.length∧∀M,M∈ns→(∀a∈ns,M≤a)→Q (.int M) H):=by
 intro pins s σ H xs us Q I r h
 obtain⟨p,ns,rfl,hp,hn,q⟩:=h
 obtain⟨u,rfl,rx⟩:=dO r
 cases rx
 obtain⟨its,rv,pl,hz⟩:=I.list hp
 have hi:IntsAre its ns:=qH rv
 obtain⟨xs,e⟩:=hi.allInts.items
 have hns:ns=xs.toList.map (·.1):=by rw[←hi.numsOf,←nums_intItems,←e]
 have hsz:0 < xs.size:=by have h3:=hn;rw[hns,List.length_map,Array.length_toList]at h3;exact h3
 have hl:=pl.isList
 rw[e]at hl
 refine min_intList (I.ok.hd hc) hl hsz fun v h' tk hv hk=>?_
 obtain⟨t,rfl⟩:=intItems_at hv
 obtain⟨h1,h2⟩:=argBest_lt (numAt xs) (xs.size - 1)
 refine⟨.int _,H,(I.kept (t':=tk) (h':=h') hk),⟨_,rfl⟩,q _ ?_ fun a ha=>?_⟩
 ·rw[hns,numAt_eq];exact getD_mem (by rw[List.length_map,Array.length_toList];omega)
 ·rw[hns]at ha
  obtain⟨j,hj,rfl⟩:=mem_getD ha
  rw[List.length_map,Array.length_toList]at hj
  rw[←numAt_eq];exact h2 j (by omega)
end
end L2
namespace L3
open PySem L2
section
variable {X:Cx}
def su:nl:=fun ps S Q=>match ps with
 |[.ref a]=>(match S a with|some (.lst xs)=>(match il xs with|some ns=>0 < ns.length∧∀M,M∈ns→(∀a∈ns,M≤a)→Q (.int M) S|none=>False)|_=>False)
 |_=>False
theorem BR(hc:X.calm=true):dR X (.builtin "min") su:=⟨fun pins s σ H xs us Q I r ⟨ps,S,Q3,rp,rS,q,k⟩=>by
 unfold su at q
 split at q
 ·cases rp with
  |cons a rr=>
   cases rr;cases a
   split at q
   ·rename_i e
    split at q
    ·rename_i eb
     obtain⟨vs,hv,rs⟩:=rS _ _ e
     have e2:=mG rs eb
     subst e2
     exact tU hc pins s σ H _ us Q I r ⟨_,_,rfl,SqL.of hv,q.1,fun M h1 h2=>k _ S _ H (q.2 M h1 h2) (.int _) rS .refl⟩
    ·exact q.elim
   ·exact q.elim
 ·exact q.elim⟩
end
end L3
namespace CY
open PySem L2 L3
def b8:bj:=(ak (eE "Telling" "jars" (v3 1) (v3 0))
  (ak (eE "Telling" "most" (v3 2) (v3 0))
  (ak (eE "Telling" "cost" (aE [(c3 (.int 0)),(c3 (.int 1))]) (v3 0))
  (eE "Telling" "doings" (bb []) (v3 0)))))
def fe(Ke KH:aF):bj:=(ak (bp (aJ (aj v7 (ao b6 [(dv "Telling" "doings" (v3 0))]) (dv "Telling" "most" (v3 0)))) (du "TooLong" ["most"] [(dv "Telling" "most" (v3 0))]) aS)
  (ak (bp (aJ (ao vR [(bh (nz (dv "Telling" "jars" (v3 0)) (aj ad (v3 2) (c3 (.int 2)))) (.tp (.cons (.n 0) (.cons (.n 1) .nil))) cO (aj nA (v3 0) (v3 1)) 2 [])])) (du "Stuck" ["row"] [(ao b6 [(dv "Telling" "doings" (v3 0))])]) aS)
  (ak (eE "Telling" "jars" (ae Ke [(dv "Telling" "jars" (v3 0)),(aj ad (v3 2) (c3 (.int 1)))]) (v3 0))
  (ak (eE "Telling" "cost" (ae KH [(dv "Telling" "cost" (v3 0)),(aj ad (v3 2) (c3 (.int 0)))]) (v3 0))
  (aI (hG "list" aV (dv "Telling" "doings" (v3 0)) [(aE [(v3 1),(dv "Telling" "jars" (v3 0)),(dv "Telling" "cost" (v3 0))])]))))))
def dy(Mi s0:aF):bj:=(ak (au 2 (bb []))
  (ak (bM (bg (v3 1)) (.n 3) (bp (aJ (aj (bt false) (aj ad (v3 3) (c3 (.int 0))) (c3 (.str "do")))) (aI (hG "list" aV (v3 2) [(aE [(c3 (.str "do")),(aj ad (v3 3) (c3 (.int 1))),(ae Mi [(v3 0),(aj ad (v3 3) (c3 (.int 1))),(aj ad (v3 3) (c3 (.int 2)))])])])) (aI (hG "list" aV (v3 2) [(aE [(c3 (.str "again")),(aj ad (v3 3) (c3 (.int 1))),(ae s0 [(v3 0),(aj ad (v3 3) (c3 (.int 2)))])])]))))
  (aG (v3 2))))
def qZ(Kg s0:aF):bj:=(bM (bg (v3 1)) (.n 2) (bp (aJ (aj (bt false) (aj ad (v3 2) (c3 (.int 0))) (c3 (.str "do")))) (aI (nL "Telling" "do" Kg (v3 0) [(aj ad (v3 2) (c3 (.int 1))),(aj ad (v3 2) (c3 (.int 2)))])) (bM (cM (aj ad (v3 2) (c3 (.int 1)))) (.n 3) (aI (cR s0 [(v3 0),(aj ad (v3 2) (c3 (.int 2)))])))))
def q_(I9 MS JQ:aF):bj:=(ak (au 4 (wn "Telling" I9 [(v3 1),(v3 3)]))
  (ak (aI (cR MS [(v3 4),(ae JQ [(v3 0),(v3 2)])]))
  (aG (dv "Telling" "doings" (v3 4)))))
def gq(Kv s0:aF):bj:=(ak (bp (aJ (aj ad (v3 2) (c3 (.str "stuck")))) wg aS)
  (ak (au 3 (aj ad (v3 0) (c3 (.int 0))))
  (bp (aJ (aj (bt false) (v3 3) (c3 (.str "pay")))) (di (ae Kv [(aj ad (v3 2) (c3 (.str "cost"))),(aj ad (v3 0) (c3 (.int 1)))]) (v3 2) (c3 (.str "cost"))) (bp (aJ (aj (bt false) (v3 3) (c3 (.str "put")))) (ak (au 4 (wa gP (aj ad (v3 2) (c3 (.str "names"))) [(aj ad (v3 0) (c3 (.int 1)))]))
  (di (aj aM (aj ad (aj ad (v3 2) (c3 (.str "jars"))) (v3 4)) (aj ad (v3 0) (c3 (.int 2)))) (aj ad (v3 2) (c3 (.str "jars"))) (v3 4))) (bp (aJ (aj (bt false) (v3 3) (c3 (.str "then")))) (ak (aI (ae s0 [(aj ad (v3 0) (c3 (.int 1))),(aj ad (v3 1) (c3 (.int 0))),(v3 2)]))
  (aI (ae s0 [(aj ad (v3 0) (c3 (.int 2))),(aj ad (v3 1) (c3 (.int 1))),(v3 2)]))) (bp (aJ (aj (bt false) (v3 3) (c3 (.str "either")))) (aI (ae s0 [(aj ad (v3 0) (aj aM (c3 (.int 1)) (aj ad (v3 1) (c3 (.int 0))))),(aj ad (v3 1) (c3 (.int 1))),(v3 2)])) (bp (aJ (aj (bt false) (v3 3) (c3 (.str "take")))) (ak (au 4 (wa gP (aj ad (v3 2) (c3 (.str "names"))) [(aj ad (v3 0) (c3 (.int 1)))]))
  (ak (bp (aJ (aj (bt false) (aj ad (v3 1) (c3 (.int 0))) (c3 (.int 0)))) (ak (di (aj nA (aj ad (aj ad (v3 2) (c3 (.str "jars"))) (v3 4)) (aj ad (v3 0) (c3 (.int 2)))) (v3 2) (c3 (.str "stuck")))
  (di (aj ba (aj ad (aj ad (v3 2) (c3 (.str "jars"))) (v3 4)) (aj ad (v3 0) (c3 (.int 2)))) (aj ad (v3 2) (c3 (.str "jars"))) (v3 4))) aS)
  (aI (ae s0 [(aj ad (v3 0) (aj aM (c3 (.int 3)) (aj ad (v3 1) (c3 (.int 0))))),(aj ad (v3 1) (c3 (.int 1))),(v3 2)])))) (bp (aJ (aj (bt false) (v3 3) (c3 (.str "often")))) (bM (bg (v3 1)) (.tp (.cons (.n 5) (.cons (.n 6) .nil))) (bM (cM (v3 5)) (.n 7) (aI (ae s0 [(aj ad (v3 0) (c3 (.int 1))),(v3 6),(v3 2)])))) aS))))))))
def dX(GC Ht s0:aF):bj:=(ak (au 5 (bb []))
  (ak (bM (cM (aj aM (c3 (.int 1)) (ae GC [(v3 0),(c3 (.int 3))]))) (.n 6) (ak (di (aj ba (aj ad (v3 2) (c3 (.int 0))) (c3 (.int 1))) (v3 2) (c3 (.int 0)))
  (bp (b_ (aJ (aj kB (v3 3) (c3 (.int 0)))) (b_ (aJ (aj kB (aj ad (v3 2) (c3 (.int 0))) (c3 (.int 0)))) (aJ (aj (bt false) (ae GC [(v3 0),(c3 (.int 3))]) (c3 (.int 0)))))) (ak (au 7 (aj aM (c3 (.int 1)) (ae GC [(v3 0),(aj ad (bb [(c3 (.int 3)),(v3 4)]) (ae GC [(v3 0),(c3 (.int 2))]))])))
  (aI (hG "list" aV (v3 5) [(aE [(c3 (.str "again")),(v3 7),(ae s0 [(v3 0),(v3 1),(v3 2),(aj ba (v3 3) (c3 (.int 1))),(v3 4)])])]))) (bp (mw (aJ (aj v7 (aj ad (v3 2) (c3 (.int 0))) (c3 (.int 0)))) (aJ (aj (bt false) (v3 5) (bb [])))) (ak (au 8 (ae GC [(v3 0),(ao b6 [(aj ad (v3 1) (c3 (.int 1)))])]))
  (aI (hG "list" aV (v3 5) [(aE [(c3 (.str "do")),(v3 8),(ae Ht [(v3 0),(aj ad (aj ad (aj ad (v3 1) (c3 (.int 1))) (v3 8)) (c3 (.int 1))),(bb [(c3 (.int 1))]),(aj ad (bb [(c3 (.int 3)),(c3 (.int 30))]) (ao dU [(aj (bt false) (ae GC [(v3 0),(c3 (.int 3))]) (c3 (.int 0)))]))])])]))) aS))))
  (aG (ao aU [(v3 5)]))))
def iq(Kw s0:aF):bj:=(bM (bg (v3 1)) (.n 4) (ak (au 5 (aj cD (aj ad (v3 4) (c3 (.int 1))) (ao dU [(aj (bt false) (aj ad (v3 4) (c3 (.int 0))) (c3 (.str "again")))])))
  (ak (ij (b_ (aJ (aj kB (v3 5) (c3 (.int 0)))) (b_ (dL (aJ (aj ad (v3 2) (c3 (.str "stuck"))))) (aJ (aj xI (aj ad (v3 2) (c3 (.str "come"))) (v3 3))))) (ak (au 5 (aj ba (v3 5) (c3 (.int 1))))
  (aI (ae s0 [(v3 0),(aj ad (v3 4) (c3 (.int 2))),(v3 2),(v3 3)]))))
  (bp (b_ (aJ (aj (bt false) (aj ad (v3 4) (c3 (.int 0))) (c3 (.str "do")))) (b_ (dL (aJ (aj ad (v3 2) (c3 (.str "stuck"))))) (aJ (aj xI (aj ad (v3 2) (c3 (.str "come"))) (v3 3))))) (ak (di (aj aM (aj ad (v3 2) (c3 (.str "come"))) (c3 (.int 1))) (v3 2) (c3 (.str "come")))
  (ak (aI (ae Kw [(aj ad (aj ad (aj ad (v3 0) (c3 (.int 1))) (aj ad (v3 4) (c3 (.int 1)))) (c3 (.int 1))),(aj ad (v3 4) (c3 (.int 2))),(v3 2)]))
  (bp (dL (aJ (aj ad (v3 2) (c3 (.str "stuck"))))) (aI (hG "list" aV (aj ad (v3 2) (c3 (.str "doings"))) [(aE [(aj ad (v3 4) (c3 (.int 1))),(ao aU [(aj ad (v3 2) (c3 (.str "jars")))]),(aj ad (v3 2) (c3 (.str "cost")))])])) aS))) aS))))
def fg:bj:=(aG (k8 [((c3 (.str "names")),(aj ad (v3 0) (c3 (.int 0)))),((c3 (.str "jars")),(ao ee [(v3 1)])),((c3 (.str "cost")),(aE [(c3 (.int 0)),(c3 (.int 1))])),((c3 (.str "stuck")),(c3 (.bl false))),((c3 (.str "doings")),(bb [])),((c3 (.str "come")),(c3 (.int 0)))]))
def cS(G9 HA GC:aF):bj:=(ak (au 4 (ae G9 [(v3 1),(bh (bg (aj ad (v3 1) (c3 (.int 0)))) (.n 0) cO (aj iL (c3 (.int 10)) (c3 (.int 9))) 1 [])]))
  (ak (aI (ae HA [(v3 1),(v3 2),(v3 4),(v3 3)]))
  (ak (au 5 (b5 (aj ad (v3 4) (c3 (.str "doings"))) sf (qu (aj aM (c3 (.int 1)) (ae GC [(v3 0),(ao fV [(c3 (.int 1)),(ao b6 [(aj ad (v3 4) (c3 (.str "doings")))])])])))))
  (ak (au 6 (bb []))
  (ak (bM (cM (ao b6 [(aj ad (v3 1) (c3 (.int 0)))])) (.n 7) (aI (hG "list" aV (v3 6) [(aj ba (aj iL (c3 (.int 10)) (c3 (.int 9))) (ao su [(aj aM (bb [(aj iL (c3 (.int 10)) (c3 (.int 9)))]) (bh (bg (v3 5)) (.tp (.cons (.n 0) (.cons (.n 1) (.cons (.n 2) .nil)))) cO (aj ad (v3 1) (v3 3)) 3 [7]))]))])))
  (aG (ao aU [(v3 6)])))))))
end CY
namespace L3
open PySem L2
theorem pC:∀{a b:List Char},a.map Char.toNat=b.map Char.toNat→a=b
 |[],[],_=>rfl
 |[],_::_,h=>by simp at h
 |_::_,[],h=>by simp at h
 |x::a,y::b,h=>by
  simp only[List.map_cons,List.cons.injEq]at h
  rw[pC h.2,Char.toNat_inj.mp h.1]
theorem aq{a b:String}:(Str.ofString a=Str.ofString b)↔a=b:=by
 refine⟨fun h=>?_,fun h=>by rw[h]⟩
 rw[Str.ofString_eq_toList,Str.ofString_eq_toList]at h
 have h':a.toList.map Char.toNat=b.toList.map Char.toNat:=by
  have:=congrArg (fun s:Str=>s.cps.toList) h
  simpa using this
 exact String.toList_inj.mp (pC h')
theorem sS{a b:String}:((Sum.inr (Str.ofString a):bG)=Sum.inr (Str.ofString b))↔a=b:=by
 rw[Sum.inr.injEq,aq]
theorem wq{i j:Int}(h1:-(2 ^ 64) < i)(h2:i < 2 ^ 64):IntMulOk i j:=(show L9 i j from .inl ⟨h1,h2⟩).ok
theorem li{i j:Int}(h1:-(2 ^ 64) < j)(h2:j < 2 ^ 64):IntMulOk i j:=(show L9 i j from .inr ⟨h1,h2⟩).ok
theorem hW{i j:Int}(h:0≤j):i.fmod j=i % j:=Int.fmod_eq_emod_of_nonneg i h
theorem DS{i j:Int}(h:0≤j):i.fdiv j=i / j:=Int.fdiv_eq_ediv_of_nonneg i h
theorem DT{i j:Int}(h:0 < j)(h2:j < 2 ^ 64):mx i j:=⟨by omega,Nat.lt_trans (show j.natAbs < 2 ^ 64 by omega) (Nat.pow_lt_pow_right (by decide) (by decide))⟩
def G_(d l:Addr)(S S':av):Prop:=∀a o,S a=some o→a≠d→a≠l→S' a=some o
theorem G_.refl{d l:Addr}{S:av}:G_ d l S S:=fun _ _ h _ _=>h
theorem G_.trans{d l:Addr}{S S1 S2:av}(a:G_ d l S S1)(b:G_ d l S1 S2):G_ d l S S2:=fun x o h h1 h2=>b x o (a x o h h1 h2) h1 h2
theorem G_.upd{d l:Addr}{S:av}{o:SO}:G_ d l S (GE S d o):=fun x u h h1 h2=>by rw[ai h1];exact h
theorem G_.Rf{d l:Addr}{S:av}{o:SO}:G_ d l S (GE S l o):=fun x u h h1 h2=>by rw[ai h2];exact h
theorem G_.new{d l p:Addr}{S:av}{o:SO}(h:S p=none):G_ d l S (GE S p o):=fun x u hx h1 h2=>by rw[ai (fun e=>by rw[e,h]at hx;cases hx)];exact hx
end L3
local macro_rules | `(tactic| walk_at "x")=>`(tactic| ((try dsimp only [L3.ak,L3.au,L3.aG,L3.aI,L3.bp,L3.aS,L3.aj,L3.v3,L3.c3,L3.lk,L3.ar,L3.ao,L3.ae,L3.hG,L3.aJ,L3.b_,L3.mw,L3.dL,L3.vH,L3.Br,L3.vI,L3.vJ,L3.di,L3.tP,L3.k4,L3.aE,L3.bb,L3.ul,L3.km,L3.ad,L3.cr,L3.b5,L3.sf,L3.qu,L3.qT,L3.bS,L3.dQ,L3.ba,L3.fW,L3.hJ,L3.iL,L3.nA,L3.xI,L3.kB,L3.v7,L3.bt,L3.Es,L3.aM,L3.cD,L3.b6,L3.tN,L3.fV,L3.vP,L3.dU,L3.aU,L3.ee,L3.kn,List.set_cons_zero,List.set_cons_succ,List.set_nil,L3.um,L3.cN,L3.tO,L3.bh,L3.bg,L3.fE,L3.bM,L3.ko,L3.Tg.put,L3.Tg.HM,L3.yR,L3.k8,L3.ik,L3.o_,L3.cM,L3.Bz,L3.vX,L3.nz,L3.aV,L3.nv,L3.BG,List.reduceReplicate,List.map_cons,List.map_nil,List.cons_append,List.nil_append,L3.cR,L3.du,L3.ka]); (try simp only [L3.ak,L3.au,L3.aG,L3.aI,L3.bp,L3.aS,L3.aj,L3.v3,L3.c3,L3.lk,L3.ar,L3.ao,L3.ae,L3.hG,L3.aJ,L3.b_,L3.mw,L3.dL,L3.vH,L3.Br,L3.vI,L3.vJ,L3.di,L3.tP,L3.k4,L3.aE,L3.bb,L3.ul,L3.km,L3.ad,L3.cr,L3.b5,L3.sf,L3.qu,L3.qT,L3.bS,L3.dQ,L3.ba,L3.fW,L3.hJ,L3.iL,L3.nA,L3.xI,L3.kB,L3.v7,L3.bt,L3.Es,L3.aM,L3.cD,L3.b6,L3.tN,L3.fV,L3.vP,L3.dU,L3.aU,L3.ee,L3.kn,List.set_cons_zero,List.set_cons_succ,List.set_nil,L3.um,L3.cN,L3.tO,L3.bh,L3.bg,L3.fE,L3.bM,L3.ko,L3.Tg.put,L3.Tg.HM,L3.yR,L3.k8,L3.ik,L3.o_,L3.cM,L3.Bz,L3.vX,L3.nz,L3.aV,L3.nv,L3.BG,List.reduceReplicate,List.map_cons,List.map_nil,List.cons_append,List.nil_append,L3.cR,L3.du,L3.ka])))
namespace C
open PySem L2 L3
noncomputable def bX(seed number:Int)(l:Addr):List (bG×PV):=[(Sum.inr "seed",.int seed),(Sum.inr "number",.int number),(Sum.inr "left",.ref l)]
structure Jr (S:av) (d l:Addr) (seed number:Int) (left:List Int):Prop where
 d:S d=some (.dct (bX seed number l))
 l:S l=some (.lst (left.map PV.int))
 s0:0≤seed
 s1:seed < 2147483647
 nm:0≤number
 lf:∀x∈left,0≤x
 ln:left.length≤100
def GF(S:av)(d l:Addr):Prop:=∃seed number left,Jr S d l seed number left
theorem Jr.ne{S:av}{d l:Addr}{seed number:Int}{left:List Int}(D:Jr S d l seed number left):d≠l:=fun e=>by
 have h:=D.d
 rw[e,D.l]at h
 cases h
theorem GF.ne{S:av}{d l:Addr}(D:GF S d l):d≠l:=let ⟨_,_,_,D⟩:=D;D.ne
theorem GF.new{S:av}{d l p:Addr}{o:SO}(D:GF S d l)(h:S p=none):GF (GE S p o) d l:=by
 obtain⟨s,n,f,D⟩:=D
 refine⟨s,n,f,?_,?_,D.s0,D.s1,D.nm,D.lf,D.ln⟩
 ·rw[ai (fun e=>by have:=D.d;rw[e,h]at this;cases this)];exact D.d
 ·rw[ai (fun e=>by have:=D.l;rw[e,h]at this;cases this)];exact D.l
theorem GF.upd{S:av}{d l p:Addr}{o:SO}(D:GF S d l)(h1:p≠d)(h2:p≠l):GF (GE S p o) d l:=by
 obtain⟨s,n,f,D⟩:=D
 exact⟨s,n,f,by rw[ai h1.symm];exact D.d,by rw[ai h2.symm];exact D.l,D.s0,D.s1,D.nm,D.lf,D.ln⟩
theorem GF.free{S:av}{d l p:Addr}(D:GF S d l)(h:S p=none):p≠d∧p≠l:=by
 obtain⟨s,n,f,D⟩:=D
 exact⟨(fun e=>by have:=D.d;rw[←e,h]at this;cases this),(fun e=>by have:=D.l;rw[←e,h]at this;cases this)⟩
theorem lj(s n m:Int)(l:Addr):gW (bX s n l) (Sum.inr "number") (.int m)=bX s m l:=by
 simp[gW,bX,sS,aq]
theorem wt(s n m:Int)(l:Addr):gW (bX s n l) (Sum.inr "seed") (.int m)=bX m n l:=by
 simp[gW,bX,sS,aq]
theorem BS(s n:Int)(l:Addr):dM (bX s n l) (Sum.inr "seed")=some (.int s):=by simp[dM,bX,sS,aq]
theorem wu(s n:Int)(l:Addr):dM (bX s n l) (Sum.inr "number")=some (.int n):=by simp[dM,bX,sS,aq]
theorem BU(s n:Int)(l:Addr):dM (bX s n l) (Sum.inr "left")=some (.ref l):=by simp[dM,bX,sS,aq]
abbrev bq(w:aF):Prop:=∀{S:av} {d l:Addr} {m:Int} {Q:bN} {E:bO},GF S d l→0 < m→m < 2 ^ 62→(∀r S',0≤r→r < m→GF S' d l→G_ d l S S'→Q (.int r) S')→w [.ref d,.int m] S Q E
theorem GD:bq (bi 5 fY):=by
  intro S d l m Q E D h0 h1 k
  obtain⟨seed,number,left,D⟩:=D
  have hne:=D.ne
  have hsz:∀a b,(bX a b l).length < sizeLine:=fun _ _=>de (by show 3≤1000;decide)
  have fin:∀num K1 S1,Jr S1 d l seed num K1→G_ d l S S1→¬(num=0∧0 < K1.length)→
      (if 0 < num then mx num m∧(bX seed num l).length < sizeLine∧m≠0∧Q (PV.int (num.fmod m)) (GE S1 d (SO.dct (bX seed (num.fdiv m) l)))
       else IntMulOk seed 48271∧(2147483647:Int)≠0∧IntMulOk ((seed * 48271+7919).fmod 2147483647) 40692∧(2147483399:Int)≠0∧(bX seed num l).length < sizeLine∧
        IntMulOk (((seed * 48271+7919).fmod 2147483647 * 40692+104729).fmod 2147483399) (((seed * 48271+7919).fmod 2147483647 * 40692+104729).fmod 2147483399)∧(2147483563:Int)≠0∧
        IntMulOk ((seed * 48271+7919).fmod 2147483647) ((seed * 48271+7919).fmod 2147483647)∧(2147483629:Int)≠0∧
        IntMulOk (((seed * 48271+7919).fmod 2147483647 * (seed * 48271+7919).fmod 2147483647).fmod 2147483629) 2147483563∧m≠0∧
        Q (PV.int ((((seed * 48271+7919).fmod 2147483647 * (seed * 48271+7919).fmod 2147483647).fmod 2147483629 * 2147483563+((((seed * 48271+7919).fmod 2147483647 * 40692+104729).fmod 2147483399) * (((seed * 48271+7919).fmod 2147483647 * 40692+104729).fmod 2147483399)).fmod 2147483563).fmod m))
          (GE S1 d (SO.dct (bX (((seed * 48271+7919).fmod 2147483647 * 40692+104729).fmod 2147483399) num l)))):=by
    intro num K1 S1 D1 O1 hz
    split
    · rename_i hp
      rw[hW (Int.le_of_lt h0),DS (Int.le_of_lt h0)]
      refine⟨DT h0 (by omega),hsz _ _,by omega,k _ _ (Int.emod_nonneg _ (by omega)) (Int.emod_lt_of_pos _ h0) ⟨seed,num / m,K1,aa,by rw[ai hne.symm];exact D1.l,D1.s0,D1.s1,Int.ediv_nonneg D1.nm (Int.le_of_lt h0),D1.lf,D1.ln⟩ (O1.trans .upd)⟩
    · have e1:∀x:Int,x.fmod 2147483647=x % 2147483647:=fun x=>hW (by decide)
      have e2:∀x:Int,x.fmod 2147483399=x % 2147483399:=fun x=>hW (by decide)
      simp only[e1,e2,hW (Int.le_of_lt h0)]
      have p1:=D1.s0
      have p2:=D1.s1
      refine⟨li (by decide) (by decide),by decide,li (by decide) (by decide),by decide,hsz _ _,wq (by omega) (by omega),by decide,wq (by omega) (by omega),by decide,li (by decide) (by decide),by omega,
        k _ _ (Int.emod_nonneg _ (by omega)) (Int.emod_lt_of_pos _ h0) ⟨_,num,K1,aa,by rw[ai hne.symm];exact D1.l,by omega,by omega,D1.nm,D1.lf,D1.ln⟩ (O1.trans .upd)⟩
  unfold bi fY
  rw[show aB 5 [PV.ref d,PV.int m]=[some (.ref d),some (.int m),none,none,none] from rfl]
  simp only[ak]
  refine⟨fun n σ S'=>σ=[some (.ref d),some (.int m),none,none,none]∧∃number left,Jr S' d l seed number left∧left.length=n∧G_ d l S S',⟨_,rfl,number,left,D,rfl,.refl⟩,?_⟩
  rintro n σ S1 ⟨rfl,num,K1,D1,hn,O1⟩
  walk_at "x"
  simp only[D1.d,D1.l,wu,BU,BS,wt,lj,aa,Bool.false_bne,decide_eq_true_eq]
  have hlen:(List.map PV.int K1).length=K1.length:=List.length_map ..
  rw[hlen]
  split
  · rename_i hz
    subst hz
    split
    · rename_i hl
      refine⟨fun σ S'=>σ=[some (.ref d),some (.int m),none,none,none]∧∃number left,Jr S' d l seed number left∧left.length < n∧G_ d l S S',?_,?_⟩
      · rintro σ' S' ⟨rfl,a,b,h2,h3,h4⟩
        exact⟨_,h3,rfl,a,b,h2,rfl,h4⟩
      · have hl':0 < K1.length:=by omega
        obtain⟨pre,x,rfl⟩:∃pre x,K1=pre++[x]:=by
          refine⟨K1.dropLast,K1.getLast (by intro e;rw[e]at hl';simp at hl'),(List.dropLast_concat_getLast _).symm⟩
        refine⟨trivial,?_⟩
        rw[show(List.map PV.int (pre++[x]))[(pre++[x]).length - 1]?=some (.int x) by simp,show(List.map PV.int (pre++[x])).dropLast=pre.map PV.int by simp]
        simp only[ai hne,D1.d,lj]
        refine⟨hsz _ _,trivial,x,pre,⟨aa,by rw[ai hne.symm,aa],D1.s0,D1.s1,D1.lf x (by simp),fun y hy=>D1.lf y (by simp[hy]),by have:=D1.ln;simp at this;omega⟩,?_,O1.trans (G_.Rf.trans .upd)⟩
        rw[←hn];simp
    · rename_i hl
      exact fin 0 K1 S1 D1 O1 (fun z=>hl (by omega))
  · rename_i hz
    rw[if_neg (by decide)]
    exact fin num K1 S1 D1 O1 (fun z=>hz z.1)
end C
namespace L3
open PySem L2
def Ext(S S':av):Prop:=∀a o,S a=some o→S' a=some o
theorem Ext.refl{S:av}:Ext S S:=fun _ _ h=>h
theorem Ext.trans{S S1 S2:av}(a:Ext S S1)(b:Ext S1 S2):Ext S S2:=fun x o h=>b x o (a x o h)
theorem Ext.new{S:av}{p:Addr}{o:SO}(h:S p=none):Ext S (GE S p o):=fun x u hx=>by rw[ai (fun e=>by rw[e,h]at hx;cases hx)];exact hx
theorem Ext.free{S S':av}(e:Ext S S'){p:Addr}(h:S' p=none):S p=none:=by
 cases q:S p with
 |none=>rfl
 |some o=>rw[e p o q]at h;cases h
theorem fh{g:Tg}{tc:iG}{te:aL}{σ':b9}{keep:av→Prop}{fin:List PV→av→Prop}{S:av}(f:PV→PV)(c:PV→Bool)(hk:keep S):∀(items ys:List PV),
  (∀x∈items,∃σ2,g.put x σ'=some σ2∧(∀Q:Bool→av→Prop,Q (c x) S→tc σ2 S Q gX)∧(c x=true→∀Q:bN,Q (f x) S→te σ2 S Q gX))→ys.length+items.length≤sizeLine→fin (ys++(items.filter c).map f) S→eA g tc te σ' keep fin items ys S
 |[],ys,_,hl,hf=>⟨hk,by simpa using hl,by simpa using hf⟩
 |x::r,ys,h,hl,hf=>by
  obtain⟨σ2,e,h1,h2⟩:=h x (by simp)
  refine⟨hk,by simp at hl;omega,?_⟩
  rw[e]
  refine h1 _ ?_
  cases hc:c x with
  |true=>
   rw[if_pos rfl]
   refine h2 hc _ (fh f c hk r (ys++[f x]) (fun y hy=>h y (by simp[hy])) (by simp at hl ⊢;omega) ?_)
   rw[List.filter_cons,hc,if_pos rfl]at hf
   simpa using hf
  |false=>
   rw[if_neg (by decide)]
   refine fh f c hk r ys (fun y hy=>h y (by simp[hy])) (by simp at hl ⊢;omega) ?_
   rw[List.filter_cons,hc,if_neg (by decide)]at hf
   exact hf
theorem tV{g:Tg}{te:aL}{σ':b9}{keep:av→Prop}{fin:List PV→av→Prop}{S:av}(f:PV→PV){items:List PV}(hk:keep S)
  (h:∀x∈items,∃σ2,g.put x σ'=some σ2∧∀Q:bN,Q (f x) S→te σ2 S Q gX) (hl:items.length≤sizeLine) (hf:fin (items.map f) S):eA g cO te σ' keep fin items [] S:=by
 refine fh f (fun _=>true) hk items [] (fun x hx=>?_) (by simpa using hl) (by rw[List.filter_eq_self.mpr (fun _ _=>rfl)];exact hf)
 obtain⟨σ2,e,k⟩:=h x hx
 exact⟨σ2,e,fun Q q=>q,fun _=>k⟩
theorem mJ{g:Tg}{tc:iG}{te:aL}{σ':b9}{keep:av→Prop}{fin:List PV→av→Prop}{items:List PV}(Iv:List PV→List PV→av→Prop)(hk:∀done ys S,Iv done ys S→keep S∧ys.length≤sizeLine)
  (step:∀done x rest ys S (K:List PV→av→Prop),items=done++x::rest→Iv done ys S→(∀ys' S',Iv (done++[x]) ys' S'→K ys' S')→match g.put x σ' with
   |some σ2=>tc σ2 S (fun b S3=>if b=true then te σ2 S3 (fun y S4=>K (ys++[y]) S4) gX else K ys S3) gX
   |none=>False)
  (hf:∀ys S,Iv items ys S→fin ys S):∀(rest done ys:List PV) (S:av),items=done++rest→Iv done ys S→eA g tc te σ' keep fin rest ys S
 |[],done,ys,S,e,h=>by
  rw[List.append_nil]at e
  exact⟨(hk _ _ _ h).1,(hk _ _ _ h).2,hf ys S (e▸h)⟩
 |x::rest,done,ys,S,e,h=>by
  refine⟨(hk _ _ _ h).1,(hk _ _ _ h).2,?_⟩
  exact step done x rest ys S (fun ys' S'=>eA g tc te σ' keep fin rest ys' S') e h fun ys' S' h'=>mJ Iv hk step hf rest (done++[x]) ys' S' (by rw[e];simp) h'
theorem pD{g:Tg}{tb:bj}{D:iH}{keep:av→Prop}{items:List PV}(Iv:List PV→b9→av→Prop)(hk:∀done σ S,Iv done σ S→keep S)
  (step:∀done x rest σ S (K:b9→av→Prop),items=done++x::rest→Iv done σ S→(∀σ' S',Iv (done++[x]) σ' S'→K σ' S')→match g.put x σ with
   |some σ'=>tb { D with nx:=K,ct:=K,bk:=D.nx } σ' S
   |none=>False)
  (hd:∀σ S,Iv items σ S→D.nx σ S):∀(rest done:List PV) (σ:b9) (S:av),items=done++rest→Iv done σ S→o9 g tb D keep rest σ S
 |[],done,σ,S,e,h=>by
  rw[List.append_nil]at e
  exact⟨hk _ _ _ h,hd σ S (e▸h)⟩
 |x::rest,done,σ,S,e,h=>
  ⟨hk _ _ _ h,step done x rest σ S (o9 g tb D keep rest) e h fun σ' S' h'=>pD Iv hk step hd rest (done++[x]) σ' S' (by rw[e];simp) h'⟩
theorem bE{g:Tg}{tb:bj}{D:iH}{keep:av→Prop}{items:List PV}{σ:b9}{S:av}(Iv:List PV→b9→av→Prop)(h0:Iv [] σ S)(hk:∀done σ S,Iv done σ S→keep S)
  (step:∀done x rest σ S (K:b9→av→Prop),items=done++x::rest→Iv done σ S→(∀σ' S',Iv (done++[x]) σ' S'→K σ' S')→match g.put x σ with
   |some σ'=>tb { D with nx:=K,ct:=K,bk:=D.nx } σ' S
   |none=>False)
  (hd:∀σ S,Iv items σ S→D.nx σ S):o9 g tb D keep items σ S:=pD Iv hk step hd items [] σ S rfl h0
theorem iO{g:Tg}{tc:iG}{te:aL}{σ':b9}{keep:av→Prop}{fin:List PV→av→Prop}{items:List PV}{S:av}(Iv:List PV→List PV→av→Prop)(h0:Iv [] [] S)(hk:∀done ys S,Iv done ys S→keep S∧ys.length≤sizeLine)
  (step:∀done x rest ys S (K:List PV→av→Prop),items=done++x::rest→Iv done ys S→(∀ys' S',Iv (done++[x]) ys' S'→K ys' S')→match g.put x σ' with
   |some σ2=>tc σ2 S (fun b S3=>if b=true then te σ2 S3 (fun y S4=>K (ys++[y]) S4) gX else K ys S3) gX
   |none=>False)
  (hf:∀ys S,Iv items ys S→fin ys S):eA g tc te σ' keep fin items [] S:=mJ Iv hk step hf items [] [] S rfl h0
theorem ax{t u:bj}{D:iH}{σ:b9}{S:av}(h:∀N:b9→av→Prop,(∀σ S,u D σ S→N σ S)→t { D with nx:=N } σ S):ak t u D σ S:=h (u D) fun _ _ q=>q
theorem fL{n:Nat}{b:bj}{args:List PV}{S:av}{Q:bN}{E:bO}(h:b { nx:=fun _ S'=>Q .non S',rt:=Q,ex:=gX } (aB n args) S):bi n b args S Q E:=h
theorem pE{α β:Type}(f:α→β)(xs:List α)(lo hi:Option Int):fU (xs.map f) lo hi=(fU xs lo hi).map f:=by
 unfold fU
 rw[List.length_map,List.map_take,List.map_drop]
theorem pF{α:Type}(xs:List α)(lo hi:Option Int):(fU xs lo hi).length≤xs.length:=by
 unfold fU
 rw[List.length_take,List.length_drop]
 omega
theorem cL{n:Nat}(h:n≤1000):n≤sizeLine:=Nat.le_of_lt (de h)
section
variable {α:Type} {a b c d e:α} {l:List α}
theorem eN:Hv (a::l) 0=some a:=by simp[Hv,oQ]
theorem eF:Hv (a::b::l) 1=some b:=ci (j:=1) rfl
theorem lV:Hv (a::b::c::l) 2=some c:=ci (j:=2) rfl
theorem FT:Hv (a::b::c::d::l) 3=some d:=ci (j:=3) rfl
theorem FU:Hv (a::b::c::d::e::l) 4=some e:=ci (j:=4) rfl
theorem BV:Hv [a] (-1)=some a:=rfl
theorem BW:Hv [a,b] (-1)=some b:=rfl
theorem BX:Hv [a,b,c] (-1)=some c:=rfl
theorem BY:Hv [a,b,c,d] (-1)=some d:=rfl
theorem BZ:Hv [a,b,c,d,e] (-1)=some e:=rfl
theorem B1:Hv [a,b] (-2)=some a:=rfl
theorem B2:Hv [a,b,c] (-2)=some b:=rfl
theorem B3:Hv [a,b,c,d] (-2)=some c:=rfl
theorem B4:Hv [a,b,c,d,e] (-2)=some d:=rfl
end
theorem bQ(lo:Int)(n:Nat):(bH lo n).length=n:=by simp[bH]
end L3
namespace C
open PySem L2 L3
abbrev pG(w:aF):Prop:=∀{S:av} {ns:List Int} {b:Int} {Q:bN} {E:bO},ns.length≤63→0≤b→b < 1000→(∀d l S',S d=none→S l=none→GF S' d l→Ext S S'→Q (.ref d) S')→w [.cl (ns.map PV.int),.int b] S Q E
theorem Kh:pG (bi 5 fX):=by
 intro S ns b Q E hn h0 h1 k
 unfold bi fX
 rw[show aB 5 [PV.cl (ns.map PV.int),PV.int b]=[some (.cl (ns.map PV.int)),some (.int b),none,none,none] from rfl]
 walk_at "x"
 intro p hp
 rw[aa]
 dsimp only
 rw[pE]
 have hx:(fU ns (some b) (some 63)).length≤63:=Nat.le_trans (pF _ _ _) hn
 generalize fU ns (some b) (some 63)=xs at hx
 refine tV (fun v=>match v with | .int i=>.int (if 0 - i > i then 0 - i else i)|v=>v) aa (fun x hx=>?_) (cL (by rw[List.length_map];omega)) ?_
 ·obtain⟨i,hi,rfl⟩:=List.mem_map.mp hx
  refine⟨[some (.int i)],rfl,fun Q q=>?_⟩
  walk_at "x"
  exact q
 intro p2 hp2
 rw[aa]
 dsimp only
 rw[List.map_map]
 have e0:(xs.map ((fun v=>match v with | .int i=>.int (if 0 - i > i then 0 - i else i)|v=>v) ∘ PV.int))=(xs.map fun i=>if 0 - i > i then 0 - i else i).map PV.int:=by
  rw[List.map_map];rfl
 rw[e0]
 have hy:((xs.map fun i=>if 0 - i > i then 0 - i else i)).length≤63:=by rw[List.length_map];exact hx
 have Nf:∀y∈xs.map (fun i:Int=>if 0 - i > i then 0 - i else i),0≤y:=by
  intro y hy
  obtain⟨i,_,rfl⟩:=List.mem_map.mp hy
  split<;>omega
 generalize (xs.map fun i=>if 0 - i > i then 0 - i else i)=ys at hy Nf
 have h2:p2≠p:=fun e=>by rw[e,aa]at hp2;cases hp2
 have hp2':S p2=none:=by rw[←hp2,ai h2]
 refine bE (fun done σ S'=>S'=GE (GE S p (.lst (xs.map PV.int))) p2 (.lst (ys.map PV.int))∧∃v2 n,0≤n∧n < 2147483647∧σ=[some (.cl (ns.map PV.int)),some (.int b),v2,some (.ref p2),some (.int n)]) ⟨rfl,none,7919+b,by omega,by omega,rfl⟩ (fun done σ S' h=>by rw[h.1];exact aa) ?_ ?_
 ·rintro done x rest σ S' K e ⟨rfl,v2,n,n0,n1,rfl⟩ hK
  obtain⟨i,hi,rfl⟩:∃i,i∈ys∧x = .int i:=by
   have:x∈ys.map PV.int:=by rw[e];simp
   obtain⟨i,hi,rfl⟩:=List.mem_map.mp this
   exact⟨i,hi,rfl⟩
  walk_at "x"
  refine⟨li (by decide) (by decide),by decide,by decide,hK _ _ ⟨rfl,_,_,?_,?_,rfl⟩⟩
  ·rw[hW (by decide)];omega
  ·rw[hW (i:=(n * 48271+_)) (by decide)];omega
 ·rintro σ S' ⟨rfl,v2,n,n0,n1,rfl⟩
  walk_at "x"
  intro d hd
  have hd2:d≠p2:=fun e=>by rw[e,aa]at hd;cases hd
  rw[ai hd2]at hd
  have hd1:d≠p:=fun e=>by rw[e,aa]at hd;cases hd
  rw[ai hd1]at hd
  rw[ai hd2.symm,aa]
  dsimp only
  refine fh (fun v=>v) (fun v=>match v with | .int i=>decide (10 ^ 18≤i)|_=>false) (by rw[ai hd2.symm,aa]) _ [] (fun x hx=>?_) (by rw[List.length_map];exact cL (by simp;omega)) ?_
  ·obtain⟨i,hi,rfl⟩:=List.mem_map.mp hx
   refine⟨[some (.int i)],rfl,fun Q q=>?_,fun _ Q q=>?_⟩
   ·walk_at "x"
    exact⟨⟨by decide,by decide,by decide⟩,q⟩
   ·walk_at "x"
    exact q
  intro p3 hp3
  rw[aa]
  intro l hl
  have e3:([]++List.map (fun v:PV=>v) (List.filter (fun v=>match v with | .int i=>decide (10 ^ 18≤i)|_=>false) (List.map PV.int ys)))=(ys.filter fun i=>decide (10 ^ 18≤i)).map PV.int:=by
   rw[List.nil_append,List.map_id',List.filter_map]
   rfl
  rw[e3]at hl ⊢
  rw[←List.map_reverse]
  generalize Qg:GE (GE (GE (GE S p (SO.lst (List.map PV.int xs))) p2 (SO.lst (List.map PV.int ys))) d (SO.dct [])) p3 (SO.lst (List.map PV.int (List.filter (fun i=>decide (10 ^ 18≤i)) ys)))=S3 at hl ⊢
  have Qh:S3 d=some (.dct []):=by rw[←Qg,ai (fun e=>by rw[←e,aa]at hp3;cases hp3),aa]
  have Qi:l≠d:=fun e=>by rw[e,Qh]at hl;cases hl
  have Pe:Ext S S3:=by
   rw[←Qg]
   refine(Ext.new hp).trans ((Ext.new hp2).trans ((Ext.new ?_).trans (.new hp3)))
   rw[ai hd2,ai hd1];exact hd
  refine⟨by rw[ai Qi.symm];exact Qh,?_⟩
  have e4:k6 [(PV.str "seed",PV.int n),(PV.str "number",PV.int 0),(PV.str "left",PV.ref l)]=some (bX n 0 l):=rfl
  rw[e4]
  have e5:jC [] (bX n 0 l)=bX n 0 l:=by simp[jC,bX,gW,sS,aq]
  dsimp only
  rw[e5]
  refine k d l _ hd (Pe.free hl) ⟨n,0,_,aa,by rw[ai Qi,aa],n0,n1,Int.le_refl _,fun y hy=>?_,?_⟩ ?_
  ·exact Nf y (List.mem_filter.mp (List.mem_reverse.mp hy)).1
  ·rw[List.length_reverse]
   exact Nat.le_trans (List.length_filter_le _ _) (by omega)
  ·intro a o ha
   have had:a≠d:=fun e=>by rw[e,hd]at ha;cases ha
   rw[ai had,ai (fun e=>by rw[e,Pe.free hl]at ha;cases ha)]
   exact Pe a o ha
end C
namespace L3
open PySem L2
theorem ll(S:av):∀zs:List Str,Ir S (zs.map PV.str) (zs.map PyData.str)
 |[]=>.nil
 |z::r=>.cons (.str z) (ll S r)
theorem gt:∀{zs:List Str},(∀z∈zs,PyData.strOk z=true)→PyData.canLayAll0 (zs.map PyData.str)=true
 |[],_=>rfl
 |z::r,h=>by
  show(PyData.canLay0 (.str z)&&PyData.canLayAll0 (r.map PyData.str))=true
  rw[gt fun y hy=>h y (by simp[hy])]
  have:PyData.canLay0 (.str z)=true:=h z (by simp)
  rw[this];rfl
theorem lm(z:Str)(zs:List Str):j9 (.str z) (zs.map PyData.str)=decide (z∈zs):=by
 unfold j9
 rw[List.any_map,Bool.eq_iff_iff,List.any_eq_true,decide_eq_true_iff]
 constructor
 ·rintro⟨y,hy,e⟩
  have e':(y == z)=true:=e
  exact(eq_of_beq e')▸hy
 ·intro h
  exact⟨z,h,beq_self_eq_true z⟩
theorem sv{neg:Bool}{z:Str}{zs:List Str}{a:Addr}{S:av}{Q:bN}(hS:S a=some (.lst (zs.map PV.str)))(hz:PyData.strOk z=true)(hzs:∀y∈zs,PyData.strOk y=true)(q:Q (.bl (neg != decide (z∈zs))) S):qr neg (.str z) (.ref a) S Q:=by
 unfold qr
 simp only[hS]
 exact⟨_,_,.str z,ll S zs,hz,gt hzs,by show 0≤150;decide,by rw[lm];exact q⟩
theorem gu{neg:Bool}{z:Str}{zs:List Str}{S:av}{Q:bN}(hz:PyData.strOk z=true)(hzs:∀y∈zs,PyData.strOk y=true)(q:Q (.bl (neg != decide (z∈zs))) S):qr neg (.str z) (.tup (zs.map PV.str)) S Q:=by
 unfold qr
 exact⟨_,_,.str z,ll S zs,hz,gt hzs,by show 0≤150;decide,by rw[lm];exact q⟩
end L3
namespace C
open PySem L2 L3 Wd
abbrev kC(w:aF):Prop:=∀{S:av} {t b:Int} {Q:bN} {E:bO},0 < b→b.natAbs < 2 ^ 8000→Q (.tup [.int (M3.bC t b),.int (M3.a_ t b)]) S→w [.int t,.int b] S Q E
theorem JR:kC (bi 4 im):=by
 intro S t b Q E hb hs k
 unfold bi im
 rw[show aB 4 [PV.int t,PV.int b]=[some (.int t),some (.int b),none,none] from rfl]
 simp only[ak]
 walk_at "x"
 refine⟨fun n σ S'=>S'=S∧∃x y:Int,σ=[some (.int t),some (.int b),some (.int x),some (.int y)]∧0≤x∧0≤y∧Int.gcd x y=Int.gcd t b∧y.toNat=n,⟨_,rfl,_,b,rfl,by split<;>omega,by omega,?_,rfl⟩,?_⟩
 ·split
  ·rw[show(0 - t) = -t by omega,Int.neg_gcd]
  ·rfl
 rintro n σ S' ⟨rfl,x,y,rfl,hx,hy,hg,rfl⟩
 walk_at "x"
 simp only[decide_eq_true_eq]
 split
 ·rename_i hp
  refine⟨fun σ' Lz=>Lz=S'∧∃x' y':Int,σ'=[some (.int t),some (.int b),some (.int x'),some (.int y')]∧0≤x'∧0≤y'∧Int.gcd x' y'=Int.gcd t b∧y'.toNat < y.toNat,?_,?_⟩
  ·rintro σ' Lz ⟨rfl,x',y',rfl,h1,h2,h3,h4⟩
   exact⟨_,h4,rfl,x',y',rfl,h1,h2,h3,rfl⟩
  ·walk_at "x"
   have e:x.fmod y=x % y:=hW hy
   have l1:=Int.emod_nonneg x (b:=y) (by omega)
   have l2:=Int.emod_lt_of_pos x hp
   refine⟨by omega,trivial,y,x.fmod y,rfl,hy,by omega,?_,by omega⟩
   rw[M3.oW];exact hg
 ·rename_i hp
  have Nf:y=0:=by omega
  subst Nf
  have Pf:x=(Int.gcd t b:Int):=by
   rw[←hg]
   rw[Int.gcd_zero_right]
   omega
  subst Pf
  have gp:(0:Int) < (Int.gcd t b:Int):=Int.natCast_pos.mpr (M3.gN (by omega))
  have gl:=M3.vi (t:=t) (b:=b) (by omega)
  have cd:∀z,mx z (Int.gcd t b:Int):=fun z=>⟨by omega,Nat.lt_of_le_of_lt (by omega) hs⟩
  refine⟨cd _,cd _,?_⟩
  have d1:=(M3.oV (t:=t) (b:=b) (by omega))
  rw[if_neg (by omega)]at d1
  rw[d1.1,d1.2]
  exact k
structure nM (x y:Int):Prop where
 low:M3.Ep x y
 x0:0≤x
 x1:x≤999
 y1:y≤9
theorem jH{n:Nat}(h:n < 2 ^ 64):n < 2 ^ 8000:=Nat.lt_trans h (Nat.pow_lt_pow_right (by decide) (by decide))
abbrev iP(w:aF):Prop:=∀{S:av} {d l:Addr} {Q:bN} {E:bO},GF S d l→(∀x y S',nM x y→GF S' d l→G_ d l S S'→Q (.tup [.int x,.int y]) S')→w [.ref d] S Q E
theorem Jh{wd wl:aF}(GD:bq wd)(JR:kC wl):iP (bi 2 (fZ wd wl)):=by
 intro S d l Q E D k
 unfold bi fZ
 rw[show aB 2 [PV.ref d]=[some (.ref d),none] from rfl]
 walk_at "x"
 refine GD D (by decide) (by decide) fun r S1 r0 r1 D1 O1=>?_
 simp only[Bool.false_bne,decide_eq_true_eq]
 split
 ·exact k 0 1 S1 ⟨⟨by decide,by decide⟩,by decide,by decide,by decide⟩ D1 O1
 ·split
  ·refine GD D1 (by decide) (by decide) fun r2 S2 a0 a1 D2 O2=>?_
   exact k _ 1 S2 ⟨⟨by decide,Int.gcd_one_right _⟩,by omega,by omega,by decide⟩ D2 (O1.trans O2)
  ·refine GD D1 (by decide) (by decide) fun r2 S2 a0 a1 D2 O2=>GD D2 (by decide) (by decide) fun r3 S3 b0 b1 D3 O3=>?_
   refine JR (by omega) (jH (by omega)) ?_
   have z:=M3.vk (t:=r2) (b:=1+r3) (T:=999) (B:=9) (by omega) (by omega) (by omega) (by omega) (by omega) (by decide) (by decide)
   refine k _ _ S3 ⟨M3.ng (by omega),?_,z.2.1,z.2.2.2⟩ D3 (O1.trans (O2.trans O3))
   unfold M3.bC
   rw[if_neg (by omega)]
   exact Int.ediv_nonneg a0 (by omega)
theorem tW{r:Int}(h0:0≤r)(h1:r < 26):∃c,Hv abc.cps.toList r=some c∧97≤c∧c≤122:=by
 obtain⟨n,rfl⟩:=Int.eq_ofNat_of_zero_le h0
 have q:=nb n
 rw[Nat.mod_eq_of_lt (by omega)]at q
 exact⟨_,q,by omega,by omega⟩
theorem nN{z:Str}(h:IsW z):PyData.strOk z=true:=by
 unfold PyData.strOk
 rw[Array.all_eq_true']
 intro c hc
 have:=h.sm c (by simpa using hc)
 simp;omega
theorem zh:∀z∈Hz,PyData.strOk z=true:=by decide +kernel
theorem jI:∀zs:List Str,texts (zs.map PV.str)=some zs
 |[]=>rfl
 |z::r=>by show(texts (r.map PV.str)).map (z::·)=_;rw[jI r];rfl
theorem tX:("":Str).length=0:=by decide +kernel
theorem mK{cs:List Nat}(h:cs.length≤1000):((cs.map ju).map (·.length)).sum+(cs.map ju).length * ("":Str).length≤1000000:=by
 rw[yA,tX]
 omega
theorem lp{w__law_draw:aF}(GD:bq w__law_draw){S:av}{d l:Addr}{σ:b9}{n:Int}{fin:List PV→av→Prop}(D:GF S d l)(hn:n.toNat≤100)(h1:lk σ 1=some (.ref d))(h2:lk σ 2=some (.str abc))(hσ:∃x,σ=[x,some (.ref d),some (.str abc)])
  (k:∀(cs:List Nat) S',cs.length=n.toNat→(∀c∈cs,97≤c∧c≤122)→GF S' d l→G_ d l S S'→fin ((cs.map ju).map PV.str) S') :
  eA (Tg.n 0) cO (aj ad (v3 2) (ae w__law_draw [v3 1,c3 (.int 26)])) σ (fun _=>True) fin (bH 0 n.toNat) [] S:=by
 obtain⟨x0,rfl⟩:=hσ
 refine iO (fun done ys S'=>∃cs:List Nat,ys=(cs.map ju).map PV.str∧cs.length=done.length∧done.length≤n.toNat∧(∀c∈cs,97≤c∧c≤122)∧GF S' d l∧G_ d l S S') ⟨[],rfl,rfl,Nat.zero_le _,by simp,D,.refl⟩ ?_ ?_ ?_
 ·rintro done ys S' ⟨cs,rfl,e,hd,_⟩
  exact⟨trivial,cL (by rw[List.length_map,List.length_map,e];omega)⟩
 ·rintro done x rest ys S' K e ⟨cs,rfl,e2,hd,hc,D',O'⟩ hK
  have hlen:done.length+1≤n.toNat:=by
   have:=congrArg List.length e
   rw[bQ,List.length_append,List.length_cons]at this
   omega
  walk_at "x"
  simp only[cO,if_true]
  refine GD D' (by decide) (by decide) fun r S2 r0 r1 D2 O2=>⟨ky.1,?_⟩
  obtain⟨c,ec,c0,c1⟩:=tW r0 r1
  rw[ec]
  refine hK _ _ ⟨cs++[c],by simp,by simp[e2],by simpa using hlen,fun y hy=>?_,D2,O'.trans O2⟩
  rcases List.mem_append.mp hy with hy|hy
  ·exact hc y hy
  ·rw[List.mem_singleton.mp hy];exact⟨c0,c1⟩
 ·rintro ys S' ⟨cs,rfl,e,hd,hc,D',O'⟩
  exact k cs S' (by rw[e,bQ]) hc D' O'
theorem pH{f:Str→List Nat}(r:List Nat):∀xs:List Str,(xs.map f).Nodup→(xs.filter fun z=>f z == r).length≤1
 |[],_=>Nat.zero_le _
 |x::xs,h=>by
  rw[List.map_cons,List.nodup_cons]at h
  rw[List.filter_cons]
  by_cases e:(f x == r)=true
  ·rw[if_pos e]
   have no:(xs.filter fun z=>f z == r)=[]:=by
    refine List.filter_eq_nil_iff.mpr fun z hz q=>h.1 ?_
    rw[eq_of_beq e,←eq_of_beq q]
    exact List.mem_map.mpr ⟨z,hz,rfl⟩
   rw[no]
   exact Nat.le_refl _
  ·rw[if_neg e]
   exact pH r xs h.2
theorem wv(r:List Nat):(Hz.filter fun z=>z.cps.toList.tail == r).length≤1:=pH (f:=fun z=>z.cps.toList.tail) r Hz (by decide +kernel)
theorem rd(r:List Nat)(c:Nat)(ns:List Str)(h:ns.length < 17):∃j,j < 26∧cand r (c+j) ∉ Hz++ns:=by
 obtain⟨j,hj,free⟩:=tE r c ((Hz.filter fun z=>z.cps.toList.tail == r)++ns) (by rw[List.length_append];have:=wv r;omega)
 refine⟨j,hj,fun hm=>free ?_⟩
 rcases List.mem_append.mp hm with q|q
 ·exact List.mem_append_left _ (List.mem_filter.mpr ⟨q,by simp[cand]⟩)
 ·exact List.mem_append_right _ q
abbrev gQ(w:aF):Prop:=∀{S:av} {d l:Addr} {m:Int} {Q:bN} {E:bO},GF S d l→0≤m→m≤17→(∀p (ns:List Str) S',ns.length=m.toNat→ns.Nodup→(∀z∈ns,IsW z∧z ∉ Hz)→S p=none→p≠d→p≠l→S' p=some (.lst (ns.map PV.str))→GF S' d l→G_ d l S S'→Q (.ref p) S')→w [.ref d,.int m] S Q E
theorem IC{wd:aF}(GD:bq wd):gQ (bi 11 (eV wd)):=by
 intro S d l m Q E D h0 h1 k
 unfold eV
 refine fL ?_
 rw[show aB 11 [PV.ref d,PV.int m]=[some (.ref d),some (.int m),none,none,none,none,none,none,none,none,none] from rfl]
 refine ax fun N hN=>?_
 walk_at "x"
 refine hN _ _ (ax fun N hN=>?_)
 walk_at "x"
 intro pT hT
 have dT:=D.free hT
 have D0:GF (GE S pT (.lst (Hz.map PV.str))) d l:=D.new hT
 have Qj:(GE S pT (.lst (Hz.map PV.str))) pT=some (.lst (Hz.map PV.str)):=aa
 have O0:G_ d l S (GE S pT (.lst (Hz.map PV.str))):=.new hT
 have eK:[PV.str "jars",PV.str "deed",PV.str "rest",PV.str "pay",PV.str "put",PV.str "then",PV.str "either",PV.str "take",PV.str "often",PV.str "use"]=Hz.map PV.str:=rfl
 rw[eK]
 generalize GE S pT (.lst (Hz.map PV.str))=S0 at D0 Qj O0 ⊢
 refine hN _ _ (ax fun N hN=>?_)
 walk_at "x"
 refine⟨trivial,GD D0 (by decide) (by decide) fun n S1 n0 n1 D1 O1=>⟨by omega,by omega,?_⟩⟩
 refine lp GD D1 (by omega) rfl rfl ⟨_,rfl⟩ fun cs S2 hl hc D2 O2 pj hj=>?_
 simp only[my,aa,jI]
 refine⟨mK (by omega),?_⟩
 rw[show Txt.join (Str.ofString "") (cs.map ju)=⟨cs.toArray⟩from kR cs]
 refine hN _ _ (ax fun N hN=>?_)
 walk_at "x"
 have hcl:cs.length≤5:=by omega
 have lc:(⟨cs.toArray⟩:Str).length=cs.length:=List.size_toArray
 refine⟨by rw[lc];exact cL (by omega),GD (D2.new hj) (by rw[lc];omega) (by rw[lc];omega) fun at' S3 a0 a1 D3 O3=>GD D3 (by decide) (by decide) fun tu S4 t0 t1 D4 O4=>GD D4 (by decide) (by decide) fun nr S5 r0 r1 D5 O5=>?_⟩
 rw[lc]at a1
 obtain⟨an,rfl⟩:=Int.eq_ofNat_of_zero_le a0
 obtain⟨tn,rfl⟩:=Int.eq_ofNat_of_zero_le t0
 refine hN _ _ (ax fun N hN=>?_)
 walk_at "x"
 intro q hq
 have dq:=D5.free hq
 have OA:G_ d l S0 S5:=O1.trans (O2.trans ((G_.new hj).trans (O3.trans (O4.trans O5))))
 have Pg:=OA _ _ Qj dT.1 dT.2
 have Qk:pT≠q:=fun e=>by rw[e,hq]at Pg;cases Pg
 have Ql:S q=none:=by
  cases e:S q with
  |none=>rfl
  |some o=>rw[OA _ _ (O0 _ _ e dq.1 dq.2) dq.1 dq.2]at hq;cases hq
 refine hN _ _ (ax fun N hN=>?_)
 simp only[bM,cM,v3,lk]
 refine⟨by omega,by omega,?_⟩
 refine bE (fun done σ S'=>∃(ns:List Str) (v4 v10:Option PV) (near:Bool),σ=[some (.ref d),some (.int m),some (.str abc),some (.ref pT),v4,some (.str ⟨cs.toArray⟩),some (.int an),some (.int tn),some (.bl near),some (.ref q),v10]∧ns.length=done.length∧ns.Nodup∧(∀z∈ns,IsW z∧z ∉ Hz)∧S' q=some (.lst (ns.map PV.str))∧S' pT=some (.lst (Hz.map PV.str))∧GF S' d l∧G_ d l S S')
  ⟨[],_,_,_,rfl,rfl,List.nodup_nil,(fun z hz=>nomatch hz),aa,by rw[ai Qk];exact Pg,D5.new hq,O0.trans (OA.trans (.new hq))⟩ (fun _ _ _ _=>trivial) ?_ ?_
 ·rintro done x rest σ S6 K e ⟨ns,v4,v10,near,rfl,Ph,Pi,w6,Ol,Pj,D6,O6⟩ hK
  have hlen:done.length < m.toNat:=by
   have:=congrArg List.length e
   rw[bQ,List.length_append,List.length_cons]at this
   omega
  have hx:x = .int (0+(done.length:Nat)):=by
   have h2:=congrArg (fun l=>l[done.length]?) e
   simp only[List.getElem?_append_right (Nat.le_refl _),Nat.sub_self,List.getElem?_cons_zero]at h2
   unfold bH at h2
   rw[List.getElem?_map,List.getElem?_range hlen]at h2
   simpa using h2.symm
  subst hx
  -- the tail: a word is changed Rg it is new,then laid down
  have ql:∀(z:Str) (v4:Option PV) (S7:av),IsW z→S7 q=some (.lst (ns.map PV.str))→S7 pT=some (.lst (Hz.map PV.str))→GF S7 d l→G_ d l S S7→
    ak (ij (mw (aJ (aj (qr false) (v3 10) (v3 3))) (aJ (aj (qr false) (v3 10) (v3 9)))) (au 10 (aj aM (aj ad (v3 2) (aj fW (aj aM (hG "str" jB (v3 2) [(aj ad (v3 10) (c3 (.int 0)))]) (c3 (.int 1))) (c3 (.int 26)))) (b5 (v3 10) (qu (c3 (.int 1))) sf))))
     (aI (hG "list" aV (v3 9) [(v3 10)])) { nx:=K,rt:=Q,ex:=gX,bk:=N,ct:=K } [some (.ref d),some (.int m),some (.str abc),some (.ref pT),v4,some (.str ⟨cs.toArray⟩),some (.int an),some (.int tn),some (.bl near),some (.ref q),some (.str z)] S7:=by
   intro z v4 S7 hz Qm Qn D7 O7
   obtain⟨i,r,rfl,hi,Rh,hrs⟩:=hz.cand
   obtain⟨j,hj,free⟩:=rd r i ns (by omega)
   refine⟨fun mm σ S'=>∃t,σ=[some (.ref d),some (.int m),some (.str abc),some (.ref pT),v4,some (.str ⟨cs.toArray⟩),some (.int an),some (.int tn),some (.bl near),some (.ref q),some (.str (cand r (i+t)))]∧S'=S7∧t≤j∧mm=j - t,⟨j,0,rfl,rfl,Nat.zero_le _,rfl⟩,?_⟩
   rintro mm σ S' ⟨t,rfl,rfl,ht,rfl⟩
   have hw:=vh Rh hrs (i+t)
   have Pk:∀y∈ns,PyData.strOk y=true:=fun y hy=>nN (w6 y hy).1
   have go:t < j→∃N:b9→av→Prop,(∀σ' Lz,N σ' Lz→∃m',m' < j - t∧∃t',σ'=[some (.ref d),some (.int m),some (.str abc),some (.ref pT),v4,some (.str ⟨cs.toArray⟩),some (.int an),some (.int tn),some (.bl near),some (.ref q),some (.str (cand r (i+t')))]∧Lz=S'∧t'≤j∧m'=j - t')∧
     N ([some (.ref d),some (.int m),some (.str abc),some (.ref pT),v4,some (.str ⟨cs.toArray⟩),some (.int an),some (.int tn),some (.bl near),some (.ref q),some (.str (cand r (i+(t+1))))]) S':=fun lt=>
    ⟨fun σ' Lz=>σ'=[some (.ref d),some (.int m),some (.str abc),some (.ref pT),v4,some (.str ⟨cs.toArray⟩),some (.int an),some (.int tn),some (.bl near),some (.ref q),some (.str (cand r (i+(t+1))))]∧Lz=S',fun σ' Lz ⟨e1,e2⟩=>⟨j - (t+1),by omega,t+1,e1,e2,by omega,rfl⟩,rfl,rfl⟩
   have Om:((((i+t) % 26:Nat):Int)+1).fmod 26=(((i+t+1) % 26:Nat):Int):=by rw[hW (by decide)];omega
   walk_at "x"
   refine sv Qn (nN hw) zh ?_
   simp only[Bool.false_bne,decide_eq_true_eq]
   split
   ·rename_i g
    have lt:t < j:=Nat.lt_of_le_of_ne ht fun e=>by subst e;exact free (List.mem_append_left _ g)
    obtain⟨N,hN,hn⟩:=go lt
    rw[if_pos trivial]
    refine⟨N,hN,trivial,hw.line,?_⟩
    rw[mn]
    simp only[jB,vf _ (Nat.mod_lt _ (by decide))]
    refine⟨by decide,ky.1,?_⟩
    rw[Om,nb (i+t+1)]
    refine⟨hw.line,?_,?_⟩
    ·rw[gM]
     exact cL (show 1+r.toArray.size≤1000 by rw[List.size_toArray];omega)
    ·rw[gM,mo]
     exact hn
   ·rename_i g
    refine sv Qm (nN hw) Pk ?_
    simp only[Bool.false_bne,decide_eq_true_eq]
    split
    ·rename_i g2
     have lt:t < j:=Nat.lt_of_le_of_ne ht fun e=>by subst e;exact free (List.mem_append_right _ g2)
     obtain⟨N,hN,hn⟩:=go lt
     refine⟨N,hN,trivial,hw.line,?_⟩
     rw[mn]
     simp only[jB,vf _ (Nat.mod_lt _ (by decide))]
     refine⟨by decide,ky.1,?_⟩
     rw[Om,nb (i+t+1)]
     refine⟨hw.line,?_,?_⟩
     ·rw[gM]
      exact cL (show 1+r.toArray.size≤1000 by rw[List.size_toArray];omega)
     ·rw[gM,mo]
      exact hn
    ·rename_i g2
     simp only[Qm]
     refine⟨trivial,by rw[List.length_map];exact de (by omega),hK _ _ ⟨ns++[cand r (i+t)],_,_,_,rfl,by simp[Ph],List.nodup_append.mpr ⟨Pi,by simp,fun a ha b hb e=>?_⟩,fun z hz=>?_,by rw[List.map_append];exact aa,by rw[ai Qk];exact Qn,D7.upd dq.1 dq.2,fun a o ha h1 h2=>?_⟩⟩
     ·rw[List.mem_singleton.mp hb]at e
      exact g2 (e▸ha)
     ·rcases List.mem_append.mp hz with hz|hz
      ·exact w6 z hz
      ·rw[List.mem_singleton.mp hz]
       exact⟨hw,g⟩
     ·rw[ai (fun e=>by rw[e,Ql]at ha;cases ha)]
      exact O7 a o ha h1 h2
  obtain⟨pw,Ri,pl2⟩:=yB hcl hc (a:=an) (i:=(tn+done.length) % 26) (by omega) (Nat.mod_lt _ (by decide))
  have Om:((tn:Int)+(0+(done.length:Int))).fmod 26=(((tn+done.length) % 26:Nat):Int):=by rw[hW (by decide)];omega
  have Qo:(⟨cs.toArray⟩:Str).length≤sizeLine:=by rw[lc];exact cL (by omega)
  simp only[Tg.put]
  refine ax fun N2 ID=>?_
  walk_at "x"
  refine⟨Qo,by decide,ky.1,?_⟩
  rw[Om,nb (tn+done.length)]
  refine⟨Nat.le_trans (Nat.add_le_add Ri (Nat.le_refl 1)) (by decide),Qo,Nat.le_trans (Nat.le_of_eq (Array.size_append).symm) (Nat.le_trans pw.len (by decide)),?_⟩
  refine ID _ _ (ax fun N3 LZ=>?_)
  walk_at "x"
  split
  ·refine⟨trivial,GD D6 (by decide) (by decide) fun n2 Sa m0 m1 Da Oa=>⟨by omega,by omega,?_⟩⟩
   refine lp GD Da (by omega) rfl rfl ⟨_,rfl⟩ fun MT Sb hl2 hc2 Db Ob Rj hj2=>?_
   simp only[my,aa,jI]
   refine⟨mK (by omega),?_⟩
   rw[show Txt.join (Str.ofString "") (MT.map ju)=⟨MT.toArray⟩from kR MT]
   refine LZ _ _ ?_
   have wz:IsW (⟨MT.toArray⟩:Str):=⟨fun e=>by have e':MT=[]:=e;rw[e']at hl2;simp at hl2;omega,by show MT.length≤6;omega,hc2⟩
   have OB:G_ d l S6 (GE Sb Rj (.lst ((MT.map ju).map PV.str))):=Oa.trans (Ob.trans (.new hj2))
   exact ql _ _ _ wz (OB _ _ Ol dq.1 dq.2) (OB _ _ Pj dT.1 dT.2) (Db.new hj2) (O6.trans OB)
  ·exact LZ _ _ (ql _ _ S6 pw Ol Pj D6 O6)
 ·rintro σ S6 ⟨ns,v4,v10,near,rfl,Ph,Pi,w6,Ol,Pj,D6,O6⟩
  refine hN _ _ ?_
  walk_at "x"
  exact k q ns S6 (by rw[Ph,bQ]) Pi w6 Ql dq.1 dq.2 Ol D6 O6
inductive Bd where
 |rest|pay (x y:Int)|put (z:Str) (m:Int)|use (z:Str)|Iu (a:Bd)|GJ (a b:Bd)|Is (a b:Bd)|Iw (z:Str) (m:Int) (a b:Bd)
noncomputable def Bd.pv:Bd→PV
 | .rest=>.tup [.str "rest"]
 | .pay x y=>.tup [.str "pay",.tup [.int x,.int y]]
 | .put z m=>.tup [.str "put",.str z,.int m]
 | .use z=>.tup [.str "use",.str z]
 | .Iu a=>.tup [.str "often",a.pv]
 | .GJ a b=>.tup [.str "then",a.pv,b.pv]
 | .Is a b=>.tup [.str "either",a.pv,b.pv]
 | .Iw z m a b=>.tup [.str "take",.str z,.int m,a.pv,b.pv]
noncomputable def Bd.dep:Bd→Nat
 | .Iu a=>a.dep+1
 | .GJ a b=>max a.dep b.dep+1
 | .Is a b=>max a.dep b.dep+1
 | .Iw _ _ a b=>max a.dep b.dep+1
 |_=>1
noncomputable def Bd.size:Bd→Nat
 | .Iu a=>a.size+1
 | .GJ a b=>a.size+b.size+1
 | .Is a b=>a.size+b.size+1
 | .Iw _ _ a b=>a.size+b.size+1
 |_=>1
noncomputable def Bd.good(js us:List Str):Bd→Prop
 | .rest=>True
 | .pay x y=>nM x y
 | .put z m=>z∈js∧1≤m∧m≤9
 | .use z=>z∈us
 | .Iu a=>a.good js us
 | .GJ a b=>a.good js us∧b.good js us
 | .Is a b=>a.good js us∧b.good js us
 | .Iw z m a b=>z∈js∧1≤m∧m≤9∧a.good js us∧b.good js us
theorem Bd.HJ(t:Bd):1≤t.dep:=by cases t<;>simp[Bd.dep]
theorem Bd.Hl:∀t:Bd,t.dep≤t.size
 | .rest=>Nat.le_refl _
 | .pay _ _=>Nat.le_refl _
 | .put _ _=>Nat.le_refl _
 | .use _=>Nat.le_refl _
 | .Iu a=>by have:=a.Hl;simp only[Bd.dep,Bd.size];omega
 | .GJ a b=>by have:=a.Hl;have:=b.Hl;simp only[Bd.dep,Bd.size];omega
 | .Is a b=>by have:=a.Hl;have:=b.Hl;simp only[Bd.dep,Bd.size];omega
 | .Iw _ _ a b=>by have:=a.Hl;have:=b.Hl;simp only[Bd.dep,Bd.size];omega
theorem cY{α:Type}{xs:List α}{r:Int}(h0:0≤r)(h1:r < xs.length):∃v,Hv xs r=some v∧v∈xs:=by
 obtain⟨n,rfl⟩:=Int.eq_ofNat_of_zero_le h0
 have hn:n < xs.length:=by omega
 exact⟨xs[n],ci (by simp[hn]),List.getElem_mem hn⟩
noncomputable def Bd.leaf:Bd→Prop
 | .rest=>True
 | .pay _ _=>True
 | .put _ _=>True
 |_=>False
theorem Bd.Ji{t:Bd}(h:t.leaf):t.dep=1∧t.size=1:=by cases t<;>first|exact⟨rfl,rfl⟩|exact h.elim
abbrev iQ(w:aF):Prop:=∀{S:av} {d l:Addr} {js:List Str} {Q:bN} {E:bO},GF S d l→js.length < 2 ^ 61→(∀(t:Bd) S',t.leaf→t.good js []→GF S' d l→G_ d l S S'→Q t.pv S')→w [.ref d,.tup (js.map PV.str)] S Q E
theorem IN{wd wc:aF}(GD:bq wd)(Jh:iP wc):iQ (bi 4 (f_ wd wc)):=by
 intro S d l js Q E D hj k
 unfold f_
 refine fL ?_
 rw[show aB 4 [PV.ref d,PV.tup (js.map PV.str)]=[some (.ref d),some (.tup (js.map PV.str)),none,none] from rfl]
 refine ax fun N hN=>?_
 walk_at "x"
 refine GD D (by decide) (by decide) fun r S1 r0 r1 D1 O1=>?_
 refine hN _ _ (ax fun N hN=>?_)
 walk_at "x"
 simp only[Bool.false_bne,decide_eq_true_eq]
 split
 ·exact k .rest S1 trivial trivial D1 O1
 refine hN _ _ (ax fun N hN=>?_)
 walk_at "x"
 simp only[Bool.false_bne,decide_eq_true_eq,List.length_map]
 have pay:wc [.ref d] S1 (fun x S=>Q (.tup [.str "pay",x]) S) gX:=Jh D1 fun x y S2 c D2 O2=>k (.pay x y) S2 trivial c D2 (O1.trans O2)
 split
 ·rw[if_pos trivial];exact pay
 split
 ·exact pay
 rename_i hr hz
 refine hN _ _ (ax fun N hN=>?_)
 walk_at "x"
 refine GD D1 (by decide) (by decide) fun r2 S2 a0 a1 D2 O2 p hp=>GD (D2.new hp) (by decide) (by decide) fun r3 S3 b0 b1 D3 O3=>?_
 have dp:=D2.free hp
 have hp3:=O3 _ _ (aa (S:=S2) (o:=.lst [.int 1,.int 2,.int (1+r2)])) dp.1 dp.2
 simp only[hp3]
 obtain⟨v,hv,hm⟩:=cY (xs:=[PV.int 1,.int 2,.int (1+r2)]) b0 (by simpa using b1)
 rw[hv]
 obtain⟨m,rfl,m0,m1⟩:∃m,v = .int m∧1≤m∧m≤9:=by
  simp only[List.mem_cons,List.not_mem_nil,or_false]at hm
  rcases hm with rfl|rfl|rfl
  ·exact⟨1,rfl,by omega,by omega⟩
  ·exact⟨2,rfl,by omega,by omega⟩
  ·exact⟨1+r2,rfl,by omega,by omega⟩
 refine hN _ _ ?_
 walk_at "x"
 simp only[List.length_map]
 refine GD D3 (by omega) (by omega) fun r4 S4 c0 c1 D4 O4=>?_
 obtain⟨w,hw,KK⟩:=cY (xs:=js.map PV.str) c0 (by rw[List.length_map];exact c1)
 dsimp only
 rw[hw]
 obtain⟨z,hz,rfl⟩:=List.mem_map.mp KK
 exact k (.put z m) S4 trivial ⟨hz,m0,m1⟩ D4 (O1.trans (O2.trans ((G_.new hp).trans (O3.trans O4))))
def Hm(d l x:Addr)(S S':av):Prop:=∀a o,S a=some o→a≠d→a≠l→a≠x→S' a=some o
theorem _root_.L3.G_.x{d l x:Addr}{S S':av}(h:G_ d l S S'):Hm d l x S S':=fun a o e h1 h2 _=>h a o e h1 h2
theorem Hm.trans{d l x:Addr}{S S1 S2:av}(a:Hm d l x S S1)(b:Hm d l x S1 S2):Hm d l x S S2:=fun y o h h1 h2 h3=>b y o (a y o h h1 h2 h3) h1 h2 h3
theorem Hm.upd{d l x:Addr}{S:av}{o:SO}:Hm d l x S (GE S x o):=fun y u h h1 h2 h3=>by rw[ai h3];exact h
abbrev gv(n:Nat)(w:aF):Prop:=∀{S:av} {d l x:Addr} {js:List Str} {left down:Int} {Q:bN} {E:bO},GF S d l→S x=some (.lst [.int left])→x≠d→x≠l→js.length < 2 ^ 61→0≤left→left < 2 ^ 61→0≤down→down < n→
  (∀(t:Bd) S' left',t.good js []→(t.dep:Int)≤down+1→0≤left'→(t.size:Int)+left'≤left+1→GF S' d l→S' x=some (.lst [.int left'])→Hm d l x S S'→Q t.pv S')→w [.ref d,.tup (js.map PV.str),.ref x,.int down] S Q E
theorem Jj{wd wl rb:aF}(GD:bq wd)(IN:iQ wl)(n:Nat)(ih:gv n rb):gv (n+1) (bi 8 (gf wd wl rb)):=by
 intro S d l x js left down Q E D hx hxd Jd hj h0 h1 h2 h3 k
 unfold gf
 refine fL ?_
 rw[show aB 8 [PV.ref d,PV.tup (js.map PV.str),PV.ref x,PV.int down]=[some (.ref d),some (.tup (js.map PV.str)),some (.ref x),some (.int down),none,none,none,none] from rfl]
 refine ax fun N hN=>?_
 walk_at "x"
 refine GD D (by decide) (by decide) fun r S1 r0 r1 D1 O1=>?_
 have LV:=O1 _ _ hx hxd Jd
 refine hN _ _ (ax fun N hN=>?_)
 walk_at "x"
 have a0:Hv [PV.int left] 0=some (.int left):=rfl
 simp only[Bool.false_bne,decide_eq_true_eq,LV,a0]
 have lf:wl [.ref d,.tup (js.map PV.str)] S1 Q gX:=IN D1 hj fun t S2 hl hg D2 O2=>k t S2 left hg (by rw[(Bd.Ji hl).1];omega) h0 (by rw[(Bd.Ji hl).2];omega) D2 (O2 _ _ LV hxd Jd) (O1.x.trans O2.x)
 split
 ·rw[if_pos trivial];exact lf
 split
 ·rw[if_pos trivial];exact lf
 split
 ·exact lf
 rename_i hd hl hf
 refine hN _ _ (ax fun N hN=>?_)
 simp only[bp,aJ,aj,v3,c3,lk,nA,bS,decide_eq_true_eq]
 have Qp:oQ [PV.int left].length 0=some 0:=rfl
 split
 ·refine ax fun N2 ID=>?_
  walk_at "x"
  simp only[LV,a0,Qp]
  refine ID _ _ ?_
  walk_at "x"
  refine ih (left:=left - 1) (D1.upd hxd Jd) aa hxd Jd hj (by omega) (by omega) (by omega) (by omega) fun t S2 l2 hg hdp q0 q1 D2 Nw O2=>?_
  exact k (.Iu t) S2 l2 hg (by simp only[Bd.dep];omega) q0 (by simp only[Bd.size];omega) D2 Nw (O1.x.trans (Hm.upd.trans O2))
 ·refine hN _ _ (ax fun N hN=>?_)
  walk_at "x"
  simp only[LV,a0,Qp]
  refine hN _ _ (ax fun N hN=>?_)
  walk_at "x"
  refine ih (left:=left - 2) (D1.upd hxd Jd) aa hxd Jd hj (by omega) (by omega) (by omega) (by omega) fun ta S2 l2 ga da q0 q1 D2 Nw O2=>?_
  refine hN _ _ (ax fun N hN=>?_)
  walk_at "x"
  refine ih (left:=l2) D2 Nw hxd Jd hj q0 (by omega) (by omega) (by omega) fun tb S3 l3 gb db p0 p1 D3 Pl O3=>?_
  have OA:Hm d l x S S3:=O1.x.trans (Hm.upd.trans (O2.trans O3))
  refine hN _ _ (ax fun N hN=>?_)
  walk_at "x"
  simp only[decide_eq_true_eq]
  split
  ·exact k (.GJ ta tb) S3 l3 ⟨ga,gb⟩ (by simp only[Bd.dep];omega) p0 (by simp only[Bd.size];omega) D3 Pl OA
  refine hN _ _ (ax fun N hN=>?_)
  walk_at "x"
  simp only[Bool.false_bne,decide_eq_true_eq,List.length_map]
  have ei:Q (Bd.Is ta tb).pv S3:=k (.Is ta tb) S3 l3 ⟨ga,gb⟩ (by simp only[Bd.dep];omega) p0 (by simp only[Bd.size];omega) D3 Pl OA
  split
  ·rw[if_pos trivial];exact ei
  split
  ·exact ei
  rename_i hz8 hz
  refine hN _ _ (ax fun N hN=>?_)
  walk_at "x"
  refine GD D3 (by decide) (by decide) fun r2 S4 e0 e1 D4 O4 p hp=>GD (D4.new hp) (by decide) (by decide) fun r3 S5 b0 b1 D5 O5=>?_
  have dp:=D4.free hp
  have hp3:=O5 _ _ (aa (S:=S4) (o:=.lst [.int 1,.int 1,.int 2,.int (1+r2)])) dp.1 dp.2
  simp only[hp3]
  obtain⟨v,hv,hm⟩:=cY (xs:=[PV.int 1,.int 1,.int 2,.int (1+r2)]) b0 (by simpa using b1)
  rw[hv]
  obtain⟨m,rfl,m0,m1⟩:∃m,v = .int m∧1≤m∧m≤9:=by
   simp only[List.mem_cons,List.not_mem_nil,or_false]at hm
   rcases hm with rfl|rfl|rfl|rfl
   ·exact⟨1,rfl,by omega,by omega⟩
   ·exact⟨1,rfl,by omega,by omega⟩
   ·exact⟨2,rfl,by omega,by omega⟩
   ·exact⟨1+r2,rfl,by omega,by omega⟩
  refine hN _ _ ?_
  walk_at "x"
  simp only[List.length_map]
  refine GD D5 (by omega) (by omega) fun r4 S6 c0 c1 D6 O6=>?_
  obtain⟨w,hw,KK⟩:=cY (xs:=js.map PV.str) c0 (by rw[List.length_map];exact c1)
  dsimp only
  rw[hw]
  obtain⟨z,hz,rfl⟩:=List.mem_map.mp KK
  have Pm:=O4 _ _ Pl hxd Jd
  have Rk:x≠p:=fun e=>by rw[e,hp]at Pm;cases Pm
  have Rl:=O6 _ _ (O5 _ _ (show GE S4 p _ x=some (.lst [.int l3]) by rw[ai Rk];exact Pm) hxd Jd) hxd Jd
  exact k (.Iw z m ta tb) S6 l3 ⟨hz,m0,m1,ga,gb⟩ (by simp only[Bd.dep];omega) p0 (by simp only[Bd.size];omega) D6 Rl (OA.trans (O4.x.trans ((G_.new hp).x.trans (O5.x.trans O6.x))))
end C
local macro_rules | `(tactic| walk_at "w")=>`(tactic| simp only [L3.ak,L3.au,L3.aG,L3.aI,L3.bp,L3.aS,L3.aj,L3.v3,L3.c3,L3.lk,L3.ar,L3.ao,L3.ae,L3.hG,L3.aJ,L3.b_,L3.mw,L3.dL,L3.vH,L3.Br,L3.vI,L3.vJ,L3.di,L3.tP,L3.k4,L3.aE,L3.bb,L3.ul,L3.km,L3.ad,L3.cr,L3.b5,L3.sf,L3.qu,L3.qT,L3.bS,L3.dQ,L3.ba,L3.fW,L3.hJ,L3.iL,L3.nA,L3.xI,L3.kB,L3.v7,L3.bt,L3.Es,L3.aM,L3.cD,L3.b6,L3.tN,L3.fV,L3.vP,L3.dU,L3.aU,L3.ee,L3.kn,List.set_cons_zero,List.set_cons_succ,List.set_nil,L3.um,L3.cN,L3.tO,L3.bh,L3.bg,L3.fE,L3.bM,L3.ko,L3.Tg.put,L3.Tg.HM,L3.yR,L3.k8,L3.ik,L3.o_,L3.cM,L3.Bz,L3.vX,L3.nz,L3.aV,L3.nv,L3.BG,List.reduceReplicate,List.map_cons,List.map_nil,List.cons_append,List.nil_append,L3.eN,L3.eF,L3.lV,L3.FT,L3.FU,L3.BV,L3.BW,L3.BX,L3.BY,L3.BZ,L3.B1,L3.B2,L3.B3,L3.B4,L3.aq,String.reduceEq,decide_true,decide_false,Bool.false_bne,Bool.true_bne,Bool.not_true,Bool.not_false,if_true,if_false,Bool.false_eq_true,reduceIte,ite_true,ite_false,L3.cR,L3.du,L3.ka])
local macro_rules | `(tactic| walk_at "y")=>`(tactic| ((try walk_at "x"); (try walk_at "w")))
namespace C
open PySem L2 L3 Wd
noncomputable def Bd.GK:Bd→Nat
 | .GJ a b=>a.GK * b.GK
 | .Is a b=>a.GK+b.GK
 | .Iw _ _ a b=>a.GK+b.GK
 |_=>1
noncomputable def Bd.GS:Bd→Nat
 | .Iu a=>a.GK+a.GS
 | .GJ a b=>a.GS+b.GS
 | .Is a b=>a.GS+b.GS
 | .Iw _ _ a b=>a.GS+b.GS
 |_=>0
theorem Bd.Hh:∀t:Bd,t.GK≤2 ^ t.size
 | .rest=>by simp[Bd.GK,Bd.size]
 | .pay _ _=>by simp[Bd.GK,Bd.size]
 | .put _ _=>by simp[Bd.GK,Bd.size]
 | .use _=>by simp[Bd.GK,Bd.size]
 | .Iu a=>by simp only[Bd.GK,Bd.size];exact Nat.one_le_two_pow
 | .GJ a b=>by
  simp only[Bd.GK,Bd.size]
  refine Nat.le_trans (Nat.mul_le_mul a.Hh b.Hh) ?_
  rw[←Nat.pow_add]
  exact Nat.pow_le_pow_right (by decide) (by omega)
 | .Is a b=>by
  simp only[Bd.GK,Bd.size]
  have h1:2 ^ a.size≤2 ^ (a.size+b.size):=Nat.pow_le_pow_right (by decide) (by omega)
  have h2:2 ^ b.size≤2 ^ (a.size+b.size):=Nat.pow_le_pow_right (by decide) (by omega)
  have:=a.Hh
  have:=b.Hh
  rw[Nat.pow_succ]
  omega
 | .Iw _ _ a b=>by
  simp only[Bd.GK,Bd.size]
  have h1:2 ^ a.size≤2 ^ (a.size+b.size):=Nat.pow_le_pow_right (by decide) (by omega)
  have h2:2 ^ b.size≤2 ^ (a.size+b.size):=Nat.pow_le_pow_right (by decide) (by omega)
  have:=a.Hh
  have:=b.Hh
  rw[Nat.pow_succ]
  omega
theorem Bd.Lg{t:Bd}(h:t.size≤60):(t.GK:Int) < 2 ^ 64:=by
 have h1:=t.Hh
 have h2:2 ^ t.size≤2 ^ 60:=Nat.pow_le_pow_right (by decide) h
 omega
abbrev cG(n:Nat)(w:aF):Prop:=∀{S:av} {t:Bd} {Q:bN} {E:bO},t.dep≤n→t.size≤60→Q (.int t.GK) S→w [t.pv] S Q E
theorem tY{s0:aF}(n:Nat)(ih:cG n s0):cG (n+1) (bi 1 (cy s0)):=by
 intro S t Q E hd hs k
 unfold cy
 refine fL ?_
 rw[show aB 1 [t.pv]=[some t.pv] from rfl]
 cases t with
 |GJ a b=>
  simp only[Bd.dep,Bd.size]at hd hs
  simp only[Bd.pv]
  walk_at "w"
  refine ih (by omega) (by omega) (ih (by omega) (by omega) ⟨wq (by omega) (Bd.Lg (by omega)),?_⟩)
  simpa [Bd.GK]using k
 |Is a b=>
  simp only[Bd.dep,Bd.size]at hd hs
  simp only[Bd.pv]
  walk_at "w"
  refine ih (by omega) (by omega) (ih (by omega) (by omega) ?_)
  simpa [Bd.GK]using k
 |Iw z m a b=>
  simp only[Bd.dep,Bd.size]at hd hs
  simp only[Bd.pv]
  walk_at "w"
  refine ih (by omega) (by omega) (ih (by omega) (by omega) ?_)
  simpa [Bd.GK]using k
 |_=>
  simp only[Bd.pv]
  walk_at "w"
  exact k
abbrev fi(n:Nat)(w:aF):Prop:=∀{S:av} {t:Bd} {Q:bN} {E:bO},t.dep≤n→t.size≤60→Q (.int t.GS) S→w [t.pv] S Q E
theorem iR:∀y∈(["then","either","take"]:List Str),PyData.strOk y=true:=by decide +kernel
theorem iS:∀y∈(["rest","pay","put","use","often","then","either","take"]:List Str),PyData.strOk y=true:=by decide +kernel
theorem tZ{x0 s0:aF}(n m:Nat)(hp:cG m x0)(ih:fi n s0)(hnm:n≤m):fi (n+1) (bi 1 (b7 x0 s0)):=by
 intro S t Q E hd hs k
 unfold b7
 refine fL ?_
 rw[show aB 1 [t.pv]=[some t.pv] from rfl]
 have e3:[PV.str "then",PV.str "either",PV.str "take"]=(["then","either","take"]:List Str).map PV.str:=rfl
 cases t with
 |Iu a=>
  simp only[Bd.dep,Bd.size]at hd hs
  simp only[Bd.pv]
  walk_at "y"
  refine hp (by omega) (by omega) (ih (by omega) (by omega) ?_)
  simpa [Bd.GS]using k
 |GJ a b=>
  simp only[Bd.dep,Bd.size]at hd hs
  simp only[Bd.pv]
  walk_at "y"
  rw[e3]
  refine gu (iS _ (by simp)) iR ?_
  simp[aq]
  refine ih (by omega) (by omega) (ih (by omega) (by omega) ?_)
  simpa [Bd.GS]using k
 |Is a b=>
  simp only[Bd.dep,Bd.size]at hd hs
  simp only[Bd.pv]
  walk_at "y"
  rw[e3]
  refine gu (iS _ (by simp)) iR ?_
  simp[aq]
  refine ih (by omega) (by omega) (ih (by omega) (by omega) ?_)
  simpa [Bd.GS]using k
 |Iw z m a b=>
  simp only[Bd.dep,Bd.size]at hd hs
  simp only[Bd.pv]
  walk_at "y"
  rw[e3]
  refine gu (iS _ (by simp)) iR ?_
  simp[aq]
  refine ih (by omega) (by omega) (ih (by omega) (by omega) ?_)
  simpa [Bd.GS]using k
 |_=>
  simp only[Bd.pv]
  walk_at "y"
  rw[e3]
  refine gu (iS _ (by simp)) iR ?_
  simp[aq]
  simpa [Bd.GS]using k
abbrev fj(w:aF):Prop:=∀{S:av} {d l:Addr} {js:List Str} {size bound:Int} {Q:bN} {E:bO},GF S d l→js.length < 2 ^ 61→1≤size→size≤60→
  (∀(t:Bd) S',t.good js []→t.dep≤6→t.size≤60→(t.size:Int)≤max size 4→((t.GK:Int)+t.GS≤bound∨(t.GK:Int)+t.GS≤2)→GF S' d l→G_ d l S S'→Q t.pv S')→w [.ref d,.tup (js.map PV.str),.int size,.int bound] S Q E
theorem nO{x0 x1 x2 x3:aF}(n:Nat)(hn:6≤n)(Jj:gv n x0)(NE:cG n x1)(NF:fi n x2)(IN:iQ x3):fj (bi 5 (cE x0 x1 x2 x3)):=by
 intro S d l js size bound Q E D hj h1 h2 k
 unfold cE
 refine fL ?_
 rw[show aB 5 [PV.ref d,PV.tup (js.map PV.str),PV.int size,PV.int bound]=[some (.ref d),some (.tup (js.map PV.str)),some (.int size),some (.int bound),none] from rfl]
 refine ax fun N hN=>?_
 walk_at "x"
 intro p hp
 have dp:=D.free hp
 refine Jj (D.new hp) aa dp.1 dp.2 hj (by omega) (by omega) (by decide) (by omega) fun t S1 l1 hg hd q0 q1 D1 LV O1=>?_
 have Qq:G_ d l S S1:=fun a o ha h1 h2=>O1 a o (by rw[ai (fun e=>by rw[e,hp]at ha;cases ha)];exact ha) h1 h2 (fun e=>by rw[e,hp]at ha;cases ha)
 refine hN _ _ (ax fun N hN=>?_)
 simp only[bp,aJ,aj,ae,ar,v3,lk,List.set_cons_zero,List.set_cons_succ,kB,aM,bS]
 refine NE (by omega) (by omega) (NF (by omega) (by omega) ?_)
 simp only[decide_eq_true_eq]
 split
 ·walk_at "x"
  refine IN D1 hj fun t2 S2 hl2 Nr D2 O2=>IN D2 hj fun t3 S3 hl3 Rm D3 O3=>?_
  refine hN _ _ ?_
  walk_at "x"
  have e2:=Bd.Ji hl2
  have e3:=Bd.Ji hl3
  refine k (.GJ (.Iu t2) t3) S3 ⟨Nr,Rm⟩ (by simp only[Bd.dep];omega) (by simp only[Bd.size];omega) (by simp only[Bd.size];omega) (.inr ?_) D3 (Qq.trans (O2.trans O3))
  have c2:t2.GK=1∧t2.GS=0:=by cases t2<;>first|exact⟨rfl,rfl⟩|exact hl2.elim
  have c3:t3.GK=1∧t3.GS=0:=by cases t3<;>first|exact⟨rfl,rfl⟩|exact hl3.elim
  simp only[Bd.GK,Bd.GS,c2,c3]
  decide
 ·rename_i hb
  walk_at "x"
  refine hN _ _ ?_
  walk_at "x"
  exact k t S1 hg (by omega) (by omega) (by omega) (.inl (by omega)) D1 Qq
structure Sh (S:av) (v:PV) (d:PyData) (n k:Nat):Prop where
 dat:Dat S v d
 lay:d.canLay0=true
 Mz:d.showable=true
 dep:d.depth≤k
 len:d.shown.length≤n
structure Ki (S:av) (vs:List PV) (ds:List PyData) (n k:Nat):Prop where
 dat:Ir S vs ds
 lay:PyData.canLayAll0 ds=true
 Mz:PyData.showableAll ds=true
 dep:PyData.depthAll ds≤k
 len:piled (PyData.shownAll ds)≤n
theorem Sh.le{S:av}{v:PV}{d:PyData}{n k m j:Nat}(h:Sh S v d n k)(a:n≤m)(b:k≤j):Sh S v d m j:=⟨h.dat,h.lay,h.Mz,Nat.le_trans h.dep b,Nat.le_trans h.len a⟩
theorem Ki.le{S:av}{v:List PV}{d:List PyData}{n k m j:Nat}(h:Ki S v d n k)(a:n≤m)(b:k≤j):Ki S v d m j:=⟨h.dat,h.lay,h.Mz,Nat.le_trans h.dep b,Nat.le_trans h.len a⟩
theorem Sh.int{S:av}{i:Int}(h:i.natAbs.log2 < 1920):Sh S (.int i) (.int i) 1921 0:=
 ⟨.int i,by simp[PyData.canLay0],by simpa [PyData.showable]using h,by simp[PyData.depth],by rw[PyData.shown_int];exact PyProof.Rows.int_text_len_1921 h⟩
theorem Sh.str{S:av}{z:Str}(h:PyData.strOk z=true):Sh S (.str z) (.str z) (10 * z.length+2) 0:=
 ⟨.str z,by simpa [PyData.canLay0]using h,by simp[PyData.showable],by simp[PyData.depth],by
  rw[PyData.shown_str]
  refine StrLaws.reprText_len z fun c hc=>?_
  have h3:=Array.all_eq_true_iff_forall_mem.mp h c (Array.mem_toList_iff.mp hc)
  have h4:c < 0x110000:=by simpa using h3
  have e:(16:Nat) ^ 8=4294967296:=by decide
  omega⟩
theorem Ki.nil{S:av}:Ki S [] [] 0 0:=⟨.nil,by simp[PyData.canLayAll0],by simp[PyData.showableAll],by simp[PyData.depthAll],by simp[PyData.shownAll,piled]⟩
theorem Sh.cons{S:av}{v:PV}{d:PyData}{n k:Nat}{vs:List PV}{ds:List PyData}{m:Nat}(a:Sh S v d n k)(b:Ki S vs ds m k):Ki S (v::vs) (d::ds) (n+2+m) k:=
 ⟨.cons a.dat b.dat,by simp[PyData.canLayAll0,a.lay,b.lay],by simp[PyData.showableAll,a.Mz,b.Mz],by simp only[PyData.depthAll];exact Nat.max_le.mpr ⟨a.dep,b.dep⟩,by
  rw[PyData.shownAll_cons,piled_cons]
  have:=a.len
  have:=b.len
  omega⟩
theorem Sh.tup{S:av}{n k:Nat}{vs:List PV}{ds:List PyData}(a:Ki S vs ds n k):Sh S (.tup vs) (.tuple ds) (n+3) (k+1):=
 ⟨.tup a.dat,by simp[PyData.canLay0,a.lay],by simp[PyData.showable,a.Mz],by simp only[PyData.depth];exact Nat.succ_le_succ a.dep,by
  rw[PyData.shown_tuple,strLen_append,strLen_append]
  have e1:((("(":String):Str)).length=1:=rfl
  have e3:(((if ds.length == 1 then ",)" else ")":String):Str)).length≤2:=by split<;>decide
  have q:=a.len
  rcases ds with _|⟨d,ds⟩
  ·have:(Str.join ", " (PyData.shownAll [])).length=0:=by simp[PyData.shownAll];rfl
   omega
  ·have:=join_length_add (PyData.shownAll (d::ds)) (by simp[PyData.shownAll])
   omega⟩
theorem Ki.map{α:Type}{S:av}{n k:Nat}(f:α→PV)(g:α→PyData):∀{xs:List α},(∀x∈xs,Sh S (f x) (g x) n k)→Ki S (xs.map f) (xs.map g) (xs.length * (n+2)) k
 |[],_=>Ki.nil.le (Nat.zero_le _) (Nat.zero_le _)
 |x::r,h=>((h x (by simp)).cons (Ki.map f g fun y hy=>h y (by simp[hy]))).le (by rw[List.length_cons,Nat.succ_mul];omega) (Nat.le_refl _)
theorem Sh.dict{S:av}{v:PV}{d:PyData}{n k:Nat}(h:Sh S v d n k):d.hasDict=false:=PyData.hasDict_of_canLay d h.lay
theorem B5:(2:Nat) ^ 24≤sizeLine:=by decide
theorem wx{S:av}{vs:List PV}{d:PyData}{n k:Nat}{Q:bN}(h:Sh S (.tup vs) d n k)(hn:n≤2 ^ 24)(hk:k≤100)(q:Q (.str d.shown) S):iJ [.tup vs] S Q:=by
 unfold iJ
 exact⟨d,h.dat,h.Mz,h.dict,Nat.le_trans h.dep hk,Nat.le_trans h.len (Nat.le_trans hn B5),q⟩
theorem mL{i:Int}(h:i.natAbs < 2 ^ 64):i.natAbs.log2 < 1920:=by
 by_cases h0:i.natAbs=0
 ·rw[h0];decide
 ·exact(Nat.log2_lt h0).mpr (Nat.lt_trans h (Nat.pow_lt_pow_right (by decide) (by decide)))
theorem Sh.w{S:av}{z:Str}(h:IsW z):Sh S (.str z) (.str z) 62 0:=(Sh.str (nN h)).le (by have:=h.len;omega) (Nat.le_refl _)
theorem Sh.s{S:av}(z:String)(k:Nat)(h:PyData.strOk (z:Str)=true)(hl:(z:Str).length≤6):Sh S (.str z) (.str z) 62 k:=(Sh.str h).le (by omega) (Nat.zero_le _)
theorem Ki.Kj{S:av}(k:Nat):Ki S [] [] 0 k:=.le .nil (Nat.le_refl _) (Nat.zero_le _)
theorem Sh.i{S:av}{i:Int}(h:i.natAbs < 2 ^ 64):Sh S (.int i) (.int i) 1921 0:=Sh.int (mL h)
noncomputable def mM(p:Str×Bd):PV:=.tup [.str p.1,p.2.pv]
noncomputable def Hw(js:List Str)(ds:List (Str×Bd)):PV:=.tup [.tup (js.map PV.str),.tup (ds.map mM)]
structure DU (js:List Str) (us:List Str) (ds:List (Str×Bd)):Prop where
 jl:js.length≤16
 dl:ds.length≤16
 jw:∀z∈js,IsW z
 uw:∀z∈us,IsW z
 dw:∀p∈ds,IsW p.1
 gd:∀p∈ds,p.2.good js us
 dp:∀p∈ds,p.2.dep≤60
 sz:∀p∈ds,p.2.size≤60
theorem GF.ext{S S':av}{d l:Addr}(D:GF S d l)(e:Ext S S'):GF S' d l:=by
 obtain⟨s,n,f,D⟩:=D
 exact⟨s,n,f,e _ _ D.d,e _ _ D.l,D.s0,D.s1,D.nm,D.lf,D.ln⟩
theorem _root_.L3.G_.free{d l p:Addr}{S S':av}(O:G_ d l S S')(h:S' p=none)(h1:p≠d)(h2:p≠l):S p=none:=by
 cases e:S p with
 |none=>rfl
 |some o=>rw[O p o e h1 h2]at h;cases h
theorem _root_.L3.G_.put{d l p:Addr}{S S':av}{o:SO}(O:G_ d l S S')(h:S p=none):G_ d l S (GE S' p o):=fun x u hx h1 h2=>by rw[ai (fun e=>by rw[e,h]at hx;cases hx)];exact O x u hx h1 h2
theorem _root_.L3.Ext.put{p:Addr}{S S':av}{o:SO}(O:Ext S S')(h:S p=none):Ext S (GE S' p o):=fun x u hx=>by rw[ai (fun e=>by rw[e,h]at hx;cases hx)];exact O x u hx
theorem wy{α:Type}{xs:List α}{n:Nat}(h:n≤xs.length):fU xs none (some (n:Int))=xs.take n:=by
 unfold fU
 rw[HT.uP,HT.yi,List.drop_zero,Nat.min_eq_left h]
 rfl
theorem gR{x:PV}{n:Nat}{a b:List PV}(e:bH 0 n=a++x::b):x = .int a.length∧a.length < n:=by
 have h1:(bH 0 n)[a.length]?=some x:=by rw[e];simp
 unfold bH at h1
 rw[List.getElem?_map]at h1
 have hl:a.length < n:=by
  have:=congrArg List.length e
  rw[bQ,List.length_append,List.length_cons]at this
  omega
 rw[List.getElem?_range hl]at h1
 simp at h1
 exact⟨h1.symm,hl⟩
theorem re{α:Type}{xs:List α}{n:Nat}{v:α}(h:xs[n]?=some v):Hv xs (n:Int)=some v:=ci h
noncomputable def heads:List Str:=["rest","pay","put","use","often","then","either","take"]
theorem t6:∀z∈heads,PyData.strOk z=true:=by decide +kernel
structure Cz (w:aF):Prop where
 t:∀{S:av} {z:Str} {zs:List Str} {Q:bN} {E:bO},PyData.strOk z=true→(∀y∈zs,PyData.strOk y=true)→z ∉ zs→Q .non S→w [.str z,.tup (zs.map PV.str)] S Q E
 l:∀{S:av} {a:Addr} {z:Str} {zs:List Str} {Q:bN} {E:bO},S a=some (.lst (zs.map PV.str))→PyData.strOk z=true→(∀y∈zs,PyData.strOk y=true)→z ∉ zs→Q .non S→w [.str z,.ref a] S Q E
inductive wA (S:av) (us:List Str):PV→Prop
 |no:us=[]→wA S us .non
 |lst {a:Addr}:S a=some (.lst (us.map PV.str))→(∀y∈us,PyData.strOk y=true)→wA S us (.ref a)
structure Id (n:Nat) (js us:List Str) (ds:List (Str×Bd)):Prop extends DU js us ds where
 jn:js.Nodup
 dn:(ds.map Prod.fst).Nodup
 dq:∀p∈ds,p.2.dep≤n
inductive sw (S:av) (d l:Addr) (us:List Str):PV→Prop
 |ref {a:Addr}:S a=some (.lst (us.map PV.str))→a≠d→a≠l→sw S d l us (.ref a)
 |tup:sw S d l us (.tup (us.map PV.str))
inductive Thg (L:Nat):Nat→PV→Prop
 |int {n:Nat} (i:Int):Thg L n (.int i)
 |tup {n:Nat} {xs:List PV}:xs.length≤L→(∀x∈xs,Thg L n x)→Thg L (n+1) (.tup xs)
theorem Thg.mono{L M n m:Nat}{v:PV}(h:Thg L n v)(hL:L≤M):n≤m→Thg M m v:=by
 induction h generalizing m with
 |int i=>exact fun _=>.int i
 |@tup n xs hl _ ih=>
  intro hm
  cases m with
  |zero=>omega
  |succ m=>exact .tup (Nat.le_trans hl hL) fun x hx=>ih x hx (by omega)
theorem nP{S:av}:∀{xs:List PV},(∀x∈xs,∃d,Dat S x d∧d.canLay0=true)→∃ds,Ir S xs ds∧PyData.canLayAll0 ds=true∧ds.length=xs.length
 |[],_=>⟨[],.nil,by simp[PyData.canLayAll0],rfl⟩
 |x::r,h=>by
  obtain⟨d,hd,hc⟩:=h x (by simp)
  obtain⟨ds,hds,hcs,hl⟩:=nP fun y hy=>h y (List.mem_cons_of_mem _ hy)
  exact⟨d::ds,.cons hd hds,by simp[PyData.canLayAll0,hc,hcs],by simp[hl]⟩
inductive K7 (L:Nat):Nat→PV→Prop
 |int {n:Nat} (i:Int):K7 L n (.int i)
 |str {n:Nat} {z:Str}:PyData.strOk z=true→K7 L n (.str z)
 |tup {n:Nat} {xs:List PV}:xs.length≤L→(∀x∈xs,K7 L n x)→K7 L (n+1) (.tup xs)
theorem Thg.x{L n:Nat}{v:PV}(h:Thg L n v):K7 L n v:=by
 induction h with
 |int i=>exact .int i
 |tup hl _ ih=>exact .tup hl ih
theorem K7.mono{L M n m:Nat}{v:PV}(h:K7 L n v)(hL:L≤M):n≤m→K7 M m v:=by
 induction h generalizing m with
 |int i=>exact fun _=>.int i
 |str h=>exact fun _=>.str h
 |@tup n xs hl _ ih=>
  intro hm
  cases m with
  |zero=>omega
  |succ m=>exact .tup (Nat.le_trans hl hL) fun x hx=>ih x hx (by omega)
theorem K7.dat{L n:Nat}{v:PV}{S:av}(h:K7 L n v):∃d,Dat S v d∧d.canLay0=true:=by
 induction h with
 |int i=>exact⟨_,.int i,by simp[PyData.canLay0]⟩
 |str h=>exact⟨_,.str _,by simpa [PyData.canLay0]using h⟩
 |tup _ _ ih=>
  obtain⟨ds,hds,hcs,_⟩:=nP ih
  exact⟨_,.tup hds,by simpa [PyData.canLay0]using hcs⟩
noncomputable def aX:Bd→PV→Bool
 | .Iu a,.tup gs=>gs.all fun g=>match g with | .tup [.int m,tr]=>decide (1≤m)&&aX a tr|_=>false
 | .GJ a b,.tup [x,y]=>aX a x&&aX b y
 | .Is a b,.tup [.int i,y]=>if i=0 then aX a y else if i=1 then aX b y else false
 | .Iw _ _ a b,.tup [.int i,y]=>if i=0 then aX a y else if i=1 then aX b y else false
 | .rest,.tup []=>true
 | .pay _ _,.tup []=>true
 | .put _ _,.tup []=>true
 | .use _,.tup []=>true
 |_,_=>false
noncomputable def rg(a:Bd):PV→Bool
 | .tup [.int m,tr]=>decide (1≤m)&&aX a tr
 |_=>false
theorem pI(a b:Bd)(x y:PV):aX (.GJ a b) (.tup [x,y])=(aX a x&&aX b y):=rfl
theorem wB(a b:Bd)(i:Int)(y:PV):aX (.Is a b) (.tup [.int i,y])=if i=0 then aX a y else if i=1 then aX b y else false:=rfl
theorem wC(z:Str)(m:Int)(a b:Bd)(i:Int)(y:PV):aX (.Iw z m a b) (.tup [.int i,y])=if i=0 then aX a y else if i=1 then aX b y else false:=rfl
theorem pJ(a:Bd)(gs:List PV):aX (.Iu a) (.tup gs)=gs.all (rg a):=rfl
section
variable {S:av} {Q:bN} {i:Int} {xs:List PV} {b:Bool}
end
noncomputable def isInt:PV→Bool | .int _=>true|_=>false
abbrev lq(w:aF):Prop:=∀{S:av} {a b:Bd} {hd:List PV} {i:Int} {y:PV} {Q:bN} {E:bO},(i=0∨i=1)→hd.length≤3→Q (if i=0 then a.pv else b.pv) S→w [.tup (hd++[a.pv,b.pv]),.tup [.int i,y]] S Q E
theorem Js:lq (bi 2 k_):=by
 intro S a b hd i y Q E hi hl k
 unfold k_
 refine fL ?_
 rw[show aB 2 [PV.tup (hd++[a.pv,b.pv]),PV.tup [.int i,y]]=[some (.tup (hd++[a.pv,b.pv])),some (.tup [.int i,y])] from rfl]
 walk_at "y"
 have e:Hv (hd++[a.pv,b.pv]) (-2+i)=some (if i=0 then a.pv else b.pv):=by
  unfold Hv oQ
  rcases hi with rfl|rfl
  ·rw[if_neg (by omega),if_pos (by simp;omega)]
   have:(-2+0+((hd++[a.pv,b.pv]).length:Int)).toNat=hd.length:=by simp;omega
   rw[this,if_pos rfl]
   show(hd++[a.pv,b.pv])[hd.length]?=some a.pv
   simp
  ·rw[if_neg (by omega),if_pos (by simp;omega)]
   have:(-2+1+((hd++[a.pv,b.pv]).length:Int)).toNat=hd.length+1:=by simp;omega
   rw[this,if_neg (by decide)]
   show(hd++[a.pv,b.pv])[hd.length+1]?=some b.pv
   simp
 rw[e]
 exact k
theorem rh{xs:List PV}(h:xs.length=2):∃x y,xs=[x,y]:=by
 match xs,h with
 |[x,y],_=>exact⟨x,y,rfl⟩
theorem nQ{a b:Bd}{xs:List PV}(h:xs.length≠2):aX (.GJ a b) (.tup xs)=false:=by
 match xs,h with
 |[],_=>rfl
 |[_],_=>rfl
 |[_,_],h=>exact absurd rfl h
 |_::_::_::_,_=>rfl
theorem nR{a b:Bd}{xs:List PV}(h:xs.length≠2):aX (.Is a b) (.tup xs)=false:=by
 match xs,h with
 |[],_=>rfl
 |[x],_=>cases x<;>rfl
 |[_,_],h=>exact absurd rfl h
 |x::_::_::_,_=>cases x<;>rfl
theorem nS{z:Str}{m:Int}{a b:Bd}{xs:List PV}(h:xs.length≠2):aX (.Iw z m a b) (.tup xs)=false:=by
 match xs,h with
 |[],_=>rfl
 |[x],_=>cases x<;>rfl
 |[_,_],h=>exact absurd rfl h
 |x::_::_::_,_=>cases x<;>rfl
theorem iT(t:Bd)(z:Str):aX t (.str z)=false:=by cases t<;>rfl
theorem iU(t:Bd)(i:Int):aX t (.int i)=false:=by cases t<;>rfl
noncomputable def Bd.plain:Bd→Bool
 | .rest=>true
 | .pay _ _=>true
 | .put _ _=>true
 | .use _=>true
 |_=>false
theorem rj{t:Bd}(h:t.plain=true)(xs:List PV):aX t (.tup xs)=decide (xs=[]):=by
 cases t<;>simp[Bd.plain]at h<;>(cases xs with
  |nil=>show true=_;simp
  |cons=>show false=_;simp)
noncomputable def Bd.hd:Bd→Str
 | .rest=>"rest" | .pay _ _=>"pay" | .put _ _=>"put" | .use _=>"use" | .Iu _=>"often" | .GJ _ _=>"then" | .Is _ _=>"either" | .Iw _ _ _ _=>"take"
noncomputable def Bd.tl:Bd→List PV
 | .rest=>[] | .pay x y=>[.tup [.int x,.int y]] | .put z m=>[.str z,.int m] | .use z=>[.str z] | .Iu a=>[a.pv] | .GJ a b=>[a.pv,b.pv] | .Is a b=>[a.pv,b.pv] | .Iw z m a b=>[.str z,.int m,a.pv,b.pv]
theorem Bd.K8(t:Bd):t.pv = .tup (.str t.hd::t.tl):=by cases t<;>rfl
theorem Bd.NG(t:Bd):PyData.strOk t.hd=true:=by cases t<;>exact t6 _ (by simp[heads,Bd.hd])
theorem Bd.LB(t:Bd):t.hd=("then":Str)↔∃a b,t = .GJ a b:=by cases t<;>simp[Bd.hd,aq]
theorem Bd.LD(t:Bd):t.hd=("often":Str)↔∃a,t = .Iu a:=by cases t<;>simp[Bd.hd,aq]
theorem mN:∀bs:List Bool,kX (bs.map PV.bl)=some bs
 |[]=>rfl
 |b::bs=>by rw[List.map_cons];unfold kX;rw[mN bs];rfl
theorem zi{a b:PV}{hd:List PV}{i:Int}(hi:i=0∨i=1):Hv (hd++[a,b]) (i - 2)=some (if i=0 then a else b):=by
 unfold Hv oQ
 rcases hi with rfl|rfl
 ·rw[if_neg (by omega),if_pos (by simp;omega)]
  have:(0 - 2+((hd++[a,b]).length:Int)).toNat=hd.length:=by simp;omega
  rw[this,if_pos rfl]
  show(hd++[a,b])[hd.length]?=some a
  simp
 ·rw[if_neg (by omega),if_pos (by simp;omega)]
  have:(1 - 2+((hd++[a,b]).length:Int)).toNat=hd.length+1:=by simp;omega
  rw[this,if_neg (by decide)]
  show(hd++[a,b])[hd.length+1]?=some b
  simp
theorem Thg.nil{L n:Nat}:Thg L (n+1) (.tup []):=.tup (Nat.zero_le _) (by simp)
theorem Thg.two{L n:Nat}{a b:PV}(hL:2≤L)(ha:Thg L n a)(hb:Thg L n b):Thg L (n+1) (.tup [a,b]):=.tup hL fun x hx=>by
 simp only[List.mem_cons,List.not_mem_nil,or_false]at hx
 rcases hx with rfl|rfl
 ·exact ha
 ·exact hb
mutual
noncomputable def ut:PV→Nat
 | .tup xs=>1+Jt xs
 |_=>1
noncomputable def Jt:List PV→Nat
 |[]=>0
 |x::r=>ut x+Jt r
end
theorem pK:PyData.strOk ("do":Str)=true∧PyData.strOk ("again":Str)=true:=by decide +kernel
theorem kd:∀xs ys,Jt (xs++ys)=Jt xs+Jt ys
 |[],ys=>by simp[Jt]
 |x::r,ys=>by rw[List.cons_append];simp only[Jt];rw[kd r ys];omega
abbrev ir(w:aF):Prop:=∀{S:av} {d l:Addr} {most many size:Nat} {Q:bN} {E:bO},GF S d l→most≤8→1≤many→many≤4→1≤size→size≤60→
  (∀js ds S',Id 6 js [] ds→1≤ds.length→ds.length≤many→js.length≤8→GF S' d l→G_ d l S S'→Q (Hw js ds) S')→w [.ref d,.int most,.int many,.int size] S Q E
theorem t9{xw xd xb:aF}(IC:gQ xw)(GD:bq xd)(NH:fj xb):ir (bi 9 (eW xw xd xb)):=by
 intro S0 d l most many size Q E D0 hmo hm1 hm4 hs1 hs2 k
 unfold eW
 refine fL ?_
 rw[show aB 9 [PV.ref d,PV.int most,PV.int many,PV.int size]=[some (.ref d),some (.int most),some (.int many),some (.int size),none,none,none,none,none] from rfl]
 refine ax fun N hN=>?_
 walk_at "x"
 refine IC D0 (by decide) (by decide) fun p ns S hl hnd hw0 _ Je hpl hp D O0=>?_
 have hl8':ns.length=8:=hl
 have Rn:8≤ns.length:=by omega
 have NI:ns.length≤100:=by omega
 have hw:∀z∈ns,IsW z:=fun z hz=>(hw0 z hz).1
 refine hN _ _ ?_
 refine ax fun N hN=>?_
 walk_at "x"
 refine GD (m:=most+1) D (by omega) (by omega) fun r S1 r0 r1 D1 O1=>?_
 obtain⟨j,rfl⟩:∃j:Nat,r=(j:Int):=⟨r.toNat,by omega⟩
 have hp1:=O1 _ _ hp Je hpl
 rw[hp1]
 dsimp only
 rw[wy (by rw[List.length_map];omega),←List.map_take]
 intro p2 hp2
 rw[aa]
 dsimp only
 have D2:GF (GE S1 p2 (.lst ((ns.take j).map PV.str))) d l:=D1.new hp2
 have O2:G_ d l S (GE S1 p2 (.lst ((ns.take j).map PV.str))):=O1.trans (.new hp2)
 have hp2':=G_.new (o:=.lst ((ns.take j).map PV.str)) hp2 _ _ hp1 Je hpl
 generalize GE S1 p2 (.lst ((ns.take j).map PV.str))=S2 at D2 O2 hp2'
 refine hN _ _ (ax fun N hN=>?_)
 walk_at "x"
 intro p3 hp3
 have MU:=D2.free hp3
 refine GD (D2.new hp3) (by decide) (by decide) fun f S3 f0 f1 D3 O3=>?_
 have e3:=O3 _ _ (aa (S:=S2) (o:=.lst [.int 0,.int 4])) MU.1 MU.2
 have Pn:=O3 _ _ (G_.new hp3 _ _ hp2' Je hpl) Je hpl
 have Ro:G_ d l S S3:=O2.trans ((G_.new hp3).trans O3)
 simp only[e3]
 obtain⟨v,hv,Qr⟩:=cY (xs:=[PV.int 0,.int 4]) f0 (by simpa using f1)
 rw[hv]
 obtain⟨g,rfl,hg⟩:∃g:Nat,v = .int g∧g≤4:=by
  simp only[List.mem_cons,List.not_mem_nil,or_false]at Qr
  rcases Qr with rfl|rfl
  ·exact⟨0,rfl,by omega⟩
  ·exact⟨4,rfl,by omega⟩
 refine hN _ _ (ax fun N hN=>?_)
 walk_at "x"
 refine GD (m:=many) D3 (by omega) (by omega) fun r4 S4 a0 a1 D4 O4=>?_
 obtain⟨mm,em⟩:∃mm:Nat,1+r4=(mm:Int):=⟨(1+r4).toNat,by omega⟩
 dsimp only
 rw[em]
 have K9:=O4 _ _ Pn Je hpl
 refine hN _ _ (ax fun N hN=>?_)
 walk_at "x"
 refine⟨by omega,by omega,?_⟩
 rw[Int.toNat_natCast]
 have hjl:(ns.take j).length≤8:=by rw[List.length_take];omega
 refine iO (fun done ys S'=>∃ds:List (Str×Bd),ys=ds.map mM∧ds.length=done.length∧ds.map Prod.fst=(ns.drop g).take done.length∧done.length≤mm∧(∀q∈ds,q.2.good (ns.take j) []∧q.2.dep≤6∧q.2.size≤60)∧GF S' d l∧G_ d l S4 S') ⟨[],rfl,rfl,rfl,Nat.zero_le _,by simp,D4,.refl⟩ ?_ ?_ ?_
 ·rintro done ys S' ⟨ds,rfl,e,_,hd,_⟩
  exact⟨trivial,cL (by rw[List.length_map,e];omega)⟩
 ·rintro done x rest ys S' K e ⟨ds,rfl,e2,e3,hd,hc,D',O'⟩ hK
  obtain⟨rfl,hi⟩:=gR e
  walk_at "x"
  try simp only[cO,if_true]
  have hp':=O' _ _ K9 Je hpl
  simp only[hp']
  have hlt:g+done.length < ns.length:=by omega
  have hat:Hv (ns.map PV.str) ((g:Int)+(done.length:Int))=some (.str ns[g+done.length]):=by
   have:((g:Int)+(done.length:Int))=((g+done.length:Nat):Int):=by omega
   rw[this]
   exact re (by rw[List.getElem?_map,List.getElem?_eq_getElem hlt];rfl)
  rw[hat]
  dsimp only
  refine⟨DT (by omega) (by omega),NH D' (by omega) (by omega) (by omega) fun t S5 tg td tz tz2 _ D5 Po=>?_⟩
  refine hK _ _ ⟨ds++[(ns[g+done.length],t)],by simp[mM],by simp[e2],?_,by rw[List.length_append];exact hi,fun y hy=>?_,D5,O'.trans Po⟩
  ·rw[List.map_append,e3,List.length_append,List.length_singleton,List.take_succ,List.getElem?_drop,List.getElem?_eq_getElem hlt]
   rfl
  ·rcases List.mem_append.mp hy with hy|hy
   ·exact hc y hy
   ·rw[List.mem_singleton.mp hy];exact⟨tg,td,tz⟩
 rintro ys S5 ⟨ds,rfl,e,ef,_,hds,D5,O5⟩
 rw[bQ]at e ef
 intro p6 NJ
 refine hN _ _ ?_
 walk_at "x"
 rw[aa]
 dsimp only
 have sub:∀q∈ds,q.1∈ns:=fun q hq=>by
  have:q.1∈ds.map Prod.fst:=List.mem_map.mpr ⟨q,hq,rfl⟩
  rw[ef]at this
  exact List.mem_of_mem_drop (List.mem_of_mem_take this)
 refine k (ns.take j) ds _ ⟨⟨by omega,by omega,fun z hz=>hw z (List.mem_of_mem_take hz),by simp,fun q hq=>hw _ (sub q hq),fun q hq=>(hds q hq).1,fun q hq=>by have:=(hds q hq).2.1;omega,fun q hq=>(hds q hq).2.2⟩,hnd.sublist (List.take_sublist _ _),by rw[ef];exact hnd.sublist ((List.take_sublist _ _).trans (List.drop_sublist _ _)),fun q hq=>(hds q hq).2.1⟩ (by omega) (by omega) hjl (D5.new NJ) (O0.trans (Ro.trans (O4.trans (O5.trans (.new NJ)))))
noncomputable def Bd.rows:Bd→Nat
 | .rest=>0
 | .Iu a=>a.rows+1
 | .GJ a b=>a.rows+b.rows
 | .Is a b=>a.rows+b.rows+1
 | .Iw _ _ a b=>a.rows+b.rows+1
 |_=>1
theorem DV:∀z∈(["either","take"]:List Str),PyData.strOk z=true:=by decide +kernel
mutual
/-- no great whole number within -/
noncomputable def cH(b:Nat):PV→Bool
 | .int i=>decide (i.natAbs≤b)
 | .tup xs=>intBs b xs
 |_=>true
noncomputable def intBs(b:Nat):List PV→Bool
 |[]=>true
 |x::r=>cH b x&&intBs b r
end
theorem intBs_iff{b:Nat}:∀{xs:List PV},intBs b xs=true↔∀x∈xs,cH b x=true
 |[]=>by simp[intBs]
 |x::r=>by simp[intBs,intBs_iff (xs:=r)]
theorem pL{b:Nat}{i:Int}(h:i.natAbs≤b):cH b (.int i)=true:=by simp[cH,h]
theorem wD{b:Nat}{xs:List PV}(h:∀x∈xs,cH b x=true):cH b (.tup xs)=true:=by simp only[cH];exact intBs_iff.mpr h
theorem aO{b:Nat}{xs:List PV}(h:cH b (.tup xs)=true):∀x∈xs,cH b x=true:=by simp only[cH]at h;exact intBs_iff.mp h
theorem lr{b:Nat}{x y:PV}(hx:cH b x=true)(hy:cH b y=true):cH b (.tup [x,y])=true:=by simp[cH,intBs,hx,hy]
abbrev Dd:=List PV×Nat
noncomputable def Gi(i:Nat):PV:=.int (i:Int)
noncomputable def B6(h:Str):Nat:=if h∈(["either","take","often"]:List Str) then 2 else 1
def Gj(ws:List PV):Prop:=∃ds:List PyData,(∀S,Ir S ws ds)∧PyData.canLayAll0 ds=true∧PyData.depthAll ds≤100∧PyData.eqvAll ds ds=true
def Fu(R:List PV)(a:Nat)(d:Dd)(b:Nat):Prop:=∃(h:Str) (r:List PV) (ts:List Nat),d.1 = .str h::r∧PyData.strOk h=true∧Gj d.1∧R[a]?=some (.tup (d.1++ts.map Gi))∧ts.length=B6 h∧ts[d.2]?=some b∧b < R.length
inductive Wk (R:List PV):Nat→List Dd→Nat→List Nat→Prop
 |nil {a:Nat}:Wk R a [] a []
 |cons {a b c:Nat} {d:Dd} {ds:List Dd} {vis:List Nat}:Fu R a d b→Wk R b ds c vis→Wk R a (d::ds) c (b::vis)
theorem Wk.len{R:List PV}{a b:Nat}{xs:List Dd}{u:List Nat}(h:Wk R a xs b u):u.length=xs.length:=by
 induction h with
 |nil=>rfl
 |cons _ _ ih=>simp[ih]
def Seg(R:List PV)(f:Nat)(rs:List PV):Prop:=∀i x,rs[i]?=some x→R[f+i]?=some x
theorem Seg.cons{R:List PV}{f:Nat}{x:PV}{rs:List PV}(h:Seg R f (x::rs)):R[f]?=some x∧Seg R (f+1) rs:=
 ⟨by simpa using h 0 x rfl,fun i y hy=>by have:=h (i+1) y (by simpa using hy);rw[show f+1+i=f+(i+1) by omega];exact this⟩
theorem ls{a b:Bd}{v:PV}(h:aX (.GJ a b) v=true):∃x y,v = .tup [x,y]∧aX a x=true∧aX b y=true:=by
 cases v with
 |tup xs=>
  by_cases h2:xs.length=2
  ·obtain⟨x,y,rfl⟩:=rh h2
   rw[pI,Bool.and_eq_true]at h
   exact⟨x,y,rfl,h⟩
  ·rw[nQ h2]at h;cases h
 |int i=>rw[iU]at h;cases h
 |str z=>rw[iT]at h;cases h
 |_=>cases h
theorem lv{a b:Bd}{v:PV}(h:aX (.Is a b) v=true):∃i y,v = .tup [.int i,y]∧((i=0∧aX a y=true)∨(i=1∧aX b y=true)):=by
 cases v with
 |tup xs=>
  by_cases h2:xs.length=2
  ·obtain⟨x,y,rfl⟩:=rh h2
   cases x with
   |int i=>
    rw[wB]at h
    refine⟨i,y,rfl,?_⟩
    by_cases h0:i=0
    ·rw[if_pos h0]at h;exact .inl ⟨h0,h⟩
    ·rw[if_neg h0]at h
     by_cases h1:i=1
     ·rw[if_pos h1]at h;exact .inr ⟨h1,h⟩
     ·rw[if_neg h1]at h;cases h
   |_=>cases h
  ·rw[nR h2]at h;cases h
 |int i=>rw[iU]at h;cases h
 |str z=>rw[iT]at h;cases h
 |_=>cases h
theorem lw{z:Str}{m:Int}{a b:Bd}{v:PV}(h:aX (.Iw z m a b) v=true):∃i y,v = .tup [.int i,y]∧((i=0∧aX a y=true)∨(i=1∧aX b y=true)):=by
 cases v with
 |tup xs=>
  by_cases h2:xs.length=2
  ·obtain⟨x,y,rfl⟩:=rh h2
   cases x with
   |int i=>
    rw[wC]at h
    refine⟨i,y,rfl,?_⟩
    by_cases h0:i=0
    ·rw[if_pos h0]at h;exact .inl ⟨h0,h⟩
    ·rw[if_neg h0]at h
     by_cases h1:i=1
     ·rw[if_pos h1]at h;exact .inr ⟨h1,h⟩
     ·rw[if_neg h1]at h;cases h
   |_=>cases h
  ·rw[nS h2]at h;cases h
 |int i=>rw[iU]at h;cases h
 |str z=>rw[iT]at h;cases h
 |_=>cases h
theorem ly{a:Bd}{v:PV}(h:aX (.Iu a) v=true):∃xs,v = .tup xs∧xs.all (rg a)=true:=by
 cases v with
 |tup xs=>rw[pJ]at h;exact⟨xs,rfl,h⟩
 |int i=>rw[iU]at h;cases h
 |str z=>rw[iT]at h;cases h
 |_=>cases h
section
variable {js us:List Str} (hj:∀z∈js,IsW z) (hu:∀z∈us,IsW z)
end
theorem fk{L n:Nat}{xs:List PV}(h:Thg L n (.tup xs)):xs.length≤L∧∀x∈xs,∃m,Thg L m x:=by
 cases h with
 |tup hl hx=>exact⟨hl,fun x hm=>⟨_,hx x hm⟩⟩
theorem B7{a b:Bd}{v w:PV}{l l1 l2:Int}(h1:l1≤l)(h2:l2≤l1)(z1:ut v≤3 * a.size * (1+(l - l1).toNat))(z2:ut w≤3 * b.size * (1+(l1 - l2).toNat)):ut (.tup [v,w])≤3 * (Bd.GJ a b).size * (1+(l - l2).toNat):=by
 simp only[ut,Jt,Bd.size]
 have e:(l - l2).toNat=(l - l1).toNat+(l1 - l2).toNat:=by omega
 rw[e]
 generalize (l - l1).toNat=u at *
 generalize (l1 - l2).toNat=w at *
 have p1:3 * a.size * (1+u)≤3 * a.size * (1+(u+w)):=Nat.mul_le_mul_left _ (by omega)
 have p2:3 * b.size * (1+w)≤3 * b.size * (1+(u+w)):=Nat.mul_le_mul_left _ (by omega)
 have p3:3 * (a.size+b.size+1) * (1+(u+w))=3 * a.size * (1+(u+w))+3 * b.size * (1+(u+w))+3 * (1+(u+w)):=by
  rw[show 3 * (a.size+b.size+1)=3 * a.size+3 * b.size+3 by omega,Nat.add_mul,Nat.add_mul]
 omega
theorem B8{a b c:Bd}{n u:Nat}{v:PV}{i:Int}(hs:n=a.size+b.size+1)(hc:c.size≤a.size+b.size)(z:ut v≤3 * c.size * (1+u)):ut (.tup [.int i,v])≤3 * n * (1+u):=by
 simp only[ut,Jt]
 have p1:3 * c.size * (1+u)≤3 * (a.size+b.size) * (1+u):=Nat.mul_le_mul_right _ (Nat.mul_le_mul_left _ hc)
 have p3:3 * n * (1+u)=3 * (a.size+b.size) * (1+u)+3 * (1+u):=by
  rw[hs,show 3 * (a.size+b.size+1)=3 * (a.size+b.size)+3 by omega,Nat.add_mul]
 omega
abbrev iV(n:Nat)(w:aF):Prop:=∀{S:av} {d l x:Addr} {t:Bd} {left wide:Int} {Q:bN} {E:bO},GF S d l→S x=some (.lst [.int left])→x≠d→x≠l→0≤left→1≤wide→wide≤2 ^ 60→t.dep≤n→
  (∀v S' left',aX t v=true→Thg 3 (2 * t.dep) v→cH (2 ^ 60) v=true→0≤left'→left'≤left→ut v≤3 * t.size * (1+(left - left').toNat)→GF S' d l→S' x=some (.lst [.int left'])→Hm d l x S S'→Q v S')→w [.ref d,t.pv,.ref x,.int wide] S Q E
theorem zj{xd s0:aF}(GD:bq xd)(n:Nat)(ih:iV n s0):iV (n+1) (bi 9 (cQ xd s0)):=by
 intro S d l x t left wide Q E D hx hxd Jd h0 hw1 L4 hd k
 unfold cQ
 refine fL ?_
 rw[show aB 9 [PV.ref d,t.pv,PV.ref x,PV.int wide]=[some (.ref d),some t.pv,some (.ref x),some (.int wide),none,none,none,none,none] from rfl]
 refine ax fun N hN=>?_
 simp only[bp,aJ,aj,v3,lk,c3]
 rw[Bd.K8]
 simp only[ad,eN,bt,Bool.false_bne,decide_eq_true_eq]
 by_cases ht:t.hd=("then":Str)
 ·rw[if_pos ht]
  obtain⟨a,b,rfl⟩:=(Bd.LB t).mp ht
  simp only[Bd.dep]at hd
  walk_at "y"
  simp only[Bd.tl,eF,lV]
  refine ih (t:=a) D hx hxd Jd h0 hw1 L4 (by omega) fun v1 S1 l1 i1 t1 n1 q0 q1 z1 D1 x1 O1=>?_
  refine ih (t:=b) D1 x1 hxd Jd q0 hw1 L4 (by omega) fun v2 S2 l2 i2 t2 n2 r0 r1 z2 D2 x2 O2=>?_
  exact k (.tup [v1,v2]) S2 l2 (by rw[pI,i1,i2];rfl) ((Thg.two (by decide) (t1.mono (Nat.le_refl _) (show _≤2 * max a.dep b.dep by omega)) (t2.mono (Nat.le_refl _) (by omega))).mono (Nat.le_refl _) (by simp only[Bd.dep];omega)) (lr n1 n2) r0 (by omega) (B7 q1 r1 z1 z2) D2 x2 (O1.trans O2)
 rw[if_neg ht]
 refine hN _ _ (ax fun N hN=>?_)
 simp only[bp,mw,aJ,aj,v3,lk,c3]
 simp only[ad,eN,bt,Bool.false_bne,decide_eq_true_eq]
 have two:∀(hd2:List PV) (a b:Bd) (N':b9→av→Prop),.str t.hd::t.tl=hd2++[a.pv,b.pv]→a.dep≤n→b.dep≤n→(t.dep=max a.dep b.dep+1)→(t.size=a.size+b.size+1)→(∀(i:Int) y,aX t (.tup [.int i,y])=if i=0 then aX a y else if i=1 then aX b y else false)→
   ak (au 5 (ae xd [v3 0,c3 (.int 2)])) (aG (aE [v3 5,ae s0 [v3 0,aj ad (v3 1) (aj ba (v3 5) (c3 (.int 2))),v3 2,v3 3]])) { nx:=N',rt:=Q,ex:=gX } [some (.ref d),some (.tup (.str t.hd::t.tl)),some (.ref x),some (.int wide),none,none,none,none,none] S:=by
  intro hd2 a b N' e hda hdb NK hsz Qs
  rw[e]
  refine ax fun N2 ID=>?_
  walk_at "x"
  refine GD D (by decide) (by decide) fun i S1 i0 i1 D1 O1=>?_
  refine ID _ _ ?_
  have hi:i=0∨i=1:=by omega
  walk_at "x"
  rw[zi hi]
  have go:∀c:Bd,c.dep≤n→c.dep≤max a.dep b.dep→c.size≤a.size+b.size→(∀y,aX t (.tup [.int i,y])=aX c y)→s0 [.ref d,c.pv,.ref x,.int wide] S1 (fun v S2=>Q (.tup [.int i,v]) S2) gX:=fun c hc hc2 hc3 ec=>by
   refine ih (t:=c) D1 (O1 _ _ hx hxd Jd) hxd Jd h0 hw1 L4 hc fun v1 S2 l1 j1 t1 n1 q0 q1 z1 D2 x1 O2=>?_
   exact k (.tup [.int i,v1]) S2 l1 (by rw[ec,j1]) ((Thg.two (by decide) (.int i) t1).mono (Nat.le_refl _) (by rw[NK];omega)) (lr (pL (by rcases hi with rfl|rfl<;>decide)) n1) q0 q1 (B8 hsz hc3 z1) D2 x1 (O1.x.trans O2)
  rcases hi with rfl|rfl
  ·exact go a hda (Nat.le_max_left _ _) (by omega) fun y=>by rw[Qs];rfl
  ·exact go b hdb (Nat.le_max_right _ _) (by omega) fun y=>by rw[Qs];rfl
 by_cases he:t.hd=("either":Str)
 ·rw[if_pos he,if_pos trivial]
  cases t with
  |Is a b=>simp only[Bd.dep]at hd;exact two [.str "either"] a b _ rfl (by omega) (by omega) rfl rfl (fun _ _=>rfl)
  |_=>simp[Bd.hd,aq]at he
 rw[if_neg he]
 by_cases hk:t.hd=("take":Str)
 ·rw[if_pos hk]
  cases t with
  |Iw z mm a b=>simp only[Bd.dep]at hd;exact two [.str "take",.str z,.int mm] a b _ rfl (by omega) (by omega) rfl rfl (fun _ _=>rfl)
  |_=>simp[Bd.hd,aq]at hk
 rw[if_neg hk]
 refine hN _ _ (ax fun N hN=>?_)
 walk_at "x"
 intro pf hpf
 have Jk:=D.free hpf
 have hpx:pf≠x:=fun h=>by rw[h,hx]at hpf;cases hpf
 have D1:GF (GE S pf (.lst [])) d l:=D.new hpf
 have x1:(GE S pf (.lst [])) x=some (.lst [.int left]):=by rw[ai hpx.symm];exact hx
 have O1:Hm d l x S (GE S pf (.lst [])):=(G_.new hpf).x
 have f1:(GE S pf (.lst [])) pf=some (.lst []):=aa
 generalize GE S pf (.lst [])=S1 at D1 x1 O1 f1
 refine hN _ _ (ax fun N hN=>?_)
 simp only[bM,cM,aj,ae,ar,ao,v3,lk,c3]
 refine GD D1 (by decide) (by decide) fun r S2 r0 r1 D2 O2=>?_
 have x2:=O2 _ _ x1 hxd Jd
 have f2:=O2 _ _ f1 Jk.1 Jk.2
 have On:=O1.trans (O2.x (x:=x))
 simp only[ad,eN,bt,dU,cD,Bool.false_bne,decide_eq_true_eq]
 by_cases ho:t.hd=("often":Str)
 ·rw[if_pos ho]
  refine⟨wq (by omega) (by omega),by omega,by omega,?_⟩
  obtain⟨a,rfl⟩:=(Bd.LD t).mp ho
  simp only[Bd.dep]at hd
  obtain⟨rr,er⟩:∃rr:Nat,r * 1=(rr:Int):=⟨r.toNat,by omega⟩
  rw[er,Int.toNat_natCast]
  refine bE (fun done σ S'=>∃(vs:List PV) (l2:Int) (x6 x7:Option PV),σ=[some (.ref d),some (Bd.Iu a).pv,some (.ref x),some (.int wide),none,none,some (.ref pf),x6,x7]∧vs.length≤done.length∧done.length≤rr∧(∀v∈vs,rg a v=true∧Thg 3 (2 * a.dep+1) v∧cH (2 ^ 60) v=true)∧0≤l2∧l2≤left∧Jt vs≤(3 * a.size+2) * (left - l2).toNat∧GF S' d l∧S' x=some (.lst [.int l2])∧S' pf=some (.lst vs)∧Hm d l x S S') ⟨[],left,_,_,rfl,Nat.le_refl _,Nat.zero_le _,by simp,h0,Int.le_refl _,by simp[Jt],D2,x2,f2,On⟩ (fun _ _ _ _=>trivial) ?_ ?_
  ·rintro done y rest σ S3 K e ⟨vs,l2,x6,x7,rfl,hv,hdl,hvs,q0,q1,hsz,D3,x3,f3,O3⟩ hK
   obtain⟨rfl,hi⟩:=gR e
   simp only[Tg.put,List.set_cons_succ,List.set_cons_zero]
   simp only[bp,aJ,aj,v3,lk,c3,ad,x3,eN,kB,bS,decide_eq_true_eq]
   by_cases hl2:0 < l2
   ·rw[if_pos hl2]
    refine ax fun N2 ID=>?_
    walk_at "x"
    simp only[x3,eN,oQ]
    have e1:(if (0:Int)≤0 then if (0:Int) < (([PV.int l2]:List PV).length:Nat) then some (0:Int).toNat else none else if -((([PV.int l2]:List PV).length:Nat):Int)≤0 then some (0+((([PV.int l2]:List PV).length:Nat):Int)).toNat else none)=some 0:=rfl
    rw[e1]
    dsimp only
    have D4:GF (GE S3 x (.lst [.int (l2 - 1)])) d l:=D3.upd hxd Jd
    have x4:(GE S3 x (.lst [.int (l2 - 1)])) x=some (.lst [.int (l2 - 1)]):=aa
    have f4:(GE S3 x (.lst [.int (l2 - 1)])) pf=some (.lst vs):=by rw[ai hpx];exact f3
    have O4:Hm d l x S (GE S3 x (.lst [.int (l2 - 1)])):=O3.trans .upd
    refine ID _ _ ?_
    show ak _ _ _ _ (GE S3 x (.lst [.int (l2 - 1)]))
    generalize GE S3 x (.lst [.int (l2 - 1)])=S4 at D4 x4 f4 O4
    refine ax fun N3 LZ=>?_
    walk_at "x"
    intro pl hpl
    have NL:=D4.free hpl
    have Pp:pf≠pl:=fun h=>by rw[h,hpl]at f4;cases f4
    have Pq:x≠pl:=fun h=>by rw[h,hpl]at x4;cases x4
    refine GD (D4.new hpl) (by decide) (by decide) fun g S5 g0 g1 D5 O5=>?_
    have p5:=O5 _ _ (aa (S:=S4) (o:=.lst [.int 3,.int wide])) NL.1 NL.2
    have x5:=O5 _ _ (by rw[ai Pq];exact x4) hxd Jd
    have f5:=O5 _ _ (by rw[ai Pp];exact f4) Jk.1 Jk.2
    have Oo:Hm d l x S S5:=O4.trans ((G_.new hpl).trans O5).x
    simp only[p5]
    obtain⟨w,hw,KK⟩:=cY (xs:=[PV.int 3,.int wide]) g0 (by simpa using g1)
    rw[hw]
    obtain⟨ww,rfl,Pr,Ps⟩:∃ww,w = .int ww∧1≤ww∧ww≤2 ^ 60:=by
     simp only[List.mem_cons,List.not_mem_nil,or_false]at KK
     rcases KK with rfl|rfl
     ·exact⟨3,rfl,by omega,by omega⟩
     ·exact⟨wide,rfl,hw1,L4⟩
    dsimp only
    refine GD D5 (by omega) (by omega) fun m S6 m0 m1 D6 O6=>?_
    have L5:=O6 _ _ x5 hxd Jd
    have f6:=O6 _ _ f5 Jk.1 Jk.2
    have Ng:=Oo.trans (O6.x (x:=x))
    refine LZ _ _ ?_
    walk_at "x"
    unfold Bd.pv
    simp only[eF,f6,true_and]
    refine ih (t:=a) D6 L5 hxd Jd (by omega) hw1 L4 (by omega) fun v S7 l7 i7 t7 n7 a0 a1 z7 D7 Mj O7=>?_
    have f7:=O7 _ _ f6 Jk.1 Jk.2 hpx
    simp only[f7]
    refine⟨Nat.lt_of_lt_of_le (show _ < 1000 by omega) (by decide),?_⟩
    refine hK _ _ ⟨vs++[.tup [.int (1+m),v]],l7,_,_,rfl,by simp;omega,by rw[List.length_append];exact hi,fun w hw=>?_,a0,by omega,?_,D7.upd Jk.1 Jk.2,by rw[ai hpx.symm];exact Mj,aa,?_⟩
    ·rcases List.mem_append.mp hw with hw|hw
     ·exact hvs w hw
     ·rw[List.mem_singleton.mp hw]
      exact⟨by simp[rg,i7];omega,Thg.two (by decide) (.int _) t7,lr (pL (by omega)) n7⟩
    ·rw[kd]
     simp only[ut,Jt]
     have e:(left - l7).toNat=(left - l2).toNat+(1+(l2 - 1 - l7).toNat):=by omega
     rw[e]
     generalize (left - l2).toNat=u at *
     generalize (l2 - 1 - l7).toNat=w at *
     have p1:(3 * a.size+2) * (u+(1+w))=(3 * a.size+2) * u+(3 * a.size * (1+w)+2 * (1+w)):=by rw[Nat.mul_add,Nat.add_mul (3 * a.size) 2 (1+w)]
     omega
    ·intro b o hb h1 h2 h3
     have Ml:b≠pf:=fun h=>by rw[h,hpf]at hb;cases hb
     rw[ai Ml]
     exact O7 _ _ (Ng _ _ hb h1 h2 h3) h1 h2 h3
   ·rw[if_neg hl2]
    exact hK _ _ ⟨vs,l2,_,_,rfl,by simp;omega,by rw[List.length_append];exact hi,hvs,q0,q1,hsz,D3,x3,f3,O3⟩
  ·rintro σ S3 ⟨vs,l2,x6,x7,rfl,hv,hdl,hvs,q0,q1,hsz,D3,x3,f3,O3⟩
   refine hN _ _ ?_
   walk_at "x"
   simp only[f3]
   refine k (.tup vs) S3 l2 ?_ (.tup (by omega) fun v hv=>(hvs v hv).2.1) (wD fun v hv=>(hvs v hv).2.2) q0 q1 ?_ D3 x3 O3
   case refine_2=>
    simp only[ut,Bd.size]
    generalize (left - l2).toNat=u at *
    have p1:3 * (a.size+1) * (1+u)=3 * a.size * u+3 * a.size+3 * u+3:=by rw[show 3 * (a.size+1)=3 * a.size+3 by omega,Nat.add_mul,Nat.mul_add (3 * a.size)];omega
    have p2:(3 * a.size+2) * u=3 * a.size * u+2 * u:=Nat.add_mul _ _ _
    omega
   rw[pJ,List.all_eq_true]
   exact fun v hv=>(hvs v hv).1
 ·rw[if_neg ho]
  refine⟨wq (by omega) (by omega),by omega,by omega,?_⟩
  rw[Int.mul_zero]
  refine⟨trivial,?_⟩
  refine hN _ _ ?_
  walk_at "x"
  simp only[f2]
  have hp:t.plain=true:=by
   cases t with
   |Iu a=>exact absurd rfl ho
   |GJ=>exact absurd rfl ht
   |Is=>exact absurd rfl he
   |Iw=>exact absurd rfl hk
   |_=>rfl
  refine k (.tup []) S2 left (by rw[rj hp];rfl) (Thg.nil.mono (Nat.le_refl _) (show 0+1≤_ by have:=t.HJ;omega)) rfl h0 (Int.le_refl _) (by simp[ut,Jt];have:=t.HJ;have:=t.Hl;omega) D2 x2 On
abbrev nT(w:aF):Prop:=∀{S:av} {d l:Addr} {Q:bN} {E:bO},GF S d l→(∀js ds S',Id 6 js [] ds→1≤ds.length→ds.length≤4→js.length≤8→GF S' d l→G_ d l S S'→Q (Hw js ds) S')→w [.ref d] S Q E
theorem KL{xd xh xw xb:aF}(GD:bq xd)(NM:ir xh)(IC:gQ xw)(n:Nat)(hn6:6≤n)(Jj:gv n xb):nT (bi 4 (cF xd xh xw xb)):=by
 intro Sa d l Q E Da k
 unfold cF
 refine fL ?_
 rw[show aB 4 [PV.ref d]=[some (.ref d),none,none,none] from rfl]
 refine ax fun N hN=>?_
 walk_at "x"
 refine GD Da (by decide) (by decide) fun r9 S0 _ _ D0 Oa=>?_
 simp only[Bool.false_bne,decide_eq_true_eq]
 split
 ·exact NM (most:=4) (many:=4) (size:=20) D0 (by decide) (by decide) (by decide) (by decide) (by decide) fun js ds S' a b c e f g=>k js ds S' a b c e f (Oa.trans g)
 refine hN _ _ (ax fun N hN=>?_)
 walk_at "x"
 refine IC D0 (by decide) (by decide) fun p ns S hl hnd hw0 _ Je hpl hp D O0=>?_
 have hl8':ns.length=8:=hl
 have Rn:8≤ns.length:=by omega
 have NI:ns.length≤100:=by omega
 have hw:∀z∈ns,IsW z:=fun z hz=>(hw0 z hz).1
 refine hN _ _ ?_
 refine ax fun N hN=>?_
 walk_at "x"
 refine GD (m:=5) D (by omega) (by omega) fun r S1 r0 r1 D1 O1=>?_
 obtain⟨j,rfl⟩:∃j:Nat,r=(j:Int):=⟨r.toNat,by omega⟩
 have hp1:=O1 _ _ hp Je hpl
 rw[hp1]
 dsimp only
 rw[wy (by rw[List.length_map];omega),←List.map_take]
 intro p2 hp2
 rw[aa]
 dsimp only
 have D2:GF (GE S1 p2 (.lst ((ns.take j).map PV.str))) d l:=D1.new hp2
 have O2:G_ d l S (GE S1 p2 (.lst ((ns.take j).map PV.str))):=O1.trans (.new hp2)
 have hp2':=G_.new (o:=.lst ((ns.take j).map PV.str)) hp2 _ _ hp1 Je hpl
 generalize GE S1 p2 (.lst ((ns.take j).map PV.str))=S2 at D2 O2 hp2'
 refine hN _ _ (ax fun N hN=>?_)
 walk_at "x"
 refine GD (m:=4) D2 (by omega) (by omega) fun r4 S4 a0 a1 D4 O4=>?_
 obtain⟨mm,em⟩:∃mm:Nat,1+r4=(mm:Int):=⟨(1+r4).toNat,by omega⟩
 dsimp only
 rw[em]
 have K9:=O4 _ _ hp2' Je hpl
 have hg:(4:Nat)≤4:=Nat.le_refl _
 refine hN _ _ ?_
 walk_at "x"
 refine⟨by omega,by omega,?_⟩
 rw[Int.toNat_natCast]
 have hjl:(ns.take j).length≤8:=by rw[List.length_take];omega
 refine iO (fun done ys S'=>∃ds:List (Str×Bd),ys=ds.map mM∧ds.length=done.length∧ds.map Prod.fst=(ns.drop 4).take done.length∧done.length≤mm∧(∀q∈ds,q.2.good (ns.take j) []∧q.2.dep≤6∧q.2.size≤60)∧GF S' d l∧G_ d l S4 S') ⟨[],rfl,rfl,rfl,Nat.zero_le _,by simp,D4,.refl⟩ ?_ ?_ ?_
 ·rintro done ys S' ⟨ds,rfl,e,_,hd,_⟩
  exact⟨trivial,cL (by rw[List.length_map,e];omega)⟩
 ·rintro done x rest ys S' K e ⟨ds,rfl,e2,e3,hd,hc,D',O'⟩ hK
  obtain⟨rfl,hi⟩:=gR e
  walk_at "x"
  try simp only[cO,if_true]
  have hp':=O' _ _ K9 Je hpl
  simp only[hp']
  have hlt:4+done.length < ns.length:=by omega
  have hat:Hv (ns.map PV.str) (4+(done.length:Int))=some (.str ns[4+done.length]):=by
   have:(4+(done.length:Int))=((4+done.length:Nat):Int):=by omega
   rw[this]
   exact re (by rw[List.getElem?_map,List.getElem?_eq_getElem hlt];rfl)
  rw[hat]
  dsimp only
  intro px hx
  have dx:=D'.free hx
  refine Jj (D'.new hx) aa dx.1 dx.2 (by omega) (by omega) (by omega) (by decide) (by omega) fun t S5 l1 tg td q0 q1 D5 hx5 O5=>?_
  have Po:G_ d l S' S5:=fun a o ha h1 h2=>O5 a o (by rw[ai (fun e=>by rw[e,hx]at ha;cases ha)];exact ha) h1 h2 (fun e=>by rw[e,hx]at ha;cases ha)
  refine hK _ _ ⟨ds++[(ns[4+done.length],t)],by simp[mM],by simp[e2],?_,by rw[List.length_append];exact hi,fun y hy=>?_,D5,O'.trans Po⟩
  ·rw[List.map_append,e3,List.length_append,List.length_singleton,List.take_succ,List.getElem?_drop,List.getElem?_eq_getElem hlt]
   rfl
  ·rcases List.mem_append.mp hy with hy|hy
   ·exact hc y hy
   ·rw[List.mem_singleton.mp hy];exact⟨tg,show t.dep≤6 by omega,show t.size≤60 by omega⟩
 rintro ys S5 ⟨ds,rfl,e,ef,_,hds,D5,O5⟩
 rw[bQ]at e ef
 intro p6 NJ
 rw[aa]
 dsimp only
 have sub:∀q∈ds,q.1∈ns:=fun q hq=>by
  have:q.1∈ds.map Prod.fst:=List.mem_map.mpr ⟨q,hq,rfl⟩
  rw[ef]at this
  exact List.mem_of_mem_drop (List.mem_of_mem_take this)
 refine k (ns.take j) ds _ ⟨⟨by omega,by omega,fun z hz=>hw z (List.mem_of_mem_take hz),by simp,fun q hq=>hw _ (sub q hq),fun q hq=>(hds q hq).1,fun q hq=>by have:=(hds q hq).2.1;omega,fun q hq=>(hds q hq).2.2⟩,hnd.sublist (List.take_sublist _ _),by rw[ef];exact hnd.sublist ((List.take_sublist _ _).trans (List.drop_sublist _ _)),fun q hq=>(hds q hq).2.1⟩ (by omega) (by omega) hjl (D5.new NJ) (Oa.trans (O0.trans (O2.trans (O4.trans (O5.trans (.new NJ))))))
noncomputable def cf(n:Int):PV:=.tup [.int (M3.bC n 2520),.int (M3.a_ n 2520)]
theorem kD:(.tup [.int 0,.int 1]:PV)=cf 0:=by
 have h1:M3.bC 0 2520=0:=by decide +kernel
 have h2:M3.a_ 0 2520=1:=by decide +kernel
 unfold cf
 rw[h1,h2]
theorem rm(n:Int):M3.Ep (M3.bC n 2520) (M3.a_ n 2520):=M3.ng (by decide)
theorem gw(n:Int):M3.bC n 2520 * 2520=n * M3.a_ n 2520:=M3.tG (by decide)
theorem dz(n:Int):0 < M3.a_ n 2520∧M3.a_ n 2520≤2520:=by
 refine⟨(rm n).pos,?_⟩
 unfold M3.a_
 rw[if_neg (by decide)]
 exact Int.ediv_le_self _ (by decide)
theorem eG{n:Int}(h:0≤n):0≤M3.bC n 2520:=by
 unfold M3.bC
 rw[if_neg (by decide)]
 exact Int.ediv_nonneg h (Int.natCast_nonneg _)
theorem zX{n B:Int}(h0:0≤n)(h:n≤B):M3.bC n 2520≤B:=by
 unfold M3.bC
 rw[if_neg (by decide)]
 exact Int.le_trans (Int.ediv_le_self _ h0) h
theorem sx{x y:Int}(h:nM x y):(.tup [.int x,.int y]:PV)=cf (x * (2520 / y)):=by
 have hy:y=1∨y=2∨y=3∨y=4∨y=5∨y=6∨y=7∨y=8∨y=9:=by have:=h.low.pos;have:=h.y1;omega
 have e:2520 / y * y=2520:=by rcases hy with rfl|rfl|rfl|rfl|rfl|rfl|rfl|rfl|rfl<;>decide
 have u:=M3.ig h.low (x:=x * (2520 / y)) (y:=2520) (by decide) (by rw[Int.mul_assoc,e])
 unfold cf
 rw[u.1,u.2]
theorem sy(n m:Int):(.tup [.int (M3.bC (M3.bC n 2520 * M3.a_ m 2520+M3.bC m 2520 * M3.a_ n 2520) (M3.a_ n 2520 * M3.a_ m 2520)),.int (M3.a_ (M3.bC n 2520 * M3.a_ m 2520+M3.bC m 2520 * M3.a_ n 2520) (M3.a_ n 2520 * M3.a_ m 2520))]:PV)=cf (n+m):=by
 have u:=M3.ig (rm (n+m)) (x:=M3.bC n 2520 * M3.a_ m 2520+M3.bC m 2520 * M3.a_ n 2520) (y:=M3.a_ n 2520 * M3.a_ m 2520) (Int.mul_pos (dz n).1 (dz m).1) (by
  have h1:=gw n;have h2:=gw m;have h3:=gw (n+m)
  generalize M3.bC n 2520=a at *;generalize M3.a_ n 2520=b at *;generalize M3.bC m 2520=c at *;generalize M3.a_ m 2520=d at *
  generalize M3.bC (n+m) 2520=L at *;generalize M3.a_ (n+m) 2520=B at *
  grind)
 unfold cf
 rw[u.1,u.2]
theorem wE(n m:Int):(.tup [.int (M3.bC (M3.bC n 2520 * m) (M3.a_ n 2520 * 1)),.int (M3.a_ (M3.bC n 2520 * m) (M3.a_ n 2520 * 1))]:PV)=cf (n * m):=by
 have u:=M3.ig (rm (n * m)) (x:=M3.bC n 2520 * m) (y:=M3.a_ n 2520 * 1) (by rw[Int.mul_one];exact(dz n).1) (by
  have h1:=gw n;have h3:=gw (n * m)
  generalize M3.bC n 2520=a at *;generalize M3.a_ n 2520=b at *
  generalize M3.bC (n * m) 2520=L at *;generalize M3.a_ (n * m) 2520=B at *
  grind)
 unfold cf
 rw[u.1,u.2]
abbrev Ty:=Int×List (Int×Int)
noncomputable def jn(p q:Int×Int):Int×Int:=(p.1+q.1,if q.2 - p.1 > p.2 then q.2 - p.1 else p.2)
noncomputable def Ty.join(t u:Ty):Ty:=(t.1+u.1,List.zipWith jn t.2 u.2)
noncomputable def ag(m:Int)(p:Int×Int):Int×Int:=(p.1 * m,p.2+(if -p.1 * (m - 1) > 0 then -p.1 * (m - 1) else 0))
noncomputable def Ty.again(m:Int)(t:Ty):Ty:=(t.1 * m,t.2.map (ag m))
noncomputable def zl(js:List Str):List (Int×Int):=js.map fun _=>(0,0)
noncomputable def z0(js:List Str):Ty:=(0,zl js)
theorem lz(e m:Int)(hm:1≤m):-e * (m - 1)=e - e * m∧(0≤e→e≤e * m)∧(e < 0→e * m≤e):=by
 refine⟨by grind,fun h=>?_,fun h=>?_⟩
 ·have:=Int.mul_le_mul_of_nonneg_left hm h;omega
 ·have:=Int.mul_le_mul_of_nonneg_left hm (show 0 ≤ -e by omega);rw[Int.neg_mul,Int.neg_mul]at this;omega
theorem zk{a b:Int}(p:Int×Int)(ha:1≤a)(hb:1≤b):jn (ag a p) (ag b p)=ag (a+b) p:=by
 obtain⟨e,d⟩:=p
 obtain⟨a1,a2,a3⟩:=lz e a ha
 obtain⟨b1,b2,b3⟩:=lz e b hb
 obtain⟨c1,c2,c3⟩:=lz e (a+b) (by omega)
 have c4:e * (a+b)=e * a+e * b:=Int.mul_add _ _ _
 simp only[jn,ag,a1,b1,c1,c4]
 generalize e * a=x at *
 generalize e * b=y at *
 refine Prod.ext rfl ?_
 dsimp only
 by_cases he:0≤e
 ·have:=a2 he;have:=b2 he
  rw[if_neg (show ¬(e - y > 0) by omega),if_neg (show ¬(e - x > 0) by omega),if_neg (show ¬(e - (x+y) > 0) by omega)]
  split<;>omega
 ·have:=a3 (by omega);have:=b3 (by omega)
  rw[if_pos (show e - (x+y) > 0 by omega)]
  by_cases h1:e - y > 0
  ·rw[if_pos h1]
   by_cases h2:e - x > 0
   ·rw[if_pos h2];split<;>omega
   ·rw[if_neg h2];split<;>omega
  ·rw[if_neg h1]
   by_cases h2:e - x > 0
   ·rw[if_pos h2];split<;>omega
   ·rw[if_neg h2];split<;>omega
theorem t_{m:Int}{p:Int×Int}(h:0≤p.2):0≤(ag m p).2:=by
 simp only[ag]
 split<;>omega
def Ty.Ok(js:List Str)(t:Ty):Prop:=t.2.length=js.length∧0≤t.1∧∀p∈t.2,0≤p.2
theorem pM{α β:Type}(f:α→α→β):∀l:List α,List.zipWith f l l=l.map fun x=>f x x
 |[]=>rfl
 |x::r=>by rw[List.zipWith_cons_cons,pM f r];rfl
theorem lA{α β γ:Type}{f:α→β→γ}:∀{xs:List α} {ys:List β} {z:γ},z∈List.zipWith f xs ys→∃x∈xs,∃y∈ys,z=f x y
 |[],_,z,h=>by simp at h
 |_::_,[],z,h=>by simp at h
 |x::r,y::s,z,h=>by
  rw[List.zipWith_cons_cons,List.mem_cons]at h
  rcases h with rfl|h
  ·exact⟨x,by simp,y,by simp,rfl⟩
  ·obtain⟨a,ha,b,hb,e⟩:=lA h
   exact⟨a,by simp[ha],b,by simp[hb],e⟩
theorem Ty.Ok.join{js:List Str}{t u:Ty}(h:t.Ok js)(g:u.Ok js):(t.join u).Ok js:=by
 refine⟨?_,?_,fun p hp=>?_⟩
 ·show(List.zipWith jn t.2 u.2).length=_
  rw[List.length_zipWith,h.1,g.1,Nat.min_self]
 ·exact Int.add_nonneg h.2.1 g.2.1
 ·obtain⟨x,hx,y,hy,rfl⟩:=lA hp
  have:=h.2.2 x hx
  simp only[jn]
  split<;>omega
theorem Ty.Ok.again{js:List Str}{t:Ty}{m:Int}(h:t.Ok js)(hm:1≤m):(t.again m).Ok js:=by
 refine⟨?_,Int.mul_nonneg h.2.1 (by omega),fun p hp=>?_⟩
 ·show(t.2.map (ag m)).length=_
  rw[List.length_map,h.1]
 ·obtain⟨x,hx,rfl⟩:=List.mem_map.mp hp
  exact t_ (h.2.2 x hx)
theorem lB(js:List Str):(z0 js).Ok js:=⟨List.length_map _,Int.le_refl _,fun p hp=>by obtain⟨x,hx,rfl⟩:=List.mem_map.mp hp;exact Int.le_refl _⟩
def Ty.Kx(B:Int)(t:Ty):Prop:=t.1≤B∧∀p∈t.2,-B≤p.1∧p.1≤B∧p.2≤B
theorem Ty.Kx.mono{B D:Int}{t:Ty}(h:t.Kx B)(g:B≤D):t.Kx D:=⟨Int.le_trans h.1 g,fun p hp=>by have:=h.2 p hp;omega⟩
theorem Ty.Kx.join{B D:Int}{t u:Ty}(h:t.Kx B)(g:u.Kx D)(hB:0≤B)(hD:0≤D):(t.join u).Kx (B+D):=by
 refine⟨Int.add_le_add h.1 g.1,fun p hp=>?_⟩
 obtain⟨x,hx,y,hy,rfl⟩:=lA hp
 have:=h.2 x hx
 have:=g.2 y hy
 simp only[jn]
 split<;>omega
theorem Ty.Kx.again{B m:Int}{t:Ty}(h:t.Kx B)(hB:0≤B)(hm:1≤m):(t.again m).Kx (B * m):=by
 refine⟨Int.mul_le_mul_of_nonneg_right h.1 (by omega),fun p hp=>?_⟩
 obtain⟨⟨e,d⟩,hx,rfl⟩:=List.mem_map.mp hp
 obtain⟨h1,h2,h3⟩:=h.2 _ hx
 dsimp only at h1 h2 h3
 have m1:=Int.mul_le_mul_of_nonneg_right h1 (show 0≤m by omega)
 have m2:=Int.mul_le_mul_of_nonneg_right h2 (show 0≤m by omega)
 have m3:=Int.mul_le_mul_of_nonneg_right h1 (show 0≤m - 1 by omega)
 rw[Int.neg_mul]at m1 m3
 have e1:B * (m - 1)=B * m - B:=by rw[Int.mul_sub,Int.mul_one]
 have e2:-e * (m - 1) = -(e * (m - 1)):=Int.neg_mul _ _
 simp only[ag]
 refine⟨m1,m2,?_⟩
 rw[e2]
 have:B≤B * m:=by have:=Int.mul_le_mul_of_nonneg_left hm hB;omega
 split<;>omega
theorem bV{α:Type}{g:Tg}{te:aL}{σ':b9}{keep:av→Prop}{fin:List PV→av→Prop}{S:av}(enc f:α→PV)(hk:keep S):∀(xs:List α) (ys:List PV),
  (∀x∈xs,∃σ2,g.put (enc x) σ'=some σ2∧∀Q:bN,Q (f x) S→te σ2 S Q gX)→ys.length+xs.length≤sizeLine→fin (ys++xs.map f) S→eA g cO te σ' keep fin (xs.map enc) ys S
 |[],ys,_,hl,hf=>⟨hk,by simpa using hl,by simpa using hf⟩
 |x::r,ys,h,hl,hf=>by
  obtain⟨σ2,e,h1⟩:=h x (by simp)
  refine⟨hk,by simp at hl;omega,?_⟩
  rw[e]
  show te σ2 S (fun y S4=>eA g cO te σ' keep fin (r.map enc) (ys++[y]) S4) gX
  exact h1 _ (bV enc f hk r (ys++[f x]) (fun y hy=>h y (by simp[hy])) (by simp at hl ⊢;omega) (by simpa using hf))
theorem lC{n:Nat}(h:n≤1000):n≤sizeLine:=Nat.le_trans h (by decide)
abbrev lD(w:aF):Prop:=∀{S:av} {a b:Int} {Q:bN} {E:bO},0≤a→0≤b→Q (.int (Int.gcd a b)) S→w [.int a,.int b] S Q E
theorem IO:lD (bi 3 k9):=by
 intro S a b Q E ha hb k
 unfold k9
 refine fL ?_
 rw[show aB 3 [PV.int a,PV.int b]=[some (.int a),some (.int b),none] from rfl]
 refine ax fun N hN=>?_
 refine⟨fun n σ S'=>S'=S∧∃(x y:Int) (z:Option PV),σ=[some (.int x),some (.int y),z]∧0≤x∧0≤y∧Int.gcd x y=Int.gcd a b∧y.toNat=n,⟨_,rfl,a,b,none,rfl,ha,hb,rfl,rfl⟩,?_⟩
 rintro n σ S' ⟨rfl,x,y,z,rfl,hx,hy,hg,rfl⟩
 walk_at "x"
 simp only[Bool.true_bne,Bool.not_eq_true',decide_eq_false_iff_not]
 split
 ·rename_i hp
  refine⟨fun σ' Lz=>Lz=S'∧∃(x' y':Int) (z':Option PV),σ'=[some (.int x'),some (.int y'),z']∧0≤x'∧0≤y'∧Int.gcd x' y'=Int.gcd a b∧y'.toNat < y.toNat,?_,?_⟩
  ·rintro σ' Lz ⟨rfl,x',y',z',rfl,h1,h2,h3,h4⟩
   exact⟨_,h4,rfl,x',y',z',rfl,h1,h2,h3,rfl⟩
  ·have e:x.fmod y=x % y:=hW hy
   have l1:=Int.emod_nonneg x (b:=y) hp
   have l2:=Int.emod_lt_of_pos x (show 0 < y by omega)
   refine⟨hp,rfl,y,x.fmod y,_,rfl,hy,by omega,?_,by omega⟩
   rw[M3.oW];exact hg
 ·rename_i hp
  have Nf:y=0:=by omega
  subst Nf
  refine hN _ _ ?_
  walk_at "x"
  rw[if_neg (by omega)]
  have Pf:x=(Int.gcd a b:Int):=by
   rw[←hg]
   rw[Int.gcd_zero_right]
   omega
  rw[Pf]
  exact k
abbrev lE(w:aF):Prop:=∀{S:av} {t b:Int} {Q:bN} {E:bO},0≤t→0 < b→b.natAbs < 2 ^ 8000→Q (.tup [.int (M3.bC t b),.int (M3.a_ t b)]) S→w [.int t,.int b] S Q E
theorem IP{xc:aF}(IO:lD xc):lE (bi 3 (io xc)):=by
 intro S t b Q E ht hb hs k
 unfold io
 refine fL ?_
 rw[show aB 3 [PV.int t,PV.int b]=[some (.int t),some (.int b),none] from rfl]
 refine ax fun N hN=>?_
 walk_at "x"
 refine IO ht (by omega) (hN _ _ (ax fun N hN=>?_))
 walk_at "x"
 rw[if_neg (by rw[decide_eq_true_eq];omega)]
 refine hN _ _ ?_
 walk_at "x"
 have gp:(0:Int) < (Int.gcd t b:Int):=Int.natCast_pos.mpr (M3.gN (by omega))
 have gl:=M3.vi (t:=t) (b:=b) (by omega)
 have cd:∀z,mx z (Int.gcd t b:Int):=fun z=>⟨by omega,Nat.lt_of_le_of_lt (by omega) hs⟩
 refine⟨cd _,cd _,?_⟩
 have d1:=(M3.oV (t:=t) (b:=b) (by omega))
 rw[if_neg (by omega)]at d1
 rw[d1.1,d1.2]
 exact k
theorem DW(n m:Int):0 < M3.a_ n 2520 * M3.a_ m 2520∧(M3.a_ n 2520 * M3.a_ m 2520).natAbs < 2 ^ 8000:=by
 obtain⟨a,b⟩:=dz n
 obtain⟨c,d⟩:=dz m
 have p:=Int.mul_pos a c
 have q:M3.a_ n 2520 * M3.a_ m 2520≤2520 * 2520:=Int.mul_le_mul b d (by omega) (by decide)
 exact⟨p,jH (by omega)⟩
theorem ua(i n:Int):IntMulOk i (M3.a_ n 2520):=by have:=dz n;exact li (by omega) (by omega)
abbrev dA(w:aF):Prop:=∀{S:av} {n m:Int} {Q:bN} {E:bO},0≤n→0≤m→Q (cf (n+m)) S→w [cf n,cf m] S Q E
theorem Ig{xf:aF}(IP:lE xf):dA (bi 2 (qX xf)):=by
 intro S n m Q E hn hm k
 unfold qX
 refine fL ?_
 rw[show aB 2 [cf n,cf m]=[some (cf n),some (cf m)] from rfl]
 simp only[cf]
 walk_at "x"
 simp only[eN,eF]
 refine⟨ua _ _,ua _ _,ua _ _,?_⟩
 have b:=DW n m
 refine IP (Int.add_nonneg (Int.mul_nonneg (eG hn) (Int.le_of_lt (dz m).1)) (Int.mul_nonneg (eG hm) (Int.le_of_lt (dz n).1))) b.1 b.2 ?_
 rw[sy]
 exact k
theorem wF{xf:aF}(JR:kC xf):dA (bi 2 (gj xf)):=by
 intro S n m Q E hn hm k
 unfold gj
 refine fL ?_
 rw[show aB 2 [cf n,cf m]=[some (cf n),some (cf m)] from rfl]
 simp only[cf]
 walk_at "x"
 simp only[eN,eF]
 refine⟨ua _ _,ua _ _,ua _ _,?_⟩
 have b:=DW n m
 refine JR b.1 b.2 ?_
 rw[sy]
 exact k
abbrev jJ(w:aF):Prop:=∀{S:av} {n m:Int} {Q:bN} {E:bO},0≤n→0≤m→m < 2 ^ 62→Q (cf (n * m)) S→w [cf n,.tup [.int m,.int 1]] S Q E
theorem JS{xf:aF}(IP:lE xf):jJ (bi 2 (nC xf)):=by
 intro S n m Q E hn hm hm2 k
 unfold nC
 refine fL ?_
 rw[show aB 2 [cf n,.tup [.int m,.int 1]]=[some (cf n),some (.tup [.int m,.int 1])] from rfl]
 simp only[cf]
 walk_at "x"
 simp only[eN,eF]
 refine⟨li (by omega) (by omega),li (by decide) (by decide),?_⟩
 have b:=dz n
 refine IP (Int.mul_nonneg (eG hn) hm) (by omega) (jH (by omega)) ?_
 rw[wE]
 exact k
noncomputable def Ty.es(t:Ty):List PV:=t.2.map fun p=>.int p.1
noncomputable def Ty.dm(t:Ty):List PV:=t.2.map fun p=>.int p.2
noncomputable def Ty.pv(t:Ty):PV:=.tup [cf t.1,.tup t.es,.tup t.dm]
noncomputable def gx(js:List Str):PV:=.tup (js.map PV.str)
noncomputable def mO(js:List Str)(z:Str)(e d:Int):List (Int×Int):=js.map fun j=>if j=z then (e,d) else (0,0)
abbrev lF(w:aF):Prop:=∀{S:av} {js:List Str} {Q:bN} {E:bO},js.length≤1000→Q (z0 js).pv S→w [gx js] S Q E
theorem wG(js:List Str):List.replicate js.length (PV.int 0)=(z0 js).es:=by
 unfold Ty.es z0 zl
 rw[List.map_map]
 induction js with
 |nil=>rfl
 |cons j js ih=>rw[List.length_cons,List.replicate_succ,ih];rfl
theorem B9(js:List Str):List.replicate js.length (PV.int 0)=(z0 js).dm:=by rw[wG];unfold Ty.es Ty.dm z0 zl;rw[List.map_map,List.map_map];rfl
theorem IQ:lF (bi 1 ip):=by
 intro S js Q E hj k
 unfold ip
 refine fL ?_
 rw[show aB 1 [gx js]=[some (gx js)] from rfl]
 unfold gx
 walk_at "x"
 simp only[ph,List.length_map,Int.toNat_natCast]
 refine⟨by omega,by omega,by omega,by omega,?_⟩
 rw[kD]
 have e:(PV.tup [cf 0,.tup (List.replicate js.length (.int 0)),.tup (List.replicate js.length (.int 0))])=(z0 js).pv:=by
  unfold Ty.pv
  rw[←wG,←B9]
  rfl
 rw[e]
 exact k
abbrev iu(w:aF):Prop:=∀{S:av} {js:List Str} {z:Str} {m:Int} {Q:bN} {E:bO},js.length≤1000→(∀S',Ext S S'→Q (.tup (js.map fun j=>.int (if j=z then m else 0))) S')→w [gx js,.str z,.int m] S Q E
theorem Hi:iu (bi 3 gi):=by
 intro S js z m Q E hj k
 unfold gi
 refine fL ?_
 rw[show aB 3 [gx js,.str z,.int m]=[some (gx js),some (.str z),some (.int m)] from rfl]
 unfold gx
 walk_at "x"
 refine bV PV.str (fun j=>.int (if j=z then m else 0)) trivial js [] (fun j hj=>⟨_,rfl,fun Q q=>?_⟩) (by simpa using lC hj) fun p hp=>?_
 ·walk_at "x"
  simp only[Bool.false_bne,decide_eq_true_eq]
  split
  ·rename_i h;rw[if_pos h]at q;exact q
  ·rename_i h;rw[if_neg h]at q;exact q
 ·simp only[List.nil_append,aa]
  exact k _ (.new hp)
theorem wH{α β γ δ:Type}(f:α→β→γ)(g:γ→δ)(xs:List α)(ys:List β):(xs.zip ys).map (fun z=>g (f z.1 z.2))=(List.zipWith f xs ys).map g:=by
 rw[List.zip,List.map_zipWith,List.map_zipWith]
theorem B_(t u:Ty):dr t.es u.es=(t.2.zip u.2).map fun z=>.tup [.int z.1.1,.int z.2.1]:=by
 unfold dr Ty.es
 rw[List.zip_map,List.map_map]
 rfl
theorem Ca(t:Ty):dr t.es t.dm=t.2.map fun z=>.tup [.int z.1,.int z.2]:=by
 unfold dr Ty.es Ty.dm
 rw[List.zip_map,List.map_map]
 rw[show t.2.zip t.2=t.2.map fun x=>(x,x)from pM _ _,List.map_map]
 rfl
theorem ub(t u:Ty):eY t.es t.dm u.dm=(t.2.zip u.2).map fun z=>.tup [.int z.1.1,.int z.1.2,.int z.2.2]:=by
 unfold eY Ty.es Ty.dm
 have:∀(l m:List (Int×Int)),((l.map fun p=>PV.int p.1).zip ((l.map fun p=>PV.int p.2).zip (m.map fun p=>PV.int p.2))).map DG=(l.zip m).map fun z=>.tup [.int z.1.1,.int z.1.2,.int z.2.2]:=fun l=>by
  induction l with
  |nil=>intro m;rfl
  |cons p r ih=>
   intro m
   cases m with
   |nil=>rfl
   |cons q s=>simp only[List.map_cons,List.zip_cons_cons];rw[ih s];rfl
 exact this t.2 u.2
theorem zm(t u:Ty):(t.2.zip u.2).map (fun z=>PV.int (z.1.1+z.2.1))=(t.join u).es:=wH jn (fun p=>PV.int p.1) t.2 u.2
theorem zn(t u:Ty):(t.2.zip u.2).map (fun z=>PV.int (jn z.1 z.2).2)=(t.join u).dm:=wH jn (fun p=>PV.int p.2) t.2 u.2
abbrev jK(w:aF):Prop:=∀{S:av} {t u:Ty} {Q:bN} {E:bO},t.2.length≤1000→(∀S',Ext S S'→Q (.tup (t.join u).es) S')→w [.tup t.es,.tup u.es] S Q E
theorem Ib:jK (bi 2 nE):=by
 intro S t u Q E hj k
 unfold nE
 refine fL ?_
 rw[show aB 2 [.tup t.es,.tup u.es]=[some (.tup t.es),some (.tup u.es)] from rfl]
 walk_at "x"
 rw[B_]
 refine bV _ (fun z=>PV.int (z.1.1+z.2.1)) trivial _ [] (fun z hz=>⟨_,rfl,fun Q q=>?_⟩) ?_ fun p hp=>?_
 ·walk_at "x"
  exact q
 ·rw[List.length_nil,Nat.zero_add,List.length_zip]
  exact lC (by omega)
 ·simp only[List.nil_append,aa]
  rw[zm]
  exact k _ (.new hp)
abbrev pN(w:aF):Prop:=∀{S:av} {t:Ty} {m:Int} {Q:bN} {E:bO},t.2.length≤1000→0≤m→m < 2 ^ 62→(∀S',Ext S S'→Q (.tup (t.again m).es) S')→w [.tup t.es,.int m] S Q E
theorem wI(t:Ty)(m:Int):t.2.map (fun p=>PV.int (p.1 * m))=(t.again m).es:=by
 unfold Ty.again Ty.es
 rw[List.map_map]
 rfl
theorem wJ(t:Ty)(m:Int):t.2.map (fun p=>PV.int (ag m p).2)=(t.again m).dm:=by
 unfold Ty.again Ty.dm
 rw[List.map_map]
 rfl
theorem Kk:pN (bi 2 eX):=by
 intro S t m Q E hj h0 h1 k
 unfold eX
 refine fL ?_
 rw[show aB 2 [.tup t.es,.int m]=[some (.tup t.es),some (.int m)] from rfl]
 walk_at "x"
 refine bV (fun p:Int×Int=>PV.int p.1) (fun p=>PV.int (p.1 * m)) trivial t.2 [] (fun z hz=>⟨_,rfl,fun Q q=>?_⟩) (by simpa using lC hj) fun p hp=>?_
 ·walk_at "x"
  exact⟨li (by omega) (by omega),q⟩
 ·simp only[List.nil_append,aa]
  rw[wI]
  exact k _ (.new hp)
abbrev fm(w:aF):Prop:=∀{S:av} {js:List Str} {t u:Ty} {Q:bN} {E:bO},js.length≤1000→t.Ok js→u.Ok js→(∀S',Ext S S'→Q (t.join u).pv S')→w [t.pv,u.pv] S Q E
theorem Hy{xa xp:aF}(Ib:jK xa)(Ig:dA xp):fm (bi 3 (lh xa xp)):=by
 intro S js t u Q E hj ht hu k
 unfold lh
 refine fL ?_
 rw[show aB 3 [t.pv,u.pv]=[some t.pv,some u.pv,none] from rfl]
 unfold Ty.pv
 refine ax fun N hN=>?_
 walk_at "x"
 simp only[v_,aj,v3,lk,c3,ad,eF,lV]
 have lt:=ht.1
 have lu:=hu.1
 refine⟨by unfold Ty.es Ty.dm;rw[List.length_map,List.length_map];omega,by unfold Ty.es Ty.dm;rw[List.length_map,List.length_map];omega,?_⟩
 rw[ub]
 refine bV _ (fun z=>PV.int (jn z.1 z.2).2) trivial _ [] (fun z hz=>⟨_,rfl,fun Q q=>?_⟩) ?_ fun p hp=>?_
 ·walk_at "x"
  exact q
 ·rw[List.length_nil,Nat.zero_add,List.length_zip]
  exact lC (by omega)
 ·rw[List.nil_append,zn]
  refine hN _ _ ?_
  walk_at "x"
  simp only[eN,eF]
  refine Ig ht.2.1 hu.2.1 ?_
  refine Ib (t:=t) (u:=u) (by omega) fun S2 X2=>?_
  simp only[X2 _ _ aa]
  exact k S2 ((Ext.new hp).trans X2)
abbrev jL(w:aF):Prop:=∀{S:av} {js:List Str} {t:Ty} {m:Int} {Q:bN} {E:bO},js.length≤1000→t.Ok js→1≤m→m < 2 ^ 62→(∀S',Ext S S'→Q (t.again m).pv S')→w [t.pv,.int m] S Q E
theorem JT{xm xt:aF}(Kk:pN xm)(JS:jJ xt):jL (bi 3 (nF xm xt)):=by
 intro S js t m Q E hj ht h1 h2 k
 unfold nF
 refine fL ?_
 rw[show aB 3 [t.pv,.int m]=[some t.pv,some (.int m),none] from rfl]
 unfold Ty.pv
 refine ax fun N hN=>?_
 walk_at "x"
 simp only[eF,lV]
 have lt:=ht.1
 rw[Ca]
 refine bV _ (fun p:Int×Int=>PV.int (ag m p).2) trivial t.2 [] (fun z hz=>⟨_,rfl,fun Q q=>?_⟩) (by simpa using lC (by omega)) fun p hp=>?_
 ·walk_at "x"
  exact⟨li (by omega) (by omega),q⟩
 ·rw[List.nil_append,wJ]
  refine hN _ _ ?_
  walk_at "x"
  simp only[eN,eF]
  refine JS ht.2.1 (by omega) h2 ?_
  refine Kk (t:=t) (by omega) (by omega) h2 fun S2 X2=>?_
  simp only[X2 _ _ aa]
  exact k S2 ((Ext.new hp).trans X2)
abbrev iw(w:aF):Prop:=∀{S:av} {js:List Str} {z:Str} {m:Int} {a b:Bd} {Q:bN} {E:bO},js.length≤1000→(∀S',Ext S S'→Q (Ty.pv (0,mO js z (-m) m)) S')→w [gx js,(Bd.Iw z m a b).pv] S Q E
theorem wL(js:List Str)(z:Str)(e d:Int):js.map (fun j=>PV.int (if j=z then e else 0))=Ty.es (0,mO js z e d):=by
 unfold Ty.es mO
 rw[List.map_map]
 exact List.map_congr_left fun j _=>by dsimp only [Function.comp];split<;>rfl
theorem Cb(js:List Str)(z:Str)(e d:Int):js.map (fun j=>PV.int (if j=z then d else 0))=Ty.dm (0,mO js z e d):=by
 unfold Ty.dm mO
 rw[List.map_map]
 exact List.map_congr_left fun j _=>by dsimp only [Function.comp];split<;>rfl
theorem Ju{xt:aF}(Hi:iu xt):iw (bi 2 (cP xt)):=by
 intro S js z m a b Q E hj k
 unfold cP
 refine fL ?_
 rw[show aB 2 [gx js,(Bd.Iw z m a b).pv]=[some (gx js),some (.tup [.str "take",.str z,.int m,a.pv,b.pv])] from rfl]
 walk_at "x"
 simp only[eF,lV]
 rw[kD]
 refine Hi hj fun S1 X1=>Hi hj fun S2 X2=>?_
 rw[wL js z (-m) m,Cb js z (-m) m]
 exact k S2 (X1.trans X2)
noncomputable def Nh(js:List Str)(f:PV→Ty):PV→Ty
 | .tup [.int m,y]=>(f y).again m
 |_=>z0 js
noncomputable def Bd.GU(js:List Str):Bd→PV→Ty
 | .Iu a,.tup xs=>(xs.map (Nh js fun y=>a.GU js y)).foldl Ty.join (z0 js)
 | .GJ a b,.tup [x,y]=>(a.GU js x).join (b.GU js y)
 | .Is a b,.tup [.int i,y]=>if i=0 then a.GU js y else b.GU js y
 | .Iw z m a b,.tup [.int i,y]=>if i=0 then Ty.join (0,mO js z (-m) m) (a.GU js y) else b.GU js y
 | .pay x y,_=>(x * (2520 / y),zl js)
 | .put z m,_=>(0,mO js z m 0)
 |_,_=>z0 js
theorem nU(js:List Str)(a:Bd)(xs:List PV):(Bd.Iu a).GU js (.tup xs)=(xs.map (Nh js fun y=>a.GU js y)).foldl Ty.join (z0 js):=rfl
theorem zo(js:List Str)(a b:Bd)(x y:PV):(Bd.GJ a b).GU js (.tup [x,y])=(a.GU js x).join (b.GU js y):=rfl
theorem nV(js:List Str)(a b:Bd)(i:Int)(y:PV):(Bd.Is a b).GU js (.tup [.int i,y])=if i=0 then a.GU js y else b.GU js y:=rfl
theorem nW(js:List Str)(z:Str)(m:Int)(a b:Bd)(i:Int)(y:PV):(Bd.Iw z m a b).GU js (.tup [.int i,y])=if i=0 then Ty.join (0,mO js z (-m) m) (a.GU js y) else b.GU js y:=rfl
theorem fN{a:Bd}{g:PV}(h:rg a g=true):∃m y,g = .tup [.int m,y]∧1≤m∧aX a y=true:=by
 unfold rg at h
 split at h
 ·rename_i m y
  rw[Bool.and_eq_true,decide_eq_true_eq]at h
  exact⟨m,y,rfl,h.1,h.2⟩
 ·cases h
theorem rq{js:List Str}{z:Str}{e d:Int}(hd:0≤d):Ty.Ok js (0,mO js z e d):=⟨List.length_map _,Int.le_refl _,fun p hp=>by
 obtain⟨j,hj,rfl⟩:=List.mem_map.mp hp
 split
 ·exact hd
 ·exact Int.le_refl _⟩
theorem nX{js:List Str}:∀(ts:List Ty) (t:Ty),(∀u∈ts,u.Ok js)→t.Ok js→(ts.foldl Ty.join t).Ok js
 |[],t,_,h=>h
 |u::r,t,hs,h=>nX r (t.join u) (fun x hx=>hs x (by simp[hx])) (h.join (hs u (by simp)))
theorem bx{js us:List Str}:∀(t:Bd) (v:PV),t.good js us→aX t v=true→(t.GU js v).Ok js
 | .rest,v,_,_=>lB js
 | .use z,v,_,_=>lB js
 | .pay x y,v,hg,_=>⟨(lB js).1,Int.mul_nonneg (show nM x y from hg).x0 (Int.ediv_nonneg (by decide) (Int.le_of_lt (show nM x y from hg).low.pos)),(lB js).2.2⟩
 | .put z m,v,hg,_=>rq (Int.le_refl _)
 | .GJ a b,v,hg,hv=>by
  obtain⟨x,y,rfl,hx,hy⟩:=ls hv
  exact(bx a x hg.1 hx).join (bx b y hg.2 hy)
 | .Is a b,v,hg,hv=>by
  obtain⟨i,y,rfl,hi⟩:=lv hv
  rw[nV]
  rcases hi with⟨rfl,h⟩|⟨rfl,h⟩
  ·rw[if_pos rfl];exact bx a y hg.1 h
  ·rw[if_neg (by decide)];exact bx b y hg.2 h
 | .Iw z m a b,v,hg,hv=>by
  obtain⟨i,y,rfl,hi⟩:=lw hv
  rw[nW]
  rcases hi with⟨rfl,h⟩|⟨rfl,h⟩
  ·rw[if_pos rfl];exact(rq (by have:=hg.2.1;omega)).join (bx a y hg.2.2.2.1 h)
  ·rw[if_neg (by decide)];exact bx b y hg.2.2.2.2 h
 | .Iu a,v,hg,hv=>by
  obtain⟨xs,rfl,hx⟩:=ly hv
  rw[nU]
  refine nX _ _ (fun u hu=>?_) (lB js)
  obtain⟨g,MA,rfl⟩:=List.mem_map.mp hu
  obtain⟨m,y,rfl,hm,hy⟩:=fN (List.all_eq_true.mp hx g MA)
  exact(bx a y hg hy).again hm
noncomputable def tB:Nat→Int
 |0=>2 ^ 22
 |n+1=>2 ^ 67 * tB n
theorem lG:∀n,2 ^ 22≤tB n
 |0=>Int.le_refl _
 |n+1=>by have:=lG n;unfold tB;omega
theorem fo{n m:Nat}(h:n≤m):tB n≤tB m:=by
 induction m with
 |zero=>rw[Nat.le_zero.mp h];exact Int.le_refl _
 |succ m ih=>
  by_cases e:n=m+1
  ·rw[e];exact Int.le_refl _
  ·have h1:=ih (by omega);have h2:=lG m;show tB n≤2 ^ 67 * tB m;omega
theorem nY{js:List Str}{n B:Int}(h:n≤B)(hB:0≤B):Ty.Kx B (n,zl js):=⟨h,fun p hp=>by
 obtain⟨j,hj,rfl⟩:=List.mem_map.mp hp
 exact⟨by omega,hB,hB⟩⟩
theorem sA{js:List Str}{z:Str}{e d B:Int}(h1:-B≤e)(h2:e≤B)(h3:d≤B)(hB:0≤B):Ty.Kx B (0,mO js z e d):=⟨hB,fun p hp=>by
 obtain⟨j,hj,rfl⟩:=List.mem_map.mp hp
 split
 ·exact⟨h1,h2,h3⟩
 ·exact⟨by omega,hB,hB⟩⟩
theorem pO{B:Int}(hB:0≤B):∀(ts:List Ty) (t:Ty) (D:Int),(∀u∈ts,u.Kx B)→t.Kx D→0≤D→(ts.foldl Ty.join t).Kx (D+ts.length * B)
 |[],t,D,_,h,_=>h.mono (by simp)
 |u::r,t,D,hs,h,hD=>(pO hB r (t.join u) (D+B) (fun x hx=>hs x (by simp[hx])) (h.join (hs u (by simp)) hD hB) (by omega)).mono (by
   rw[List.length_cons,Int.natCast_add,Int.add_mul];show _≤D+(r.length * B+1 * B);omega)
theorem dY{js us:List Str}:∀(t:Bd) (v:PV) (n:Nat),t.good js us→aX t v=true→Thg 50 n v→cH (2 ^ 60) v=true→(t.GU js v).Kx (tB t.dep)
 | .rest,v,_,_,_,_,_=>nY (show(0:Int)≤tB 1 by decide) (show(0:Int)≤tB 1 by decide)
 | .use z,v,_,_,_,_,_=>nY (show(0:Int)≤tB 1 by decide) (show(0:Int)≤tB 1 by decide)
 | .pay x y,v,_,hg,_,_,_=>by
  have c:nM x y:=hg
  refine nY ?_ (show(0:Int)≤tB 1 by decide)
  have h1:x * (2520 / y)≤999 * 2520:=Int.mul_le_mul c.x1 (Int.ediv_le_self _ (by decide)) (Int.ediv_nonneg (by decide) (Int.le_of_lt c.low.pos)) (by decide)
  exact Int.le_trans h1 (show(999 * 2520:Int)≤tB 1 by decide)
 | .put z m,v,_,hg,_,_,_=>by
  have:=hg.2.1;have:=hg.2.2
  have e:(100:Int)≤tB (Bd.put z m).dep:=show(100:Int)≤tB 1 by decide
  exact sA (by omega) (by omega) (by omega) (by omega)
 | .GJ a b,v,n,hg,hv,ht,hb=>by
  obtain⟨x,y,rfl,hx,hy⟩:=ls hv
  obtain⟨m1,h1⟩:=(fk ht).2 x (by simp)
  obtain⟨m2,h2⟩:=(fk ht).2 y (by simp)
  have d1:=fo (show a.dep≤max a.dep b.dep by omega)
  have d2:=fo (show b.dep≤max a.dep b.dep by omega)
  have p:=lG (max a.dep b.dep)
  refine(((dY a x m1 hg.1 hx h1 (aO hb x (by simp))).mono d1).join ((dY b y m2 hg.2 hy h2 (aO hb y (by simp))).mono d2) (by omega) (by omega)).mono ?_
  show _≤2 ^ 67 * tB (max a.dep b.dep)
  omega
 | .Is a b,v,n,hg,hv,ht,hb=>by
  obtain⟨i,y,rfl,hi⟩:=lv hv
  obtain⟨m2,h2⟩:=(fk ht).2 y (by simp)
  have d1:=fo (show a.dep≤(Bd.Is a b).dep by simp only[Bd.dep];omega)
  have d2:=fo (show b.dep≤(Bd.Is a b).dep by simp only[Bd.dep];omega)
  rw[nV]
  rcases hi with⟨rfl,h⟩|⟨rfl,h⟩
  ·rw[if_pos rfl];exact(dY a y m2 hg.1 h h2 (aO hb y (by simp))).mono d1
  ·rw[if_neg (by decide)];exact(dY b y m2 hg.2 h h2 (aO hb y (by simp))).mono d2
 | .Iw z m a b,v,n,hg,hv,ht,hb=>by
  obtain⟨i,y,rfl,hi⟩:=lw hv
  obtain⟨m2,h2⟩:=(fk ht).2 y (by simp)
  have d1:=fo (show a.dep≤max a.dep b.dep by omega)
  have d2:=fo (show b.dep≤(Bd.Iw z m a b).dep by simp only[Bd.dep];omega)
  have p:=lG (max a.dep b.dep)
  rw[nW]
  rcases hi with⟨rfl,h⟩|⟨rfl,h⟩
  ·rw[if_pos rfl]
   have:=hg.2.1;have:=hg.2.2.1
   refine((sA (B:=10) (by omega) (by omega) (by omega) (by omega)).join ((dY a y m2 hg.2.2.2.1 h h2 (aO hb y (by simp))).mono d1) (by omega) (by omega)).mono ?_
   show _≤2 ^ 67 * tB (max a.dep b.dep)
   omega
  ·rw[if_neg (by decide)];exact(dY b y m2 hg.2.2.2.2 h h2 (aO hb y (by simp))).mono d2
 | .Iu a,v,n,hg,hv,ht,hb=>by
  obtain⟨xs,rfl,hx⟩:=ly hv
  have hl:=(fk ht).1
  have p:=lG a.dep
  rw[nU]
  have one:∀u∈xs.map (Nh js fun y=>a.GU js y),u.Kx (tB a.dep * 2 ^ 60):=fun u hu=>by
   obtain⟨g,MA,rfl⟩:=List.mem_map.mp hu
   obtain⟨m,y,rfl,hm,hy⟩:=fN (List.all_eq_true.mp hx g MA)
   obtain⟨m1,h1⟩:=(fk ht).2 _ MA
   obtain⟨m2,h2⟩:=(fk h1).2 y (by simp)
   have hi:=aO hb _ MA
   have hm2:=aO hi (.int m) (by simp)
   simp only[cH,decide_eq_true_eq]at hm2
   exact((dY a y m2 hg hy h2 (aO hi y (by simp))).again (by omega) hm).mono (Int.mul_le_mul_of_nonneg_left (by omega) (by omega))
  refine(pO (by omega) _ _ 0 one (nY (Int.le_refl _) (Int.le_refl _)) (Int.le_refl _)).mono ?_
  rw[List.length_map]
  have:(xs.length:Int) * (tB a.dep * 2 ^ 60)≤50 * (tB a.dep * 2 ^ 60):=Int.mul_le_mul_of_nonneg_right (by omega) (by omega)
  show _≤2 ^ 67 * tB a.dep
  omega
theorem Bd.MV(t:Bd):t.hd=("pay":Str)↔∃x y,t = .pay x y:=by cases t<;>simp[Bd.hd,aq]
theorem Bd.MW(t:Bd):t.hd=("put":Str)↔∃z m,t = .put z m:=by cases t<;>simp[Bd.hd,aq]
abbrev iW(n:Nat)(w:aF):Prop:=∀{S:av} {js us:List Str} {t:Bd} {v:PV} {Q:bN} {E:bO},js.length≤1000→t.good js us→aX t v=true→cH (2 ^ 60) v=true→t.dep≤n→(∀S',Ext S S'→Q (t.GU js v).pv S')→w [gx js,t.pv,v] S Q E
abbrev lH(n:Nat)(w:aF):Prop:=∀{S:av} {js us:List Str} {a:Bd} {v:PV} {Q:bN} {E:bO},js.length≤1000→a.good js us→aX (.Iu a) v=true→cH (2 ^ 60) v=true→a.dep≤n→(∀S',Ext S S'→Q ((Bd.Iu a).GU js v).pv S')→w [gx js,(Bd.Iu a).pv,v] S Q E
theorem uc{js:List Str}(f:PV→Ty)(done:List PV)(x:PV):((done++[x]).map f).foldl Ty.join (z0 js)=((done.map f).foldl Ty.join (z0 js)).join (f x):=by
 rw[List.map_append,List.foldl_append];rfl
theorem ue{xn xb xa s0 s1:aF}(IQ:lF xn)(Hy:fm xb)(JT:jL xa)(n:Nat)(ih:iW n s1):lH n (bi 5 (bT xn xb xa s0 s1)):=by
 intro S js us a v Q E hj hg hv hb hd k
 obtain⟨xs,rfl,hx⟩:=ly hv
 unfold bT
 refine fL ?_
 rw[show aB 5 [gx js,(Bd.Iu a).pv,.tup xs]=[some (gx js),some (.tup [.str "often",a.pv]),some (.tup xs),none,none] from rfl]
 refine ax fun N hN=>?_
 walk_at "x"
 refine IQ hj (hN _ _ (ax fun N hN=>?_))
 simp only[bM,bg,v3,lk,fE]
 refine bE (fun done σ S'=>∃x4,σ=[some (gx js),some (.tup [.str "often",a.pv]),some (.tup xs),some ((done.map (Nh js fun y=>a.GU js y)).foldl Ty.join (z0 js)).pv,x4]∧Ext S S') ⟨_,rfl,.refl⟩ (fun _ _ _ _=>trivial) ?_ ?_
 ·rintro done g rest σ S1 K e ⟨x4,rfl,X1⟩ hK
  have MA:g∈xs:=by rw[e];simp
  obtain⟨m,y,rfl,hm,hy⟩:=fN (List.all_eq_true.mp hx g MA)
  have hi:=aO hb _ MA
  have hm2:=aO hi (.int m) (by simp)
  simp only[cH,decide_eq_true_eq]at hm2
  have ok:((done.map (Nh js fun y=>a.GU js y)).foldl Ty.join (z0 js)).Ok js:=nX _ _ (fun u hu=>by
   obtain⟨g',hg',rfl⟩:=List.mem_map.mp hu
   obtain⟨m',y',rfl,hm',hy'⟩:=fN (List.all_eq_true.mp hx g' (by rw[e];simp[hg']))
   exact(bx a y' hg hy').again hm') (lB js)
  simp only[Tg.put,List.set_cons_succ,List.set_cons_zero]
  walk_at "x"
  simp only[eN,eF]
  refine ih hj hg hy (aO hi y (by simp)) hd fun S2 X2=>?_
  refine JT hj (bx a y hg hy) hm (by omega) fun S3 X3=>?_
  refine Hy hj ok ((bx a y hg hy).again hm) fun S4 X4=>?_
  refine hK _ _ ⟨some (.tup [.int m,y]),?_,X1.trans (X2.trans (X3.trans X4))⟩
  rw[uc]
  rfl
 ·rintro σ S1 ⟨x4,rfl,X1⟩
  refine hN _ _ ?_
  walk_at "x"
  exact k S1 X1
theorem KM{xn xt xb xc xk s0 s1:aF}(IQ:lF xn)(Hi:iu xt)(Hy:fm xb)(Js:lq xc)(Ju:iw xk)(n:Nat)(Rp:lH n s0)(ih:iW n s1):iW (n+1) (bi 6 (eZ xn xt xb xc xk s0 s1)):=by
 intro S js us t v Q E hj hg hv hb hd k
 unfold eZ
 refine fL ?_
 rw[Bd.K8,show aB 6 [gx js,.tup (.str t.hd::t.tl),v]=[some (gx js),some (.tup (.str t.hd::t.tl)),some v,none,none,none] from rfl]
 refine ax fun N hN=>?_
 walk_at "x"
 simp only[eN]
 refine hN _ _ (ax fun N hN=>?_)
 walk_at "x"
 refine IQ hj (hN _ _ (ax fun N hN=>?_))
 simp only[bp,aJ,aj,v3,lk,c3,bt,Bool.false_bne,decide_eq_true_eq]
 by_cases h1:t.hd=("pay":Str)
 ·rw[if_pos h1]
  obtain⟨x,y,rfl⟩:=(Bd.MV t).mp h1
  unfold Ty.pv
  walk_at "x"
  simp only[Bd.tl,eF,lV]
  rw[sx hg]
  exact k S .refl
 rw[if_neg h1]
 refine hN _ _ (ax fun N hN=>?_)
 simp only[bp,aJ,aj,v3,lk,c3,bt,Bool.false_bne,decide_eq_true_eq]
 by_cases h2:t.hd=("put":Str)
 ·rw[if_pos h2]
  obtain⟨z,m,rfl⟩:=(Bd.MW t).mp h2
  unfold Ty.pv
  walk_at "x"
  simp only[Bd.tl,eN,eF,lV]
  refine Hi hj fun S1 X1=>?_
  have:=k S1 X1
  rw[wL js z m 0]
  have e:(z0 js).dm=Ty.dm (0,mO js z m 0):=by
   unfold Ty.dm z0 zl mO
   rw[List.map_map,List.map_map]
   exact List.map_congr_left fun j _=>by dsimp only [Function.comp];split<;>rfl
  rw[e]
  exact this
 rw[if_neg h2]
 refine hN _ _ (ax fun N hN=>?_)
 simp only[bp,aJ,aj,v3,lk,c3,bt,Bool.false_bne,decide_eq_true_eq]
 by_cases h3:t.hd=("then":Str)
 ·rw[if_pos h3]
  obtain⟨a,b,rfl⟩:=(Bd.LB t).mp h3
  obtain⟨x,y,rfl,hx,hy⟩:=ls hv
  simp only[Bd.dep]at hd
  walk_at "x"
  simp only[Bd.tl,eN,eF,lV]
  refine ih hj hg.1 hx (aO hb x (by simp)) (by omega) fun S1 X1=>?_
  refine ih hj hg.2 hy (aO hb y (by simp)) (by omega) fun S2 X2=>?_
  refine Hy hj (bx a x hg.1 hx) (bx b y hg.2 hy) fun S3 X3=>?_
  exact k S3 (X1.trans (X2.trans X3))
 rw[if_neg h3]
 refine hN _ _ (ax fun N hN=>?_)
 simp only[bp,aJ,aj,v3,lk,c3,bt,Bool.false_bne,decide_eq_true_eq]
 by_cases h4:t.hd=("often":Str)
 ·rw[if_pos h4]
  obtain⟨a,rfl⟩:=(Bd.LD t).mp h4
  simp only[Bd.dep]at hd
  walk_at "x"
  exact Rp hj hg hv hb (by omega) k
 rw[if_neg h4]
 refine hN _ _ (ax fun N hN=>?_)
 walk_at "x"
 rw[show([PV.str "either",PV.str "take"]:List PV)=(["either","take"]:List Str).map PV.str from rfl]
 refine gu t.NG DV ?_
 by_cases h5:t.hd∈(["either","take"]:List Str)
 ·simp only[h5,decide_true,Bool.true_bne,Bool.not_true,Bool.false_eq_true,if_false]
  refine hN _ _ (ax fun N hN=>?_)
  simp only[List.mem_cons,List.not_mem_nil,or_false]at h5
  have side:∀(hd2:List PV) (a b c:Bd) (i:Int) (y:PV),(.str t.hd::t.tl)=hd2++[a.pv,b.pv]→hd2.length≤3→v = .tup [.int i,y]→(i=0∨i=1)→(if i=0 then a.pv else b.pv)=c.pv→c.good js us→aX c y=true→c.dep≤n→
    (∀S',Ext S S'→N [some (gx js),some (.tup (.str t.hd::t.tl)),some v,some (.str t.hd),some (z0 js).pv,some (c.GU js y).pv] S')→au 5 (ae s1 [v3 0,ae xc [v3 1,v3 2],aj ad (v3 2) (c3 (.int 1))]) { nx:=N,rt:=Q,ex:=gX } [some (gx js),some (.tup (.str t.hd::t.tl)),some v,some (.str t.hd),some (z0 js).pv,none] S:=by
   intro hd2 a b c i y e1 e2 e3 hi e4 g1 g2 g3 kk
   subst e3
   simp only[au,ae,ar,aj,v3,lk,c3]
   rw[e1]
   refine Js hi e2 ?_
   rw[e4]
   simp only[ad,eF]
   refine ih hj g1 g2 (aO hb y (by simp)) g3 fun S1 X1=>?_
   have:=kk S1 X1
   rw[e1]at this
   exact this
  rcases h5 with h5|h5
  ·cases t with
   |Is a b=>
    obtain⟨i,y,rfl,hi⟩:=lv hv
    simp only[Bd.dep]at hd
    have fin:∀c:Bd,(Bd.Is a b).GU js (.tup [.int i,y])=c.GU js y→∀S',Ext S S'→N [some (gx js),some (.tup (.str (Bd.Is a b).hd::(Bd.Is a b).tl)),some (.tup [.int i,y]),some (.str (Bd.Is a b).hd),some (z0 js).pv,some (c.GU js y).pv] S':=fun c e S1 X1=>by
     refine hN _ _ (ax fun N hN=>?_)
     simp only[Bd.hd]
     walk_at "y"
     refine hN _ _ ?_
     walk_at "x"
     rw[←e]
     exact k S1 X1
    rcases hi with⟨rfl,h⟩|⟨rfl,h⟩
    ·exact side [.str "either"] a b a 0 y rfl (by decide) rfl (.inl rfl) (if_pos rfl) hg.1 h (by omega) (fin a rfl)
    ·exact side [.str "either"] a b b 1 y rfl (by decide) rfl (.inr rfl) (if_neg (by decide)) hg.2 h (by omega) (fin b rfl)
   |_=>simp[Bd.hd,aq]at h5
  ·cases t with
   |Iw z m a b=>
    obtain⟨i,y,rfl,hi⟩:=lw hv
    simp only[Bd.dep]at hd
    rcases hi with⟨rfl,h⟩|⟨rfl,h⟩
    ·refine side [.str "take",.str z,.int m] a b a 0 y rfl (Nat.le_refl 3) rfl (.inl rfl) (if_pos rfl) hg.2.2.2.1 h (by omega) fun S1 X1=>hN _ _ (ax fun N hN=>?_)
     simp only[Bd.hd]
     walk_at "y"
     refine Ju (a:=a) (b:=b) hj fun S2 X2=>?_
     refine Hy hj (rq (by have:=hg.2.1;omega)) (bx a y hg.2.2.2.1 h) fun S3 X3=>?_
     exact k S3 (X1.trans (X2.trans X3))
    ·refine side [.str "take",.str z,.int m] a b b 1 y rfl (Nat.le_refl 3) rfl (.inr rfl) (if_neg (by decide)) hg.2.2.2.2 h (by omega) fun S1 X1=>hN _ _ (ax fun N hN=>?_)
     simp only[Bd.hd]
     walk_at "y"
     refine hN _ _ ?_
     walk_at "x"
     exact k S1 X1
   |_=>simp[Bd.hd,aq]at h5
 ·simp only[h5,decide_false,Bool.true_bne,Bool.not_false,if_true]
  have e:t.GU js v=z0 js:=by cases t<;>simp_all [Bd.hd,aq]<;>rfl
  rw[←e]
  exact k S .refl
abbrev jM(w:aF):Prop:=∀{S:av} {js us:List Str} {ds:List (Str×Bd)} {i:Nat} {z:Str} {t:Bd} {v:PV} {Q:bN} {E:bO},js.length≤1000→ds[i]?=some (z,t)→t.good js us→aX t v=true→cH (2 ^ 60) v=true→t.dep≤6→(∀S',Ext S S'→Q (t.GU js v).pv S')→w [Hw js ds,.int i,v] S Q E
theorem JU{xt:aF}(KM:iW 6 xt):jM (bi 3 (nI xt)):=by
 intro S js us ds i z t v Q E hj hi hg hv hb hd k
 unfold nI
 refine fL ?_
 rw[show aB 3 [Hw js ds,.int i,v]=[some (.tup [gx js,.tup (ds.map mM)]),some (.int i),some v] from rfl]
 walk_at "x"
 simp only[eN,eF]
 rw[ci (v:=mM (z,t)) (by rw[List.getElem?_map,hi];rfl)]
 unfold mM
 simp only[eF]
 exact KM hj hg hv hb hd k
inductive kq (ds:List (Str×Bd)):Nat→PV→Prop
 |LF {n i k:Nat} {z:Str} {t:Bd} {tr:PV}:ds[i]?=some (z,t)→aX t tr=true→cH (2 ^ 60) tr=true→Thg 3 k tr→kq ds n (.tup [.str "do",.int (i:Int),tr])
 |MX {n:Nat} {m:Int} {vs:List PV}:1≤m→m≤2 ^ 60→vs.length≤3→(∀v∈vs,kq ds n v)→kq ds (n+1) (.tup [.str "again",.int m,.tup vs])
theorem Cc{L n:Nat}{a b:Addr}{ws:List PV}{S:av}{Q:bN}(ha:S a=some (.lst ws))(hb:S b=some (.lst []))(h:∀x∈ws,K7 L n x)(q:Q (.bl (decide (ws=[]))) S):bt false (.ref a) (.ref b) S Q:=by
 obtain⟨ds,hds,hcs,_⟩:=nP fun x hx=>(h x hx).dat (S:=S)
 refine⟨.list ds,.list [],.ref ha hds,.ref hb .nil,by simpa [PyData.canLay0]using hcs,by simp[PyData.canLay0,PyData.canLayAll0],Nat.le_trans (Nat.min_le_right _ _) (by simp[PyData.depth,PyData.depthAll]),?_⟩
 cases hds with
 |nil=>simpa [PyData.eqv,PyData.eqvAll]using q
 |cons _ _=>simpa [PyData.eqv,PyData.eqvAll]using q
abbrev gy(n:Nat)(w:aF):Prop:=∀{S:av} {d l x:Addr} {js:List Str} {ds:List (Str×Bd)} {left down wide:Int} {Q:bN} {E:bO},GF S d l→S x=some (.lst [.int left])→x≠d→x≠l→1≤ds.length→ds.length≤4→(∀p∈ds,p.2.dep≤6∧p.2.size≤60)→0≤down→down < n→1≤wide→wide≤2 ^ 60→
  (∀vs S' left',vs.length≤3→(∀v∈vs,kq ds down.toNat v)→K7 3 (2 * down.toNat+14) (.tup vs)→left'≤left→min left 0 - 3 * (down+1)≤left'→GF S' d l→S' x=some (.lst [.int left'])→Hm d l x S S'→Q (.tup vs) S')→w [.ref d,Hw js ds,.ref x,.int down,.int wide] S Q E
structure Wl where
 jars:List Int
 cost:Int
 rows:List (Int×List Int×Int)
 st:Option Int
 ov:Bool
noncomputable def Wl.run(w:Wl):Bool:=w.st.isNone&&!w.ov
noncomputable def Wl.go(w:Wl)(f:Wl→Wl):Wl:=if w.run=true then f w else w
noncomputable def Wl.GN(js:List Str)(z:Str)(m:Int)(w:Wl):Wl:={ w with jars:=w.jars.set (js.idxOf z) (w.jars.getD (js.idxOf z) 0+m) }
noncomputable def Wl.pay(n:Int)(w:Wl):Wl:={ w with cost:=w.cost+n }
noncomputable def iter(f:Wl→Wl):Nat→Wl→Wl
 |0,w=>w
 |n+1,w=>iter f n (f w)
noncomputable def zq:PV→PV
 | .tup (x::_)=>x
 |v=>v
noncomputable def wM:PV→PV
 | .tup [_,y]=>y
 |v=>v
noncomputable def nm:PV→Int
 | .int i=>i
 |_=>0
noncomputable def FV:PV→List PV
 | .tup xs=>xs
 |_=>[]
theorem Wl.Ic{w:Wl}{f:Wl→Wl}(h:w.run=false):w.go f=w:=by unfold Wl.go;rw[h];rfl
theorem Wl.GV{w:Wl}{f:Wl→Wl}(h:w.run=true):w.go f=f w:=by unfold Wl.go;rw[h];rfl
theorem nZ{w:Wl}(h:w.ov=true):w.run=false:=by unfold Wl.run;rw[h];simp
theorem fq{w:Wl}{r:Int}(h:w.st=some r):w.run=false:=by unfold Wl.run;rw[h];rfl
theorem Hk{w:Wl}:w.run=true↔w.st=none∧w.ov=false:=by unfold Wl.run;simp
structure Sm (M:Nat) (f g:Wl→Wl):Prop where
 s:∀w,w.rows.length≤M→((g w).rows.length≤M→f w=g w)∧(M < (g w).rows.length→(f w).ov=true)
 m:∀w,w.rows.length≤(g w).rows.length
 st:∀w,w.run=false→f w=w
theorem Sm.id{M:Nat}:Sm M (fun w=>w) (fun w=>w):=⟨fun w h=>⟨fun _=>rfl,fun h2=>by omega⟩,fun _=>Nat.le_refl _,fun _ _=>rfl⟩
theorem Sm.comp{M:Nat}{f1 f2 g1 g2:Wl→Wl}(a:Sm M f1 g1)(b:Sm M f2 g2):Sm M (fun w=>f2 (f1 w)) (fun w=>g2 (g1 w)):=by
 refine⟨fun w h=>⟨fun h2=>?_,fun h2=>?_⟩,fun w=>Nat.le_trans (a.m w) (b.m _),fun w h=>by show f2 (f1 w)=w;rw[a.st w h,b.st w h]⟩
 ·have:=b.m (g1 w)
  have h3:(g1 w).rows.length≤M:=by omega
  show f2 (f1 w)=g2 (g1 w)
  rw[(a.s w h).1 h3]
  exact(b.s _ h3).1 h2
 ·by_cases h3:(g1 w).rows.length≤M
  ·show(f2 (f1 w)).ov=true
   rw[(a.s w h).1 h3]
   exact(b.s _ h3).2 h2
  ·have h4:=(a.s w h).2 (by omega)
   show(f2 (f1 w)).ov=true
   rw[b.st _ (nZ h4)]
   exact h4
theorem Sm.go{M:Nat}{f g:Wl→Wl}(s:∀w,w.run=true→w.rows.length≤M→((g w).rows.length≤M→f w=g w)∧(M < (g w).rows.length→(f w).ov=true))(m:∀w,w.run=true→w.rows.length≤(g w).rows.length):Sm M (fun w=>w.go f) (fun w=>w.go g):=by
 refine⟨fun w h=>?_,fun w=>?_,fun w h=>Wl.Ic h⟩
 ·cases hr:w.run with
  |false=>rw[Wl.Ic hr,Wl.Ic hr];exact⟨fun _=>rfl,fun h2=>by omega⟩
  |true=>rw[Wl.GV hr,Wl.GV hr];exact s w hr h
 ·cases hr:w.run with
  |false=>rw[Wl.Ic hr];exact Nat.le_refl _
  |true=>rw[Wl.GV hr];exact m w hr
theorem sB{M:Nat}{f g:Wl→Wl}(a:Sm M f g):∀n,Sm M (iter f n) (iter g n)
 |0=>Sm.id
 |n+1=>a.comp (sB a n)
theorem n6{M:Nat}{f g:PV→Wl→Wl}(a:∀v,Sm M (f v) (g v)):∀l:List PV,Sm M (fun w=>l.foldl (fun w v=>f v w) w) (fun w=>l.foldl (fun w v=>g v w) w)
 |[]=>Sm.id
 |v::l=>(a v).comp (n6 a l)
theorem eI{P:Wl→Prop}{f:Wl→Wl}(h:∀w,P w→P (f w)):∀n w,P w→P (iter f n w)
 |0,_,q=>q
 |n+1,w,q=>eI h n (f w) (h w q)
theorem iX{P:Wl→Prop}{f:PV→Wl→Wl}(h:∀v w,P w→P (f v w)):∀(l:List PV) (w:Wl),P w→P (l.foldl (fun w v=>f v w) w)
 |[],_,q=>q
 |v::l,w,q=>iX h l (f v w) (h v w q)
theorem dB{z:Str}:∀{js:List Str},z∈js→js[js.idxOf z]?=some z∧(∀j:Nat,j < js.idxOf z→js[j]?≠some z)∧js.idxOf z < js.length
 |[],h=>by simp at h
 |y::js,h=>by
  rw[List.idxOf_cons]
  by_cases e:y=z
  ·subst e;simp
  ·have hz:z∈js:=by simpa [Ne.symm e]using h
   obtain⟨a,b,c⟩:=dB hz
   have e2:(y == z)=false:=by simpa using e
   rw[e2]
   refine⟨by simpa using a,fun j hj=>?_,by simpa using c⟩
   cases j with
   |zero=>simpa using e
   |succ j=>simpa using b j (by simpa using hj)
theorem jN{js:List Str}{z:Str}{m c:Int}{w:Wl}(h:c∈(w.GN js z m).jars):c∈w.jars∨((js.idxOf z < w.jars.length)∧c=w.jars.getD (js.idxOf z) 0+m):=by
 unfold Wl.GN at h
 dsimp only at h
 by_cases hl:js.idxOf z < w.jars.length
 ·rcases List.mem_or_eq_of_mem_set h with h|h
  ·exact .inl h
  ·exact .inr ⟨hl,h⟩
 ·rw[List.set_eq_of_length_le (by omega)]at h;exact .inl h
theorem getD_mem{xs:List Int}{i:Nat}(h:i < xs.length):xs.getD i 0∈xs:=by rw[List.getD_eq_getElem?_getD,List.getElem?_eq_getElem h];exact List.getElem_mem h
def zY(n:Nat)(q:Int×List Int×Int):Prop:=(0≤q.1∧q.1≤1000)∧q.2.1.length=n∧(∀c∈q.2.1,-(2 ^ 40)≤c∧c≤2 ^ 40)∧0≤q.2.2∧q.2.2≤2 ^ 40
def Op(n M:Nat)(e:Int)(w:Wl):Prop:=w.jars.length=n∧(∀c∈w.jars,-(10 ^ 9+9 * (w.rows.length:Int))+e≤c∧c+e≤10 ^ 9+9 * (w.rows.length:Int))∧0≤w.cost∧w.cost+e * 400000≤3600000 * (w.rows.length:Int)∧w.rows.length≤M∧∀q∈w.rows,zY n q
theorem Op.GN{js:List Str}{M:Nat}{w:Wl}{z:Str}{m:Int}(m1:-9≤m)(m2:m≤9)(h:Op js.length M 9 w):Op js.length M 0 (w.GN js z m):=by
 obtain⟨a,b,c,d,e,f⟩:=h
 refine⟨by unfold Wl.GN;dsimp only;rw[List.length_set];exact a,fun x hx=>?_,c,show w.cost+0 * 400000≤3600000 * (w.rows.length:Int) by omega,e,f⟩
 show _∧x+0≤10 ^ 9+9 * (w.rows.length:Int)
 rw[show(w.GN js z m).rows.length=w.rows.length from rfl]
 rcases jN hx with hx|⟨hl,hx⟩
 ·have:=b x hx;omega
 ·have:=b _ (getD_mem hl);omega
end C
namespace C
open PySem L2 L3 Wd
open CY
noncomputable def Gm:Option Int→PV
 |none=>.non
 |some r=>.int r
noncomputable def jO(q:Int×List Int×Int):PV:=.tup [.int q.1,.tup (q.2.1.map PV.int),cf q.2.2]
noncomputable def wK(js:List Str)(pj:Addr)(cost:Int)(pr:Addr)(lim:Int)(st:Option Int)(ov:Bool):List (bG×PV):=[(Sum.inr "names",gx js),(Sum.inr "jars",.ref pj),(Sum.inr "cost",cf cost),(Sum.inr "rows",.ref pr),(Sum.inr "limit",.int lim),(Sum.inr "stuck",Gm st),(Sum.inr "over",.bl ov)]
structure GB (S:av) (a pj pr:Addr) (js:List Str) (lim:Nat) (w:Wl):Prop where
 d:S a=some (.dct (wK js pj w.cost pr lim w.st w.ov))
 j:S pj=some (.lst (w.jars.map PV.int))
 r:S pr=some (.lst (w.rows.map jO))
 ne:pj≠pr
def Hn(a pj pr:Addr)(S S':av):Prop:=∀b o,S b=some o→b≠a→b≠pj→b≠pr→S' b=some o
theorem Hn.refl{a pj pr:Addr}{S:av}:Hn a pj pr S S:=fun _ _ h _ _ _=>h
theorem Hn.trans{a pj pr:Addr}{S S1 S2:av}(x:Hn a pj pr S S1)(y:Hn a pj pr S1 S2):Hn a pj pr S S2:=fun b o h h1 h2 h3=>y b o (x b o h h1 h2 h3) h1 h2 h3
section
variable {js:List Str} {pj pr:Addr} {c lim:Int} {st:Option Int} {ov:Bool}
end
section
variable {S:av} {a pj pr:Addr} {js:List Str} {lim:Nat} {w:Wl}
theorem Hn.ud{o:SO}:Hn a pj pr S (GE S a o):=fun b u h h1 _ _=>by rw[ai h1];exact h
theorem Hn.uj{o:SO}:Hn a pj pr S (GE S pj o):=fun b u h _ h1 _=>by rw[ai h1];exact h
theorem Hn.ur{o:SO}:Hn a pj pr S (GE S pr o):=fun b u h _ _ h1=>by rw[ai h1];exact h
end
theorem e_:∀js:List Str,e9 (js.map PV.str)=some js
 |[]=>rfl
 |j::js=>by rw[List.map_cons];unfold e9;rw[e_ js];rfl
theorem sC{js:List Str}{z:Str}{S:av}{Q:bN}(h:z∈js)(q:Q (.int (js.idxOf z:Nat)) S):gP (gx js) [.str z] S Q:=by
 unfold gP gx
 simp only[e_]
 exact⟨js.idxOf z,(dB h).1,(dB h).2.1,q⟩
theorem lI{cs:List Int}{i:Nat}(h:i < cs.length):Hv (cs.map PV.int) (i:Int)=some (.int (cs.getD i 0)):=ci (by rw[List.getElem?_map,List.getElem?_eq_getElem h,List.getD_eq_getElem?_getD,List.getElem?_eq_getElem h];rfl)
theorem n9{n i:Nat}(h:i < n):oQ n (i:Int)=some i:=by unfold oQ;rw[if_pos (by omega),if_pos (by omega)];simp
theorem n_{cs:List Int}{i:Nat}{m:Int}:(cs.map PV.int).set i (.int m)=(cs.set i m).map PV.int:=by rw[List.map_set]
section
variable {i:Nat} {y z:Str} {σ:b9} {S:av} {D:iH} {a b:bj}
theorem jP(h:lk σ i=some (.str y))(q:a D σ S):bp (aJ (aj (bt false) (v3 i) (c3 (.str y)))) a b D σ S:=by
 simp only[bp,aJ,aj,v3,h,c3,bt,decide_true,Bool.false_bne,if_true];exact q
theorem bu(h:lk σ i=some (.str z))(hz:z≠y)(q:b D σ S):bp (aJ (aj (bt false) (v3 i) (c3 (.str y)))) a b D σ S:=by
 simp only[bp,aJ,aj,v3,h,c3,bt,hz,decide_false,Bool.false_bne,Bool.false_eq_true,if_false];exact q
end
theorem oa{c:iG}{t u:bj}{v:Bool}{σ:b9}{S:av}{D:iH}(h:∀Q E,Q v S→c σ S Q E)(qt:v=true→t D σ S)(qf:v=false→u D σ S):bp c t u D σ S:=by
 refine h _ _ ?_
 cases v with
 |true=>exact qt rfl
 |false=>exact qf rfl
theorem wN{σ:b9}{S:av}{i:Nat}{n:Int}{c:iG}{Q:Bool→av→Prop}{E:bO}(h:lk σ i=some (.int n))(q1:0 < n→c σ S Q E)(q2:¬0 < n→Q false S):b_ (aJ (aj kB (v3 i) (c3 (.int 0)))) c σ S Q E:=by
 simp only[b_,aJ,aj,v3,h,c3,kB,bS,decide_eq_true_eq]
 split
 ·rename_i hn;exact q1 hn
 ·rename_i hn;exact q2 hn
theorem gS{f:Wl→Wl}(hf:∀w,w.run=false→f w=w):∀(n:Nat) (w:Wl),w.run=false→iter f n w=w
 |0,_,_=>rfl
 |n+1,w,h=>by show iter f n (f w)=w;rw[hf w h];exact gS hf n w h
theorem ix{α β:Type}(f:β→α→β)(xs:List α)(x:α)(b:β):(xs++[x]).foldl f b=f (xs.foldl f b) x:=by rw[List.foldl_append];rfl
noncomputable def w0(cs:List Int):Wl:=⟨cs,0,[],none,false⟩
noncomputable def dF(js:List Str)(M:Nat)(w:Wl)(ps:Addr):List (Str×PV):=[("names",gx js),("jars",.tup (w.jars.map PV.int)),("most",.int M),("cost",cf w.cost),("seen",.ref ps)]
structure Mm (S:av) (o ps:Addr) (js:List Str) (M:Nat) (w:Wl):Prop where
 o:S o=some (.ins "Doing" (dF js M w ps))
 s:S ps=some (.lst (w.rows.map jO))
def G4(o ps:Addr)(S S':av):Prop:=∀b u,S b=some u→b≠o→b≠ps→S' b=some u
theorem G4.refl{o ps:Addr}{S:av}:G4 o ps S S:=fun _ _ h _ _=>h
theorem G4.trans{o ps:Addr}{S S1 S2:av}(x:G4 o ps S S1)(y:G4 o ps S1 S2):G4 o ps S S2:=fun b u h h1 h2=>y b u (x b u h h1 h2) h1 h2
theorem G4.ext{o ps:Addr}{S S':av}(x:Ext S S'):G4 o ps S S':=fun b u h _ _=>x b u h
theorem G4.uo{o ps:Addr}{S:av}{u:SO}:G4 o ps S (GE S o u):=fun b _ h h1 _=>by rw[ai h1];exact h
theorem G4.us{o ps:Addr}{S:av}{u:SO}:G4 o ps S (GE S ps u):=fun b _ h _ h1=>by rw[ai h1];exact h
section
variable {js:List Str} {M:Nat} {w:Wl} {ps:Addr}
end
section
variable {S:av} {o ps:Addr} {js:List Str} {M:Nat} {w:Wl}
theorem Mm.ne(A:Mm S o ps js M w):ps≠o:=fun e=>by have:=A.s;rw[e,A.o]at this;cases this
theorem Mm.ins(A:Mm S o ps js M w){k:Addr→List (Str×PV)→Prop}(q:k o (dF js M w ps)):jG "Doing" S (.ref o) k:=by
 unfold jG;simp only[A.o];exact⟨trivial,q⟩
theorem Mm.us{w':Wl}(A:Mm S o ps js M w)(h1:w'.jars=w.jars)(h2:w'.cost=w.cost):Mm (GE S ps (.lst (w'.rows.map jO))) o ps js M w':=⟨by rw[ai A.ne.symm];unfold dF;rw[h1,h2];exact A.o,aa⟩
end
theorem Fv{n:Nat}{b:bj}{args:List PV}{S:av}{Q:bN}{E:bO}(h:b { nx:=fun _ S'=>Q .non S',rt:=Q,ex:=fun p _ S'=>E p [] S' } (aB n args) S):lU n b args S Q E:=h
noncomputable abbrev og(M:Nat):PV:=.exc "TooLong" ["most"] [.int M]
noncomputable abbrev oh(r:Int):PV:=.exc "Stuck" ["row"] [.int r]
def Out(o ps:Addr)(js:List Str)(M:Nat)(S:av)(w:Wl)(Q:bN)(E:bO):Prop:=
 (w.run=true→∀S',Mm S' o ps js M w→G4 o ps S S'→Q .non S')∧(w.ov=true→∀S',G4 o ps S S'→E (og M) [] S')∧∀r,w.st=some r→w.ov=false→∀S',G4 o ps S S'→E (oh r) [] S'
theorem Out.x{o ps:Addr}{js:List Str}{M:Nat}{S S1:av}{w w':Wl}{Q Q':bN}{E:bO}{E':bO}(k:Out o ps js M S w Q E)(O:G4 o ps S S1)(hE:∀p S',E p [] S'→E' p [] S')(e:w'.run=false→w=w')(h:w'.run=true→∀S',Mm S' o ps js M w'→G4 o ps S1 S'→Q' .non S'):Out o ps js M S1 w' Q' E':=by
 refine⟨h,fun hov S' O'=>hE _ _ (k.2.1 (by rw[e (nZ hov)];exact hov) S' (O.trans O')),fun r hst hov S' O'=>hE _ _ (k.2.2 r (by rw[e (fq hst)];exact hst) (by rw[e (fq hst)];exact hov) S' (O.trans O'))⟩
theorem sD{F:PV→Wl→Wl}(hF:∀g w,w.run=false→F g w=w):∀(l:List PV) (w:Wl),w.run=false→l.foldl (fun w g=>F g w) w=w
 |[],_,_=>rfl
 |g::l,w,h=>by rw[List.foldl_cons,hF g w h];exact sD hF l w h
theorem eJ(f:Wl→Wl):∀(n:Nat) (w:Wl),iter f (n+1) w=f (iter f n w)
 |0,_=>rfl
 |n+1,w=>eJ f n (f w)
theorem pP(f:Wl→Wl):∀(n m:Nat) (w:Wl),iter f (n+m) w=iter f m (iter f n w)
 |0,m,w=>by rw[Nat.zero_add];rfl
 |n+1,m,w=>by rw[Nat.add_right_comm];exact pP f n m (f w)
theorem DX{P:Wl→Prop}{w:Wl}{f:Wl→Wl}(h:P w)(k:w.run=true→P (f w)):P (w.go f):=by
 cases hr:w.run with
 |false=>rw[Wl.Ic hr];exact h
 |true=>rw[Wl.GV hr];exact k hr
theorem Sh.t{S:av}{i:Int}(h:i.natAbs < 2 ^ 64):Sh S (.int i) (.int i) 65 0:=by
 have hl:i.natAbs.log2 < 64:=by
  by_cases h0:i.natAbs=0
  ·rw[h0];decide
  ·exact(Nat.log2_lt h0).mpr h
 exact⟨.int i,by simp[PyData.canLay0],by simpa [PyData.showable]using mL h,by simp[PyData.depth],by rw[PyData.shown_int,PySem.ofString_length];exact PySem.int_text_length_le (k:=64) (by decide) hl⟩
theorem Sh.lst{S:av}{a:Addr}{n k:Nat}{vs:List PV}{ds:List PyData}(h:S a=some (.lst vs))(b:Ki S vs ds n k):Sh S (.ref a) (.list ds) (n+3) (k+1):=
 ⟨.ref h b.dat,by simp[PyData.canLay0,b.lay],by simp[PyData.showable,b.Mz],by simp only[PyData.depth];exact Nat.succ_le_succ b.dep,by
  rw[PyData.shown_list,strLen_append,strLen_append]
  have e1:((("[":String):Str)).length=1:=rfl
  have e3:((("]":String):Str)).length=1:=rfl
  have q:=b.len
  rcases ds with _|⟨d,ds⟩
  ·have:(Str.join ", " (PyData.shownAll [])).length=0:=by simp[PyData.shownAll];rfl
   omega
  ·have:=join_length_add (PyData.shownAll (d::ds)) (by simp[PyData.shownAll])
   omega⟩
noncomputable def Cd(q:Int×List Int×Int):PyData:=.tuple [.int q.1,.tuple (q.2.1.map PyData.int),.tuple [.int (M3.bC q.2.2 2520),.int (M3.a_ q.2.2 2520)]]
theorem Sh.row{S:av}{n:Nat}{q:Int×List Int×Int}(hn:n≤8)(h:zY n q):Sh S (jO q) (Cd q) 1000 4:=by
 obtain⟨⟨a1,a2⟩,b,c,d1,d2⟩:=h
 have lt:∀i:Int,-(2 ^ 40)≤i→i≤2 ^ 40→i.natAbs < 2 ^ 64:=fun i h1 h2=>by omega
 have b0:=dz q.2.2
 have cc:Sh S (cf q.2.2) (.tuple [.int (M3.bC q.2.2 2520),.int (M3.a_ q.2.2 2520)]) 140 2:=
  (Sh.tup (((Sh.t (lt _ (by have:=eG d1;omega) (zX d1 d2))).le (Nat.le_refl _) (Nat.zero_le 1)).cons (((Sh.t (S:=S) (lt _ (by omega) (by omega))).le (Nat.le_refl _) (Nat.zero_le 1)).cons (.Kj _)))).le (by decide) (by decide)
 have jj:Sh S (.tup (q.2.1.map PV.int)) (.tuple (q.2.1.map PyData.int)) 600 2:=
  (Sh.tup (Ki.map PV.int PyData.int (n:=65) (k:=1) fun x hx=>(Sh.t (lt _ (c x hx).1 (c x hx).2)).le (Nat.le_refl _) (Nat.zero_le _))).le (by omega) (by decide)
 exact(Sh.tup (((Sh.t (lt _ (by omega) (by omega))).le (Nat.le_refl _) (Nat.zero_le 3)).cons ((jj.le (Nat.le_refl _) (by decide)).cons ((cc.le (Nat.le_refl _) (by decide)).cons (.Kj _))))).le (by decide) (by decide)
theorem Sh.rows{S:av}{n M:Nat}{e:Int}{w:Wl}{a:Addr}(hn:n≤8)(hM:M≤2001)(h:Op n M e w)(ha:S a=some (.lst (w.rows.map jO))):Sh S (.ref a) (.list (w.rows.map Cd)) 2100000 5:=
 (Sh.lst ha (Ki.map jO Cd fun q hq=>Sh.row hn (h.2.2.2.2.2 q hq))).le (by have:=h.2.2.2.2.1;have:w.rows.length * (1000+2)≤2001 * 1002:=Nat.mul_le_mul_right _ (by omega);omega) (by decide)
noncomputable def bz:List (Int×Int)→List Int→Bool
 |p::ps,c::cs=>decide (p.2≤c)&&bz ps cs
 |_,_=>true
noncomputable def GP:List (Int×Int)→List Int→List Int
 |p::ps,c::cs=>(c+p.1)::GP ps cs
 |_,cs=>cs
theorem lJ:∀(ps:List (Int×Int)) (cs:List Int),(GP ps cs).length=cs.length
 |[],[]=>rfl
 |[],_::_=>rfl
 |_::_,[]=>rfl
 |p::ps,c::cs=>by simp only[GP,List.length_cons,lJ ps cs]
theorem mP:∀(ps qs:List (Int×Int)) (cs:List Int),ps.length=qs.length→GP (List.zipWith jn ps qs) cs=GP qs (GP ps cs)
 |[],[],cs,_=>by cases cs<;>rfl
 |p::ps,q::qs,[],_=>rfl
 |p::ps,q::qs,c::cs,h=>by
  simp only[List.zipWith_cons_cons,GP,jn]
  rw[mP ps qs cs (by simpa using h)]
  congr 1;omega
 |[],_::_,_,h=>by simp at h
 |_::_,[],_,h=>by simp at h
theorem jQ:∀(ps qs:List (Int×Int)) (cs:List Int),ps.length=qs.length→bz (List.zipWith jn ps qs) cs=(bz ps cs&&bz qs (GP ps cs))
 |[],[],cs,_=>by cases cs<;>rfl
 |p::ps,q::qs,[],_=>rfl
 |p::ps,q::qs,c::cs,h=>by
  simp only[List.zipWith_cons_cons,bz,GP,jn]
  rw[jQ ps qs cs (by simpa using h)]
  have e:decide ((if q.2 - p.1 > p.2 then q.2 - p.1 else p.2)≤c)=(decide (p.2≤c)&&decide (q.2≤c+p.1)):=by
   rw[←Bool.decide_and]
   congr 1
   apply propext
   split<;>omega
  rw[e]
  cases decide (p.2≤c)<;>cases decide (q.2≤c+p.1)<;>cases bz ps cs<;>rfl
 |[],_::_,_,h=>by simp at h
 |_::_,[],_,h=>by simp at h
theorem oi:∀(js:List Str) (cs:List Int),(∀c∈cs,0≤c)→bz (zl js) cs=true∧GP (zl js) cs=cs
 |[],cs,_=>by cases cs<;>exact⟨rfl,rfl⟩
 |j::js,[],_=>⟨rfl,rfl⟩
 |j::js,c::cs,h=>by
  have:=oi js cs (fun x hx=>h x (by simp[hx]))
  have h0:=h c (by simp)
  refine⟨?_,?_⟩
  ·show(decide ((0:Int)≤c)&&bz (zl js) cs)=true
   rw[this.1,decide_eq_true h0];rfl
  ·show(c+0)::GP (zl js) cs=c::cs
   rw[this.2,Int.add_zero]
theorem rA{z:Str}{e d:Int}(hd:0≤d):∀(js:List Str) (cs:List Int),js.Nodup→cs.length=js.length→(∀c∈cs,0≤c)→z∈js→
  bz (mO js z e d) cs=decide (d≤cs.getD (js.idxOf z) 0)∧GP (mO js z e d) cs=cs.set (js.idxOf z) (cs.getD (js.idxOf z) 0+e)
 |[],_,_,_,_,h=>by simp at h
 |j::js,[],_,h,_,_=>by simp at h
 |j::js,c::cs,hn,hl,h0,hz=>by
  have hn':=List.nodup_cons.mp hn
  rw[List.idxOf_cons]
  by_cases hj:j=z
  ·subst hj
   have e0:∀(js:List Str) (cs:List Int),(∀c∈cs,0≤c)→j ∉ js→bz (mO js j e d) cs=true∧GP (mO js j e d) cs=cs:=by
    intro js
    induction js with
    |nil=>intro cs _ _;cases cs<;>exact⟨rfl,rfl⟩
    |cons y js ih=>
     intro cs hc hni
     cases cs with
     |nil=>exact⟨rfl,rfl⟩
     |cons x cs=>
      rw[List.mem_cons,not_or]at hni
      have k:=ih cs (fun a ha=>hc a (by simp[ha])) hni.2
      unfold mO at k ⊢
      simp only[List.map_cons,bz,GP]
      rw[if_neg (Ne.symm hni.1),k.1,k.2]
      exact⟨by rw[decide_eq_true (hc x (by simp))];rfl,by simp⟩
   have k:=e0 js cs (fun a ha=>h0 a (by simp[ha])) hn'.1
   unfold mO at k ⊢
   simp only[List.map_cons,bz,GP,if_true,k.1,k.2,beq_self_eq_true,Bool.and_true]
   exact⟨by simp,by simp⟩
  ·have e2:(j == z)=false:=by simpa using hj
   have hz':z∈js:=by simpa [Ne.symm hj]using hz
   have k:=rA hd (e:=e) js cs hn'.2 (by simpa using hl) (fun a ha=>h0 a (by simp[ha])) hz'
   unfold mO at k ⊢
   simp only[List.map_cons,bz,GP,hj,if_false,k.1,k.2,e2]
   exact⟨by rw[decide_eq_true (h0 c (by simp))];simp,by simp⟩
noncomputable def gn(js:List Str):Bd→PV→Wl→Wl
 | .rest,_,w=>w
 | .pay x y,_,w=>w.go (Wl.pay (x * (2520 / y)))
 | .put z m,_,w=>w.go (Wl.GN js z m)
 | .use _,_,w=>w
 | .GJ a b,v,w=>gn js b (wM v) (gn js a (zq v) w)
 | .Is a b,v,w=>if nm (zq v)=0 then gn js a (wM v) w else gn js b (wM v) w
 | .Iw z m a b,v,w=>if nm (zq v)=0 then w.go fun w=>if w.jars.getD (js.idxOf z) 0 < m then { w.GN js z (-m)with st:=some 0 } else gn js a (wM v) (w.GN js z (-m)) else gn js b (wM v) w
 | .Iu a,v,w=>(FV v).foldl (fun w g=>iter (fun w=>gn js a (wM g) w) (nm (zq g)).toNat w) w
theorem gA{js:List Str}:∀(t:Bd) (v:PV) (w:Wl),w.run=false→gn js t v w=w
 | .rest,_,_,_=>rfl
 | .pay _ _,_,_,h=>Wl.Ic h
 | .put _ _,_,_,h=>Wl.Ic h
 | .use _,_,_,_=>rfl
 | .GJ a b,v,w,h=>by show gn js b _ (gn js a _ w)=w;rw[gA a _ w h,gA b _ w h]
 | .Is a b,v,w,h=>by
  show(if _ then _ else _)=w
  split
  ·exact gA a _ w h
  ·exact gA b _ w h
 | .Iw z m a b,v,w,h=>by
  show(if _ then _ else _)=w
  split
  ·exact Wl.Ic h
  ·exact gA b _ w h
 | .Iu a,v,w,h=>sD (F:=fun g w=>iter (fun w=>gn js a (wM g) w) (nm (zq g)).toNat w) (fun g w h=>gS (fun w h=>gA a _ w h) _ w h) _ w h
structure wO (js:List Str) (w:Wl):Prop where
 len:w.jars.length=js.length
 pos:∀c∈w.jars,0≤c
 cost:0≤w.cost
def G2(js:List Str)(T:Ty)(w w':Wl):Prop:=
 (bz T.2 w.jars=true→w'={ w with jars:=GP T.2 w.jars,cost:=w.cost+T.1 }∧wO js w')∧(bz T.2 w.jars=false→w'.st=some 0∧w'.rows=w.rows∧w'.ov=w.ov∧w'.jars.length=w.jars.length)
theorem G2.join{js:List Str}{T U:Ty}{w w1 w2:Wl}(hT:T.2.length=U.2.length)(hr:w.run=true)(a:G2 js T w w1)(b:w1.run=true→wO js w1→G2 js U w1 w2)(c:w1.run=false→w2=w1):G2 js (T.join U) w w2:=by
 unfold G2 Ty.join
 dsimp only
 rw[jQ _ _ _ hT,mP _ _ _ hT]
 cases hf:bz T.2 w.jars with
 |true=>
  obtain⟨e,j⟩:=a.1 hf
  have hr1:w1.run=true:=by rw[e];exact hr
  have g:=b hr1 j
  rw[Bool.true_and]
  have ej:w1.jars=GP T.2 w.jars:=by rw[e]
  rw[←ej]
  refine⟨fun h=>?_,fun h=>?_⟩
  ·obtain⟨e2,j2⟩:=g.1 h
   refine⟨?_,j2⟩
   rw[e2,e]
   dsimp only
   rw[Int.add_assoc]
  ·obtain⟨g1,g2,g3,g4⟩:=g.2 h
   exact⟨g1,by rw[g2,e],by rw[g3,e],by rw[g4,ej,lJ]⟩
 |false=>
  obtain⟨g1,g2,g3,g4⟩:=a.2 hf
  rw[c (fq g1),Bool.false_and]
  exact⟨fun h=>(nomatch h),fun _=>⟨g1,g2,g3,g4⟩⟩
theorem G2.zero{js:List Str}{w:Wl}(j:wO js w):G2 js (z0 js) w w:=by
 have k:=oi js w.jars j.pos
 unfold G2 z0
 dsimp only
 rw[k.1,k.2,Int.add_zero]
 exact⟨fun _=>⟨rfl,j⟩,fun h=>(nomatch h)⟩
theorem mQ(T:Ty):T.again 1=T:=by
 unfold Ty.again
 rw[Int.mul_one]
 have:T.2.map (ag 1)=T.2:=by
  conv=>rhs;rw[←List.map_id T.2]
  apply List.map_congr_left
  intro p _
  unfold ag
  simp
 rw[this]
theorem rB(T:Ty){a b:Int}(ha:1≤a)(hb:1≤b):(T.again a).join (T.again b)=T.again (a+b):=by
 unfold Ty.again Ty.join
 dsimp only
 refine Prod.ext (by dsimp only;rw[Int.mul_add]) ?_
 dsimp only
 induction T.2 with
 |nil=>rfl
 |cons p ps ih=>simp only[List.map_cons,List.zipWith_cons_cons];rw[ih,zk p ha hb]
theorem G2.again{js:List Str}{T:Ty}{f:Wl→Wl}(hf:∀w,w.run=true→wO js w→G2 js T w (f w))(hno:∀w,w.run=false→f w=w):∀(n:Nat) (w:Wl),w.run=true→wO js w→G2 js (T.again ((n+1:Nat):Int)) w (iter f (n+1) w)
 |0,w,hr,j=>by rw[show((0+1:Nat):Int)=1 from rfl,mQ];exact hf w hr j
 |n+1,w,hr,j=>by
  have ih:=G2.again hf hno n w hr j
  have e:T.again ((n+1+1:Nat):Int)=(T.again ((n+1:Nat):Int)).join T:=by
   conv=>rhs;rw[show((T.again ((n+1:Nat):Int)).join T)=((T.again ((n+1:Nat):Int)).join (T.again 1)) by rw[mQ]]
   rw[rB T (by omega) (by omega)]
   congr 1
  rw[e,eJ]
  exact G2.join (by unfold Ty.again;rw[List.length_map]) hr ih (fun h1 j1=>hf _ h1 j1) (fun h=>hno _ h)
theorem rC{js:List Str}(hn:js.Nodup):∀(t:Bd) (v:PV) (w:Wl),t.good js []→aX t v=true→w.run=true→wO js w→G2 js (t.GU js v) w (gn js t v w):=by
 intro t
 induction t with
 |rest=>intro v w _ _ _ j;exact G2.zero j
 |use z=>intro v w g;exact absurd (show z∈[] from g) (by simp)
 |pay x y=>
  intro v w g _ hr j
  have c:nM x y:=g
  have k:=oi js w.jars j.pos
  show G2 js (x * (2520 / y),zl js) w (w.go (Wl.pay (x * (2520 / y))))
  rw[Wl.GV hr]
  unfold G2
  dsimp only
  rw[k.1,k.2]
  exact⟨fun _=>⟨rfl,j.len,j.pos,show 0≤w.cost+x * (2520 / y)from Int.add_nonneg j.cost (Int.mul_nonneg c.x0 (Int.ediv_nonneg (by decide) (by have:=c.low.pos;omega)))⟩,fun h=>(nomatch h)⟩
 |put z m=>
  intro v w g _ hr j
  have k:=rA (z:=z) (e:=m) (Int.le_refl 0) js w.jars hn j.len j.pos g.1
  have hl:js.idxOf z < w.jars.length:=by rw[j.len];exact(dB g.1).2.2
  show G2 js (0,mO js z m 0) w (w.go (Wl.GN js z m))
  rw[Wl.GV hr]
  unfold G2
  dsimp only
  rw[k.1,k.2,Int.add_zero,decide_eq_true (j.pos _ (getD_mem hl))]
  refine⟨fun _=>⟨rfl,⟨by unfold Wl.GN;dsimp only;rw[List.length_set];exact j.len,fun c hc=>?_,j.cost⟩⟩,fun h=>(nomatch h)⟩
  rcases jN hc with hc|⟨_,hc⟩
  ·exact j.pos c hc
  ·have:=j.pos _ (getD_mem hl);have:=g.2.1;omega
 |GJ a b KN LH=>
  intro v w g hv hr j
  obtain⟨x,y,rfl,hx,hy⟩:=ls hv
  rw[zo]
  exact G2.join (by rw[(bx a x g.1 hx).1,(bx b y g.2 hy).1]) hr (KN x w g.1 hx hr j) (fun h1 j1=>LH y _ g.2 hy h1 j1) (fun h=>gA b y _ h)
 |Is a b KN LH=>
  intro v w g hv hr j
  obtain⟨i,y,rfl,hi⟩:=lv hv
  rw[nV]
  rcases hi with⟨rfl,h⟩|⟨rfl,h⟩
  ·exact KN y w g.1 h hr j
  ·exact LH y w g.2 h hr j
 |Iw z m a b KN LH=>
  intro v w g hv hr j
  obtain⟨i,y,rfl,hi⟩:=lw hv
  rw[nW]
  rcases hi with⟨rfl,h⟩|⟨rfl,h⟩
  ·rw[if_pos rfl]
   have hm:=g.2.1
   have k:=rA (z:=z) (e:=-m) (d:=m) (by omega) js w.jars hn j.len j.pos g.1
   have hl:js.idxOf z < w.jars.length:=by rw[j.len];exact(dB g.1).2.2
   show G2 js _ w (w.go fun w=>if w.jars.getD (js.idxOf z) 0 < m then { w.GN js z (-m)with st:=some 0 } else gn js a y (w.GN js z (-m)))
   rw[Wl.GV hr]
   by_cases hs:w.jars.getD (js.idxOf z) 0 < m
   ·rw[if_pos hs]
    unfold G2 Ty.join
    dsimp only
    rw[jQ _ _ _ (by rw[(bx a y g.2.2.2.1 h).1];exact List.length_map _),k.1,decide_eq_false (by omega),Bool.false_and]
    exact⟨fun h=>(nomatch h),fun _=>⟨rfl,rfl,rfl,by unfold Wl.GN;dsimp only;rw[List.length_set]⟩⟩
   ·rw[if_neg hs]
    have j1:wO js (w.GN js z (-m)):=⟨by unfold Wl.GN;dsimp only;rw[List.length_set];exact j.len,fun c hc=>by
     rcases jN hc with hc|⟨_,hc⟩
     ·exact j.pos c hc
     ·omega,j.cost⟩
    refine G2.join (w1:=w.GN js z (-m)) (by rw[(bx a y g.2.2.2.1 h).1];exact List.length_map _) hr ?_ (fun h1 j1=>KN y _ g.2.2.2.1 h h1 j1) (fun h'=>gA a y _ h')
    unfold G2
    dsimp only
    rw[k.1,k.2,Int.add_zero,decide_eq_true (by omega)]
    exact⟨fun _=>⟨rfl,j1⟩,fun h=>(nomatch h)⟩
  ·exact LH y w g.2.2.2.2 h hr j
 |Iu a KN=>
  intro v w g hv hr j
  obtain⟨xs,rfl,hx⟩:=ly hv
  rw[List.all_eq_true]at hx
  rw[nU]
  show G2 js _ w (xs.foldl (fun w g=>iter (fun w=>gn js a (wM g) w) (nm (zq g)).toNat w) w)
  have gen:∀(xs:List PV) (T:Ty) (w1:Wl),(∀x∈xs,rg a x=true)→T.Ok js→G2 js T w w1→(w1.run=true→wO js w1)→G2 js ((xs.map (Nh js fun y=>a.GU js y)).foldl Ty.join T) w (xs.foldl (fun w g=>iter (fun w=>gn js a (wM g) w) (nm (zq g)).toNat w) w1):=by
   intro xs
   induction xs with
   |nil=>intro T w1 _ _ h _;exact h
   |cons x xs ih=>
    intro T w1 hx hT h hj
    obtain⟨m,y,rfl,hm,hy⟩:=fN (hx x (by simp))
    have Qt:Ty.Ok js ((a.GU js y).again m):=(bx a y g hy).again hm
    have MY:∀w:Wl,w.run=false→gn js a y w=w:=fun w h=>gA a y w h
    have step:w1.run=true→wO js w1→G2 js ((a.GU js y).again m) w1 (iter (fun w=>gn js a y w) m.toNat w1):=fun h1 j1=>by
     have:=G2.again (fun w h j=>KN y w g hy h j) MY (m.toNat - 1) w1 h1 j1
     rw[show m.toNat - 1+1=m.toNat by omega,Int.toNat_of_nonneg (by omega)]at this
     exact this
    rw[List.map_cons,List.foldl_cons,List.foldl_cons]
    show G2 js (List.foldl Ty.join (T.join ((a.GU js y).again m)) _) w (List.foldl _ (iter (fun w=>gn js a y w) m.toNat w1) xs)
    refine ih _ _ (fun x hx'=>hx x (by simp[hx'])) (hT.join Qt) (G2.join (by rw[hT.1,Qt.1]) hr h (fun h1 j1=>step h1 j1) (fun h'=>gS MY _ _ h')) fun h2=>?_
    cases h1:w1.run with
    |false=>rw[gS MY _ _ h1,h1]at h2;cases h2
    |true=>
     have s:=step h1 (hj h1)
     cases hf:bz ((a.GU js y).again m).2 w1.jars with
     |true=>exact(s.1 hf).2
     |false=>rw[fq (s.2 hf).1]at h2;cases h2
  exact gen xs (z0 js) w hx (lB js) (G2.zero j) (fun _=>j)
noncomputable def lK(M:Nat)(d:Int)(T:Ty)(w:Wl):Wl:=w.go fun w=>if M≤w.rows.length then { w with ov:=true } else if bz T.2 w.jars=true then { w with jars:=GP T.2 w.jars,cost:=w.cost+T.1,rows:=w.rows++[(d,GP T.2 w.jars,w.cost+T.1)] } else { w with rows:=w.rows++[(d,[],0)],st:=some (w.rows.length:Int) }
theorem wP{M M':Nat}(hM:M≤M')(d:Int)(T:Ty):Sm M (lK M d T) (lK M' d T):=by
 have len:∀w:Wl,(if bz T.2 w.jars=true then { w with jars:=GP T.2 w.jars,cost:=w.cost+T.1,rows:=w.rows++[(d,GP T.2 w.jars,w.cost+T.1)] } else { w with rows:=w.rows++[(d,[],0)],st:=some (w.rows.length:Int) }:Wl).rows.length=w.rows.length+1:=fun w=>by
  split<;>dsimp only<;>rw[List.length_append,List.length_singleton]
 refine Sm.go (fun w _ h=>?_) (fun w _=>?_)
 ·by_cases h1:M'≤w.rows.length
  ·rw[if_pos h1,if_pos (by omega)]
   exact⟨fun _=>rfl,fun h2=>by dsimp only at h2;omega⟩
  ·rw[if_neg h1,len]
   by_cases h2:M≤w.rows.length
   ·rw[if_pos h2]
    exact⟨fun h3=>by omega,fun _=>rfl⟩
   ·rw[if_neg h2]
    exact⟨fun _=>rfl,fun h3=>by omega⟩
 ·by_cases h1:M'≤w.rows.length
  ·rw[if_pos h1];exact Nat.le_refl _
  ·rw[if_neg h1,len];omega
noncomputable def p2:PV→PV
 | .tup [_,y,_]=>y
 |v=>v
noncomputable def p3:PV→PV
 | .tup [_,_,z]=>z
 |v=>v
noncomputable def uf:PV→Bool
 | .tup (.str a::_)=>decide (a=("again":Str))
 |_=>false
noncomputable def dT(js:List Str)(ds:List (Str×Bd))(v:PV):Ty:=match ds[(nm (p2 v)).toNat]? with|some p=>p.2.GU js (p3 v)|none=>z0 js
noncomputable def tl(M:Nat)(js:List Str)(ds:List (Str×Bd)):Nat→PV→Wl→Wl
 |0,v,w=>lK M (nm (p2 v)) (dT js ds v) w
 |n+1,v,w=>if uf v=true then iter (fun w=>(FV (p3 v)).foldl (fun w u=>tl M js ds n u w) w) (nm (p2 v)).toNat w else lK M (nm (p2 v)) (dT js ds v) w
theorem zZ{M M':Nat}(hM:M≤M')(js:List Str)(ds:List (Str×Bd)):∀(n:Nat) (v:PV),Sm M (tl M js ds n v) (tl M' js ds n v)
 |0,v=>wP hM _ _
 |n+1,v=>by
  cases h:uf v with
  |false=>simp only[tl,h,Bool.false_eq_true,if_false];exact wP hM _ _
  |true=>simp only[tl,h,if_true];exact sB (n6 (f:=fun u w=>tl M js ds n u w) (g:=fun u w=>tl M' js ds n u w) (fun u=>zZ hM js ds n u) _) _
noncomputable def cA(M:Nat)(js:List Str)(ds:List (Str×Bd))(n:Nat)(vs:List PV)(w:Wl):Wl:=vs.foldl (fun w u=>tl M js ds n u w) w
theorem wQ{M M':Nat}(hM:M≤M')(js:List Str)(ds:List (Str×Bd))(n:Nat)(vs:List PV):Sm M (cA M js ds n vs) (cA M' js ds n vs):=n6 (f:=fun u w=>tl M js ds n u w) (g:=fun u w=>tl M' js ds n u w) (fun u=>zZ hM js ds n u) vs
theorem rD{M:Nat}{js:List Str}{ds:List (Str×Bd)}{n:Nat}{vs:List PV}{w:Wl}(h:w.run=false):cA M js ds n vs w=w:=(wQ (Nat.le_refl M) js ds n vs).st w h
noncomputable def gK(js:List Str)(pj:Addr)(cost:Int)(st:Bool)(pd:Addr)(cm:Nat):List (bG×PV):=[(Sum.inr "names",gx js),(Sum.inr "jars",.ref pj),(Sum.inr "cost",cf cost),(Sum.inr "stuck",.bl st),(Sum.inr "doings",.ref pd),(Sum.inr "come",.int cm)]
section
variable {js:List Str} {pj pd:Addr} {c:Int} {st:Bool} {cm:Nat}
theorem sE:dM (gK js pj c st pd cm) (Sum.inr "names")=some (gx js):=by simp[dM,gK,sS,aq]
theorem lL:dM (gK js pj c st pd cm) (Sum.inr "jars")=some (.ref pj):=by simp[dM,gK,sS,aq]
theorem wR:dM (gK js pj c st pd cm) (Sum.inr "cost")=some (cf c):=by simp[dM,gK,sS,aq]
theorem iY:dM (gK js pj c st pd cm) (Sum.inr "stuck")=some (.bl st):=by simp[dM,gK,sS,aq]
theorem iZ:dM (gK js pj c st pd cm) (Sum.inr "doings")=some (.ref pd):=by simp[dM,gK,sS,aq]
theorem oj:dM (gK js pj c st pd cm) (Sum.inr "come")=some (.int cm):=by simp[dM,gK,sS,aq]
theorem Ce(n:Int):gW (gK js pj c st pd cm) (Sum.inr "cost") (cf n)=gK js pj n st pd cm:=by simp[gW,gK,sS,aq]
theorem zr(b:Bool):gW (gK js pj c st pd cm) (Sum.inr "stuck") (.bl b)=gK js pj c b pd cm:=by simp[gW,gK,sS,aq]
theorem Cf(n:Nat):gW (gK js pj c st pd cm) (Sum.inr "come") (.int n)=gK js pj c st pd n:=by simp[gW,gK,sS,aq]
theorem rE:(gK js pj c st pd cm).length < sizeLine:=by show 6 < sizeLine;decide
end
structure GAt (S:av) (a pj pd:Addr) (js:List Str) (cm:Nat) (R:List (Int×List Int×Int)) (w:Wl):Prop where
 d:S a=some (.dct (gK js pj w.cost w.st.isSome pd cm))
 j:S pj=some (.lst (w.jars.map PV.int))
 r:S pd=some (.lst (R.map jO))
 ne:pj≠pd
section
variable {S:av} {a pj pd:Addr} {js:List Str} {cm:Nat} {R:List (Int×List Int×Int)} {w:Wl}
theorem GAt.na(A:GAt S a pj pd js cm R w):pj≠a∧pd≠a:=⟨fun e=>(by have:=A.j;rw[e,A.d]at this;cases this),fun e=>(by have:=A.r;rw[e,A.d]at this;cases this)⟩
theorem GAt.ud{w':Wl}{Oq:Nat}(A:GAt S a pj pd js cm R w)(h1:w'.jars=w.jars):GAt (GE S a (.dct (gK js pj w'.cost w'.st.isSome pd Oq))) a pj pd js Oq R w':=⟨aa,by rw[ai A.na.1,h1];exact A.j,by rw[ai A.na.2];exact A.r,A.ne⟩
theorem GAt.uj{w':Wl}(A:GAt S a pj pd js cm R w)(h1:w'.cost=w.cost)(h3:w'.st=w.st):GAt (GE S pj (.lst (w'.jars.map PV.int))) a pj pd js cm R w':=⟨by rw[ai A.na.1.symm,h1,h3];exact A.d,aa,by rw[ai A.ne.symm];exact A.r,A.ne⟩
theorem GAt.ur{R':List (Int×List Int×Int)}(A:GAt S a pj pd js cm R w):GAt (GE S pd (.lst (R'.map jO))) a pj pd js cm R' w:=⟨by rw[ai A.na.2.symm];exact A.d,by rw[ai A.ne];exact A.j,aa,A.ne⟩
theorem GAt.tw{w':Wl}(A:GAt S a pj pd js cm R w)(h1:w'.jars=w.jars)(h2:w'.cost=w.cost)(h3:w'.st.isSome=w.st.isSome):GAt S a pj pd js cm R w':=⟨by rw[h2,h3];exact A.d,by rw[h1];exact A.j,A.r,A.ne⟩
end
abbrev dC(n:Nat)(x:aF):Prop:=∀{S:av} {a pj pd:Addr} {js:List Str} {cm:Nat} {R:List (Int×List Int×Int)} {t:Bd} {v:PV} {w:Wl} {Q:bN} {E:bO},GAt S a pj pd js cm R w→w.ov=false→w.jars.length=js.length→0≤w.cost→t.dep≤n→t.good js []→aX t v=true→cH (2 ^ 60) v=true→
 (∀S',GAt S' a pj pd js cm R (gn js t v w)→Hn a pj pd S S'→Q .non S')→x [t.pv,v,.ref a] S Q E
structure Gk (js:List Str) (w:Wl):Prop where
 o:w.ov=false
 l:w.jars.length=js.length
 c:0≤w.cost
theorem z_{js:List Str}:∀(t:Bd) (v:PV) (w:Wl),t.good js []→Gk js w→Gk js (gn js t v w):=by
 intro t
 have go:∀(w:Wl) (f:Wl→Wl),Gk js w→(w.run=true→Gk js (f w))→Gk js (w.go f):=fun w f h k=>DX (P:=Gk js) h k
 have br:∀(w:Wl) z m,Gk js w→Gk js (w.GN js z m):=fun w z m h=>⟨h.o,by unfold Wl.GN;dsimp only;rw[List.length_set];exact h.l,h.c⟩
 induction t with
 |rest=>intro v w _ h;exact h
 |use z=>intro v w _ h;exact h
 |pay x y=>
  intro v w g h
  have c:nM x y:=g
  exact go w _ h fun _=>⟨h.o,h.l,show 0≤w.cost+x * (2520 / y)from Int.add_nonneg h.c (Int.mul_nonneg c.x0 (Int.ediv_nonneg (by decide) (by have:=c.low.pos;omega)))⟩
 |put z m=>intro v w _ h;exact go w _ h fun _=>br w z m h
 |GJ a b KN LH=>intro v w g h;exact LH _ _ g.2 (KN _ _ g.1 h)
 |Is a b KN LH=>
  intro v w g h
  show Gk js (if _ then _ else _)
  split
  ·exact KN _ _ g.1 h
  ·exact LH _ _ g.2 h
 |Iw z m a b KN LH=>
  intro v w g h
  show Gk js (if _ then _ else _)
  split
  ·refine go w _ h fun _=>?_
   split
   ·exact⟨h.o,(br w z (-m) h).l,h.c⟩
   ·exact KN _ _ g.2.2.2.1 (br w z (-m) h)
  ·exact LH _ _ g.2.2.2.2 h
 |Iu a KN=>
  intro v w g h
  exact iX (P:=Gk js) (f:=fun g w=>iter (fun w=>gn js a (wM g) w) (nm (zq g)).toNat w) (fun u w h=>eI (P:=Gk js) (fun w h=>KN _ _ g h) _ w h) _ _ h
theorem Kl{xp s0:aF}(Ig:dA xp)(n:Nat)(ih:dC n s0):dC (n+1) (bi 8 (gq xp s0)):=by
 intro S a pj pd js cm R t v w Q E A hov hlen hc0 hd hg htr hib k
 unfold gq
 refine fL ?_
 rw[show aB 8 [t.pv,v,PV.ref a]=[some t.pv,some v,some (.ref a),none,none,none,none,none] from rfl]
 refine ax fun N hN=>?_
 refine oa (v:=w.st.isSome) (fun Q E q=>by simp only[aJ,aj,v3,lk,c3,ad,cr,A.d,iY];exact q) (fun h=>?_) (fun h=>?_)
 ·obtain⟨r,hr⟩:=Option.isSome_iff_exists.mp h
  rw[gA t v w (fq hr)]at k
  simp only[wg]
  exact k S A .refl
 ·have hst:w.st=none:=by cases hs:w.st with|none=>rfl|some r=>rw[hs]at h;cases h
  have hr:w.run=true:=Hk.mpr ⟨hst,hov⟩
  refine hN _ _ (ax fun N hN=>?_)
  simp only[au,aj,v3,lk,c3,ad]
  rw[Bd.K8]
  simp only[eN,List.set_cons_succ,List.set_cons_zero]
  refine hN _ _ ?_
  rw[←Bd.K8]
  clear hN
  cases t with
  |rest=>
   refine bu rfl (by simp[Bd.hd,aq]) (bu rfl (by simp[Bd.hd,aq]) (bu rfl (by simp[Bd.hd,aq]) (bu rfl (by simp[Bd.hd,aq]) (bu rfl (by simp[Bd.hd,aq]) (bu rfl (by simp[Bd.hd,aq]) ?_)))))
   exact k S A .refl
  |use z=>exact absurd (show z∈[] from hg) (by simp)
  |pay x y=>
   refine jP rfl ?_
   simp only[Bd.pv,di,ae,ar,aj,v3,lk,c3,ad,cr,A.d,wR,eF]
   have c:nM x y:=hg
   rw[sx c]
   refine Ig hc0 (Int.mul_nonneg c.x0 (Int.ediv_nonneg (by decide) (by have:=c.low.pos;omega))) ?_
   simp only[cN,cr,A.d,Ce]
   have e:gn js (.pay x y) v w=w.pay (x * (2520 / y)):=Wl.GV hr
   rw[e]at k
   exact⟨rE,k _ (A.ud (w':=w.pay (x * (2520 / y))) rfl) .ud⟩
  |put z m=>
   have hz:z∈js:=hg.1
   have hl:js.idxOf z < w.jars.length:=by rw[hlen];exact(dB hz).2.2
   refine bu rfl (by simp[Bd.hd,aq]) (jP rfl (ax fun N hN=>?_))
   simp only[Bd.pv,au,wa,aj,v3,lk,c3,ad,cr,A.d,sE,ar,eF]
   refine sC hz ?_
   refine hN _ _ ?_
   simp only[di,aj,v3,lk,c3,ad,cr,A.d,lL,A.j,lI hl,lV,cN,aM,List.length_map,n9 hl,n_,List.set_cons_succ,List.set_cons_zero]
   have e:gn js (.put z m) v w=w.GN js z m:=Wl.GV hr
   rw[e]at k
   exact k _ (A.uj (w':=w.GN js z m) rfl rfl) .uj
  |GJ b c=>
   simp only[Bd.dep]at hd
   obtain⟨x,y,rfl,hx,hy⟩:=ls htr
   have JV:=aO hib
   refine bu rfl (by simp[Bd.hd,aq]) (bu rfl (by simp[Bd.hd,aq]) (jP rfl (ax fun N hN=>?_)))
   simp only[Bd.pv,aI,ae,ar,aj,v3,lk,c3,ad,eN,eF]
   refine ih A hov hlen hc0 (by omega) hg.1 hx (JV _ (by simp)) fun S1 A1 O1=>?_
   have gk:=z_ b x w hg.1 ⟨hov,hlen,hc0⟩
   refine hN _ _ ?_
   simp only[Bd.pv,aI,ae,ar,aj,v3,lk,c3,ad,eF,lV]
   exact ih A1 gk.o gk.l gk.c (by omega) hg.2 hy (JV _ (by simp)) fun S2 A2 O2=>k S2 A2 (O1.trans O2)
  |Is b c=>
   simp only[Bd.dep]at hd
   obtain⟨i,y,rfl,hy⟩:=lv htr
   have JV:=aO hib
   refine bu rfl (by simp[Bd.hd,aq]) (bu rfl (by simp[Bd.hd,aq]) (bu rfl (by simp[Bd.hd,aq]) (jP rfl ?_)))
   rcases hy with⟨rfl,hy⟩|⟨rfl,hy⟩
   ·simp only[Bd.pv,aI,ae,ar,aj,v3,lk,c3,ad,eN,eF,aM,Int.reduceAdd]
    exact ih A hov hlen hc0 (by omega) hg.1 hy (JV _ (by simp)) k
   ·simp only[Bd.pv,aI,ae,ar,aj,v3,lk,c3,ad,eN,eF,lV,aM,Int.reduceAdd]
    exact ih A hov hlen hc0 (by omega) hg.2 hy (JV _ (by simp)) k
  |Iw z m b c=>
   simp only[Bd.dep]at hd
   obtain⟨i,y,rfl,hy⟩:=lw htr
   have JV:=aO hib
   have hz:z∈js:=hg.1
   have hl:js.idxOf z < w.jars.length:=by rw[hlen];exact(dB hz).2.2
   refine bu rfl (by simp[Bd.hd,aq]) (bu rfl (by simp[Bd.hd,aq]) (bu rfl (by simp[Bd.hd,aq]) (bu rfl (by simp[Bd.hd,aq]) (jP rfl (ax fun N hN=>?_)))))
   simp only[Bd.pv,au,wa,aj,v3,lk,c3,ad,cr,A.d,sE,ar,eF]
   refine sC hz ?_
   simp only[List.set_cons_succ,List.set_cons_zero]
   refine hN _ _ (ax fun N hN=>?_)
   rcases hy with⟨rfl,hy⟩|⟨rfl,hy⟩
   ·refine oa (v:=true) (fun Q E q=>by simp only[aJ,aj,v3,lk,c3,ad,eN,bt,decide_true,Bool.false_bne];exact q) (fun _=>?_) (fun h=>nomatch h)
    refine ax fun N1 MZ=>?_
    simp only[di,aj,v3,lk,c3,ad,cr,A.d,lL,A.j,lI hl,lV,nA,bS,cN,zr]
    refine⟨rE,MZ _ _ ?_⟩
    have e:gn js (.Iw z m b c) (.tup [.int 0,y]) w=if w.jars.getD (js.idxOf z) 0 < m then { w.GN js z (-m)with st:=some 0 } else gn js b y (w.GN js z (-m)):=by
     show(w.go fun w=>if w.jars.getD (js.idxOf z) 0 < m then { w.GN js z (-m)with st:=some 0 } else gn js b y (w.GN js z (-m)))=_
     rw[Wl.GV hr]
    rw[e]at k
    have fin:∀(w1:Wl) S1,GAt S1 a pj pd js cm R w1→Hn a pj pd S S1→w1.ov=false→w1.jars.length=js.length→0≤w1.cost→gn js b y w1=(if w.jars.getD (js.idxOf z) 0 < m then { w.GN js z (-m)with st:=some 0 } else gn js b y (w.GN js z (-m)))→N [some (Bd.Iw z m b c).pv,some (.tup [.int 0,y]),some (.ref a),some (.str (Bd.Iw z m b c).hd),some (.int (js.idxOf z:Nat)),none,none,none] S1:=by
     intro w1 S1 A1 O1 h1 h2 h3 e1
     refine hN _ _ ?_
     simp only[Bd.pv,aI,ae,ar,aj,v3,lk,c3,ad,eN,eF,FT,aM,Int.reduceAdd]
     exact ih A1 h1 h2 h3 (by omega) hg.2.2.2.1 hy (JV _ (by simp)) fun S2 A2 O2=>k S2 (by rw[←e1];exact A2) (O1.trans O2)
    have lb:(w.GN js z (-m)).jars.length=js.length:=by unfold Wl.GN;dsimp only;rw[List.length_set];exact hlen
    by_cases hs:w.jars.getD (js.idxOf z) 0 < m
    ·rw[decide_eq_true hs]
     have A1:GAt (GE S a (.dct (gK js pj w.cost true pd cm))) a pj pd js cm R { w with st:=some 0 }:=A.ud (w':={ w with st:=some 0 }) rfl
     simp only[di,aj,v3,lk,c3,ad,cr,A1.d,lL,A1.j,lI hl,lV,ba,bS,cN,List.length_map,n9 hl,n_]
     exact fin { w.GN js z (-m)with st:=some 0 } _ (A1.uj (w':={ w.GN js z (-m)with st:=some 0 }) rfl rfl) (Hn.ud.trans .uj) hov lb hc0 (by rw[gA b y _ (fq (r:=0) rfl),if_pos hs])
    ·rw[decide_eq_false hs]
     have A1:GAt (GE S a (.dct (gK js pj w.cost false pd cm))) a pj pd js cm R w:=by
      have:=A.ud (w':=w) (Oq:=cm) rfl
      rw[hst]at this
      exact this
     simp only[di,aj,v3,lk,c3,ad,cr,A1.d,lL,A1.j,lI hl,lV,ba,bS,cN,List.length_map,n9 hl,n_]
     exact fin (w.GN js z (-m)) _ (A1.uj (w':=w.GN js z (-m)) rfl rfl) (Hn.ud.trans .uj) hov lb hc0 (by rw[if_neg hs])
   ·refine oa (v:=false) (fun Q E q=>by simp only[aJ,aj,v3,lk,c3,ad,eN,bt,Int.reduceEq,decide_false,Bool.false_bne];exact q) (fun h=>nomatch h) (fun _=>?_)
    refine hN _ _ ?_
    simp only[Bd.pv,aI,ae,ar,aj,v3,lk,c3,ad,eN,eF,FU,aM,Int.reduceAdd]
    exact ih A hov hlen hc0 (by omega) hg.2.2.2.2 hy (JV _ (by simp)) k
  |Iu b=>
   simp only[Bd.dep]at hd
   obtain⟨gs,rfl,hgs⟩:=ly htr
   rw[List.all_eq_true]at hgs
   refine bu rfl (by simp[Bd.hd,aq]) (bu rfl (by simp[Bd.hd,aq]) (bu rfl (by simp[Bd.hd,aq]) (bu rfl (by simp[Bd.hd,aq]) (bu rfl (by simp[Bd.hd,aq]) (jP rfl ?_)))))
   simp only[bM,bg,v3,lk]
   obtain⟨F,hF⟩:∃F:PV→Wl→Wl,F=fun g w=>iter (fun w=>gn js b (wM g) w) (nm (zq g)).toNat w:=⟨_,rfl⟩
   have k':∀S',GAt S' a pj pd js cm R (gs.foldl (fun w g=>F g w) w)→Hn a pj pd S S'→Q .non S':=by rw[hF];exact k
   refine bE (fun done σ S'=>∃(x5 x6 x7:Option PV),σ=[some (Bd.Iu b).pv,some (.tup gs),some (.ref a),some (.str (Bd.Iu b).hd),none,x5,x6,x7]∧GAt S' a pj pd js cm R (done.foldl (fun w g=>F g w) w)∧Gk js (done.foldl (fun w g=>F g w) w)∧Hn a pj pd S S') ⟨_,_,_,rfl,A,⟨hov,hlen,hc0⟩,.refl⟩ (fun _ _ _ _=>trivial) ?_ ?_
   ·rintro done g rest σ S1 K e ⟨x5,x6,x7,rfl,A1,Pt,O1⟩ hK
    have e':gs=done++g::rest:=e
    obtain⟨m,y,rfl,hm,hy⟩:=fN (hgs g (by rw[e'];simp))
    have JV:=aO (aO hib _ (show PV.tup [.int m,y]∈gs by rw[e'];simp))
    have hm2:m.natAbs≤2 ^ 60:=by have:=JV (.int m) (by simp);simpa [cH]using this
    simp only[ix]at hK
    generalize done.foldl (fun w g=>F g w) w=w1 at A1 Pt hK
    have Rq:F (.tup [.int m,y]) w1=iter (fun w=>gn js b y w) m.toNat w1:=by rw[hF];rfl
    rw[Rq]at hK
    simp only[Tg.put,Tg.HM,List.set_cons_succ,List.set_cons_zero]
    simp only[bM,cM,v3,lk]
    refine⟨by omega,by omega,?_⟩
    refine bE (fun dn σ S'=>∃(x7:Option PV),σ=[some (Bd.Iu b).pv,some (.tup gs),some (.ref a),some (.str (Bd.Iu b).hd),none,some (.int m),some y,x7]∧GAt S' a pj pd js cm R (iter (fun w=>gn js b y w) dn.length w1)∧Gk js (iter (fun w=>gn js b y w) dn.length w1)∧Hn a pj pd S S') ⟨_,rfl,A1,Pt,O1⟩ (fun _ _ _ _=>trivial) ?_ ?_
    ·rintro dn u rs σ S2 K2 e2 ⟨x7,rfl,A2,M0,O2⟩ L6
     simp only[List.length_append,List.length_singleton,eJ]at L6
     simp only[Tg.put,List.set_cons_succ,List.set_cons_zero]
     simp only[Bd.pv,aI,ae,ar,aj,v3,lk,c3,ad,eF]
     exact ih A2 M0.o M0.l M0.c (by omega) hg hy (JV _ (by simp)) fun S3 A3 O3=>L6 _ _ ⟨_,rfl,A3,z_ b y _ hg M0,O2.trans O3⟩
    ·rintro σ S2 ⟨x7,rfl,A2,M0,O2⟩
     rw[bQ]at A2 M0
     exact hK _ _ ⟨_,_,_,rfl,A2,M0,O2⟩
   ·rintro σ S1 ⟨x5,x6,x7,rfl,A1,Pt,O1⟩
    exact k' S1 A1 O1
noncomputable def Wl.GH(w:Wl):List (Int×List Int×Int):=if w.st.isSome=true then w.rows.dropLast else w.rows
def Jl(S:av)(a pj pd:Addr)(js:List Str)(lim:Nat)(w:Wl):Prop:=∃u:Wl,GAt S a pj pd js w.rows.length w.GH u∧u.st.isSome=w.st.isSome∧(w.st=none→u.jars=w.jars∧u.cost=w.cost)∧w.rows.length≤lim+1∧(w.ov=true→w.rows.length=lim+1)∧(w.st.isSome=true→1≤w.rows.length)
structure mR (js:List Str) (M:Nat) (w:Wl):Prop where
 j:w.st=none→wO js w
 l:w.rows.length≤M
abbrev gT(x:aF):Prop:=∀{S:av} {js:List Str} {ds:List (Str×Bd)} {cv:PV} {cs:List Int} {Q:bN} {E:bO},(cv = .tup (cs.map PV.int)∨∃p,cv = .ref p∧S p=some (.lst (cs.map PV.int)))→
 (∀a pj pd S',S a=none→S pj=none→S pd=none→GAt S' a pj pd js 0 [] (w0 cs)→Ext S S'→Q (.ref a) S')→x [Hw js ds,cv] S Q E
theorem Ha:gT (bi 2 fg):=by
 intro S js ds cv cs Q E Rr k
 unfold fg
 refine fL ?_
 rw[show aB 2 [Hw js ds,cv]=[some (Hw js ds),some cv] from rfl]
 rw[show Hw js ds = .tup [gx js,.tup (ds.map mM)] from rfl]
 simp only[aG,k8,ik,ao,ar,bb,aE,aj,v3,lk,c3,ad,eN]
 intro p hp
 have go:(∀p1,(GE S p (SO.dct [])) p1=none→∀p2,GE (GE S p (SO.dct [])) p1 (SO.lst (cs.map PV.int)) p2=none→GE (GE (GE S p (SO.dct [])) p1 (SO.lst (cs.map PV.int))) p2 (SO.lst []) p=some (.dct [])∧Q (.ref p) (GE (GE (GE (GE S p (SO.dct [])) p1 (SO.lst (cs.map PV.int))) p2 (SO.lst [])) p (.dct (gK js p1 0 false p2 0)))):=by
  intro p1 hp1 p2 hp2
  have n1:p1≠p:=fun e=>by rw[e,aa]at hp1;cases hp1
  have NN:S p1=none:=by rw[ai n1]at hp1;exact hp1
  have n2:p2≠p1:=fun e=>by rw[e,aa]at hp2;cases hp2
  have hp2':GE S p (SO.dct []) p2=none:=by rw[ai n2]at hp2;exact hp2
  have n3:p2≠p:=fun e=>by rw[e,aa]at hp2';cases hp2'
  have MB:S p2=none:=by rw[ai n3]at hp2';exact hp2'
  refine⟨by rw[ai n3.symm,ai n1.symm,aa],k p p1 p2 _ hp NN MB ⟨aa,by rw[ai n1,ai n2.symm,aa];rfl,by rw[ai n3,aa];rfl,n2.symm⟩ fun b o h=>?_⟩
  have e1:b≠p:=fun e=>by rw[e,hp]at h;cases h
  have e2:b≠p1:=fun e=>by rw[e,NN]at h;cases h
  have e3:b≠p2:=fun e=>by rw[e,MB]at h;cases h
  rw[ai e1,ai e3,ai e2,ai e1];exact h
 have mg:∀p1 p2,jC [] [(Sum.inr (Str.ofString "names"),gx js),(Sum.inr (Str.ofString "jars"),PV.ref p1),(Sum.inr (Str.ofString "cost"),PV.tup [PV.int 0,PV.int 1]),(Sum.inr (Str.ofString "stuck"),PV.bl false),(Sum.inr (Str.ofString "doings"),PV.ref p2),(Sum.inr (Str.ofString "come"),PV.int 0)]=gK js p1 0 false p2 0:=fun p1 p2=>by simp[jC,gW,sS,aq,gK,kD]
 rcases Rr with rfl|⟨q,rfl,hq⟩
 ·simp only[ee]
  intro p1 hp1 p2 hp2
  simp only[k6,cr,mg]
  exact go p1 hp1 p2 hp2
 ·have nq:q≠p:=fun e=>by rw[e,hp]at hq;cases hq
  simp only[ee,kn,ai nq,hq]
  intro p1 hp1 p2 hp2
  simp only[k6,cr,mg]
  exact go p1 hp1 p2 hp2
theorem DY{i:Int}{x:PV}:uf (.tup [.str "do",.int i,x])=false:=by simp[uf,aq]
theorem DZ{i:Int}{x:PV}:uf (.tup [.str "again",.int i,x])=true:=by simp[uf]
theorem mS{M n:Nat}{js:List Str}{ds:List (Str×Bd)}{i:Nat}{z:Str}{t:Bd}{tr:PV}{w:Wl}(h:ds[i]?=some (z,t)):tl M js ds n (.tup [.str "do",.int i,tr]) w=lK M i (t.GU js tr) w:=by
 have e:dT js ds (.tup [.str "do",.int i,tr])=t.GU js tr:=by unfold dT;simp only[p2,p3,nm,Int.toNat_natCast,h]
 cases n with
 |zero=>unfold tl;rw[e];rfl
 |succ n=>unfold tl;rw[DY,e];rfl
theorem sF{M n:Nat}{js:List Str}{ds:List (Str×Bd)}{m:Int}{vs:List PV}{w:Wl}:tl M js ds (n+1) (.tup [.str "again",.int m,.tup vs]) w=iter (fun w=>cA M js ds n vs w) m.toNat w:=by
 unfold tl;rw[DZ];rfl
theorem wS{M:Nat}{js:List Str}{ds:List (Str×Bd)}:∀(n:Nat) (vs:List PV) (w:Wl),M≤w.rows.length→∀w',(w'=w∨w'={ w with ov:=true })→(cA M js ds n vs w'=w∨cA M js ds n vs w'={ w with ov:=true }):=by
 have te:∀(d:Int) (T:Ty) (w w':Wl),M≤w.rows.length→(w'=w∨w'={ w with ov:=true })→(lK M d T w'=w∨lK M d T w'={ w with ov:=true }):=by
  intro d T w w' hM h
  rcases h with rfl|rfl
  ·cases hr:w'.run with
   |false=>exact .inl (Wl.Ic hr)
   |true=>right;unfold lK;rw[Wl.GV hr,if_pos hM]
  ·right;exact Wl.Ic (nZ rfl)
 have one:∀(n:Nat) (v:PV) (w:Wl),M≤w.rows.length→∀w',(w'=w∨w'={ w with ov:=true })→(tl M js ds n v w'=w∨tl M js ds n v w'={ w with ov:=true }):=by
  intro n
  induction n with
  |zero=>intro v w hM w' h;exact te _ _ w w' hM h
  |succ n ih=>
   intro v w hM w' h
   unfold tl
   split
   ·exact eI (P:=fun x=>x=w∨x={ w with ov:=true }) (fun x hx=>iX (P:=fun x=>x=w∨x={ w with ov:=true }) (f:=fun u w=>tl M js ds n u w) (fun u y hy=>ih u w hM y hy) _ x hx) _ w' h
   ·exact te _ _ w w' hM h
 intro n vs w hM w' h
 exact iX (P:=fun x=>x=w∨x={ w with ov:=true }) (f:=fun u w=>tl M js ds n u w) (fun u y hy=>one n u w hM y hy) vs w' h
theorem kE{js:List Str}{M:Nat}{d:Int}{t:Bd}{tr:PV}{w:Wl}(hn:js.Nodup)(hg:t.good js [])(htr:aX t tr=true)(h:mR js M w):mR js M (lK M d (t.GU js tr) w):=by
 cases hr:w.run with
 |false=>unfold lK;rw[Wl.Ic hr];exact h
 |true=>
  obtain⟨h1,h2⟩:=Hk.mp hr
  have g:=rC hn t tr w hg htr hr (h.j h1)
  unfold lK
  rw[Wl.GV hr]
  by_cases hM:M≤w.rows.length
  ·rw[if_pos hM];exact⟨fun _=>⟨(h.j h1).len,(h.j h1).pos,(h.j h1).cost⟩,h.l⟩
  ·rw[if_neg hM]
   cases hf:bz (t.GU js tr).2 w.jars with
   |true=>
    obtain⟨e,j⟩:=g.1 hf
    rw[e]at j
    rw[if_pos rfl]
    exact⟨fun _=>⟨j.len,j.pos,j.cost⟩,by dsimp only;rw[List.length_append,List.length_singleton];omega⟩
   |false=>
    rw[if_neg (by decide)]
    exact⟨fun h=>(nomatch h),by dsimp only;rw[List.length_append,List.length_singleton];omega⟩
theorem ol{js:List Str}{M:Nat}{ds:List (Str×Bd)}(hn:js.Nodup)(hg:∀p∈ds,p.2.good js []):∀(n:Nat) (vs:List PV) (w:Wl),(∀v∈vs,kq ds n v)→mR js M w→mR js M (cA M js ds n vs w):=by
 have one:∀(n:Nat) (v:PV) (w:Wl),kq ds n v→mR js M w→mR js M (tl M js ds n v w):=by
  intro n
  induction n with
  |zero=>
   intro v w hp h
   cases hp with
   |LF hi htr _ _=>rw[mS hi];exact kE hn (hg _ (List.mem_of_getElem? hi)) htr h
  |succ n ih=>
   intro v w hp h
   cases hp with
   |LF hi htr _ _=>rw[mS hi];exact kE hn (hg _ (List.mem_of_getElem? hi)) htr h
   |@MX _ m vs h1 h2 h3 h4=>
    rw[sF]
    refine eI (P:=mR js M) (fun x hx=>?_) _ w h
    have:∀(us:List PV) (x:Wl),(∀v∈us,kq ds n v)→mR js M x→mR js M (cA M js ds n us x):=by
     intro us
     induction us with
     |nil=>intro x _ hx;exact hx
     |cons u us Pu=>intro x hu hx;exact Pu (tl M js ds n u x) (fun v hv=>hu v (by simp[hv])) (ih u x (hu u (by simp)) hx)
    exact this vs x h4 hx
 intro n vs
 induction vs with
 |nil=>intro w _ h;exact h
 |cons v vs ih=>intro w hv h;exact ih (tl M js ds n v w) (fun u hu=>hv u (by simp[hu])) (one n v w (hv v (by simp)) h)
theorem Jl.full{S:av}{a pj pd:Addr}{js:List Str}{lim:Nat}{w w':Wl}(A:Jl S a pj pd js lim w)(h:lim+1≤w.rows.length)(e:w'=w∨w'={ w with ov:=true }):Jl S a pj pd js lim w':=by
 rcases e with rfl|rfl
 ·exact A
 ·obtain⟨u,g,s,c,l,o,p⟩:=A
  exact⟨u,g,s,c,l,fun _=>by dsimp only;omega,p⟩
theorem zt{σ:b9}{S:av}{i:Nat}{y:Str}{l:List PV}{c:iG}{Q:Bool→av→Prop}{E:bO}(h:lk σ i=some (.tup (.str y::l)))(q:c σ S Q E):b_ (aJ (aj (bt false) (aj ad (v3 i) (c3 (.int 0))) (c3 (.str y)))) c σ S Q E:=by
 simp only[b_,aJ,aj,v3,h,c3,ad,eN,bt,decide_true,Bool.false_bne,if_true];exact q
theorem zu{σ:b9}{S:av}{i:Nat}{y z:Str}{l:List PV}{c:iG}{Q:Bool→av→Prop}{E:bO}(h:lk σ i=some (.tup (.str z::l)))(hz:z≠y)(q:Q false S):b_ (aJ (aj (bt false) (aj ad (v3 i) (c3 (.int 0))) (c3 (.str y)))) c σ S Q E:=by
 simp only[b_,aJ,aj,v3,h,c3,ad,eN,bt,hz,decide_false,Bool.false_bne,Bool.false_eq_true,if_false];exact q
theorem pQ{S:av}{a pj pd:Addr}{js:List Str}{lim:Nat}{w:Wl}{σ:b9}{i k:Nat}{Q:Bool→av→Prop}{E:bO}(A:Jl S a pj pd js lim w)(hi:lk σ i=some (.ref a))(hk:lk σ k=some (.int lim))(q:Q (!w.st.isSome&&decide (w.rows.length≤lim)) S):b_ (dL (aJ (aj ad (v3 i) (c3 (.str "stuck"))))) (aJ (aj xI (aj ad (v3 i) (c3 (.str "come"))) (v3 k))) σ S Q E:=by
 obtain⟨u,g,s,_⟩:=A
 simp only[b_,dL,aJ,aj,v3,hi,hk,c3,ad,cr,g.d,iY,oj,s,xI,bS]
 have e:decide ((w.rows.length:Int)≤(lim:Int))=decide (w.rows.length≤lim):=by congr 1;exact propext ⟨fun h=>by omega,fun h=>by omega⟩
 rw[e]
 cases hs:w.st.isSome with
 |true=>rw[hs]at q;simp only[Bool.not_true,Bool.false_eq_true,if_false];exact q
 |false=>rw[hs]at q;simp only[Bool.not_false,if_true];exact q
abbrev eL(n:Nat)(x:aF):Prop:=∀{S:av} {a pj pd:Addr} {js:List Str} {ds:List (Str×Bd)} {lim:Nat} {vs:List PV} {w:Wl} {Q:bN} {E:bO},Jl S a pj pd js lim w→mR js (lim+1) w→lim≤2000→js.Nodup→(∀p∈ds,p.2.good js []∧p.2.dep≤6)→(∀v∈vs,kq ds n v)→
 (∀S',Jl S' a pj pd js lim (cA (lim+1) js ds n vs w)→Hn a pj pd S S'→Q .non S')→x [Hw js ds,.tup vs,.ref a,.int lim] S Q E
theorem zv{xg s0:aF}(Kl:dC 6 xg)(n:Nat)(ih:∀k,k+1=n→eL k s0):eL n (bi 6 (iq xg s0)):=by
 intro S a pj pd js ds lim vs w Q E A Pv hlim hn hds hvs k
 unfold iq
 refine fL ?_
 rw[show aB 6 [Hw js ds,PV.tup vs,PV.ref a,PV.int lim]=[some (Hw js ds),some (.tup vs),some (.ref a),some (.int lim),none,none] from rfl]
 simp only[bM,bg,v3,lk]
 refine bE (fun done σ S'=>∃(x4 x5:Option PV),σ=[some (Hw js ds),some (.tup vs),some (.ref a),some (.int lim),x4,x5]∧Jl S' a pj pd js lim (cA (lim+1) js ds n done w)∧mR js (lim+1) (cA (lim+1) js ds n done w)∧Hn a pj pd S S') ⟨_,_,rfl,A,Pv,.refl⟩ (fun _ _ _ _=>trivial) ?_ ?_
 ·rintro done v rest σ S1 K e ⟨x4,x5,rfl,A1,Jm,O1⟩ hK
  have e':vs=done++v::rest:=e
  have hp:=hvs v (by rw[e'];simp)
  have ts:cA (lim+1) js ds n (done++[v]) w=tl (lim+1) js ds n v (cA (lim+1) js ds n done w):=by unfold cA;rw[ix]
  rw[ts]at hK
  generalize cA (lim+1) js ds n done w=w1 at A1 Jm hK
  simp only[Tg.put,List.set_cons_succ,List.set_cons_zero]
  cases hp with
  |@LF _ i _ z t tr hi htr hib _=>
   rw[mS hi]at hK
   have hgd:=hds _ (List.mem_of_getElem? hi)
   refine ax fun N hN=>?_
   simp only[au,aj,ao,ar,v3,lk,c3,ad,eN,eF,bt,aq,String.reduceEq,decide_false,Bool.false_bne,dU,Bool.false_eq_true,if_false,cD,List.set_cons_succ,List.set_cons_zero]
   refine⟨li (by decide) (by decide),?_⟩
   rw[Int.mul_zero]
   refine hN _ _ (ax fun N hN=>?_)
   refine⟨fun m σ S'=>σ=[some (Hw js ds),some (.tup vs),some (.ref a),some (.int lim),some (.tup [.str "do",.int i,tr]),some (.int 0)]∧S'=S1,⟨0,rfl,rfl⟩,?_⟩
   rintro m σ S2 ⟨rfl,rfl⟩
   refine wN rfl (fun h=>absurd h (by decide)) fun _=>?_
   simp only[Bool.false_eq_true,if_false]
   refine hN _ _ ?_
   have Rs:¬(w1.st=none∧w1.rows.length≤lim)→K [some (Hw js ds),some (.tup vs),some (.ref a),some (.int lim),some (.tup [.str "do",.int i,tr]),some (.int 0)] S2:=fun h=>by
    refine hK _ _ ⟨_,_,rfl,?_,kE hn hgd.1 htr Jm,O1⟩
    cases hr:w1.run with
    |false=>unfold lK;rw[Wl.Ic hr];exact A1
    |true=>
     have hl:lim+1≤w1.rows.length:=by
      have:=(Hk.mp hr).1
      by_cases hl:w1.rows.length≤lim
      ·exact absurd ⟨this,hl⟩ h
      ·omega
     unfold lK
     rw[Wl.GV hr,if_pos hl]
     exact A1.full hl (.inr rfl)
   refine oa (v:=(!w1.st.isSome&&decide (w1.rows.length≤lim))) (fun Q E q=>?_) (fun h=>?_) (fun h=>?_)
   ·exact zt rfl (pQ A1 rfl rfl q)
   ·rw[Bool.and_eq_true,decide_eq_true_eq]at h
    have hst:w1.st=none:=by cases hs:w1.st with|none=>rfl|some r=>rw[hs]at h;cases h.1
    obtain⟨u,g,s,c,l,o,_⟩:=A1
    have hov:w1.ov=false:=by
     cases ho:w1.ov with
     |false=>rfl
     |true=>have:=o ho;omega
    have hr:w1.run=true:=Hk.mpr ⟨hst,hov⟩
    obtain⟨c1,c2⟩:=c hst
    have jk:=Jm.j hst
    have rel:=rC hn t tr w1 hgd.1 htr hr jk
    refine ax fun N1 MZ=>?_
    simp only[di,aj,v3,lk,c3,ad,cr,g.d,oj,aM,cN]
    rw[show(w1.rows.length:Int)+1=((w1.rows.length+1:Nat):Int) by omega,Cf]
    refine⟨rE,MZ _ _ (ax fun N1 MZ=>?_)⟩
    have hdo:w1.GH=w1.rows:=by unfold Wl.GH;rw[hst];rfl
    have g1:GAt (GE S2 a (.dct (gK js pj u.cost u.st.isSome pd (w1.rows.length+1)))) a pj pd js (w1.rows.length+1) w1.GH w1:=(g.ud (w':=u) (Oq:=w1.rows.length+1) rfl).tw c1.symm c2.symm s.symm
    rw[show Hw js ds = .tup [gx js,.tup (ds.map mM)] from rfl]
    simp only[aI,ae,ar,aj,v3,lk,c3,ad,eF]
    rw[ci (v:=mM (z,t)) (by rw[List.getElem?_map,hi];rfl)]
    unfold mM
    simp only[eF,lV]
    refine Kl g1 hov jk.len jk.cost hgd.2 hgd.1 htr hib fun S3 g3 O3=>?_
    refine MZ _ _ ?_
    have Qu:Hn a pj pd S S3:=O1.trans (Hn.ud.trans O3)
    have NO:=kE (d:=(i:Int)) hn hgd.1 htr Jm
    cases hf:bz (t.GU js tr).2 w1.jars with
    |true=>
     obtain⟨e3,j3⟩:=rel.1 hf
     rw[e3]at g3
     have te:lK (lim+1) i (t.GU js tr) w1={ w1 with jars:=GP (t.GU js tr).2 w1.jars,cost:=w1.cost+(t.GU js tr).1,rows:=w1.rows++[((i:Int),GP (t.GU js tr).2 w1.jars,w1.cost+(t.GU js tr).1)] }:=by
      unfold lK;rw[Wl.GV hr,if_neg (by omega),if_pos hf]
     refine oa (v:=true) (fun Q E q=>by simp only[dL,aJ,aj,v3,lk,c3,ad,cr,g3.d,iY,hst,Option.isSome_none,Bool.not_false];exact q) (fun _=>?_) (fun h=>nomatch h)
     simp only[aI,hG,um,ar,aE,ao,aj,v3,lk,c3,ad,cr,g3.d,iZ,lL,wR,g3.r,g3.j,eF,aU,kn,aV,true_and]
     refine⟨by rw[List.length_map,hdo];exact Nat.lt_of_le_of_lt (show _≤2000 by omega) (by decide),?_⟩
     refine hK _ _ ⟨_,_,rfl,?_,NO,Qu.trans .ur⟩
     rw[te]
     refine⟨{ w1 with jars:=GP (t.GU js tr).2 w1.jars,cost:=w1.cost+(t.GU js tr).1 },?_,rfl,fun _=>⟨rfl,rfl⟩,by dsimp only;rw[List.length_append,List.length_singleton];omega,fun h=>(by rw[show w1.ov=true from h]at hov;cases hov),fun h=>(by rw[hst]at h;cases h)⟩
     have e5:(Wl.GH { w1 with jars:=GP (t.GU js tr).2 w1.jars,cost:=w1.cost+(t.GU js tr).1,rows:=w1.rows++[((i:Int),GP (t.GU js tr).2 w1.jars,w1.cost+(t.GU js tr).1)] })=w1.GH++[((i:Int),GP (t.GU js tr).2 w1.jars,w1.cost+(t.GU js tr).1)]:=by
      rw[hdo];unfold Wl.GH;dsimp only;rw[hst];rfl
     rw[e5]
     dsimp only
     rw[List.length_append,List.length_singleton]
     have:=g3.ur (R':=w1.GH++[((i:Int),GP (t.GU js tr).2 w1.jars,w1.cost+(t.GU js tr).1)])
     rw[List.map_append]at this
     exact this
    |false=>
     obtain⟨f1,f2,f3,f4⟩:=rel.2 hf
     have te:lK (lim+1) i (t.GU js tr) w1={ w1 with rows:=w1.rows++[((i:Int),[],0)],st:=some (w1.rows.length:Int) }:=by
      unfold lK;rw[Wl.GV hr,if_neg (by omega),if_neg (by rw[hf];decide)]
     refine oa (v:=false) (fun Q E q=>by simp only[dL,aJ,aj,v3,lk,c3,ad,cr,g3.d,iY,f1,Option.isSome_some,Bool.not_true];exact q) (fun h=>nomatch h) (fun _=>?_)
     refine hK _ _ ⟨_,_,rfl,?_,NO,Qu⟩
     rw[te]
     refine⟨gn js t tr w1,?_,by rw[f1];rfl,fun h=>(nomatch h),by dsimp only;rw[List.length_append,List.length_singleton];omega,fun h=>(by rw[show w1.ov=true from h]at hov;cases hov),fun _=>(by dsimp only;rw[List.length_append,List.length_singleton];omega)⟩
     have e5:(Wl.GH { w1 with rows:=w1.rows++[((i:Int),[],0)],st:=some (w1.rows.length:Int) })=w1.GH:=by
      rw[hdo];unfold Wl.GH;dsimp only;rw[Option.isSome_some,if_pos rfl,List.dropLast_concat]
     rw[e5]
     dsimp only
     rw[List.length_append,List.length_singleton]
     exact g3
   ·refine Rs fun h'=>?_
    rw[h'.1,decide_eq_true h'.2]at h
    cases h
  |@MX n' m us h1 h2 h3 h4=>
   rw[sF]at hK
   refine ax fun N hN=>?_
   simp only[au,aj,ao,ar,v3,lk,c3,ad,eN,eF,bt,decide_true,Bool.false_bne,dU,if_true,cD,List.set_cons_succ,List.set_cons_zero]
   refine⟨li (by decide) (by decide),?_⟩
   rw[Int.mul_one]
   refine hN _ _ (ax fun N hN=>?_)
   obtain⟨f,hf⟩:∃f:Wl→Wl,f=fun w=>cA (lim+1) js ds n' us w:=⟨_,rfl⟩
   have MY:∀w,w.run=false→f w=w:=fun w h=>by rw[hf];exact rD h
   rw[←hf]at hK
   have last:∀(w':Wl) S',Jl S' a pj pd js lim w'→mR js (lim+1) w'→Hn a pj pd S S'→w'=iter f m.toNat w1→∀x,N [some (Hw js ds),some (.tup vs),some (.ref a),some (.int lim),some (.tup [.str "again",.int m,.tup us]),x] S':=by
    intro w' S' A' T' O' e2 x
    refine hN _ _ ?_
    refine oa (v:=false) (fun Q E q=>?_) (fun h=>nomatch h) (fun _=>?_)
    ·exact zu rfl (by simp[aq]) q
    ·rw[e2]at A' T'
     exact hK _ _ ⟨_,_,rfl,A',T',O'⟩
   refine⟨fun j σ S'=>∃w',σ=[some (Hw js ds),some (.tup vs),some (.ref a),some (.int lim),some (.tup [.str "again",.int m,.tup us]),some (.int j)]∧Jl S' a pj pd js lim w'∧mR js (lim+1) w'∧Hn a pj pd S S'∧iter f j w'=iter f m.toNat w1,⟨m.toNat,w1,by rw[Int.toNat_of_nonneg (by omega)],A1,Jm,O1,rfl⟩,?_⟩
   rintro j σ S2 ⟨w2,rfl,A2,IR,O2,e2⟩
   refine wN rfl (fun hj=>?_) (fun hj=>?_)
   rotate_left
   ·simp only[Bool.false_eq_true,if_false]
    obtain rfl:j=0:=by omega
    exact last w2 S2 A2 IR O2 e2 _
   obtain⟨j,rfl⟩:∃i,j=i+1:=⟨j - 1,by omega⟩
   refine pQ A2 rfl rfl ?_
   cases hc:(!w2.st.isSome&&decide (w2.rows.length≤lim))with
   |false=>
    simp only[Bool.false_eq_true,if_false]
    cases hs:w2.st with
    |some r=>exact last w2 S2 A2 IR O2 (by rw[←e2];exact(gS MY _ w2 (fq hs)).symm) _
    |none=>
     have hl:lim+1≤w2.rows.length:=by
      rw[hs]at hc
      simp only[Option.isSome_none,Bool.not_false,Bool.true_and,decide_eq_false_iff_not]at hc
      omega
     have fu:=eI (P:=fun x=>x=w2∨x={ w2 with ov:=true }) (f:=f) (fun x hx=>by rw[hf];exact wS n' us w2 hl x hx) (j+1) w2 (.inl rfl)
     refine last (iter f (j+1) w2) S2 (A2.full hl fu) ?_ O2 e2 _
     rcases fu with fu|fu
     ·rw[fu];exact IR
     ·rw[fu];exact⟨fun h=>⟨(IR.j h).len,(IR.j h).pos,(IR.j h).cost⟩,IR.l⟩
   |true=>
    simp only[if_true]
    refine⟨fun σ S'=>∃w',σ=[some (Hw js ds),some (.tup vs),some (.ref a),some (.int lim),some (.tup [.str "again",.int m,.tup us]),some (.int j)]∧Jl S' a pj pd js lim w'∧mR js (lim+1) w'∧Hn a pj pd S S'∧w'=f w2,fun σ S' ⟨w',g1,g2,g3,g4,g5⟩=>⟨j,Nat.lt_succ_self j,w',g1,g2,g3,g4,by rw[g5];exact e2⟩,?_⟩
    refine ax fun N2 ID=>?_
    simp only[au,aj,v3,lk,c3,ba,bS,List.set_cons_succ,List.set_cons_zero]
    rw[show((j+1:Nat):Int) - 1=(j:Int) by omega]
    refine ID _ _ ?_
    simp only[aI,ae,ar,aj,v3,lk,c3,ad,lV]
    refine ih n' rfl A2 IR hlim hn hds h4 fun S3 A3 O3=>?_
    exact⟨_,trivial,A3,ol hn (fun p hp=>(hds p hp).1) n' us w2 h4 IR,O2.trans O3,by rw[hf]⟩
 ·rintro σ S1 ⟨x4,x5,rfl,A1,Jm,O1⟩
  exact k S1 A1 O1
noncomputable def tF(M:Nat)(w:Wl)(pd:Addr):List (Str×PV):=[("jars",.tup (w.jars.map PV.int)),("most",.int M),("cost",cf w.cost),("doings",.ref pd)]
structure J6 (S:av) (o pd:Addr) (M:Nat) (w:Wl):Prop where
 o:S o=some (.ins "Telling" (tF M w pd))
 s:S pd=some (.lst (w.rows.map jO))
section
variable {M:Nat} {w:Wl} {pd:Addr}
theorem rF:(tF M w pd).lookup ("jars":Str)=some (.tup (w.jars.map PV.int)):=rfl
theorem wT:(tF M w pd).lookup ("most":Str)=some (.int M):=rfl
theorem wU:(tF M w pd).lookup ("cost":Str)=some (cf w.cost):=rfl
theorem i5:(tF M w pd).lookup ("doings":Str)=some (.ref pd):=rfl
theorem Fw:(tF M w pd).lookup ("do":Str)=none:=rfl
theorem Fx(cs:List Int):eC ("jars":Str) (.tup (cs.map PV.int)) (tF M w pd)=tF M { w with jars:=cs } pd:=by simp[eC,tF,aq]
theorem Fy(n:Int):eC ("cost":Str) (cf n) (tF M w pd)=tF M { w with cost:=n } pd:=by simp[eC,tF,aq]
theorem wV:(tF M w pd).length < 1000:=by show 4 < 1000;decide
end
section
variable {S:av} {o pd:Addr} {M:Nat} {w:Wl}
theorem J6.ne(A:J6 S o pd M w):pd≠o:=fun e=>by have:=A.s;rw[e,A.o]at this;cases this
theorem J6.ins(A:J6 S o pd M w){k:Addr→List (Str×PV)→Prop}(q:k o (tF M w pd)):jG "Telling" S (.ref o) k:=by
 unfold jG;simp only[A.o];exact⟨trivial,q⟩
theorem J6.ext{S':av}(A:J6 S o pd M w)(x:Ext S S'):J6 S' o pd M w:=⟨x _ _ A.o,x _ _ A.s⟩
theorem J6.uo{w':Wl}(A:J6 S o pd M w)(h:w'.rows=w.rows):J6 (GE S o (.ins "Telling" (tF M w' pd))) o pd M w':=⟨aa,by rw[ai A.ne,h];exact A.s⟩
theorem J6.us{w':Wl}(A:J6 S o pd M w)(h1:w'.jars=w.jars)(h2:w'.cost=w.cost):J6 (GE S pd (.lst (w'.rows.map jO))) o pd M w':=⟨by rw[ai A.ne.symm];unfold tF;rw[h1,h2];exact A.o,aa⟩
end
def OutT(o pd:Addr)(M:Nat)(S:av)(w:Wl)(Q:bN)(E:bO):Prop:=
 (w.run=true→∀S',J6 S' o pd M w→G4 o pd S S'→Q .non S')∧(w.ov=true→∀S',G4 o pd S S'→E (og M) [] S')∧∀r,w.st=some r→w.ov=false→∀S',G4 o pd S S'→E (oh r) [] S'
theorem OutT.x{o pd:Addr}{M:Nat}{S S1:av}{w w':Wl}{Q Q':bN}{E E':bO}(k:OutT o pd M S w Q E)(O:G4 o pd S S1)(hE:∀p S',E p [] S'→E' p [] S')(e:w'.run=false→w=w')(h:w'.run=true→∀S',J6 S' o pd M w'→G4 o pd S1 S'→Q' .non S'):OutT o pd M S1 w' Q' E':=by
 refine⟨h,fun hov S' O'=>hE _ _ (k.2.1 (by rw[e (nZ hov)];exact hov) S' (O.trans O')),fun r hst hov S' O'=>hE _ _ (k.2.2 r (by rw[e (fq hst)];exact hst) (by rw[e (fq hst)];exact hov) S' (O.trans O'))⟩
theorem pR:∀(cs:List Int) (ps:List (Int×Int)),cs.length=ps.length→((cs.zip ps).map fun z=>decide (z.1 < z.2.2)).any id=!bz ps cs
 |[],[],_=>rfl
 |c::cs,p::ps,h=>by
  simp only[List.zip_cons_cons,List.map_cons,List.any_cons,bz,id]
  rw[pR cs ps (by simpa using h)]
  by_cases hc:c < p.2
  ·rw[decide_eq_true hc,decide_eq_false (show ¬p.2≤c by omega)];rfl
  ·rw[decide_eq_false hc,decide_eq_true (show p.2≤c by omega)];rfl
 |[],_::_,h=>by simp at h
 |_::_,[],h=>by simp at h
theorem lM:∀(cs:List Int) (ps:List (Int×Int)),cs.length=ps.length→(List.zipWith jn (cs.map fun c=>(c,0)) ps).map (fun p=>PV.int p.1)=(GP ps cs).map PV.int
 |[],[],_=>rfl
 |c::cs,p::ps,h=>by
  simp only[List.map_cons,List.zipWith_cons_cons,GP]
  rw[lM cs ps (by simpa using h)]
  rfl
 |[],_::_,h=>by simp at h
 |_::_,[],h=>by simp at h
abbrev jR(x:aF):Prop:=∀{S:av} {o pd:Addr} {js:List Str} {M:Nat} {d:Int} {T:Ty} {w:Wl} {Q:bN} {E:bO},J6 S o pd M w→w.run=true→w.jars.length=js.length→js.length≤1000→0≤w.cost→T.Ok js→w.rows.length≤5000→OutT o pd M S (lK M d T w) Q E→x [.ref o,.int d,T.pv] S Q E
theorem wW{xa xp:aF}(Ib:jK xa)(Ig:dA xp):jR (lU 3 (fe xa xp)):=by
 intro S o pd js M d T w Q E A hr hl hj hc0 hT hrl k
 obtain⟨hst,hov⟩:=Hk.mp hr
 unfold fe
 refine Fv ?_
 rw[show aB 3 [PV.ref o,PV.int d,T.pv]=[some (.ref o),some (.int d),some T.pv] from rfl]
 have MQ:T.2.length=w.jars.length:=by rw[hT.1,hl]
 unfold lK at k
 rw[Wl.GV hr]at k
 refine ax fun N hN=>?_
 refine oa (v:=decide ((M:Int)≤(w.rows.length:Int))) (fun Q E q=>?_) (fun h=>?_) (fun h=>?_)
 ·simp only[aJ,aj,ao,ar,dv,v3,lk]
  refine A.ins ?_
  simp only[i5,b6,A.s,List.length_map]
  refine A.ins ?_
  simp only[wT,v7,bS]
  exact q
 ·have h:=of_decide_eq_true h
  rw[if_pos (by omega)]at k
  simp only[du,ar,dv,v3,lk]
  refine A.ins ?_
  simp only[wT]
  exact k.2.1 rfl S .refl
 ·have h:=of_decide_eq_false h
  rw[if_neg (by omega)]at k
  refine hN _ _ (ax fun N hN=>?_)
  have zp:dr (w.jars.map PV.int) T.dm=(w.jars.zip T.2).map fun z=>.tup [.int z.1,.int z.2.2]:=by
   unfold dr Ty.dm
   rw[List.zip_map,List.map_map];rfl
  have step:∀(k2:bz T.2 w.jars=false→∀S1,Ext S S1→du "Stuck" ["row"] [ao b6 [dv "Telling" "doings" (v3 0)]] { nx:=N,rt:=Q,ex:=fun p _ S'=>E p [] S' } [some (.ref o),some (.int d),some T.pv] S1) (k1:bz T.2 w.jars=true→∀S1,Ext S S1→N [some (.ref o),some (.int d),some T.pv] S1),bp (aJ (ao vR [bh (nz (dv "Telling" "jars" (v3 0)) (aj ad (v3 2) (c3 (.int 2)))) (.tp (.cons (.n 0) (.cons (.n 1) .nil))) cO (aj nA (v3 0) (v3 1)) 2 []])) (du "Stuck" ["row"] [ao b6 [dv "Telling" "doings" (v3 0)]]) aS { nx:=N,rt:=Q,ex:=fun p _ S'=>E p [] S' } [some (.ref o),some (.int d),some T.pv] S:=by
   intro k2 k1
   simp only[bp,aJ,ao,ar,bh,nz,dv,aj,v3,lk,c3]
   refine A.ins ?_
   simp only[rF,Ty.pv,ad,lV]
   rw[zp]
   refine bV (fun z:Int×(Int×Int)=>PV.tup [.int z.1,.int z.2.2]) (fun z=>PV.bl (decide (z.1 < z.2.2))) trivial (w.jars.zip T.2) [] (fun z hz=>⟨_,rfl,fun Q q=>?_⟩) (by rw[List.length_nil,Nat.zero_add,List.length_zip];exact lC (by omega)) fun p hp=>?_
   ·simp only[ko,List.replicate_succ,List.replicate_zero,List.map_nil,List.append_nil,List.cons_append,List.nil_append,lk,Tg.put,Tg.HM,List.set_cons_zero,List.set_cons_succ,aj,v3,nA,bS]
    exact q
   ·rw[List.nil_append]
    simp only[vR,aa]
    have e:(w.jars.zip T.2).map (fun z=>PV.bl (decide (z.1 < z.2.2)))=((w.jars.zip T.2).map fun z=>decide (z.1 < z.2.2)).map PV.bl:=by rw[List.map_map];rfl
    rw[e,mN]
    simp only[pR _ _ MQ.symm]
    cases hf:bz T.2 w.jars with
    |true=>simp only[Bool.not_true,Bool.false_eq_true,if_false,aS];exact k1 hf _ (.new hp)
    |false=>simp only[Bool.not_false,if_true];exact k2 hf _ (.new hp)
  refine step (fun hf S1 X1=>?_) (fun hf S1 X1=>?_)
  ·rw[if_neg (by rw[hf];decide)]at k
   have A1:=A.ext X1
   simp only[du,ao,ar,dv,v3,lk]
   refine A1.ins ?_
   simp only[i5,b6,A1.s,List.length_map]
   exact k.2.2 _ rfl hov S1 (.ext X1)
  ·rw[if_pos hf]at k
   have A1:=A.ext X1
   refine hN _ _ (ax fun N hN=>?_)
   simp only[eE,ae,ar,dv,aj,v3,lk,c3]
   refine A1.ins ?_
   simp only[rF,Ty.pv,ad,eF]
   rw[show(w.jars.map PV.int)=Ty.es (0,w.jars.map fun c=>(c,0)) by unfold Ty.es;rw[List.map_map];rfl]
   refine Ib (by rw[List.length_map];omega) fun S2 X2=>?_
   rw[show(Ty.join (0,w.jars.map fun c=>(c,0)) T).es=_ from lM w.jars T.2 MQ.symm]
   have A2:=A1.ext X2
   refine A2.ins ?_
   rw[Fx]
   refine⟨wV,hN _ _ (ax fun N hN=>?_)⟩
   have A3:J6 (GE S2 o (.ins "Telling" (tF M { w with jars:=GP T.2 w.jars } pd))) o pd M { w with jars:=GP T.2 w.jars }:=A2.uo rfl
   have O3:G4 o pd S (GE S2 o (.ins "Telling" (tF M { w with jars:=GP T.2 w.jars } pd))):=(G4.ext (X1.trans X2)).trans .uo
   generalize GE S2 o (.ins "Telling" (tF M { w with jars:=GP T.2 w.jars } pd))=S3 at A3 O3
   simp only[eE,ae,ar,dv,aj,v3,lk,c3]
   refine A3.ins ?_
   simp only[wU,Ty.pv,ad,eN]
   refine Ig hc0 hT.2.1 (A3.ins ?_)
   rw[Fy]
   refine⟨wV,hN _ _ ?_⟩
   have A4:=A3.uo (w':={ w with jars:=GP T.2 w.jars,cost:=w.cost+T.1 }) rfl
   simp only[aI,hG,ar,aE,dv,v3,lk]
   refine A4.ins ?_
   simp only[i5,um,A4.s,true_and]
   refine A4.ins ?_
   simp only[rF]
   refine A4.ins ?_
   simp only[wU,aV,A4.s,List.length_map]
   refine⟨Nat.lt_of_le_of_lt hrl (by decide),?_⟩
   have:=A4.us (w':={ w with jars:=GP T.2 w.jars,cost:=w.cost+T.1,rows:=w.rows++[(d,GP T.2 w.jars,w.cost+T.1)] }) rfl rfl
   rw[List.map_append]at this
   exact k.1 (Hk.mpr ⟨hst,hov⟩) _ this (O3.trans (G4.uo.trans .us))
noncomputable def J7(R:PV→PV→Prop):List PV→List PV→Prop
 |[],[]=>True
 |v::vs,u::us=>R v u∧J7 R vs us
 |_,_=>False
def Fz(js:List Str)(ds:List (Str×Bd))(v u:PV):Prop:=∃(i:Nat) (z:Str) (t:Bd) (tr:PV),ds[i]?=some (z,t)∧aX t tr=true∧v = .tup [.str "do",.int i,tr]∧u = .tup [.str "do",.int i,(t.GU js tr).pv]
noncomputable def TR(js:List Str)(ds:List (Str×Bd))(A:Addr→Prop)(S:av):Nat→PV→PV→Prop
 |0,v,u=>Fz js ds v u
 |n+1,v,u=>Fz js ds v u∨∃(m:Int) (vs us:List PV) (p:Addr),1≤m∧m≤2 ^ 60∧v = .tup [.str "again",.int m,.tup vs]∧u = .tup [.str "again",.int m,.ref p]∧A p∧S p=some (.lst us)∧J7 (TR js ds A S n) vs us
theorem J7.imp{R R':PV→PV→Prop}(h:∀v u,R v u→R' v u):∀{vs us:List PV},J7 R vs us→J7 R' vs us
 |[],[],_=>trivial
 |v::vs,u::us,⟨a,b⟩=>⟨h v u a,J7.imp h b⟩
 |[],_::_,h=>h
 |_::_,[],h=>h
theorem TR.mono{js:List Str}{ds:List (Str×Bd)}{A A':Addr→Prop}{S S':av}(h:∀p o,A p→S p=some o→S' p=some o)(hA:∀p,A p→A' p):∀(n:Nat) (v u:PV),TR js ds A S n v u→TR js ds A' S' n v u
 |0,_,_,h1=>h1
 |n+1,_,_,.inl h1=>.inl h1
 |n+1,_,_,.inr ⟨m,vs,us,p,a,b,c,d,e,f,g⟩=>.inr ⟨m,vs,us,p,a,b,c,d,hA p e,h p _ e f,g.imp fun v u=>TR.mono h hA n v u⟩
theorem J7.snoc{R:PV→PV→Prop}{v u:PV}(h:R v u):∀{vs us:List PV},J7 R vs us→J7 R (vs++[v]) (us++[u])
 |[],[],_=>⟨h,trivial⟩
 |_::_,_::_,⟨a,b⟩=>⟨a,J7.snoc h b⟩
 |[],_::_,h=>h.elim
 |_::_,[],h=>h.elim
theorem J7.at_{R:PV→PV→Prop}{u:PV}{rest:List PV}:∀{done vs:List PV},J7 R vs (done++u::rest)→∃va v vb,vs=va++v::vb∧va.length=done.length∧R v u
 |[],[],h=>h.elim
 |[],v::vs,⟨a,_⟩=>⟨[],v,vs,rfl,rfl,a⟩
 |_::_,[],h=>h.elim
 |d::done,v::vs,⟨_,b⟩=>by
  obtain⟨va,w,vb,e1,e2,e3⟩:=J7.at_ b
  exact⟨v::va,w,vb,by rw[e1];rfl,by rw[List.length_cons,List.length_cons,e2],e3⟩
theorem J7.len{R:PV→PV→Prop}:∀{vs us:List PV},J7 R vs us→vs.length=us.length
 |[],[],_=>rfl
 |_::_,_::_,⟨_,b⟩=>by rw[List.length_cons,List.length_cons,J7.len b]
 |[],_::_,h=>h.elim
 |_::_,[],h=>h.elim
abbrev i6(n:Nat)(x:aF):Prop:=∀{S:av} {js:List Str} {ds:List (Str×Bd)} {vs:List PV} {Q:bN} {E:bO},js.length≤8→(∀p∈ds,p.2.good js []∧p.2.dep≤6)→vs.length≤3→(∀v∈vs,kq ds n v)→
 (∀p us S',S p=none→Ext S S'→S' p=some (.lst us)→J7 (TR js ds (fun q=>S q=none) S' n) vs us→Q (.ref p) S')→x [Hw js ds,.tup vs] S Q E
theorem Km{xt s0:aF}(JU:jM xt)(n:Nat)(ih:∀k,k+1=n→i6 k s0):i6 n (bi 4 (dy xt s0)):=by
 intro S js ds vs Q E hj hds hvl hvs k
 unfold dy
 refine fL ?_
 rw[show aB 4 [Hw js ds,PV.tup vs]=[some (Hw js ds),some (.tup vs),none,none] from rfl]
 refine ax fun N hN=>?_
 simp only[au,bb,ar]
 intro p hp
 simp only[List.set_cons_succ,List.set_cons_zero]
 refine hN _ _ (ax fun N hN=>?_)
 simp only[bM,bg,v3,lk]
 refine bE (fun done σ S'=>∃(x3:Option PV) (us:List PV),σ=[some (Hw js ds),some (.tup vs),some (.ref p),x3]∧S' p=some (.lst us)∧Ext S S'∧us.length=done.length∧done.length≤vs.length∧J7 (TR js ds (fun q=>S q=none∧q≠p) S' n) done us) ⟨_,[],rfl,aa,.new hp,rfl,Nat.zero_le _,trivial⟩ (fun _ _ _ _=>trivial) ?_ ?_
 ·rintro done v rest σ S1 K e ⟨x3,us,rfl,f1,X1,Nz,hdl,Pw⟩ hK
  have e':vs=done++v::rest:=e
  have M4:done.length+1≤vs.length:=by rw[e'];simp
  have hp1:=hvs v (by rw[e'];simp)
  have fin:∀(u:PV) (S2:av),Ext S1 S2→TR js ds (fun q=>S q=none∧q≠p) S2 n v u→us.length < sizeLine∧K [some (Hw js ds),some (.tup vs),some (.ref p),some v] (GE S2 p (.lst (us++[u]))):=fun u S2 X2 h=>by
   refine⟨Nat.lt_of_le_of_lt (show us.length≤1000 by omega) (by decide),hK _ _ ⟨_,_,rfl,aa,fun b o hb=>?_,by simp[Nz],by rw[List.length_append];exact M4,?_⟩⟩
   ·have Ml:b≠p:=fun e=>by rw[e,hp]at hb;cases hb
    rw[ai Ml];exact X2 _ _ (X1 _ _ hb)
   ·refine J7.snoc (h:=?_) ?_
    ·exact TR.mono (fun q o a b=>by rw[ai a.2];exact b) (fun _ a=>a) n v u h
    ·exact Pw.imp fun v u g=>TR.mono (fun q o a b=>by rw[ai a.2];exact X2 _ _ b) (fun _ a=>a) n v u g
  simp only[Tg.put,List.set_cons_succ,List.set_cons_zero]
  cases hp1 with
  |@LF _ i _ z t tr hi htr hib _=>
   have hgd:=hds _ (List.mem_of_getElem? hi)
   refine oa (v:=true) (fun Q E q=>by simp only[aJ,aj,v3,lk,c3,ad,eN,bt,decide_true,Bool.false_bne];exact q) (fun _=>?_) (fun h=>nomatch h)
   simp only[aI,hG,um,f1,ar,aE,ae,aj,v3,lk,c3,ad,eF,lV,true_and]
   refine JU (js:=js) (us:=[]) (ds:=ds) (by omega) hi hgd.1 htr hib hgd.2 fun S2 X2=>?_
   simp only[aV,X2 _ _ f1]
   refine fin _ S2 X2 ?_
   have td:Fz js ds (.tup [.str "do",.int i,tr]) (.tup [.str "do",.int i,(t.GU js tr).pv]):=⟨i,z,t,tr,hi,htr,rfl,rfl⟩
   cases n with
   |zero=>exact td
   |succ n=>exact .inl td
  |@MX n' m ws h1 h2 h3 h4=>
   refine oa (v:=false) (fun Q E q=>by simp only[aJ,aj,v3,lk,c3,ad,eN,bt,aq,String.reduceEq,decide_false,Bool.false_bne];exact q) (fun h=>nomatch h) (fun _=>?_)
   simp only[aI,hG,um,f1,ar,aE,ae,aj,v3,lk,c3,ad,eF,lV,true_and]
   refine ih n' rfl hj hds h3 h4 fun p2 JI S2 hp2 X2 f2 NP=>?_
   have Rt:p2≠p:=fun e=>by rw[e,f1]at hp2;cases hp2
   simp only[aV,X2 _ _ f1]
   refine fin _ S2 X2 (.inr ⟨m,ws,JI,p2,h1,h2,rfl,rfl,⟨X1.free hp2,Rt⟩,f2,NP.imp fun v u g=>TR.mono (fun _ _ _ b=>b) (fun q a=>⟨X1.free a,fun e=>by rw[e,f1]at a;cases a⟩) n' v u g⟩)
 ·rintro σ S1 ⟨x3,us,rfl,f1,X1,Nz,hdl,Pw⟩
  refine hN _ _ ?_
  simp only[aG,v3,lk]
  exact k p us S1 hp X1 f1 (Pw.imp fun v u g=>TR.mono (fun _ _ _ b=>b) (fun q a=>a.1) n v u g)
abbrev i9(n:Nat)(x:aF):Prop:=∀{S:av} {o pd p:Addr} {js:List Str} {ds:List (Str×Bd)} {M:Nat} {A:Addr→Prop} {vs us:List PV} {w:Wl} {Q:bN} {E:bO},J6 S o pd M w→w.run=true→mR js M w→M≤2001→js.Nodup→js.length≤1000→(∀p∈ds,p.2.good js [])→(∀v∈vs,kq ds n v)→S p=some (.lst us)→A p→(∀q,A q→q≠o∧q≠pd)→J7 (TR js ds A S n) vs us→
 OutT o pd M S (cA M js ds n vs w) Q E→x [.ref o,.ref p] S Q E
theorem Kn{xd s0:aF}(NQ:jR xd)(n:Nat)(ih:∀k,k+1=n→i9 k s0):i9 n (lU 4 (qZ xd s0)):=by
 intro S o pd p js ds M A vs us w Q E At hr Pv hM hn hj hds hvs hp hA KO htr k
 unfold qZ
 refine Fv ?_
 rw[show aB 4 [PV.ref o,PV.ref p]=[some (.ref o),some (.ref p),none,none] from rfl]
 simp only[bM,bg,v3,lk,fE,hp]
 refine bE (fun done σ S'=>∃(x2 x3:Option PV),σ=[some (.ref o),some (.ref p),x2,x3]∧J6 S' o pd M (cA M js ds n (vs.take done.length) w)∧(cA M js ds n (vs.take done.length) w).run=true∧mR js M (cA M js ds n (vs.take done.length) w)∧G4 o pd S S') ⟨_,_,rfl,At,hr,Pv,.refl⟩ (fun _ _ _ ⟨_,_,_,_,_,_,O⟩=>O _ _ hp (KO p hA).1 (KO p hA).2) ?_ ?_
 ·rintro done u rest σ S1 K e ⟨x2,x3,rfl,A1,hr1,Jm,O1⟩ hK
  have e':us=done++u::rest:=e
  rw[e']at htr
  obtain⟨va,v,vb,ev,el,hR⟩:=htr.at_
  have tk:vs.take done.length=va:=by rw[ev,←el];simp
  have Ru:vs.take (done++[u]).length=va++[v]:=by rw[ev,List.length_append,List.length_singleton,←el,show va++v::vb=(va++[v])++vb by simp];exact List.take_left' (by simp)
  rw[tk]at A1 hr1 Jm
  rw[Ru]at hK
  have ts:cA M js ds n (va++[v]) w=tl M js ds n v (cA M js ds n va w):=by unfold cA;rw[ix]
  rw[ts]at hK
  have k1:OutT o pd M S (vb.foldl (fun w u=>tl M js ds n u w) (tl M js ds n v (cA M js ds n va w))) Q E:=by
   have:cA M js ds n vs w=vb.foldl (fun w u=>tl M js ds n u w) (tl M js ds n v (cA M js ds n va w)):=by unfold cA;rw[ev,List.foldl_append,List.foldl_cons]
   rw[←this];exact k
  have Hw:kq ds n v:=hvs v (by rw[ev];simp)
  have LJ:mR js M (tl M js ds n v (cA M js ds n va w)):=ol hn hds n [v] _ (fun x hx=>by rw[List.mem_singleton.mp hx];exact Hw) Jm
  generalize cA M js ds n va w=w1 at A1 hr1 Jm hK k1 LJ
  have stop:∀w',w'.run=false→tl M js ds n v w1=w'→vb.foldl (fun w u=>tl M js ds n u w) (tl M js ds n v w1)=w':=fun w' h e=>by rw[e];exact rD h
  simp only[Tg.put,List.set_cons_succ,List.set_cons_zero]
  have M5:∀(i:Nat) (z:Str) (t:Bd) (tr:PV),ds[i]?=some (z,t)→aX t tr=true→v = .tup [.str "do",.int i,tr]→u = .tup [.str "do",.int i,(t.GU js tr).pv]→bp (aJ (aj (bt false) (aj ad (v3 2) (c3 (.int 0))) (c3 (.str "do")))) (aI (nL "Telling" "do" xd (v3 0) [aj ad (v3 2) (c3 (.int 1)),aj ad (v3 2) (c3 (.int 2))])) (bM (cM (aj ad (v3 2) (c3 (.int 1)))) (.n 3) (aI (cR s0 [v3 0,aj ad (v3 2) (c3 (.int 2))]))) { nx:=K,rt:=Q,ex:=fun p _ S'=>E p [] S',bk:=fun _ S'=>Q .non S',ct:=K } [some (.ref o),some (.ref p),some u,x3] S1:=by
   intro i z t tr hi LK rfl rfl
   rw[mS hi]at hK k1 LJ stop
   have jk:=Jm.j (Hk.mp hr1).1
   have Rv:(t.GU js tr).Ok js:=bx t tr (hds _ (List.mem_of_getElem? hi)) LK
   refine oa (v:=true) (fun Q E q=>by simp only[aJ,aj,v3,lk,c3,ad,eN,bt,decide_true,Bool.false_bne];exact q) (fun _=>?_) (fun h=>nomatch h)
   simp only[aI,nL,ar,aj,v3,lk,c3,ad,eF,lV]
   refine A1.ins ⟨Fw,?_⟩
   exact NQ A1 hr1 jk.len hj jk.cost Rv (by have:=Jm.l;omega) (k1.x O1 (fun _ _ h=>h) (fun h=>stop _ h rfl) fun hr2 S2 A2 O2=>hK _ _ ⟨_,_,rfl,A2,hr2,LJ,O1.trans O2⟩)
  cases n with
  |zero=>
   obtain⟨i,z,t,tr,hi,LK,e1,e2⟩:=hR
   exact M5 i z t tr hi LK e1 e2
  |succ n=>
   rcases hR with⟨i,z,t,tr,hi,LK,e1,e2⟩|⟨m,JE,JI,p2,m1,m2,rfl,rfl,a2,f2,NP⟩
   ·exact M5 i z t tr hi LK e1 e2
   ·clear M5
    rw[sF]at hK k1 LJ stop
    have NR:∀v∈JE,kq ds n v:=by cases Hw with|MX _ _ _ h=>exact h
    obtain⟨f,hf⟩:∃f:Wl→Wl,f=fun w=>cA M js ds n JE w:=⟨_,rfl⟩
    rw[←hf]at hK k1 LJ stop
    have MY:∀w,w.run=false→f w=w:=fun w h=>by rw[hf];exact rD h
    refine oa (v:=false) (fun Q E q=>by simp only[aJ,aj,v3,lk,c3,ad,eN,bt,aq,String.reduceEq,decide_false,Bool.false_bne];exact q) (fun h=>nomatch h) (fun _=>?_)
    simp only[bM,cM,aj,v3,lk,c3,ad,eF]
    refine⟨by omega,by omega,?_⟩
    refine bE (fun dn σ S'=>∃(x3:Option PV),σ=[some (.ref o),some (.ref p),some (.tup [.str "again",.int m,.ref p2]),x3]∧dn.length≤m.toNat∧J6 S' o pd M (iter f dn.length w1)∧(iter f dn.length w1).run=true∧mR js M (iter f dn.length w1)∧G4 o pd S S') ⟨_,rfl,Nat.zero_le _,A1,hr1,Jm,O1⟩ (fun _ _ _ _=>trivial) ?_ ?_
    ·rintro dn y rs σ S2 K2 e2 ⟨x3,rfl,hdn,A2,hr2,IR,O2⟩ L6
     obtain⟨rfl,hi⟩:=gR e2
     simp only[List.length_append,List.length_singleton,eJ]at L6
     have MC:f (iter f dn.length w1)=f (iter f dn.length w1)→(f (iter f dn.length w1)).run=false→vb.foldl (fun w u=>tl M js ds (n+1) u w) (iter f m.toNat w1)=f (iter f dn.length w1):=fun _ h=>by
      refine stop _ h ?_
      rw[show m.toNat=(dn.length+1)+(m.toNat - (dn.length+1)) by omega,pP,eJ]
      exact gS MY _ _ h
     have NS:mR js M (f (iter f dn.length w1)):=by rw[hf];exact ol hn hds n JE _ NR (by rw[←hf];exact IR)
     generalize iter f dn.length w1=w2 at A2 hr2 IR L6 MC NS
     simp only[Tg.put,List.set_cons_succ,List.set_cons_zero]
     simp only[aI,cR,ar,aj,v3,lk,c3,ad,lV]
     have g2:=O2 _ _ f2 (KO p2 a2).1 (KO p2 a2).2
     refine ih n rfl A2 hr2 IR hM hn hj hds NR g2 a2 KO (NP.imp fun v u g=>TR.mono (fun q o' a b=>O2 _ _ b (KO q a).1 (KO q a).2) (fun _ a=>a) n v u g) ?_
     rw[show cA M js ds n JE w2=f w2 by rw[hf]]
     exact k1.x O2 (fun _ _ h=>h) (fun h=>MC rfl h) fun Rw S3 A3 O3=>L6 _ _ ⟨_,rfl,hi,A3,Rw,NS,O2.trans O3⟩
    ·rintro σ S2 ⟨x3,rfl,hdn,A2,hr2,IR,O2⟩
     rw[bQ]at A2 hr2 IR
     exact hK _ _ ⟨_,_,rfl,A2,hr2,IR,O2⟩
 ·rintro σ S1 ⟨x2,x3,rfl,A1,hr1,Jm,O1⟩
  have:vs.take us.length=vs:=by rw[←htr.len];exact List.take_length
  rw[this]at A1 hr1
  exact k.1 hr1 S1 A1 O1
theorem wX{xd xt s0:aF}(GD:bq xd)(NT:iV 12 xt)(n:Nat)(ih:gy n s0):gy (n+1) (bi 9 (CY.dX xd xt s0)):=by
 intro S d l x js ds left down wide Q E D hx hxd Jd Px Py hds h0 hdn hw1 L4 k
 unfold CY.dX
 refine fL ?_
 rw[show aB 9 [PV.ref d,Hw js ds,PV.ref x,PV.int down,PV.int wide]=[some (.ref d),some (Hw js ds),some (.ref x),some (.int down),some (.int wide),none,none,none,none] from rfl]
 refine ax fun N hN=>?_
 walk_at "x"
 intro pf hpf
 have Jk:=D.free hpf
 have hpx:pf≠x:=fun h=>by rw[h,hx]at hpf;cases hpf
 have D1:GF (GE S pf (.lst [])) d l:=D.new hpf
 have x1:(GE S pf (.lst [])) x=some (.lst [.int left]):=by rw[ai hpx.symm];exact hx
 have O1:Hm d l x S (GE S pf (.lst [])):=(G_.new hpf).x
 have f1:(GE S pf (.lst [])) pf=some (.lst []):=aa
 generalize GE S pf (.lst [])=S1 at D1 x1 O1 f1
 refine hN _ _ (ax fun N hN=>?_)
 simp only[bM,cM,aj,ae,ar,ao,v3,lk,c3]
 refine GD D1 (by decide) (by decide) fun r S2 r0 r1 D2 O2=>?_
 have x2:=O2 _ _ x1 hxd Jd
 have f2:=O2 _ _ f1 Jk.1 Jk.2
 have On:=O1.trans (O2.x (x:=x))
 simp only[aM]
 refine⟨by omega,by omega,?_⟩
 obtain⟨rr,er⟩:∃rr:Nat,1+r=(rr:Int):=⟨(1+r).toNat,by omega⟩
 rw[er,Int.toNat_natCast]
 refine bE (fun done σ S'=>∃(vs:List PV) (l2:Int) (x6 x7 x8:Option PV),σ=[some (.ref d),some (Hw js ds),some (.ref x),some (.int down),some (.int wide),some (.ref pf),x6,x7,x8]∧vs.length≤done.length∧done.length≤rr∧(∀v∈vs,kq ds down.toNat v∧K7 3 (2 * down.toNat+13) v)∧(1≤done.length→vs≠[])∧l2≤left∧min left 0 - 3 * down - (done.length:Int)≤l2∧GF S' d l∧S' x=some (.lst [.int l2])∧S' pf=some (.lst vs)∧Hm d l x S S') ⟨[],left,_,_,_,rfl,Nat.le_refl _,Nat.zero_le _,by simp,by simp,Int.le_refl _,by simp only[List.length_nil];omega,D2,x2,f2,On⟩ (fun _ _ _ _=>trivial) ?_ ?_
 ·rintro done y rest σ S3 K e ⟨vs,l2,x6,x7,x8,rfl,hv,hdl,hvs,hne,q1,q2,D3,x3,f3,O3⟩ hK
  obtain⟨rfl,hi⟩:=gR e
  simp only[Tg.put,List.set_cons_succ,List.set_cons_zero]
  -- what the end of a turn wants
  have fin:∀(v:PV) (l7:Int) (S7:av) (a7 a8:Option PV),kq ds down.toNat v→K7 3 (2 * down.toNat+13) v→l7≤l2 - 1→min left 0 - 3 * down - ((done.length:Int)+1)≤l7→GF S7 d l→S7 x=some (.lst [.int l7])→S7 pf=some (.lst vs)→Hm d l x S S7→K [some (.ref d),some (Hw js ds),some (.ref x),some (.int down),some (.int wide),some (.ref pf),some (.int ((done.length:Nat):Int)),a7,a8] (GE S7 pf (.lst (vs++[v]))):=by
   intro v l7 S7 a7 a8 g1 g2 g4 g5 D7 Mj f7 O7
   refine hK _ _ ⟨vs++[v],l7,_,_,_,rfl,by simp;omega,by rw[List.length_append];exact hi,fun w hw=>?_,by simp,by omega,by rw[List.length_append,List.length_singleton];omega,D7.upd Jk.1 Jk.2,by rw[ai hpx.symm];exact Mj,aa,?_⟩
   ·rcases List.mem_append.mp hw with hw|hw
    ·exact hvs w hw
    ·rw[List.mem_singleton.mp hw]
     exact⟨g1,g2⟩
   ·intro b o hb h1 h2 h3
    have Ml:b≠pf:=fun h=>by rw[h,hpf]at hb;cases hb
    rw[ai Ml]
    exact O7 _ _ hb h1 h2 h3
  generalize hC:(ak (au 8 (ae xd [(v3 0),(ao b6 [(aj ad (v3 1) (c3 (.int 1)))])])) (aI (hG "list" aV (v3 5) [(aE [(c3 (.str "do")),(v3 8),(ae xt [(v3 0),(aj ad (aj ad (aj ad (v3 1) (c3 (.int 1))) (v3 8)) (c3 (.int 1))),(bb [(c3 (.int 1))]),(aj ad (bb [(c3 (.int 3)),(c3 (.int 30))]) (ao dU [(aj (bt false) (ae xd [(v3 0),(c3 (.int 3))]) (c3 (.int 0)))]))])])])))=C
  have LF:∀(S5:av),GF S5 d l→S5 x=some (.lst [.int (l2 - 1)])→S5 pf=some (.lst vs)→Hm d l x S S5→C { nx:=K,rt:=Q,ex:=gX,bk:=N,ct:=K } [some (.ref d),some (Hw js ds),some (.ref x),some (.int down),some (.int wide),some (.ref pf),some (.int ((done.length:Nat):Int)),x7,x8] S5:=by
   intro S5 D5 x5 f5 O5
   rw[←hC]
   refine ax fun N2 ID=>?_
   walk_at "x"
   simp only[Hw,eF,List.length_map]
   refine GD D5 (by omega) (by omega) fun dd S6 d0 d1 D6 O6=>?_
   obtain⟨j,rfl⟩:∃j:Nat,dd=(j:Int):=⟨dd.toNat,by omega⟩
   have L5:=O6 _ _ x5 hxd Jd
   have f6:=O6 _ _ f5 Jk.1 Jk.2
   have Ng:=O5.trans (O6.x (x:=x))
   refine ID _ _ ?_
   have hj:j < ds.length:=by omega
   have hat:Hv (ds.map mM) (j:Int)=some (mM ds[j]):=re (by rw[List.getElem?_map,List.getElem?_eq_getElem hj];rfl)
   have hm:ds[j]∈ds:=List.getElem_mem hj
   obtain⟨NK,hsize⟩:=hds _ hm
   walk_at "x"
   simp only[eF,hat,f6,true_and]
   simp only[mM,eF]
   intro p3 hp3
   have MU:=D6.free hp3
   have Qv:x≠p3:=fun h=>by rw[h,hp3]at L5;cases L5
   have Qw:pf≠p3:=fun h=>by rw[h,hp3]at f6;cases f6
   intro p4 K9
   have Rx:p3≠p4:=fun h=>by rw[←h,aa]at K9;cases K9
   have D7:=(D6.new (o:=.lst [.int 1]) hp3).new (o:=.lst [.int 3,.int 30]) K9
   have Qx:=(D6.new (o:=.lst [.int 1]) hp3).free K9
   have Mj:(GE S6 p3 (.lst [.int 1])) x=some (.lst [.int (l2 - 1)]):=by rw[ai Qv];exact L5
   have f7:(GE S6 p3 (.lst [.int 1])) pf=some (.lst vs):=by rw[ai Qw];exact f6
   have Ry:x≠p4:=fun h=>by rw[h,K9]at Mj;cases Mj
   have Rz:pf≠p4:=fun h=>by rw[h,K9]at f7;cases f7
   have Os:(GE (GE S6 p3 (.lst [.int 1])) p4 (.lst [.int 3,.int 30])) x=some (.lst [.int (l2 - 1)]):=by rw[ai Ry];exact Mj
   have f8:(GE (GE S6 p3 (.lst [.int 1])) p4 (.lst [.int 3,.int 30])) pf=some (.lst vs):=by rw[ai Rz];exact f7
   have Qy:(GE (GE S6 p3 (.lst [.int 1])) p4 (.lst [.int 3,.int 30])) p3=some (.lst [.int 1]):=by rw[ai Rx];exact aa
   have Qz:(GE (GE S6 p3 (.lst [.int 1])) p4 (.lst [.int 3,.int 30])) p4=some (.lst [.int 3,.int 30]):=aa
   have RA:Hm d l x S (GE (GE S6 p3 (.lst [.int 1])) p4 (.lst [.int 3,.int 30])):=Ng.trans ((G_.new hp3).trans (.new K9)).x
   have QB:G_ d l S6 (GE (GE S6 p3 (.lst [.int 1])) p4 (.lst [.int 3,.int 30])):=(G_.new hp3).trans (.new K9)
   generalize GE (GE S6 p3 (.lst [.int 1])) p4 (.lst [.int 3,.int 30])=S8 at D7 Os f8 Qy Qz RA QB
   refine GD D7 (by decide) (by decide) fun g S9 g0 g1 D9 O9=>?_
   have x9:=O9 _ _ Os hxd Jd
   have f9:=O9 _ _ f8 Jk.1 Jk.2
   have RB:=O9 _ _ Qy MU.1 MU.2
   simp only[O9 _ _ Qz Qx.1 Qx.2]
   obtain⟨w,hw,KK⟩:∃w,Hv [PV.int 3,.int 30] (if (false != decide (g=0))=true then 1 else 0)=some w∧w∈[PV.int 3,.int 30]:=by
    by_cases hg:g=0
    ·subst hg;exact⟨.int 30,rfl,by simp⟩
    ·rw[decide_eq_false hg];exact⟨.int 3,rfl,by simp⟩
   rw[hw]
   obtain⟨ww,rfl,Pr,Ps⟩:∃ww,w = .int ww∧1≤ww∧ww≤2 ^ 60:=by
    simp only[List.mem_cons,List.not_mem_nil,or_false]at KK
    rcases KK with rfl|rfl
    ·exact⟨3,rfl,by omega,by omega⟩
    ·exact⟨30,rfl,by omega,by omega⟩
   dsimp only
   refine NT (t:=ds[j].2) D9 RB MU.1 MU.2 (by decide) Pr Ps (by omega) fun v RC le1 i1 t1 n1 q0 q3 z1 RD RE Pz=>?_
   have NU:=Pz _ _ x9 hxd Jd Qv
   have QC:=Pz _ _ f9 Jk.1 Jk.2 Qw
   simp only[QC]
   refine⟨Nat.lt_of_lt_of_le (show _ < 1000 by omega) (by decide),?_⟩
   refine fin (.tup [.str "do",.int (j:Int),v]) (l2 - 1) RC _ _ ?_ ?_ (Int.le_refl _) (by omega) RD NU QC ?_
   ·exact .LF (z:=ds[j].1) (t:=ds[j].2) (List.getElem?_eq_getElem hj) i1 n1 t1
   ·have t2:=t1.x.mono (Nat.le_refl 3) (show 2 * ds[j].2.dep≤2 * down.toNat+12 by omega)
    refine .tup (by simp) fun y hy=>?_
    simp only[List.mem_cons,List.not_mem_nil,or_false]at hy
    rcases hy with rfl|rfl|rfl
    ·exact .str pK.1
    ·exact .int _
    ·exact t2
   ·intro b o hb h1 h2 h3
    have PB:=Ng _ _ hb h1 h2 h3
    have hb9:=O9 _ _ (QB _ _ PB h1 h2) h1 h2
    exact Pz _ _ hb9 h1 h2 (fun h=>by rw[h,hp3]at PB;cases PB)
  generalize hB:(bp (mw (aJ (aj v7 (aj ad (v3 2) (c3 (.int 0))) (c3 (.int 0)))) (aJ (aj (bt false) (v3 5) (bb [])))) C aS)=B
  have Nb:∀(S5:av),GF S5 d l→S5 x=some (.lst [.int (l2 - 1)])→S5 pf=some (.lst vs)→Hm d l x S S5→B { nx:=K,rt:=Q,ex:=gX,bk:=N,ct:=K } [some (.ref d),some (Hw js ds),some (.ref x),some (.int down),some (.int wide),some (.ref pf),some (.int ((done.length:Nat):Int)),x7,x8] S5:=by
   intro S5 D5 x5 f5 O5
   rw[←hB]
   simp only[bp,mw,aJ,aj,v3,lk,c3,ad,x5,eN,v7,bS,decide_eq_true_eq]
   by_cases hl2:0≤l2 - 1
   ·rw[if_pos hl2]
    exact LF S5 D5 x5 f5 O5
   ·rw[if_neg hl2]
    simp only[bb,ar]
    intro pn Ot
    have nx:x≠pn:=fun h=>by rw[h,Ot]at x5;cases x5
    have nf:pf≠pn:=fun h=>by rw[h,Ot]at f5;cases f5
    have L5:(GE S5 pn (.lst [])) x=some (.lst [.int (l2 - 1)]):=by rw[ai nx];exact x5
    have f6:(GE S5 pn (.lst [])) pf=some (.lst vs):=by rw[ai nf];exact f5
    have D6:GF (GE S5 pn (.lst [])) d l:=D5.new Ot
    have O6:Hm d l x S (GE S5 pn (.lst [])):=O5.trans (G_.new Ot).x
    refine Cc f6 aa (fun v hv=>(hvs v hv).2) ?_
    by_cases en:vs=[]
    ·rw[decide_eq_true en]
     exact LF _ D6 L5 f6 O6
    ·rw[decide_eq_false en]
     simp only[aS]
     refine hK _ _ ⟨vs,l2 - 1,_,_,_,rfl,by simp;omega,by rw[List.length_append];exact hi,hvs,fun _=>en,by omega,by rw[List.length_append,List.length_singleton];omega,D6,L5,f6,O6⟩
  refine ax fun N2 ID=>?_
  walk_at "x"
  simp only[x3,eN,oQ]
  have e1:(if (0:Int)≤0 then if (0:Int) < (([PV.int l2]:List PV).length:Nat) then some (0:Int).toNat else none else if -((([PV.int l2]:List PV).length:Nat):Int)≤0 then some (0+((([PV.int l2]:List PV).length:Nat):Int)).toNat else none)=some 0:=rfl
  rw[e1]
  dsimp only
  have D4:GF (GE S3 x (.lst [.int (l2 - 1)])) d l:=D3.upd hxd Jd
  have x4:(GE S3 x (.lst [.int (l2 - 1)])) x=some (.lst [.int (l2 - 1)]):=aa
  have f4:(GE S3 x (.lst [.int (l2 - 1)])) pf=some (.lst vs):=by rw[ai hpx];exact f3
  have O4:Hm d l x S (GE S3 x (.lst [.int (l2 - 1)])):=O3.trans .upd
  refine ID _ _ ?_
  show bp _ _ _ _ _ (GE S3 x (.lst [.int (l2 - 1)]))
  generalize GE S3 x (.lst [.int (l2 - 1)])=S4 at D4 x4 f4 O4
  simp only[bp,b_,aJ,aj,v3,lk,c3,ad,x4,eN,kB,bS,decide_eq_true_eq]
  by_cases hd0:0 < down
  case neg=>rw[if_neg hd0,if_neg (by decide)];exact Nb S4 D4 x4 f4 O4
  rw[if_pos hd0]
  by_cases QD:0 < l2 - 1
  case neg=>rw[if_neg QD,if_neg (by decide)];exact Nb S4 D4 x4 f4 O4
  rw[if_pos QD]
  simp only[ae,ar,aj,v3,lk,c3]
  refine GD D4 (by decide) (by decide) fun g S5 g0 g1 D5 O5=>?_
  have x5:=O5 _ _ x4 hxd Jd
  have f5:=O5 _ _ f4 Jk.1 Jk.2
  have Oo:=O4.trans (O5.x (x:=x))
  simp only[bt,Bool.false_bne,decide_eq_true_eq]
  by_cases hg:g=0
  case neg=>rw[if_neg hg];exact Nb S5 D5 x5 f5 Oo
  rw[if_pos hg]
  refine ax fun N3 LZ=>?_
  walk_at "x"
  intro pl hpl
  have NL:=D5.free hpl
  have Pp:pf≠pl:=fun h=>by rw[h,hpl]at f5;cases f5
  have Pq:x≠pl:=fun h=>by rw[h,hpl]at x5;cases x5
  refine GD (D5.new hpl) (by decide) (by decide) fun g S6 g0 g1 D6 O6=>?_
  have p6:=O6 _ _ (aa (S:=S5) (o:=.lst [.int 3,.int wide])) NL.1 NL.2
  have L5:=O6 _ _ (by rw[ai Pq];exact x5) hxd Jd
  have f6:=O6 _ _ (by rw[ai Pp];exact f5) Jk.1 Jk.2
  have Ng:Hm d l x S S6:=Oo.trans ((G_.new hpl).trans O6).x
  simp only[p6]
  obtain⟨w,hw,KK⟩:=cY (xs:=[PV.int 3,.int wide]) g0 (by simpa using g1)
  rw[hw]
  obtain⟨ww,rfl,Pr,Ps⟩:∃ww,w = .int ww∧1≤ww∧ww≤2 ^ 60:=by
   simp only[List.mem_cons,List.not_mem_nil,or_false]at KK
   rcases KK with rfl|rfl
   ·exact⟨3,rfl,by omega,by omega⟩
   ·exact⟨wide,rfl,hw1,L4⟩
  dsimp only
  refine GD D6 (by omega) (by omega) fun m S7 m0 m1 D7 O7=>?_
  have Mj:=O7 _ _ L5 hxd Jd
  have f7:=O7 _ _ f6 Jk.1 Jk.2
  have RF:=Ng.trans (O7.x (x:=x))
  refine LZ _ _ ?_
  walk_at "x"
  simp only[f7,true_and]
  refine ih (js:=js) (ds:=ds) (down:=down - 1) D7 Mj hxd Jd Px Py hds (by omega) (by omega) hw1 L4 fun us S8 l8 i8 e8 t8 q8 q9 D8 Os O8=>?_
  have f8:=O8 _ _ f7 Jk.1 Jk.2 hpx
  simp only[f8]
  refine⟨Nat.lt_of_lt_of_le (show _ < 1000 by omega) (by decide),?_⟩
  refine fin (.tup [.str "again",.int (1+m),.tup us]) l8 S8 _ _ ?_ ?_ (by omega) (by omega) D8 Os f8 (RF.trans O8)
  ·rw[show down.toNat=(down - 1).toNat+1 by omega]
   exact .MX (by omega) (by omega) i8 e8
  ·have t2:=t8.mono (Nat.le_refl 3) (show 2 * (down - 1).toNat+14≤2 * down.toNat+12 by omega)
   refine .tup (by simp) fun z hz=>?_
   simp only[List.mem_cons,List.not_mem_nil,or_false]at hz
   rcases hz with rfl|rfl|rfl
   ·exact .str pK.2
   ·exact .int _
   ·exact t2
 ·rintro σ S3 ⟨vs,l2,x6,x7,x8,rfl,hv,hdl,hvs,hne,q1,q2,D3,x3,f3,O3⟩
  rw[bQ]at *
  refine hN _ _ ?_
  walk_at "x"
  simp only[f3]
  exact k vs S3 l2 (by omega) (fun v hv=>(hvs v hv).1) (.tup (by omega) fun v hv=>(hvs v hv).2) q1 (by omega) D3 x3 O3
theorem rG{S:av}{a pj pd:Addr}{js:List Str}{cs:List Int}(lim:Nat)(g:GAt S a pj pd js 0 [] (w0 cs)):Jl S a pj pd js lim (w0 cs):=⟨w0 cs,g,rfl,fun _=>⟨rfl,rfl⟩,Nat.zero_le _,fun h=>(nomatch h),fun h=>(nomatch h)⟩
theorem om{js:List Str}{cs:List Int}(M:Nat)(hl:cs.length=js.length)(h:∀c∈cs,0≤c):mR js M (w0 cs):=⟨fun _=>⟨hl,h,Int.le_refl 0⟩,Nat.zero_le _⟩
abbrev mT(x:aF):Prop:=∀{S:av} {o:Addr} {M:Nat} {cs:List Int} {Q:bN} {E:bO},S o=some (.ins "Telling" [])→(∀pd S',S pd=none→J6 S' o pd M (w0 cs)→(∀b u,S b=some u→b≠o→S' b=some u)→Q .non S')→x [.ref o,.tup (cs.map PV.int),.int M] S Q E
theorem wY:mT (bi 3 b8):=by
 intro S o M cs Q E h k
 unfold b8
 refine fL ?_
 rw[show aB 3 [PV.ref o,PV.tup (cs.map PV.int),PV.int M]=[some (.ref o),some (.tup (cs.map PV.int)),some (.int M)] from rfl]
 refine ax fun N hN=>?_
 simp only[eE,v3,lk,jG,h]
 refine⟨trivial,by decide,hN _ _ (ax fun N hN=>?_)⟩
 simp only[eE,v3,lk,jG,aa,mr]
 refine⟨trivial,by show 1 < 1000;decide,hN _ _ (ax fun N hN=>?_)⟩
 simp only[eE,v3,lk,jG,aa,mr,aE,ar,c3]
 refine⟨trivial,by show 2 < 1000;decide,hN _ _ ?_⟩
 simp only[eE,v3,lk,bb,ar]
 intro p hp
 have NV:p≠o:=fun e=>by rw[e,aa]at hp;cases hp
 rw[ai NV]at hp
 simp only[jG,ai NV.symm,aa]
 refine⟨trivial,by show 3 < 1000;decide,?_⟩
 have e:eC (Str.ofString "doings") (.ref p) (eC (Str.ofString "cost") (.tup [.int 0,.int 1]) (eC (Str.ofString "most") (.int M) (eC (Str.ofString "jars") (.tup (cs.map PV.int)) [])))=tF M (w0 cs) p:=by
  simp[eC,tF,aq,w0,kD]
 rw[e]
 refine k p _ hp ⟨aa,by rw[ai NV,aa];rfl⟩ fun b u hb QF=>?_
 have Ml:b≠p:=fun e=>by rw[e,hp]at hb;cases hb
 rw[ai QF,ai Ml,ai QF];exact hb
abbrev on(n:Nat)(x:aF):Prop:=∀{S:av} {js:List Str} {ds:List (Str×Bd)} {cs:List Int} {M:Nat} {vs:List PV} {Q:bN} {E:bO},js.length≤8→js.Nodup→(∀p∈ds,p.2.good js []∧p.2.dep≤6)→vs.length≤3→(∀v∈vs,kq ds n v)→cs.length=js.length→(∀c∈cs,0≤c)→M≤2001→
 ((cA M js ds n vs (w0 cs)).run=true→∀p S',S p=none→S' p=some (.lst ((cA M js ds n vs (w0 cs)).rows.map jO))→Ext S S'→Q (.ref p) S')→((cA M js ds n vs (w0 cs)).ov=true→∀S',Ext S S'→E (og M) [] S')→(∀r,(cA M js ds n vs (w0 cs)).st=some r→(cA M js ds n vs (w0 cs)).ov=false→∀S',Ext S S'→E (oh r) [] S')→x [Hw js ds,.tup (cs.map PV.int),.tup vs,.int M] S Q E
theorem KP{xi xt xw:aF}(n:Nat)(Mn:mT xi)(Kn:i9 n xt)(Km:i6 n xw):on n (lU 5 (q_ xi xt xw)):=by
 intro S js ds cs M vs Q E hj hn hds hvl hvs hcl hc hM k1 k2 k3
 unfold q_
 refine Fv ?_
 rw[show aB 5 [Hw js ds,PV.tup (cs.map PV.int),PV.tup vs,PV.int M]=[some (Hw js ds),some (.tup (cs.map PV.int)),some (.tup vs),some (.int M),none] from rfl]
 refine ax fun N hN=>?_
 simp only[au,wn,ar,v3,lk]
 intro o ho
 refine Mn aa fun pd S1 Je A1 O1=>?_
 have NV:pd≠o:=fun e=>by rw[e,aa]at Je;cases Je
 rw[ai NV]at Je
 have X1:Ext S S1:=fun b u h=>by
  have hb:b≠o:=fun e=>by rw[e,ho]at h;cases h
  exact O1 b u (by rw[ai hb];exact h) hb
 have PC:∀{S'},G4 o pd S1 S'→Ext S S':=fun O b u h=>O b u (X1 b u h) (fun e=>by rw[e,ho]at h;cases h) (fun e=>by rw[e,Je]at h;cases h)
 refine⟨rfl,hN _ _ (ax fun N hN=>?_)⟩
 simp only[List.set_cons_succ,List.set_cons_zero,aI,cR,ae,ar,v3,lk]
 refine Km hj hds hvl hvs fun p us S2 hp X2 f2 NP=>?_
 have RG:∀q,S1 q=none→q≠o∧q≠pd:=fun q hq=>⟨fun e=>(by rw[e,A1.o]at hq;cases hq),fun e=>(by rw[e,A1.s]at hq;cases hq)⟩
 refine Kn (A1.ext X2) rfl (om M hcl hc) hM hn (by omega) (fun p hp=>(hds p hp).1) hvs f2 hp RG NP ⟨fun hr S3 A3 O3=>?_,fun h S3 O3=>k2 h S3 (PC ((G4.ext X2).trans O3)),fun r h h' S3 O3=>k3 r h h' S3 (PC ((G4.ext X2).trans O3))⟩
 refine hN _ _ ?_
 simp only[aG,dv,v3,lk]
 refine A3.ins ?_
 simp only[i5]
 exact k1 hr pd S3 Je A3.s (PC ((G4.ext X2).trans O3))
theorem zw{M:Nat}{js:List Str}{ds:List (Str×Bd)}{P:Wl→Prop}(h:∀(i:Nat) (z:Str) (t:Bd) (tr:PV) (k:Nat) (w:Wl),ds[i]?=some (z,t)→aX t tr=true→cH (2 ^ 60) tr=true→Thg 3 k tr→P w→P (lK M i (t.GU js tr) w)):∀(n:Nat) (vs:List PV) (w:Wl),(∀v∈vs,kq ds n v)→P w→P (cA M js ds n vs w):=by
 have one:∀(n:Nat) (v:PV) (w:Wl),kq ds n v→P w→P (tl M js ds n v w):=by
  intro n
  induction n with
  |zero=>
   intro v w hp q
   cases hp with
   |LF hi htr hib M6=>rw[mS hi];exact h _ _ _ _ _ w hi htr hib M6 q
  |succ n ih=>
   intro v w hp q
   cases hp with
   |LF hi htr hib M6=>rw[mS hi];exact h _ _ _ _ _ w hi htr hib M6 q
   |@MX _ m vs h1 h2 h3 h4=>
    rw[sF]
    refine eI (P:=P) (fun x hx=>?_) _ w q
    have:∀(us:List PV) (x:Wl),(∀v∈us,kq ds n v)→P x→P (cA M js ds n us x):=by
     intro us
     induction us with
     |nil=>intro x _ hx;exact hx
     |cons u us Pu=>intro x hu hx;exact Pu (tl M js ds n u x) (fun v hv=>hu v (by simp[hv])) (ih u x (hu u (by simp)) hx)
    exact this vs x h4 hx
 intro n vs
 induction vs with
 |nil=>intro w _ q;exact q
 |cons v vs ih=>intro w hv q;exact ih (tl M js ds n v w) (fun u hu=>hv u (by simp[hu])) (one n v w (hv v (by simp)) q)
def Cg(q:Int×List Int×Int):Prop:=(0≤q.1∧q.1≤1000)∧q.2.1.length≤8∧(∀c∈q.2.1,-(2 ^ 450)≤c∧c≤2 ^ 450)∧0≤q.2.2∧q.2.2≤2 ^ 450
structure Aa (js:List Str) (w:Wl):Prop where
 j:w.st=none→wO js w∧(∀c∈w.jars,c≤2 ^ 40+(w.rows.length:Int) * 2 ^ 424)∧w.cost≤(w.rows.length:Int) * 2 ^ 424
 l:w.rows.length≤2001
 r:∀q∈w.rows,Cg q
 d:∀q∈w.GH,q.2.1.length=js.length∧∀c∈q.2.1,0≤c
 s:∀r,w.st=some r→0≤r∧r+1=(w.rows.length:Int)
theorem sG{B D:Int}:∀(ps:List (Int×Int)) (cs:List Int),(∀p∈ps,p.1≤B)→0≤B→(∀c∈cs,c≤D)→∀c∈GP ps cs,c≤D+B
 |[],cs,_,hB,h,c,hc=>by
  have:c∈cs:=by cases cs<;>exact hc
  have:=h c this;omega
 |_::_,[],_,_,_,c,hc=>by cases hc
 |p::ps,d::cs,hp,hB,h,c,hc=>by
  simp only[GP,List.mem_cons]at hc
  rcases hc with rfl|hc
  ·have:=hp p (by simp);have:=h d (by simp);omega
  ·exact sG ps cs (fun q hq=>hp q (by simp[hq])) hB (fun x hx=>h x (by simp[hx])) c hc
theorem zx{js:List Str}{M:Nat}{i:Nat}{t:Bd}{tr:PV}{k:Nat}{w:Wl}(hn:js.Nodup)(hj:js.length≤8)(hM:M≤2001)(hi:i≤1000)(hg:t.good js [])(hd:t.dep≤6)(htr:aX t tr=true)(hib:cH (2 ^ 60) tr=true)(M6:Thg 3 k tr)(h:Aa js w):Aa js (lK M i (t.GU js tr) w):=by
 cases hr:w.run with
 |false=>unfold lK;rw[Wl.Ic hr];exact h
 |true=>
  obtain⟨h1,h2⟩:=Hk.mp hr
  obtain⟨jk,jb,cb⟩:=h.j h1
  have g:=rC hn t tr w hg htr hr jk
  have bn:=(dY t tr k hg htr (M6.mono (by decide) (Nat.le_refl _)) hib).mono (fo hd)
  have tb:tB 6=2 ^ 424:=by decide +kernel
  rw[tb]at bn
  have ok:=bx t tr hg htr
  have hdo:w.GH=w.rows:=by unfold Wl.GH;rw[h1];rfl
  unfold lK
  rw[Wl.GV hr]
  by_cases hm:M≤w.rows.length
  ·rw[if_pos hm];exact⟨fun _=>⟨⟨jk.len,jk.pos,jk.cost⟩,jb,cb⟩,h.l,h.r,h.d,fun r e=>by dsimp only at e;rw[h1]at e;cases e⟩
  ·rw[if_neg hm]
   have hlen:(w.rows.length:Int)≤2001:=by have:=h.l;omega
   cases hf:bz (t.GU js tr).2 w.jars with
   |true=>
    obtain⟨e,j⟩:=g.1 hf
    rw[e]at j
    rw[if_pos rfl]
    have ja:=sG (B:=2 ^ 424) (D:=2 ^ 40+(w.rows.length:Int) * 2 ^ 424) (t.GU js tr).2 w.jars (fun p hp=>(bn.2 p hp).2.1) (by decide) jb
    have row:Cg ((i:Int),GP (t.GU js tr).2 w.jars,w.cost+(t.GU js tr).1):=by
     refine⟨⟨by dsimp only;omega,by dsimp only;omega⟩,by dsimp only;rw[lJ,jk.len];exact hj,fun c hc=>?_,j.cost,?_⟩
     ·have q1:=j.pos c hc;have q2:=ja c hc
      dsimp only at hc ⊢
      refine⟨by omega,?_⟩
      have:(w.rows.length:Int) * 2 ^ 424≤2001 * 2 ^ 424:=Int.mul_le_mul_of_nonneg_right hlen (by decide)
      have e2:(2:Int) ^ 40+2001 * 2 ^ 424+2 ^ 424≤2 ^ 450:=by decide +kernel
      omega
     ·have q3:=bn.1
      dsimp only
      have:(w.rows.length:Int) * 2 ^ 424≤2001 * 2 ^ 424:=Int.mul_le_mul_of_nonneg_right hlen (by decide)
      have e2:(2001:Int) * 2 ^ 424+2 ^ 424≤2 ^ 450:=by decide +kernel
      omega
    refine⟨fun _=>⟨⟨j.len,j.pos,j.cost⟩,fun c hc=>?_,?_⟩,?_,fun q hq=>?_,fun q hq=>?_,fun r e=>?_⟩
    ·have:=ja c hc;dsimp only;rw[List.length_append,List.length_singleton]
     rw[show(((w.rows.length+1:Nat)):Int)=(w.rows.length:Int)+1 by omega,Int.add_mul];omega
    ·dsimp only;rw[List.length_append,List.length_singleton]
     have q3:=bn.1
     rw[show(((w.rows.length+1:Nat)):Int)=(w.rows.length:Int)+1 by omega,Int.add_mul];omega
    ·dsimp only;rw[List.length_append,List.length_singleton];omega
    ·rcases List.mem_append.mp hq with hq|hq
     ·exact h.r q hq
     ·rw[List.mem_singleton.mp hq];exact row
    ·have:q∈w.rows++[((i:Int),GP (t.GU js tr).2 w.jars,w.cost+(t.GU js tr).1)]:=by
      unfold Wl.GH at hq;dsimp only at hq;rw[h1]at hq;exact hq
     rcases List.mem_append.mp this with hq|hq
     ·exact h.d q (by rw[hdo];exact hq)
     ·rw[List.mem_singleton.mp hq];exact⟨j.len,j.pos⟩
    ·dsimp only at e;rw[h1]at e;cases e
   |false=>
    rw[if_neg (by decide)]
    refine⟨fun e=>(nomatch e),by dsimp only;rw[List.length_append,List.length_singleton];omega,fun q hq=>?_,fun q hq=>?_,fun r e=>?_⟩
    ·rcases List.mem_append.mp hq with hq|hq
     ·exact h.r q hq
     ·rw[List.mem_singleton.mp hq];exact⟨⟨by dsimp only;omega,by dsimp only;omega⟩,Nat.zero_le _,fun c hc=>(nomatch hc),Int.le_refl _,show(0:Int)≤2 ^ 450 by decide +kernel⟩
    ·unfold Wl.GH at hq;dsimp only at hq;rw[Option.isSome_some,if_pos rfl,List.dropLast_concat]at hq
     exact h.d q (by rw[hdo];exact hq)
    ·cases e;refine⟨Int.natCast_nonneg _,?_⟩;dsimp only;rw[List.length_append,List.length_singleton];omega
theorem rH{js:List Str}{cs:List Int}(hl:cs.length=js.length)(h:∀c∈cs,0≤c∧c≤10 ^ 9):Aa js (w0 cs):=⟨fun _=>⟨⟨hl,fun c hc=>(h c hc).1,Int.le_refl 0⟩,fun c hc=>by have:=(h c hc).2;show c≤2 ^ 40+((0:Nat):Int) * 2 ^ 424;omega,by show(0:Int)≤((0:Nat):Int) * 2 ^ 424;omega⟩,Nat.zero_le _,fun q hq=>(nomatch hq),fun q hq=>(nomatch hq),fun r e=>(nomatch e)⟩
theorem oo{js:List Str}{ds:List (Str×Bd)}{M n:Nat}{vs:List PV}{w:Wl}(hn:js.Nodup)(hj:js.length≤8)(hM:M≤2001)(hdl:ds.length≤1000)(hds:∀p∈ds,p.2.good js []∧p.2.dep≤6)(hvs:∀v∈vs,kq ds n v)(h:Aa js w):Aa js (cA M js ds n vs w):=
 zw (P:=Aa js) (fun i z t tr k w hi htr hib M6 q=>zx hn hj hM (by have:=(List.getElem?_eq_some_iff.mp hi).1;omega) (hds _ (List.mem_of_getElem? hi)).1 (hds _ (List.mem_of_getElem? hi)).2 htr hib M6 q) n vs w hvs h
theorem Sh.k{S:av}{i:Int}(h1:-(2 ^ 450)≤i)(h2:i≤2 ^ 450):Sh S (.int i) (.int i) 461 0:=by
 have hl:i.natAbs.log2 < 460:=by
  by_cases h0:i.natAbs=0
  ·rw[h0];decide
  ·exact(Nat.log2_lt h0).mpr (Nat.lt_of_le_of_lt (show i.natAbs≤2 ^ 450 by omega) (Nat.pow_lt_pow_right (by decide) (by decide)))
 exact⟨.int i,by simp[PyData.canLay0],by simp only[PyData.showable,decide_eq_true_eq];omega,by simp[PyData.depth],by rw[PyData.shown_int,PySem.ofString_length];exact PySem.int_text_length_le (k:=460) (by decide) hl⟩
theorem Sh.PD{S:av}{q:Int×List Int×Int}(h:Cg q):Sh S (jO q) (Cd q) 6000 4:=by
 obtain⟨⟨a1,a2⟩,b,c,d1,d2⟩:=h
 have b0:=dz q.2.2
 have cc:Sh S (cf q.2.2) (.tuple [.int (M3.bC q.2.2 2520),.int (M3.a_ q.2.2 2520)]) 1000 2:=
  (Sh.tup (((Sh.k (by have:=eG d1;omega) (zX d1 d2)).le (Nat.le_refl _) (Nat.zero_le 1)).cons (((Sh.k (S:=S) (by omega) (by omega)).le (Nat.le_refl _) (Nat.zero_le 1)).cons (.Kj _)))).le (by decide) (by decide)
 have jj:Sh S (.tup (q.2.1.map PV.int)) (.tuple (q.2.1.map PyData.int)) 3800 2:=
  (Sh.tup (Ki.map PV.int PyData.int (n:=461) (k:=1) fun x hx=>(Sh.k (c x hx).1 (c x hx).2).le (Nat.le_refl _) (Nat.zero_le _))).le (by omega) (by decide)
 exact(Sh.tup (((Sh.k (by omega) (by omega)).le (Nat.le_refl _) (Nat.zero_le 3)).cons ((jj.le (Nat.le_refl _) (by decide)).cons ((cc.le (Nat.le_refl _) (by decide)).cons (.Kj _))))).le (by decide) (by decide)
theorem Sh.NW{S:av}{js:List Str}{w:Wl}{a:Addr}(h:Aa js w)(ha:S a=some (.lst (w.rows.map jO))):Sh S (.ref a) (.list (w.rows.map Cd)) 13000000 5:=
 (Sh.lst ha (Ki.map jO Cd fun q hq=>Sh.PD (h.r q hq))).le (by have:w.rows.length * (6000+2)≤2001 * 6002:=Nat.mul_le_mul_right _ h.l;omega) (by decide)
theorem Jl.dn{S:av}{a pj pd:Addr}{js:List Str}{lim:Nat}{w:Wl}(A:Jl S a pj pd js lim w):∃c st,S a=some (.dct (gK js pj c st pd w.rows.length))∧st=w.st.isSome∧S pd=some (.lst (w.GH.map jO)):=by
 obtain⟨u,g,s,_⟩:=A
 exact⟨_,_,g.d,s,g.r⟩
abbrev pS(n:Nat)(x:aF):Prop:=∀{S:av} {d l:Addr} {js:List Str} {ds:List (Str×Bd)} {vs:List PV} {lim:Nat} {Q:bN} {E:bO},GF S d l→js.Nodup→js.length≤8→ds.length≤1000→(∀p∈ds,p.2.good js []∧p.2.dep≤6)→(∀v∈vs,kq ds n v)→lim≤2000→
 (∀(cs:List Int) (S':av),cs.length=js.length→(∀c∈cs,0≤c∧c≤10 ^ 9)→GF S' d l→Q (.tup (cs.map PV.int)) S')→x [.ref d,Hw js ds,.tup vs,.int lim] S Q E
theorem Ko{xb xa xd:aF}(n:Nat)(Ha:gT xb)(JW:eL n xa)(GD:bq xd):pS n (bi 8 (cS xb xa xd)):=by
 intro S d l js ds vs lim Q E D hn hj hdl hds hvs hlim k
 unfold cS
 refine fL ?_
 rw[show aB 8 [PV.ref d,Hw js ds,PV.tup vs,PV.int lim]=[some (.ref d),some (Hw js ds),some (.tup vs),some (.int lim),none,none,none,none] from rfl]
 refine ax fun N hN=>?_
 rw[show Hw js ds = .tup [gx js,.tup (ds.map mM)] from rfl]
 simp only[au,ae,ar,bh,bg,aj,v3,lk,c3,ad,eN,gx,fE]
 refine bV (fun z:Str=>PV.str z) (fun _=>PV.int 1000000000) trivial js [] (fun z hz=>⟨_,rfl,fun Q q=>?_⟩) (by rw[List.length_nil,Nat.zero_add];exact lC (by omega)) fun p hp=>?_
 ·simp only[iL,dQ]
  exact⟨⟨by decide,by decide,by decide⟩,q⟩
 rw[List.nil_append,show js.map (fun _=>PV.int 1000000000)=(js.map fun _=>(1000000000:Int)).map PV.int by rw[List.map_map];rfl]
 generalize hcs:(js.map fun _=>(1000000000:Int))=LL
 have hcl:LL.length=js.length:=by rw[←hcs,List.length_map]
 have hc0:∀c∈LL,0≤c∧c≤10 ^ 9:=fun c hc=>by rw[←hcs]at hc;obtain⟨_,_,rfl⟩:=List.mem_map.mp hc;exact⟨by decide,by decide⟩
 refine Ha (js:=js) (ds:=ds) (cs:=LL) (.inr ⟨p,rfl,aa⟩) fun a pj pd S1 ha L7 Je g1 X1=>?_
 have RH:Ext S S1:=(Ext.new hp).trans X1
 have D1:=D.ext RH
 simp only[List.set_cons_succ,List.set_cons_zero]
 refine hN _ _ (ax fun N hN=>?_)
 simp only[aI,ae,ar,v3,lk]
 have fr:∀q,(GE S p (.lst (LL.map PV.int))) q=none→q≠d∧q≠l:=fun q h=>(D.new (o:=.lst (LL.map PV.int)) hp).free h
 refine JW (rG lim g1) (om (lim+1) hcl fun c hc=>(hc0 c hc).1) hlim hn hds hvs fun S2 A2 O2=>?_
 have tb:=oo (M:=lim+1) hn hj (by omega) hdl hds hvs (rH hcl hc0)
 generalize cA (lim+1) js ds n vs (w0 LL)=W at A2 tb
 obtain⟨c2,st2,da,_,dd⟩:=A2.dn
 have D2:GF S2 d l:=by
  obtain⟨seed,number,left,Da⟩:=D1
  exact⟨seed,number,left,O2 _ _ Da.d (fr a ha).1.symm (fr pj L7).1.symm (fr pd Je).1.symm,O2 _ _ Da.l (fr a ha).2.symm (fr pj L7).2.symm (fr pd Je).2.symm,Da.s0,Da.s1,Da.nm,Da.lf,Da.ln⟩
 refine hN _ _ (ax fun N hN=>?_)
 simp only[au,b5,aj,v3,lk,c3,ad,cr,da,iZ,sf,qu,ae,ar,ao,b6,dd,List.length_map,fV]
 have M4:W.GH.length≤2001:=by
  have:=tb.l
  unfold Wl.GH
  split
  ·rw[List.length_dropLast];omega
  ·exact this
 refine GD D2 (by split<;>omega) (by split<;>omega) fun r S3 r0 r1 D3 O3=>?_
 have RI:=O3 _ _ dd (fr pd Je).1 (fr pd Je).2
 simp only[aM,qT,RI]
 intro p4 K9
 simp only[List.set_cons_succ,List.set_cons_zero]
 generalize PH:fU (W.GH.map jO) none (some (1+r))=us
 have No:∃qs:List (Int×List Int×Int),us=qs.map jO∧(∀q∈qs,q∈W.GH)∧qs.length≤2001:=by
  refine⟨fU W.GH none (some (1+r)),by rw[←PH,pE],fun q hq=>by unfold fU at hq;exact List.mem_of_mem_drop (List.mem_of_mem_take hq),Nat.le_trans (pF _ _ _) M4⟩
 obtain⟨qs,rfl,RJ,RK⟩:=No
 have D4:GF (GE S3 p4 (.lst (qs.map jO))) d l:=D3.new K9
 have f4:(GE S3 p4 (.lst (qs.map jO))) p4=some (.lst (qs.map jO)):=aa
 generalize GE S3 p4 (.lst (qs.map jO))=S4 at D4 f4
 refine hN _ _ (ax fun N hN=>?_)
 simp only[au,bb,ar]
 intro p5 PJ
 simp only[List.set_cons_succ,List.set_cons_zero]
 have QG:p4≠p5:=fun h=>by rw[h,PJ]at f4;cases f4
 have d5:=D4.free PJ
 have D5:GF (GE S4 p5 (.lst [])) d l:=D4.new PJ
 have f5:(GE S4 p5 (.lst [])) p4=some (.lst (qs.map jO)):=by rw[ai QG];exact f4
 have g5:(GE S4 p5 (.lst [])) p5=some (.lst []):=aa
 generalize GE S4 p5 (.lst [])=S5 at D5 f5 g5
 refine hN _ _ (ax fun N hN=>?_)
 simp only[bM,cM,ao,ar,aj,v3,lk,c3,ad,eN,b6,List.length_map]
 refine⟨by omega,by omega,?_⟩
 rw[Int.toNat_natCast]
 refine bE (fun done σ S'=>∃(cs:List Int) (x7:Option PV),σ=[some (.ref d),some (.tup [.tup (js.map PV.str),.tup (ds.map mM)]),some (.tup vs),some (.int lim),some (.ref a),some (.ref p4),some (.ref p5),x7]∧cs.length=done.length∧done.length≤js.length∧(∀c∈cs,0≤c∧c≤10 ^ 9)∧S' p5=some (.lst (cs.map PV.int))∧S' p4=some (.lst (qs.map jO))∧GF S' d l) ⟨[],_,rfl,rfl,Nat.zero_le _,by simp,g5,f5,D5⟩ (fun _ _ _ _=>trivial) ?_ ?_
 ·rintro done y rest σ S6 K e ⟨cs,x7,rfl,M7,RL,hc6,g6,f6,D6⟩ hK
  obtain⟨rfl,hi⟩:=gR e
  simp only[Tg.put,List.set_cons_succ,List.set_cons_zero]
  simp only[aI,hG,um,g6,ar,aj,v3,lk,c3,iL,dQ,ao,bb,bh,bg,true_and]
  refine⟨⟨by decide,by decide,by decide⟩,⟨by decide,by decide,by decide⟩,?_⟩
  rw[show((10:Int) ^ Int.toNat 9)=1000000000 from rfl]
  intro p7 PK
  have NX:p4≠p7:=fun h=>by rw[h,PK]at f6;cases f6
  have PL:p5≠p7:=fun h=>by rw[h,PK]at g6;cases g6
  simp only[fE,ai NX,f6]
  have dj:∀q∈qs,q.2.1.length=js.length∧∀c∈q.2.1,0≤c:=fun q hq=>tb.d q (RJ q hq)
  refine bV jO (fun q=>PV.int (q.2.1.getD done.length 0)) (by show(GE S6 p7 _) p4=_;rw[ai NX];exact f6) qs [] (fun q hq=>⟨_,rfl,fun Q q'=>?_⟩) (by rw[List.length_nil,Nat.zero_add];exact Nat.le_trans RK (by decide)) fun p8 hp8=>?_
  ·simp only[ko,List.replicate_succ,List.replicate_zero,List.map_cons,List.map_nil,List.cons_append,List.nil_append,lk,jO,Tg.put,Tg.HM,List.set_cons_zero,List.set_cons_succ,aj,v3,ad]
   rw[lI (by rw[(dj q hq).1];exact hi)]
   exact q'
  ·rw[List.nil_append]
   have RM:p7≠p8:=fun h=>by rw[←h,aa]at hp8;cases hp8
   simp only[aM,ai RM,aa]
   refine⟨by rw[List.length_map];exact Nat.le_trans (show _≤2002 by simp;omega) (by decide),fun p9 hp9=>?_⟩
   simp only[su,aa]
   rw[show([PV.int 1000000000]++qs.map fun q=>PV.int (q.2.1.getD done.length 0))=((1000000000:Int)::qs.map fun q=>q.2.1.getD done.length 0).map PV.int by rw[List.map_cons,List.map_map];rfl,pe]
   refine⟨by simp,fun m hm1 hm2=>?_⟩
   have m1:m≤1000000000:=hm2 _ (by simp)
   have m0:0≤m:=by
    rcases List.mem_cons.mp hm1 with rfl|hm1
    ·decide
    ·obtain⟨q,hq,rfl⟩:=List.mem_map.mp hm1
     exact(dj q hq).2 _ (getD_mem (by rw[(dj q hq).1];exact hi))
   have Ou:(GE S6 p7 (.lst [.int 1000000000])) p8=none:=hp8
   have QH:p5≠p8:=fun h=>by rw[←h,ai PL,g6]at Ou;cases Ou
   have QI:p4≠p8:=fun h=>by rw[←h,ai NX,f6]at Ou;cases Ou
   have RN:p5≠p9:=fun h=>by rw[←h,ai QH,ai PL,g6]at hp9;cases hp9
   have RO:p4≠p9:=fun h=>by rw[←h,ai QI,ai NX,f6]at hp9;cases hp9
   simp only[ba,bS,aV,ai RN,ai QH,ai PL,g6,List.length_map]
   refine⟨Nat.lt_of_le_of_lt (show cs.length≤1000 by omega) (by decide),hK _ _ ⟨cs++[1000000000 - m],_,rfl,by simp[M7],by rw[List.length_append];exact hi,fun c hc=>?_,by rw[aa];simp,?_,?_⟩⟩
   ·rcases List.mem_append.mp hc with hc|hc
    ·exact hc6 c hc
    ·rw[List.mem_singleton.mp hc];omega
   ·rw[ai QG,ai RO,ai QI,ai NX];exact f6
   ·exact(((D6.new PK).new hp8).new hp9).upd d5.1 d5.2
 ·rintro σ S6 ⟨cs,x7,rfl,M7,RL,hc6,g6,f6,D6⟩
  refine hN _ _ ?_
  simp only[aG,ao,ar,v3,lk,aU,kn,g6]
  exact k cs S6 (by rw[M7,bQ]) hc6 D6
end C
namespace G23
open PySem L2 L3
noncomputable def bA(i:Nat):Stmt:=PySem.Challenge.pw_dueworth_k23_stories_told.main.body.getD i (.Pass ⟨0,0,0,0⟩)
noncomputable def mt(i j:Nat):Stmt:=(zf (bA i)).getD j (.Pass ⟨0,0,0,0⟩)
noncomputable abbrev ND:List (Str×Str):=[("TooLong","most"),("Stuck","row")]
noncomputable abbrev IZ:List (Str×Str×Bool):=[("TooLong","BadText",false),("TooLong","NoHouse",false),("TooLong","Stuck",false),("TooLong","TooLong",true),("TooLong","NoStory",false),("TooLong","TooMany",false),("TooLong","NoRow",false),("Stuck","BadText",false),("Stuck","NoHouse",false),("Stuck","Stuck",true),("Stuck","TooLong",false),("Stuck","NoStory",false),("Stuck","TooMany",false),("Stuck","NoRow",false)]
structure Txt (P:Program) (w:World) (K:PySem.W.Frag) (mg:Str→Option Value):Prop where
 o_common:bd K mg "common" (bA 10) ["one","other"]
 o_fraction:bd K mg "fraction" (bA 11) ["top","bottom"]
 o_plus:bd K mg "plus" (bA 12) ["one","other"]
 o_times:bd K mg "times" (bA 13) ["one","other"]
 o_chosen:bd K mg "chosen" (bA 15) ["body","trace"]
 o_things_of:bd K mg "things_of" (bA 17) ["jars","name","things"]
 o_added:bd K mg "added" (bA 18) ["one","other"]
 o_multiplied:bd K mg "multiplied" (bA 19) ["one","many"]
 o_no_tally:bd K mg "no_tally" (bA 20) ["jars"]
 o_behind:bd K mg "behind" (bA 21) ["one","other"]
 o_again:bd K mg "again" (bA 22) ["one","many"]
 o_tally_of_often:bd K mg "tally_of_often" (bA 23) ["jars","body","goings"]
 o_tally_of_take:bd K mg "tally_of_take" (bA 24) ["jars","body"]
 o_tally_of:bd K mg "tally_of" (bA 25) ["jars","body","trace"]
 o_tally:bd K mg "tally" (bA 26) ["house","d","trace"]
 o_Telling___init__:wf K "Telling" "__init__" "Telling.__init__" (mt 28 0) ["self","jars","most"]
 o_Telling_do:wf K "Telling" "do" "Telling.do" (mt 28 1) ["self","d","found"]
 o_with_tallies:bd K mg "with_tallies" (bA 29) ["house","story"]
 o_tell:bd K mg "tell" (bA 30) ["telling","story"]
 o_told:bd K mg "told" (bA 31) ["house","jars","story","most"]
 o__law_deal:bd K mg "_law_deal" (bA 33) ["_law_script","_law_base"]
 o__law_draw:bd K mg "_law_draw" (bA 34) ["_law_deal_here","_law_many"]
 o__law_words:bd K mg "_law_words" (bA 35) ["_law_deal_here","_law_many"]
 o__law_low:bd K mg "_law_low" (bA 36) ["_law_top","_law_bottom"]
 o__law_plus:bd K mg "_law_plus" (bA 37) ["_law_one","_law_other"]
 o__law_cost:bd K mg "_law_cost" (bA 38) ["_law_deal_here"]
 o__law_leaf:bd K mg "_law_leaf" (bA 39) ["_law_deal_here","_law_jars"]
 o__law_body:bd K mg "_law_body" (bA 40) ["_law_deal_here","_law_jars","_law_left","_law_down"]
 o__law_pass_count:bd K mg "_law_pass_count" (bA 41) ["_law_body_here"]
 o__law_round_count:bd K mg "_law_round_count" (bA 42) ["_law_body_here"]
 o__law_deed_body:bd K mg "_law_deed_body" (bA 43) ["_law_deal_here","_law_jars","_law_room","_law_most"]
 o__law_house:bd K mg "_law_house" (bA 44) ["_law_deal_here","_law_most_jars","_law_most_deeds","_law_room"]
 o__law_any_house:bd K mg "_law_any_house" (bA 45) ["_law_deal_here"]
 o__law_trace_to:bd K mg "_law_trace_to" (bA 46) ["_law_deal_here","_law_body_here","_law_left","_law_wide"]
 o__law_gone:bd K mg "_law_gone" (bA 47) ["_law_body_here","_law_trace","_law_world"]
 o__law_tale:bd K mg "_law_tale" (bA 48) ["_law_deal_here","_law_house_here","_law_left","_law_down","_law_wide"]
 o__law_all:bd K mg "_law_all" (bA 49) ["_law_house_here","_law_story","_law_world","_law_limit"]
 o__law_begun:bd K mg "_law_begun" (bA 50) ["_law_house_here","_law_jars"]
 o__law_just_for:bd K mg "_law_just_for" (bA 51) ["_law_deal_here","_law_house_here","_law_story","_law_limit"]
 o__law_due:bd K mg "_law_due" (bA 52) ["_law_world","_law_most"]
 o__law_told:bd K mg "_law_told" (bA 53) ["_law_house_here","_law_jars","_law_story","_law_most"]
 o__law_at_bound:bd K mg "_law_at_bound" (bA 54) ["_law_deal_here"]
 GG:Cw K mg "Telling" ["jars","most","cost","doings"]
 Kp:mg "ValueError" = none
 NY:mg "abs" = none
 NZ:mg "any" = none
 K_:mg "int" = none
 GY:mg "isinstance" = none
 HK:mg "len" = none
 KQ:mg "list" = none
 Ky:mg "max" = none
 N0:mg "min" = none
 Hb:mg "range" = none
 Kq:mg "repr" = none
 KR:mg "reversed" = none
 GT:mg "tuple" = none
 La:mg "zip" = none
 M8:xJ K mg "DueError"
 Lh:xJ K mg "BadText"
 Li:xJ K mg "NoHouse"
 Lb:xJ K mg "Stuck"
 J8:xJ K mg "TooLong"
 Lj:xJ K mg "NoStory"
 Lk:xJ K mg "TooMany"
 Mo:xJ K mg "NoRow"
 Ll:EA K mg "TooLong" "TooLong.__init__" (mt 5 0) ["self","most"] ["most"]
 Mp:EA K mg "Stuck" "Stuck.__init__" (mt 4 0) ["self","row"] ["row"]
 KS:Ft K mg "DueError" ["TooLong","Stuck"]
 x_at:JP K ND
 J9:XTab K IZ
section
variable {P:Program} {w:World} {K:PySem.W.Frag} {mg:Str→Option Value} {base:Heap}
theorem FA:(["jar","name","things"]:List Str).Nodup:=by decide +kernel
theorem D_:(["left","right"]:List Str).Nodup:=by decide +kernel
theorem FB:(["number","many"]:List Str).Nodup:=by decide +kernel
theorem Ch:(["effect","first","second"]:List Str).Nodup:=by decide +kernel
theorem Ea:(["effect","asked","many"]:List Str).Nodup:=by decide +kernel
theorem Eb:(["count","asked"]:List Str).Nodup:=by decide +kernel
theorem Ec:(["_law_one"]:List Str).Nodup:=by decide +kernel
theorem FC:(["_law_k","_law_deal_here","_law_letters"]:List Str).Nodup:=by decide +kernel
theorem FD:(["_law_j","_law_deal_here","_law_letters"]:List Str).Nodup:=by decide +kernel
theorem FE:(["_law_k","_law_deal_here","_law_first","_law_jars","_law_many","_law_room","_law_words_here"]:List Str).Nodup:=by decide +kernel
theorem Ed:(["_law_k","_law_deal_here","_law_jars","_law_words_here"]:List Str).Nodup:=by decide +kernel
theorem Ee:(["_law_name"]:List Str).Nodup:=by decide +kernel
theorem wZ:(["_law_d","_law_jars","_law_cost_here","_law_k"]:List Str).Nodup:=by decide +kernel
theorem Ef:(["_law_name","_law_deal_here"]:List Str).Nodup:=by decide +kernel
theorem rJ(T:Txt P w K mg):Ez P w K mg base "TooLong" ["most"]:=FQ ["self","most"] T.Ll rfl fun _ _ _ _ _ _ _=>mV (vA (pv 0) (pv 1) rfl)
theorem w4(T:Txt P w K mg):Ez P w K mg base "Stuck" ["row"]:=FQ ["self","row"] T.Mp rfl fun _ _ _ _ _ _ _=>mV (vA (pv 0) (pv 1) rfl)
def pU:aF:=bi 3 C.k9
theorem ug(T:Txt P w K mg):Hq P w K mg base 1 "common" 2 pU:=fG ["one","other","left"] T.o_common (fun _ _ _ _ _ _ _ hr nd=>(ah (iK PassesOwn.never (Fs hr (af 1) ac) (ah (s4 2 nd (aA fF (af 0) (af 1)))
  (ah (s4 0 nd (af 1))
  (am (s4 1 nd (af 2))))))
  (am (aD (cB Dz T.NY (l1 (af 0))))))) rfl
def iy:aF:=bi 3 (C.io pU)
theorem ke(T:Txt P w K mg):Hq P w K mg base 2 "fraction" 2 iy:=fG ["top","bottom","part"] T.o_fraction (fun _ _ _ _ _ _ _ hr nd=>(ah (s4 2 nd (c4 (ug T) hr (lc (af 0) (l1 (af 1)))))
  (ah (aY (bw lS (af 1) ac (aQ _)) (am (s4 2 nd (oZ fR (af 2)))) aK)
  (am (aD (aC (lc (aA jD (af 0) (af 2)) (l1 (aA jD (af 1) (af 2)))))))))) rfl
def oq:aF:=bi 2 (C.qX iy)
theorem sH(T:Txt P w K mg):Hq P w K mg base 3 "plus" 2 oq:=fG ["one","other"] T.o_plus (fun _ _ _ _ _ _ _ hr nd=>(am (aD (c4 (ke T) hr (lc (aA aH (aA bD (aP hr (af 0)) (aP hr (af 1))) (aA bD (aP hr (af 1)) (aP hr (af 0)))) (l1 (aA bD (aP hr (af 0)) (aP hr (af 1))))))))) rfl
def ot:aF:=bi 2 (C.nC iy)
theorem w5(T:Txt P w K mg):Hq P w K mg base 3 "times" 2 ot:=fG ["one","other"] T.o_times (fun _ _ _ _ _ _ _ hr nd=>(am (aD (c4 (ke T) hr (lc (aA bD (aP hr (af 0)) (aP hr (af 1))) (l1 (aA bD (aP hr (af 0)) (aP hr (af 1))))))))) rfl
def lN:aF:=bi 2 C.k_
theorem uh(T:Txt P w K mg):Hq P w K mg base 1 "chosen" 2 lN:=fG ["body","trace"] T.o_chosen (fun _ _ _ _ _ _ _ hr nd=>(am (aD (bY hr (af 0) (aA aH (oZ fR ac) (aP hr (af 1))))))) rfl
def dZ:aF:=bi 3 C.gi
theorem ft(T:Txt P w K mg):Hq P w K mg base 1 "things_of" 3 dZ:=fG ["jars","name","things"] T.o_things_of (fun _ _ _ _ _ _ _ hr nd=>(am (aD (cT bJ T.GT (l1 (wm ["things","name"] 1 [1,2] ["jar","name","things"] (dk (af 0)) (fun _=>(gn 0 FA)) (fun _=>dW) (fun _=>(Dp (fK hr (af 0) (af 1)) (af 2) ac)))))))) rfl
def ou:aF:=bi 2 C.nE
theorem pV(T:Txt P w K mg):Hq P w K mg base 1 "added" 2 ou:=fG ["one","other"] T.o_added (fun _ _ _ _ _ _ _ hr nd=>(am (aD (cT bJ T.GT (l1 (wm [] 2 [] ["left","right"] (vZ rfl rfl rfl T.La (by decide +kernel) (lc (af 0) (l1 (af 1)))) (fun _=>(Cu rfl (cw (gn 0 D_) (cw (gn 1 D_) mz)))) (fun _=>dW) (fun _=>(aA aH (af 0) (af 1))))))))) rfl
def i_:aF:=bi 2 C.eX
theorem lW(T:Txt P w K mg):Hq P w K mg base 1 "multiplied" 2 i_:=fG ["one","many"] T.o_multiplied (fun _ _ _ _ _ _ _ hr nd=>(am (aD (cT bJ T.GT (l1 (wm ["many"] 1 [1] ["number","many"] (dk (af 0)) (fun _=>(gn 0 FB)) (fun _=>dW) (fun _=>(aA bD (af 0) (af 1))))))))) rfl
def dD:aF:=bi 1 C.ip
theorem kf(T:Txt P w K mg):Hq P w K mg base 1 "no_tally" 1 dD:=fG ["jars"] T.o_no_tally (fun _ _ _ _ _ _ _ hr nd=>(am (aD (aC (lc (aC (lc ac (l1 ac))) (lc (aA sr (aC (l1 ac)) (cB dS T.HK (l1 (af 0)))) (l1 (aA sr (aC (l1 ac)) (cB dS T.HK (l1 (af 0))))))))))) rfl
def eM:aF:=bi 3 (C.lh ou oq)
theorem jS(T:Txt P w K mg):Hq P w K mg base 4 "behind" 2 eM:=fG ["one","other","demand"] T.o_behind (fun _ _ _ _ _ _ _ hr nd=>(ah (Ey [] 3 [] ["effect","first","second"] 2 nd (BI rfl rfl rfl T.La (by decide +kernel) (lc (aP hr (af 0)) (lc (aP hr (af 0)) (l1 (aP hr (af 1)))))) (fun _=>(Cu rfl (cw (gn 0 Ch) (cw (gn 1 Ch) (cw (gn 2 Ch) mz))))) (fun _=>dW) (fun _=>(cB (kU rfl) T.Ky (lc (af 1) (l1 (aA cx (af 2) (af 0)))))))
  (am (aD (aC (lc (c4 (sH T) hr (lc (aP hr (af 0)) (l1 (aP hr (af 1))))) (lc (c4 (pV T) hr (lc (aP hr (af 0)) (l1 (aP hr (af 1))))) (l1 (cT bJ T.GT (l1 (af 2))))))))))) rfl
def kF:aF:=bi 3 (C.nF i_ ot)
theorem w9(T:Txt P w K mg):Hq P w K mg base 4 "again" 2 kF:=fG ["one","many","demand"] T.o_again (fun _ _ _ _ _ _ _ hr nd=>(ah (Ey ["many"] 2 [1] ["effect","asked","many"] 2 nd (vZ rfl rfl rfl T.La (by decide +kernel) (lc (aP hr (af 0)) (l1 (aP hr (af 0))))) (fun _=>(Cu rfl (cw (gn 0 Ea) (cw (gn 1 Ea) mz)))) (fun _=>dW) (fun _=>(aA aH (af 1) (cB (kU rfl) T.Ky (lc ac (l1 (aA bD (oZ fR (af 0)) (aA cx (af 2) ac))))))))
  (am (aD (aC (lc (c4 (w5 T) hr (lc (aP hr (af 0)) (l1 (aC (lc (af 1) (l1 ac)))))) (lc (c4 (lW T) hr (lc (aP hr (af 0)) (l1 (af 1)))) (l1 (cT bJ T.GT (l1 (af 2))))))))))) rfl
def bZ:aF:=bi 2 (C.cP dZ)
theorem jT(T:Txt P w K mg):Hq P w K mg base 2 "tally_of_take" 2 bZ:=fG ["jars","body"] T.o_tally_of_take (fun _ _ _ _ _ _ _ hr nd=>(am (aD (aC (lc (aC (lc ac (l1 ac))) (lc (c4 (ft T) hr (lc (af 0) (lc (aP hr (af 1)) (l1 (oZ fR (aP hr (af 1))))))) (l1 (c4 (ft T) hr (lc (af 0) (lc (aP hr (af 1)) (l1 (aP hr (af 1))))))))))))) rfl
noncomputable def aZ:Nat→aF×aF
 |0=>(qY,qY)
 |n+1=>(bi 5 (C.bT dD eM kF (aZ n).1 (aZ n).2),bi 6 (C.eZ dD dZ eM lN bZ (aZ n).1 (aZ n).2))
def cI(n:Nat):aF:=(aZ n).1
def iz(n:Nat):aF:=(aZ n).2
theorem jc(T:Txt P w K mg)(n:Nat){s0 s1:aF}(R0:Hq P w K mg base (4+n) "tally_of_often" 3 s0)(R1:Hq P w K mg base (4+n) "tally_of" 3 s1):Hq P w K mg base (4+n+1) "tally_of_often" 3 (bi 5 (C.bT dD eM kF s0 s1)):=fG ["jars","body","goings","found","going"] T.o_tally_of_often (fun _ _ _ _ _ _ _ hr nd=>(ah (s4 3 nd (c4 (kf T) hr (l1 (af 0))))
  (ah (dt PassesOwn.never rfl (dk (af 2)) (gn 4 nd) (am (s4 3 nd (c4 (jS T) hr (lc (af 3) (l1 (c4 (w9 T) hr (lc (c4 R1 hr (lc (af 0) (lc (aP hr (af 1)) (l1 (aP hr (af 4)))))) (l1 (aP hr (af 4)))))))))))
  (am (aD (af 3)))))) rfl
theorem pW(T:Txt P w K mg)(n:Nat){s0 s1:aF}(R0:Hq P w K mg base (4+n) "tally_of_often" 3 s0)(R1:Hq P w K mg base (4+n) "tally_of" 3 s1):Hq P w K mg base (4+n+1) "tally_of" 3 (bi 6 (C.eZ dD dZ eM lN bZ s0 s1)):=fG ["jars","body","trace","head","nothing","side"] T.o_tally_of (fun _ _ _ _ _ _ _ hr nd=>(ah (s4 3 nd (aP hr (af 1)))
  (ah (s4 4 nd (c4 (kf T) hr (l1 (af 0))))
  (ah (aY (fK hr (af 3) ap) (am (aD (aC (lc (aP hr (af 1)) (lc (aP hr (af 4)) (l1 (aP hr (af 4)))))))) aK)
  (ah (aY (fK hr (af 3) ap) (am (aD (aC (lc (aP hr (af 4)) (lc (c4 (ft T) hr (lc (af 0) (lc (aP hr (af 1)) (l1 (aP hr (af 1)))))) (l1 (aP hr (af 4)))))))) aK)
  (ah (aY (fK hr (af 3) ap) (am (aD (c4 (jS T) hr (lc (c4 R1 hr (lc (af 0) (lc (aP hr (af 1)) (l1 (aP hr (af 2)))))) (l1 (c4 R1 hr (lc (af 0) (lc (aP hr (af 1)) (l1 (aP hr (af 2))))))))))) aK)
  (ah (aY (fK hr (af 3) ap) (am (aD (c4 R0 hr (lc (af 0) (lc (af 1) (l1 (af 2))))))) aK)
  (ah (aY (bw (vM (sj hr)) (af 3) (aC (lc ap (l1 ap))) rfl) (am (aD (af 4))) aK)
  (ah (s4 5 nd (c4 R1 hr (lc (af 0) (lc (c4 (uh T) hr (lc (af 1) (l1 (af 2)))) (l1 (aP hr (af 2)))))))
  (ah (aY (qq (fQ (fK hr (af 3) ap) (fP (fK hr (aP hr (af 2)) ac)))) (am (aD (c4 (jS T) hr (lc (c4 (jT T) hr (lc (af 0) (l1 (af 1)))) (l1 (af 5)))))) aK)
  (am (aD (af 5))))))))))))) rfl
theorem dE(T:Txt P w K mg):∀n:Nat,Hq P w K mg base (4+n) "tally_of_often" 3 (cI n)∧Hq P w K mg base (4+n) "tally_of" 3 (iz n)
 |0=>⟨.zero T.o_tally_of_often,.zero T.o_tally_of⟩
 |n+1=>let ⟨h0,h1⟩:=dE T n;⟨jc T n h0 h1,pW T n h0 h1⟩
def lO:aF:=iz 12
theorem pX(T:Txt P w K mg):Hq P w K mg base 16 "tally_of" 3 lO:=(dE T 12).2
def ow:aF:=bi 3 (C.nI lO)
theorem w_(T:Txt P w K mg):Hq P w K mg base 17 "tally" 3 ow:=fG ["house","d","trace"] T.o_tally (fun _ _ _ _ _ _ _ hr nd=>(am (aD (c4 (pX T) hr (lc (aP hr (af 0)) (lc (aP hr (bY hr (aP hr (af 0)) (af 1))) (l1 (af 2)))))))) rfl
def dG:aF:=bi 3 CY.b8
theorem gY(T:Txt P w K mg):Fq P w K mg base 1 "Telling" "__init__" 3 dG:=Gc ["self","jars","most"] T.o_Telling___init__ (fun _ _ _ _ _ _ _ hr nd=>(ah (Cy T.GG (af 1) (af 0))
  (ah (Cy T.GG (af 2) (af 0))
  (ah (Cy T.GG (aC (lc ac (l1 ac))) (af 0))
  (am (Cy T.GG (bI dh) (af 0))))))) rfl
def fv:aF:=lU 3 (CY.fe ou oq)
theorem lX(T:Txt P w K mg):BN P w K mg base 4 "Telling" "do" 3 fv:=Fr ["self","d","found"] T.o_Telling_do (fun _ _ _ _ _ _ _ hr nd=>(ah (aY (bw BF (cB dS T.HK (l1 (wo T.GG (af 0)))) (wo T.GG (af 0)) (aQ _)) (am (FR (rJ T) hr (l1 (wo T.GG (af 0))))) aK)
  (ah (aY (dP (cB (DA rfl) T.NZ (l1 (wm [] 2 [] ["count","asked"] (vZ rfl rfl rfl T.La (by decide +kernel) (lc (wo T.GG (af 0)) (l1 (aP hr (af 2))))) (fun _=>(Cu rfl (cw (gn 0 Eb) (cw (gn 1 Eb) mz)))) (fun _=>dW) (fun _=>(kT lS (af 0) (af 1) (aQ _))))))) (am (FR (w4 T) hr (l1 (cB dS T.HK (l1 (wo T.GG (af 0))))))) aK)
  (ah (Cy T.GG (c4 (pV T) hr (lc (wo T.GG (af 0)) (l1 (aP hr (af 2))))) (af 0))
  (ah (Cy T.GG (c4 (sH T) hr (lc (wo T.GG (af 0)) (l1 (aP hr (af 2))))) (af 0))
  (am (bc (uq bU cu (wo T.GG (af 0)) (l1 (aC (lc (af 1) (lc (wo T.GG (af 0)) (l1 (wo T.GG (af 0))))))))))))))) rfl
noncomputable def cz:Nat→aF
 |0=>qY
 |n+1=>bi 4 (CY.dy ow (cz n))
def gB:aF:=cz 12
theorem kr(T:Txt P w K mg):Hq P w K mg base 29 "with_tallies" 2 gB:=nJ (b:=17) (r:=cz) T.o_with_tallies (fun n R0=>fG ["house","story","found","part"] T.o_with_tallies (fun _ _ _ _ _ _ _ hr nd=>(ah (s4 2 nd (bI dh))
  (ah (dt PassesOwn.never rfl (dk (af 1)) (gn 3 nd) (am (aY (fK hr (aP hr (af 3)) ap) (am (bc (uq bU cu (af 2) (l1 (aC (lc ap (lc (aP hr (af 3)) (l1 (c4 (w_ T) hr (lc (af 0) (lc (aP hr (af 3)) (l1 (aP hr (af 3)))))))))))))) (am (bc (uq bU cu (af 2) (l1 (aC (lc ap (lc (aP hr (af 3)) (l1 (c4 R0 hr (lc (af 0) (l1 (aP hr (af 3))))))))))))))))
  (am (aD (af 2)))))) rfl) rfl rfl 12
noncomputable def oy:Nat→aF
 |0=>qY
 |n+1=>lU 4 (CY.qZ fv (oy n))
def xj:aF:=oy 12
theorem zy(T:Txt P w K mg):Mh P w K mg base 16 "tell" 2 xj:=DQ (b:=4) (r:=oy) T.o_tell (fun n R0=>FP ["telling","story","part","number"] T.o_tell (fun _ _ _ _ _ _ _ hr nd=>(am (dt FO rfl (dk (af 1)) (gn 2 nd) (am (aY (fK hr (aP hr (af 2)) ap) (am (bc (Ge (lX T) hr (af 0) (lc (aP hr (af 2)) (l1 (aP hr (af 2))))))) (am (dt FO rfl (bP rfl rfl T.Hb (l1 (aP hr (af 2)))) (gn 3 nd) (am (bc (cX R0 hr (lc (af 0) (l1 (aP hr (af 2)))))))))))))) rfl) rfl rfl 12
def rK:aF:=lU 5 (CY.q_ dG xj gB)
theorem zz(T:Txt P w K mg):Mh P w K mg base 30 "told" 4 rK:=FP ["house","jars","story","most","telling"] T.o_told (fun _ _ _ _ _ _ _ hr nd=>(ah (s4 4 nd (Gf T.GG (gY T) hr (lc (af 1) (l1 (af 3)))))
  (ah (bc (cX (zy T) hr (lc (af 4) (l1 (c4 (kr T) hr (lc (af 0) (l1 (af 2))))))))
  (am (aD (wo T.GG (af 4))))))) rfl
def kg:aF:=bi 5 C.fX
theorem oz(T:Txt P w K mg):Hq P w K mg base 1 "_law_deal" 2 kg:=fG ["_law_script","_law_base","_law_one","_law_some","_law_number"] T.o__law_deal (fun _ _ _ _ _ _ _ hr nd=>(ah (Ey [] 1 [] ["_law_one"] 3 nd (dk (eU (af 0) (fS (af 1)) (fS ac))) (fun _=>(gn 0 Ec)) (fun _=>dW) (fun _=>(cB (kU rfl) T.Ky (lc (af 0) (l1 (aA cx ac (af 0)))))))
  (ah (s4 4 nd (aA aH ac (af 1)))
  (ah (dt PassesOwn.never rfl (dk (af 3)) (gn 2 nd) (am (s4 4 nd (aA fF (aA aH (aA bD (af 4) ac) (aA fF (af 2) ac)) ac))))
  (am (aD (v5 (cW ap (af 4) (cW ap ac (cW ap (BD tD rfl (wm [] 1 [] ["_law_one"] (dk (af 3)) (fun _=>(gn 0 Ec)) (fun _=>(DE (bw BF (af 0) (aA mF ac ac) (aQ _)))) (fun _=>(af 0))) rfl T.KQ rfl T.KR) v0)))))))))) rfl
def w__law_draw:aF:=bi 5 C.fY
theorem al(T:Txt P w K mg):Hq P w K mg base 1 "_law_draw" 2 w__law_draw:=fG ["_law_deal_here","_law_many","_law_number","_law_one","_law_other"] T.o__law_draw (fun _ _ _ _ _ _ _ hr nd=>(ah (iK PassesOwn.never (qq (fQ (fK hr (bY hr (af 0) ap) ac) (fP (bw lT (cB dS T.HK (l1 (bY hr (af 0) ap))) ac (aQ _))))) (am (fD (si hr) (DR BQ DC (bY hr (af 0) ap)) (af 0) ap)))
  (ah (s4 2 nd (bY hr (af 0) ap))
  (ah (aY (bw lT (af 2) ac (aQ _)) (ah (fD (si hr) (aA jD (af 2) (af 1)) (af 0) ap)
  (am (aD (aA fF (af 2) (af 1))))) aK)
  (ah (s4 3 nd (aA fF (aA aH (aA bD (bY hr (af 0) ap) ac) ac) ac))
  (ah (fD (si hr) (aA fF (aA aH (aA bD (af 3) ac) ac) ac) (af 0) ap)
  (ah (s4 4 nd (aA fF (aA bD (bY hr (af 0) ap) (bY hr (af 0) ap)) ac))
  (am (aD (aA fF (aA aH (aA bD (aA fF (aA bD (af 3) (af 3)) ac) ac) (af 4)) (af 1))))))))))) rfl
def cZ:aF:=bi 11 (C.eV w__law_draw)
theorem hZ(T:Txt P w K mg):Hq P w K mg base 2 "_law_words" 2 cZ:=fG ["_law_deal_here","_law_many","_law_letters","_law_taken","_law_k","_law_core","_law_at","_law_turn","_law_near","_law_found","_law_name"] T.o__law_words (fun _ _ _ _ _ _ _ hr nd=>(ah (s4 2 nd ap)
  (ah (s4 3 nd (bI (lc ap (lc ap (lc ap (lc ap (lc ap (lc ap (lc ap (lc ap (lc ap (l1 ap))))))))))))
  (ah (s4 5 nd (uq ss vU ap (l1 (wm ["_law_letters","_law_deal_here"] 1 [0,2] ["_law_k","_law_deal_here","_law_letters"] (bP rfl rfl T.Hb (l1 (c4 (al T) hr (lc (af 0) (l1 ac))))) (fun _=>(gn 0 FC)) (fun _=>dW) (fun _=>(bY hr (af 2) (c4 (al T) hr (lc (af 1) (l1 ac)))))))))
  (ah (yO (i:=6) (j:=7) (k:=8) rfl nd rfl rfl rfl rfl rfl rfl (aC (lc (c4 (al T) hr (lc (af 0) (l1 (aA aH (cB dS T.HK (l1 (af 5))) ac)))) (lc (c4 (al T) hr (lc (af 0) (l1 ac))) (l1 (kT (o0 (hU hr)) (c4 (al T) hr (lc (af 0) (l1 ac))) ac (aQ _)))))))
  (ah (s4 9 nd (bI dh))
  (ah (dt PassesOwn.never rfl (bP rfl rfl T.Hb (l1 (af 1))) (gn 4 nd) (ah (s4 10 nd (aA aH (aA aH (eU (af 5) jA (fS (af 6))) (bY hr (af 2) (aA fF (aA aH (af 7) (af 4)) ac))) (eU (af 5) (fS (af 6)) jA)))
  (ah (aY (j7 (dP (af 8))) (am (s4 10 nd (uq ss vU ap (l1 (wm ["_law_letters","_law_deal_here"] 1 [0,2] ["_law_j","_law_deal_here","_law_letters"] (bP rfl rfl T.Hb (l1 (aA aH ac (c4 (al T) hr (lc (af 0) (l1 ac)))))) (fun _=>(gn 0 FD)) (fun _=>dW) (fun _=>(bY hr (af 2) (c4 (al T) hr (lc (af 1) (l1 ac)))))))))) aK)
  (ah (iK PassesOwn.never (qq (nj (bw (vL (sj hr)) (af 10) (af 3) rfl) (j6 (bw (vL (sj hr)) (af 10) (af 9) rfl)))) (am (s4 10 nd (aA aH (bY hr (af 2) (aA fF (aA aH (uq wk yN (af 2) (l1 (aP hr (af 10)))) ac) ac)) (eU (af 10) (fS ac) jA)))))
  (am (bc (uq bU cu (af 9) (l1 (af 10)))))))))
  (am (aD (af 9)))))))))) rfl
def fw:aF:=bi 4 C.im
theorem kh(T:Txt P w K mg):Hq P w K mg base 1 "_law_low" 2 fw:=fG ["_law_top","_law_bottom","_law_one","_law_other"] T.o__law_low (fun _ _ _ _ _ _ _ hr nd=>(ah (zU (i:=2) (j:=3) rfl nd rfl rfl (by decide) rfl rfl (lc (cB (kU rfl) T.Ky (lc (af 0) (l1 (aA cx ac (af 0))))) (l1 (af 1))))
  (ah (iK PassesOwn.never (bw lT (af 3) ac (aQ _)) (am (zU (i:=2) (j:=3) rfl nd rfl rfl (by decide) rfl rfl (lc (af 3) (l1 (aA fF (af 2) (af 3)))))))
  (am (aD (aC (lc (aA jD (af 0) (af 2)) (l1 (aA jD (af 1) (af 2)))))))))) rfl
def gC:aF:=bi 2 (C.gj fw)
theorem oA(T:Txt P w K mg):Hq P w K mg base 2 "_law_plus" 2 gC:=fG ["_law_one","_law_other"] T.o__law_plus (fun _ _ _ _ _ _ _ hr nd=>(am (aD (c4 (kh T) hr (lc (aA aH (aA bD (aP hr (af 0)) (aP hr (af 1))) (aA bD (aP hr (af 1)) (aP hr (af 0)))) (l1 (aA bD (aP hr (af 0)) (aP hr (af 1))))))))) rfl
def d4:aF:=bi 2 (C.fZ w__law_draw fw)
theorem jd(T:Txt P w K mg):Hq P w K mg base 2 "_law_cost" 1 d4:=fG ["_law_deal_here","_law_form"] T.o__law_cost (fun _ _ _ _ _ _ _ hr nd=>(ah (s4 1 nd (c4 (al T) hr (lc (af 0) (l1 ac))))
  (ah (aY (fK hr (af 1) ac) (am (aD (aC (lc ac (l1 ac))))) aK)
  (ah (aY (bw lS (af 1) ac (aQ _)) (am (aD (aC (lc (aA aH ac (c4 (al T) hr (lc (af 0) (l1 ac)))) (l1 ac))))) aK)
  (am (aD (c4 (kh T) hr (lc (c4 (al T) hr (lc (af 0) (l1 ac))) (l1 (aA aH ac (c4 (al T) hr (lc (af 0) (l1 ac))))))))))))) rfl
def d6:aF:=bi 4 (C.f_ w__law_draw d4)
theorem fx(T:Txt P w K mg):Hq P w K mg base 3 "_law_leaf" 2 d6:=fG ["_law_deal_here","_law_jars","_law_form","_law_many"] T.o__law_leaf (fun _ _ _ _ _ _ _ hr nd=>(ah (s4 2 nd (c4 (al T) hr (lc (af 0) (l1 ac))))
  (ah (aY (fK hr (af 2) ac) (am (aD (aC (l1 ap)))) aK)
  (ah (aY (qq (nj (bw lS (af 2) ac (aQ _)) (j6 (fK hr (cB dS T.HK (l1 (af 1))) ac)))) (am (aD (aC (lc ap (l1 (c4 (jd T) hr (l1 (af 0)))))))) aK)
  (ah (s4 3 nd (bY hr (bI (lc ac (lc ac (l1 (aA aH ac (c4 (al T) hr (lc (af 0) (l1 ac)))))))) (c4 (al T) hr (lc (af 0) (l1 ac)))))
  (am (aD (aC (lc ap (lc (bY hr (af 1) (c4 (al T) hr (lc (af 0) (l1 (cB dS T.HK (l1 (af 1))))))) (l1 (af 3)))))))))))) rfl
noncomputable def d8:Nat→aF
 |0=>qY
 |n+1=>bi 8 (C.gf w__law_draw d6 (d8 n))
def gD:aF:=d8 12
theorem je(T:Txt P w K mg):Hq P w K mg base 15 "_law_body" 4 gD:=nJ (b:=3) (r:=d8) T.o__law_body (fun n R0=>fG ["_law_deal_here","_law_jars","_law_left","_law_down","_law_form","_law_one","_law_other","_law_many"] T.o__law_body (fun _ _ _ _ _ _ _ hr nd=>(ah (s4 4 nd (c4 (al T) hr (lc (af 0) (l1 ac))))
  (ah (aY (qq (nj (fK hr (af 3) ac) (nj (bw lS (aP hr (af 2)) ac (aQ _)) (j6 (bw lS (af 4) ac (aQ _)))))) (am (aD (c4 (fx T) hr (lc (af 0) (l1 (af 1)))))) aK)
  (ah (aY (bw lS (af 4) ac (aQ _)) (ah (fD (si hr) (aA cx (aP hr (af 2)) ac) (af 2) ac)
  (am (aD (aC (lc ap (l1 (c4 R0 hr (lc (af 0) (lc (af 1) (lc (af 2) (l1 (aA cx (af 3) ac)))))))))))) aK)
  (ah (fD (si hr) (aA cx (aP hr (af 2)) ac) (af 2) ac)
  (ah (s4 5 nd (c4 R0 hr (lc (af 0) (lc (af 1) (lc (af 2) (l1 (aA cx (af 3) ac)))))))
  (ah (s4 6 nd (c4 R0 hr (lc (af 0) (lc (af 1) (lc (af 2) (l1 (aA cx (af 3) ac)))))))
  (ah (aY (bw lS (af 4) ac (aQ _)) (am (aD (aC (lc ap (lc (af 5) (l1 (af 6))))))) aK)
  (ah (aY (qq (nj (fK hr (af 4) ac) (j6 (fK hr (cB dS T.HK (l1 (af 1))) ac)))) (am (aD (aC (lc ap (lc (af 5) (l1 (af 6))))))) aK)
  (ah (s4 7 nd (bY hr (bI (lc ac (lc ac (lc ac (l1 (aA aH ac (c4 (al T) hr (lc (af 0) (l1 ac))))))))) (c4 (al T) hr (lc (af 0) (l1 ac)))))
  (am (aD (aC (lc ap (lc (bY hr (af 1) (c4 (al T) hr (lc (af 0) (l1 (cB dS T.HK (l1 (af 1))))))) (lc (af 7) (lc (af 5) (l1 (af 6))))))))))))))))))) rfl) rfl rfl 12
noncomputable def bK:Nat→aF
 |0=>qY
 |n+1=>bi 1 (C.cy (bK n))
def bL:aF:=bK 12
theorem dH(T:Txt P w K mg):Hq P w K mg base 12 "_law_pass_count" 1 bL:=nJ (b:=0) (r:=bK) T.o__law_pass_count (fun n R0=>fG ["_law_body_here"] T.o__law_pass_count (fun _ _ _ _ _ _ _ hr nd=>(ah (aY (fK hr (aP hr (af 0)) ap) (am (aD (aA bD (c4 R0 hr (l1 (aP hr (af 0)))) (c4 R0 hr (l1 (aP hr (af 0))))))) aK)
  (ah (aY (qq (nj (fK hr (aP hr (af 0)) ap) (j6 (fK hr (aP hr (af 0)) ap)))) (am (aD (aA aH (c4 R0 hr (l1 (bY hr (af 0) (oZ fR ac)))) (c4 R0 hr (l1 (bY hr (af 0) (oZ fR ac))))))) aK)
  (am (aD ac))))) rfl) rfl rfl 12
noncomputable def bF:Nat→aF
 |0=>qY
 |n+1=>bi 1 (C.b7 bL (bF n))
def dI:aF:=bF 12
theorem gZ(T:Txt P w K mg):Hq P w K mg base 24 "_law_round_count" 1 dI:=nJ (b:=12) (r:=bF) T.o__law_round_count (fun n R0=>fG ["_law_body_here"] T.o__law_round_count (fun _ _ _ _ _ _ _ hr nd=>(ah (aY (fK hr (aP hr (af 0)) ap) (am (aD (aA aH (c4 (dH T) hr (l1 (aP hr (af 0)))) (c4 R0 hr (l1 (aP hr (af 0))))))) aK)
  (ah (aY (bw (vL (sj hr)) (aP hr (af 0)) (aC (lc ap (lc ap (l1 ap)))) rfl) (am (aD (aA aH (c4 R0 hr (l1 (bY hr (af 0) (oZ fR ac)))) (c4 R0 hr (l1 (bY hr (af 0) (oZ fR ac))))))) aK)
  (am (aD ac))))) rfl) rfl rfl 12
def cJ:aF:=bi 5 (C.cE gD bL dI d6)
theorem jf(T:Txt P w K mg):Hq P w K mg base 25 "_law_deed_body" 4 cJ:=fG ["_law_deal_here","_law_jars","_law_room","_law_most","_law_body_here"] T.o__law_deed_body (fun _ _ _ _ _ _ _ hr nd=>(ah (s4 4 nd (c4 (je T) hr (lc (af 0) (lc (af 1) (lc (bI (l1 (aA cx (af 2) ac))) (l1 ac))))))
  (ah (aY (bw lT (aA aH (c4 (dH T) hr (l1 (af 4))) (c4 (gZ T) hr (l1 (af 4)))) (af 3) (aQ _)) (am (s4 4 nd (aC (lc ap (lc (aC (lc ap (l1 (c4 (fx T) hr (lc (af 0) (l1 (af 1))))))) (l1 (c4 (fx T) hr (lc (af 0) (l1 (af 1)))))))))) aK)
  (am (aD (af 4)))))) rfl
def fy:aF:=bi 9 (C.eW cZ w__law_draw cJ)
theorem lY(T:Txt P w K mg):Hq P w K mg base 26 "_law_house" 4 fy:=fG ["_law_deal_here","_law_most_jars","_law_most_deeds","_law_room","_law_words_here","_law_jars","_law_first","_law_many","_law_deeds"] T.o__law_house (fun _ _ _ _ _ _ _ hr nd=>(ah (s4 4 nd (c4 (hZ T) hr (lc (af 0) (l1 ac))))
  (ah (s4 5 nd (cT bJ T.GT (l1 (eU (af 4) jA (fS (c4 (al T) hr (lc (af 0) (l1 (aA aH (af 1) ac)))))))))
  (ah (s4 6 nd (bY hr (bI (lc ac (l1 ac))) (c4 (al T) hr (lc (af 0) (l1 ac)))))
  (ah (s4 7 nd (aA aH ac (c4 (al T) hr (lc (af 0) (l1 (af 2))))))
  (ah (Ey ["_law_words_here","_law_room","_law_many","_law_jars","_law_first","_law_deal_here"] 1 [0,6,5,7,3,4] ["_law_k","_law_deal_here","_law_first","_law_jars","_law_many","_law_room","_law_words_here"] 8 nd (bP rfl rfl T.Hb (l1 (af 7))) (fun _=>(gn 0 FE)) (fun _=>dW) (fun _=>(aC (lc (bY hr (af 6) (aA aH (af 2) (af 0))) (l1 (c4 (jf T) hr (lc (af 1) (lc (af 3) (lc (af 5) (l1 (aA jD ac (af 4))))))))))))
  (am (aD (aC (lc (af 5) (l1 (cT bJ T.GT (l1 (af 8)))))))))))))) rfl
def cK:aF:=bi 4 (C.cF w__law_draw fy cZ gD)
theorem jg(T:Txt P w K mg):Hq P w K mg base 27 "_law_any_house" 1 cK:=fG ["_law_deal_here","_law_words_here","_law_jars","_law_many"] T.o__law_any_house (fun _ _ _ _ _ _ _ hr nd=>(ah (aY (fK hr (c4 (al T) hr (lc (af 0) (l1 ac))) ac) (am (aD (c4 (lY T) hr (lc (af 0) (lc ac (lc ac (l1 ac))))))) aK)
  (ah (s4 1 nd (c4 (hZ T) hr (lc (af 0) (l1 ac))))
  (ah (s4 2 nd (cT bJ T.GT (l1 (eU (af 1) jA (fS (c4 (al T) hr (lc (af 0) (l1 ac))))))))
  (ah (s4 3 nd (aA aH ac (c4 (al T) hr (lc (af 0) (l1 ac)))))
  (am (aD (aC (lc (af 2) (l1 (cT bJ T.GT (l1 (wm ["_law_words_here","_law_jars","_law_deal_here"] 1 [0,2,1] ["_law_k","_law_deal_here","_law_jars","_law_words_here"] (bP rfl rfl T.Hb (l1 (af 3))) (fun _=>(gn 0 Ed)) (fun _=>dW) (fun _=>(aC (lc (bY hr (af 3) (aA aH ac (af 0))) (l1 (c4 (je T) hr (lc (af 1) (lc (af 2) (lc (bI (l1 ac)) (l1 ac)))))))))))))))))))))) rfl
noncomputable def b4:Nat→aF
 |0=>qY
 |n+1=>bi 9 (C.cQ w__law_draw (b4 n))
def fH:aF:=b4 12
theorem jU(T:Txt P w K mg):Hq P w K mg base 13 "_law_trace_to" 4 fH:=nJ (b:=1) (r:=b4) T.o__law_trace_to (fun n R0=>fG ["_law_deal_here","_law_body_here","_law_left","_law_wide","_law_one","_law_side","_law_found","_law_k","_law_many"] T.o__law_trace_to (fun _ _ _ _ _ _ _ hr nd=>(ah (aY (fK hr (aP hr (af 1)) ap) (ah (s4 4 nd (c4 R0 hr (lc (af 0) (lc (aP hr (af 1)) (lc (af 2) (l1 (af 3)))))))
  (am (aD (aC (lc (af 4) (l1 (c4 R0 hr (lc (af 0) (lc (aP hr (af 1)) (lc (af 2) (l1 (af 3)))))))))))) aK)
  (ah (aY (qq (nj (fK hr (aP hr (af 1)) ap) (j6 (fK hr (aP hr (af 1)) ap)))) (ah (s4 5 nd (c4 (al T) hr (lc (af 0) (l1 ac))))
  (am (aD (aC (lc (af 5) (l1 (c4 R0 hr (lc (af 0) (lc (bY hr (af 1) (aA cx (af 5) ac)) (lc (af 2) (l1 (af 3)))))))))))) aK)
  (ah (s4 6 nd (bI dh))
  (ah (dt PassesOwn.never rfl (bP rfl rfl T.Hb (l1 (aA bD (c4 (al T) hr (lc (af 0) (l1 ac))) (cT sh T.K_ (l1 (kT (o0 (hU hr)) (aP hr (af 1)) ap (aQ _))))))) (gn 7 nd) (am (aY (bw lT (aP hr (af 2)) ac (aQ _)) (ah (fD (si hr) (aA cx (aP hr (af 2)) ac) (af 2) ac)
  (ah (s4 8 nd (aA aH ac (c4 (al T) hr (lc (af 0) (l1 (bY hr (bI (lc ac (l1 (af 3)))) (c4 (al T) hr (lc (af 0) (l1 ac)))))))))
  (am (bc (uq bU cu (af 6) (l1 (aC (lc (af 8) (l1 (c4 R0 hr (lc (af 0) (lc (aP hr (af 1)) (lc (af 2) (l1 (af 3))))))))))))))) aK)))
  (am (aD (cT bJ T.GT (l1 (af 6)))))))))) rfl) rfl rfl 12
noncomputable def d9:Nat→aF
 |0=>qY
 |n+1=>bi 8 (CY.gq gC (d9 n))
def gE:aF:=d9 12
theorem oB(T:Txt P w K mg):Hq P w K mg base 14 "_law_gone" 3 gE:=nJ (b:=2) (r:=d9) T.o__law_gone (fun n R0=>fG ["_law_body_here","_law_trace","_law_world","_law_word","_law_at","_law_many","_law_one","_law_k"] T.o__law_gone (fun _ _ _ _ _ _ _ hr nd=>(ah (aY (dP (bY hr (af 2) ap)) (am BO) aK)
  (ah (s4 3 nd (aP hr (af 0)))
  (am (aY (fK hr (af 3) ap) (am (fD (si hr) (c4 (oA T) hr (lc (bY hr (af 2) ap) (l1 (aP hr (af 0))))) (af 2) ap)) (am (aY (fK hr (af 3) ap) (ah (s4 4 nd (zV PySem.F.plainAttrs_tuple PySem.F.slot_tuple_index PySem.F.type_tuple_index pp rfl (bY hr (af 2) ap) (l1 (aP hr (af 0)))))
  (am (fD (si hr) (aA aH (bY hr (bY hr (af 2) ap) (af 4)) (aP hr (af 0))) (bY hr (af 2) ap) (af 4)))) (am (aY (fK hr (af 3) ap) (ah (bc (c4 R0 hr (lc (aP hr (af 0)) (lc (aP hr (af 1)) (l1 (af 2))))))
  (am (bc (c4 R0 hr (lc (aP hr (af 0)) (lc (aP hr (af 1)) (l1 (af 2)))))))) (am (aY (fK hr (af 3) ap) (am (bc (c4 R0 hr (lc (bY hr (af 0) (aA aH ac (aP hr (af 1)))) (lc (aP hr (af 1)) (l1 (af 2))))))) (am (aY (fK hr (af 3) ap) (ah (s4 4 nd (zV PySem.F.plainAttrs_tuple PySem.F.slot_tuple_index PySem.F.type_tuple_index pp rfl (bY hr (af 2) ap) (l1 (aP hr (af 0)))))
  (ah (aY (fK hr (aP hr (af 1)) ac) (ah (fD (si hr) (kT lS (bY hr (bY hr (af 2) ap) (af 4)) (aP hr (af 0)) (aQ _)) (af 2) ap)
  (am (fD (si hr) (aA cx (bY hr (bY hr (af 2) ap) (af 4)) (aP hr (af 0))) (bY hr (af 2) ap) (af 4)))) aK)
  (am (bc (c4 R0 hr (lc (bY hr (af 0) (aA aH ac (aP hr (af 1)))) (lc (aP hr (af 1)) (l1 (af 2))))))))) (am (aY (fK hr (af 3) ap) (am (dt PassesOwn.never rfl (dk (af 1)) (Cu rfl (cw (gn 5 nd) (cw (gn 6 nd) mz))) (am (dt PassesOwn.never rfl (bP rfl rfl T.Hb (l1 (af 5))) (gn 7 nd) (am (bc (c4 R0 hr (lc (aP hr (af 0)) (lc (af 6) (l1 (af 2))))))))))) aK))))))))))))))) rfl) rfl rfl 12
noncomputable def d_:Nat→aF
 |0=>qY
 |n+1=>bi 9 (CY.dX w__law_draw fH (d_ n))
def gF:aF:=d_ 12
theorem oC(T:Txt P w K mg):Hq P w K mg base 25 "_law_tale" 5 gF:=nJ (b:=13) (r:=d_) T.o__law_tale (fun n R0=>fG ["_law_deal_here","_law_house_here","_law_left","_law_down","_law_wide","_law_found","_law_k","_law_many","_law_d"] T.o__law_tale (fun _ _ _ _ _ _ _ hr nd=>(ah (s4 5 nd (bI dh))
  (ah (dt PassesOwn.never rfl (bP rfl rfl T.Hb (l1 (aA aH ac (c4 (al T) hr (lc (af 0) (l1 ac)))))) (gn 6 nd) (ah (fD (si hr) (aA cx (aP hr (af 2)) ac) (af 2) ac)
  (am (aY (qq (fQ (bw lT (af 3) ac (aQ _)) (fQ (bw lT (aP hr (af 2)) ac (aQ _)) (fP (fK hr (c4 (al T) hr (lc (af 0) (l1 ac))) ac))))) (ah (s4 7 nd (aA aH ac (c4 (al T) hr (lc (af 0) (l1 (bY hr (bI (lc ac (l1 (af 4)))) (c4 (al T) hr (lc (af 0) (l1 ac)))))))))
  (am (bc (uq bU cu (af 5) (l1 (aC (lc ap (lc (af 7) (l1 (c4 R0 hr (lc (af 0) (lc (af 1) (lc (af 2) (lc (aA cx (af 3) ac) (l1 (af 4)))))))))))))))) (am (aY (qq (nj (bw BF (aP hr (af 2)) ac (aQ _)) (j6 (fK hr (af 5) (bI dh))))) (ah (s4 8 nd (c4 (al T) hr (lc (af 0) (l1 (cB dS T.HK (l1 (aP hr (af 1))))))))
  (am (bc (uq bU cu (af 5) (l1 (aC (lc ap (lc (af 8) (l1 (c4 (jU T) hr (lc (af 0) (lc (aP hr (bY hr (aP hr (af 1)) (af 8))) (lc (bI (l1 ac)) (l1 (bY hr (bI (lc ac (l1 ac))) (cT sh T.K_ (l1 (kT (o0 (hU hr)) (c4 (al T) hr (lc (af 0) (l1 ac))) ac (aQ _))))))))))))))))))) aK))))))
  (am (aD (cT bJ T.GT (l1 (af 5)))))))) rfl) rfl rfl 12
noncomputable def fz:Nat→aF
 |0=>qY
 |n+1=>bi 6 (CY.iq gE (fz n))
def fA:aF:=fz 12
theorem gG(T:Txt P w K mg):Hq P w K mg base 26 "_law_all" 4 fA:=nJ (b:=14) (r:=fz) T.o__law_all (fun n R0=>fG ["_law_house_here","_law_story","_law_world","_law_limit","_law_part","_law_left"] T.o__law_all (fun _ _ _ _ _ _ _ hr nd=>(am (dt PassesOwn.never rfl (dk (af 1)) (gn 4 nd) (ah (s4 5 nd (aA bD (aP hr (af 4)) (cT sh T.K_ (l1 (kT (o0 (hU hr)) (aP hr (af 4)) ap (aQ _))))))
  (ah (iK PassesOwn.never (qq (fQ (bw lT (af 5) ac (aQ _)) (fQ (j7 (dP (bY hr (af 2) ap))) (fP (bw BE (bY hr (af 2) ap) (af 3) (aQ _)))))) (ah (s4 5 nd (aA cx (af 5) ac))
  (am (bc (c4 R0 hr (lc (af 0) (lc (aP hr (af 4)) (lc (af 2) (l1 (af 3))))))))))
  (am (aY (qq (fQ (fK hr (aP hr (af 4)) ap) (fQ (j7 (dP (bY hr (af 2) ap))) (fP (bw BE (bY hr (af 2) ap) (af 3) (aQ _)))))) (ah (fD (si hr) (aA aH (bY hr (af 2) ap) ac) (af 2) ap)
  (ah (bc (c4 (oB T) hr (lc (aP hr (bY hr (aP hr (af 0)) (aP hr (af 4)))) (lc (aP hr (af 4)) (l1 (af 2))))))
  (am (aY (j7 (dP (bY hr (af 2) ap))) (am (bc (uq bU cu (bY hr (af 2) ap) (l1 (aC (lc (aP hr (af 4)) (lc (cT bJ T.GT (l1 (bY hr (af 2) ap))) (l1 (bY hr (af 2) ap))))))))) aK)))) aK))))))) rfl) rfl rfl 12
def c_:aF:=bi 2 CY.fg
theorem eg(T:Txt P w K mg):Hq P w K mg base 1 "_law_begun" 2 c_:=fG ["_law_house_here","_law_jars"] T.o__law_begun (fun _ _ _ _ _ _ _ hr nd=>(am (aD (v5 (cW ap (aP hr (af 0)) (cW ap (cT (vQ rfl) T.KQ (l1 (af 1))) (cW ap (aC (lc ac (l1 ac))) (cW ap tL (cW ap (bI dh) (cW ap ac v0)))))))))) rfl
def fI:aF:=bi 8 (CY.cS c_ fA w__law_draw)
theorem jV(T:Txt P w K mg):Hq P w K mg base 27 "_law_just_for" 4 fI:=fG ["_law_deal_here","_law_house_here","_law_story","_law_limit","_law_world","_law_some","_law_found","_law_k"] T.o__law_just_for (fun _ _ _ _ _ _ _ hr nd=>(ah (s4 4 nd (c4 (eg T) hr (lc (af 1) (l1 (wm [] 1 [] ["_law_name"] (dk (aP hr (af 1))) (fun _=>(gn 0 Ee)) (fun _=>dW) (fun _=>(aA mF ac ac)))))))
  (ah (bc (c4 (gG T) hr (lc (af 1) (lc (af 2) (lc (af 4) (l1 (af 3)))))))
  (ah (s4 5 nd (eU (bY hr (af 4) ap) jA (fS (aA aH ac (c4 (al T) hr (lc (af 0) (l1 (cB (kU rfl) T.Ky (lc ac (l1 (cB dS T.HK (l1 (bY hr (af 4) ap)))))))))))))
  (ah (s4 6 nd (bI dh))
  (ah (dt PassesOwn.never rfl (bP rfl rfl T.Hb (l1 (cB dS T.HK (l1 (aP hr (af 1)))))) (gn 7 nd) (am (bc (uq bU cu (af 6) (l1 (aA cx (aA mF ac ac) (cB (BR rfl) T.N0 (l1 (aA aH (bI (l1 (aA mF ac ac))) (wm ["_law_k"] 3 [7] ["_law_d","_law_jars","_law_cost_here","_law_k"] (dk (af 5)) (fun _=>(Cu rfl (cw (gn 0 wZ) (cw (gn 1 wZ) (cw (gn 2 wZ) mz))))) (fun _=>dW) (fun _=>(bY hr (af 1) (af 3)))))))))))))
  (am (aD (cT bJ T.GT (l1 (af 6))))))))))) rfl
def fc:bj:=(ak (bp (aJ (aj kB (aj ad (v3 0) (c3 (.str "come"))) (v3 1))) (aG (aE [(c3 (.str "long")),(v3 1)])) aS)
  (ak (bp (aJ (aj ad (v3 0) (c3 (.str "stuck")))) (aG (aE [(c3 (.str "stuck")),(ao b6 [(aj ad (v3 0) (c3 (.str "doings")))])])) aS)
  (aG (aE [(c3 (.str "told")),(aj ad (v3 0) (c3 (.str "doings")))]))))
def iA:aF:=bi 2 fc
theorem ki(T:Txt P w K mg):Hq P w K mg base 1 "_law_due" 2 iA:=fG ["_law_world","_law_most"] T.o__law_due (fun _ _ _ _ _ _ _ hr nd=>(ah (aY (bw lT (bY hr (af 0) ap) (af 1) (aQ _)) (am (aD (aC (lc ap (l1 (af 1)))))) aK)
  (ah (aY (dP (bY hr (af 0) ap)) (am (aD (aC (lc ap (l1 (cB dS T.HK (l1 (bY hr (af 0) ap)))))))) aK)
  (am (aD (aC (lc ap (l1 (bY hr (af 0) ap))))))))) rfl
def gH(M9:aF):bj:=(ak (au 4 (c3 .non))
  (ak (ze ["TooLong","Stuck"] 7 (ak (au 5 (cR M9 [(v3 0),(v3 1),(v3 2),(v3 3)]))
  (ak (au 6 (ao ee [(v3 5)]))
  (ak (aI (hG "list" nw (v3 5) []))
  (aG (aE [(c3 (.str "told")),(v3 6)]))))) (au 4 (v3 7)))
  (ak (bp (mw (aJ (ao (eB IZ) [(v3 4),(aE [(c3 (.cls "BadText")),(c3 (.cls "NoHouse")),(c3 (.cls "NoRow")),(c3 (.cls "NoStory")),(c3 (.cls "TooMany"))])])) (dL (aJ (ao (eB IZ) [(v3 4),(c3 (.ty "ValueError"))])))) (aG (aE [(c3 (.str "other")),(c3 (.int 0))])) aS)
  (ak (bp (b_ (aJ (ao (eB IZ) [(v3 4),(c3 (.cls "Stuck"))])) (dL (aJ (ao (eB IZ) [(v3 4),(c3 (.cls "TooLong"))])))) (aG (aE [(c3 (.str "stuck")),(ka ND "row" (v3 4))])) aS)
  (ak (bp (b_ (aJ (ao (eB IZ) [(v3 4),(c3 (.cls "TooLong"))])) (dL (aJ (ao (eB IZ) [(v3 4),(c3 (.cls "Stuck"))])))) (aG (aE [(c3 (.str "long")),(ka ND "most" (v3 4))])) aS)
  (aG (aE [(c3 (.str "other")),(c3 (.int 0))])))))))
def ed:aF:=bi 8 (gH rK)
theorem jh(T:Txt P w K mg):Hq P w K mg base 31 "_law_told" 4 ed:=fG ["_law_house_here","_law_jars","_law_story","_law_most","_law_caught","_law_found","_law_kept","e"] T.o__law_told (fun _ _ _ _ _ _ _ hr nd=>(ah (s4 4 nd Do)
  (ah (Gh 7 T.KS nd (fun E pins hp=>(ah (s4 5 nd (cX (zz T) hr (lc (af 0) (lc (af 1) (lc (af 2) (l1 (af 3)))))))
  (ah (s4 6 nd (cT (vQ rfl) T.KQ (l1 (af 5))))
  (ah (bc (DR wj yM (af 5)))
  (am (aD (aC (lc ap (l1 (af 6)))))))))) (fun a=>(am (s4 4 nd (af 7)))))
  (ah (aY (qq (nj (dP (cB (jF T.J9) T.GY (lc (af 4) (l1 (aC (lc (zg T.Lh) (lc (zg T.Li) (lc (zg T.Mo) (lc (zg T.Lj) (l1 (zg T.Lk))))))))))) (j6 (j7 (dP (cB (jF T.J9) T.GY (lc (af 4) (l1 (Gg T.Kp))))))))) (am (aD (aC (lc ap (l1 ac))))) aK)
  (ah (aY (qq (fQ (dP (cB (jF T.J9) T.GY (lc (af 4) (l1 (zg T.Lb))))) (fP (j7 (dP (cB (jF T.J9) T.GY (lc (af 4) (l1 (zg T.J8))))))))) (am (aD (aC (lc ap (l1 (wb T.x_at (af 4) rfl)))))) aK)
  (ah (aY (qq (fQ (dP (cB (jF T.J9) T.GY (lc (af 4) (l1 (zg T.J8))))) (fP (j7 (dP (cB (jF T.J9) T.GY (lc (af 4) (l1 (zg T.Lb))))))))) (am (aD (aC (lc ap (l1 (wb T.x_at (af 4) rfl)))))) aK)
  (am (aD (aC (lc ap (l1 ac))))))))))) rfl
def cU(IA GC G9 HA IE I_:aF):bj:=(ak (au 1 (aE [(aE []),(aE [(aE [(c3 (.str "a")),(aE [(c3 (.str "pay")),(ae IA [(v3 0)])])])])]))
  (ak (au 2 (aj aM (c3 (.int 1)) (ae GC [(v3 0),(c3 (.int 1900))])))
  (ak (au 3 (aj ba (aj aM (c3 (.int 2000)) (ae GC [(v3 0),(c3 (.int 2))])) (v3 2)))
  (ak (au 4 (aE [(aE [(c3 (.str "again")),(v3 2),(aE [(aE [(c3 (.str "do")),(c3 (.int 0)),(aE [])])])]),(aE [(c3 (.str "again")),(v3 3),(aE [(aE [(c3 (.str "do")),(c3 (.int 0)),(aE [])])])])]))
  (ak (au 5 (ae G9 [(v3 1),(aE [])]))
  (ak (aI (ae HA [(v3 1),(v3 4),(v3 5),(c3 (.int 2000))]))
  (ak (bM (bg (aE [(c3 (.int 2000)),(c3 (.int 1999))])) (.n 6) (bp (aJ (aj (bt true) (ao iJ [(ae IE [(v3 1),(aE []),(v3 4),(v3 6)])]) (ao iJ [(ae I_ [(v3 5),(v3 6)])]))) (aG (c3 (.bl false))) aS))
  (aG (c3 (.bl true))))))))))
def cV:aF:=bi 7 (cU d4 w__law_draw c_ fA ed iA)
theorem jW(T:Txt P w K mg):Hq P w K mg base 32 "_law_at_bound" 1 cV:=fG ["_law_deal_here","_law_house_here","_law_first","_law_rest","_law_story","_law_world","_law_most"] T.o__law_at_bound (fun _ _ _ _ _ _ _ hr nd=>(ah (s4 1 nd (aC (lc (aC dh) (l1 (aC (l1 (aC (lc ap (l1 (aC (lc ap (l1 (c4 (jd T) hr (l1 (af 0)))))))))))))))
  (ah (s4 2 nd (aA aH ac (c4 (al T) hr (lc (af 0) (l1 ac)))))
  (ah (s4 3 nd (aA cx (aA aH ac (c4 (al T) hr (lc (af 0) (l1 ac)))) (af 2)))
  (ah (s4 4 nd (aC (lc (aC (lc ap (lc (af 2) (l1 (aC (l1 (aC (lc ap (lc ac (l1 (aC dh))))))))))) (l1 (aC (lc ap (lc (af 3) (l1 (aC (l1 (aC (lc ap (lc ac (l1 (aC dh)))))))))))))))
  (ah (s4 5 nd (c4 (eg T) hr (lc (af 1) (l1 (aC dh)))))
  (ah (bc (c4 (gG T) hr (lc (af 1) (lc (af 4) (lc (af 5) (l1 ac))))))
  (ah (dt PassesOwn.never rfl (dk (aC (lc ac (l1 ac)))) (gn 6 nd) (am (aY (Fs hr (cB (nu (hU hr) hr.gd) T.Kq (l1 (c4 (jh T) hr (lc (af 1) (lc (aC dh) (lc (af 4) (l1 (af 6)))))))) (cB (nu (hU hr) hr.gd) T.Kq (l1 (c4 (ki T) hr (lc (af 5) (l1 (af 6))))))) (am (aD tL)) aK)))
  (am (aD tL)))))))))) rfl
def xl(Kz GC JJ Jv KA JK G9 HA IE I_:aF):bj:=(ak (au 1 (ae Kz [(v3 0),(c3 (.int 0))]))
  (ak (bp (b_ (aJ (aj (bt false) (ae GC [(v3 1),(c3 (.int 8))]) (c3 (.int 0)))) (dL (aJ (ae JJ [(v3 1)])))) (aG (c3 (.bl false))) aS)
  (ak (bM (cM (c3 (.int 2))) (.n 2) (ak (au 3 (ae Jv [(v3 1)]))
  (ak (au 4 (aj ad (bb [(c3 (.int 3)),(c3 (.int 3)),(aj iL (c3 (.int 10)) (c3 (.int 6)))]) (ae GC [(v3 1),(c3 (.int 3))])))
  (ak (au 5 (ae KA [(v3 1),(v3 3),(bb [(c3 (.int 8))]),(c3 (.int 3)),(v3 4)]))
  (ak (bp (aJ (aj (bt false) (ae GC [(v3 1),(c3 (.int 12))]) (c3 (.int 0)))) (au 5 (aE [])) aS)
  (ak (au 6 (ao aU [(bh (bg (aj ad (v3 3) (c3 (.int 0)))) (.n 0) cO (aj ad (bb [(ae GC [(v3 1),(c3 (.int 4))]),(ae GC [(v3 1),(c3 (.int 90))]),(aj iL (c3 (.int 10)) (c3 (.int 9)))]) (ae GC [(v3 1),(c3 (.int 3))])) 1 [1])]))
  (ak (au 7 (aj ad (bb [(c3 (.int 2000)),(c3 (.int 60))]) (ao dU [(aj kB (v3 4) (c3 (.int 3)))])))
  (ak (bp (aJ (aj (bt false) (ae GC [(v3 1),(c3 (.int 3))]) (c3 (.int 0)))) (au 6 (ae JK [(v3 1),(v3 3),(v3 5),(v3 7)])) aS)
  (ak (au 8 (ae G9 [(v3 3),(v3 6)]))
  (ak (aI (ae HA [(v3 3),(v3 5),(v3 8),(v3 7)]))
  (ak (au 9 (aj ad (v3 8) (c3 (.str "come"))))
  (bM (bg (bb [(v3 9),(aj ba (v3 9) (c3 (.int 1))),(aj aM (v3 9) (c3 (.int 1))),(aj aM (c3 (.int 1)) (ae GC [(v3 1),(v3 7)])),(v3 9)])) (.n 10) (bp (aJ (nB nA xI (c3 (.int 0)) (v3 10) (v3 7))) (ak (au 11 (ae IE [(v3 3),(v3 6),(v3 5),(v3 10)]))
  (bp (aJ (aj (bt true) (ao iJ [(v3 11)]) (ao iJ [(ae I_ [(v3 8),(v3 10)])]))) (aG (c3 (.bl false))) aS)) aS)))))))))))))
  (aG (c3 (.bl true))))))
def pY:aF:=bi 12 (xl kg w__law_draw cV cK gF fI c_ fA ed iA)
theorem Ci(T:Txt P w K mg){f:Addr}{fd:FuncData}(O:Ex K mg "law" (bA 55) ["_law_script"] f fd):Me P w K mg base 33 f fd ["_law_script"] pY:=Gd ["_law_script","_law_deal_here","_law_turn","_law_house_here","_law_wide","_law_story","_law_jars","_law_limit","_law_world","_law_many","_law_most","_law_found"] O (fun _ _ _ _ _ _ _ hr nd=>(ah (s4 1 nd (c4 (oz T) hr (lc (af 0) (l1 ac))))
  (ah (aY (qq (fQ (fK hr (c4 (al T) hr (lc (af 1) (l1 ac))) ac) (fP (j7 (dP (c4 (jW T) hr (l1 (af 1)))))))) (am (aD tL)) aK)
  (ah (dt PassesOwn.never rfl (bP rfl rfl T.Hb (l1 ac)) (gn 2 nd) (ah (s4 3 nd (c4 (jg T) hr (l1 (af 1))))
  (ah (s4 4 nd (bY hr (bI (lc ac (lc ac (l1 (aA mF ac ac))))) (c4 (al T) hr (lc (af 1) (l1 ac)))))
  (ah (s4 5 nd (c4 (oC T) hr (lc (af 1) (lc (af 3) (lc (bI (l1 ac)) (lc ac (l1 (af 4))))))))
  (ah (aY (fK hr (c4 (al T) hr (lc (af 1) (l1 ac))) ac) (am (s4 5 nd (aC dh))) aK)
  (ah (s4 6 nd (cT bJ T.GT (l1 (wm ["_law_deal_here"] 1 [1] ["_law_name","_law_deal_here"] (dk (aP hr (af 3))) (fun _=>(gn 0 Ef)) (fun _=>dW) (fun _=>(bY hr (bI (lc (c4 (al T) hr (lc (af 1) (l1 ac))) (lc (c4 (al T) hr (lc (af 1) (l1 ac))) (l1 (aA mF ac ac))))) (c4 (al T) hr (lc (af 1) (l1 ac)))))))))
  (ah (s4 7 nd (bY hr (bI (lc ac (l1 ac))) (cT sh T.K_ (l1 (kT lT (af 4) ac (aQ _))))))
  (ah (aY (fK hr (c4 (al T) hr (lc (af 1) (l1 ac))) ac) (am (s4 6 nd (c4 (jV T) hr (lc (af 1) (lc (af 3) (lc (af 5) (l1 (af 7)))))))) aK)
  (ah (s4 8 nd (c4 (eg T) hr (lc (af 3) (l1 (af 6)))))
  (ah (bc (c4 (gG T) hr (lc (af 3) (lc (af 5) (lc (af 8) (l1 (af 7)))))))
  (ah (s4 9 nd (bY hr (af 8) ap))
  (am (dt PassesOwn.never rfl (dk (bI (lc (af 9) (lc (aA cx (af 9) ac) (lc (aA aH (af 9) ac) (lc (aA aH ac (c4 (al T) hr (lc (af 1) (l1 (af 7))))) (l1 (af 9)))))))) (gn 10 nd) (am (aY (yW lS BE ac (af 10) (af 7)) (ah (s4 11 nd (c4 (jh T) hr (lc (af 3) (lc (af 6) (lc (af 5) (l1 (af 10)))))))
  (am (aY (Fs hr (cB (nu (hU hr) hr.gd) T.Kq (l1 (af 11))) (cB (nu (hU hr) hr.gd) T.Kq (l1 (c4 (ki T) hr (lc (af 8) (l1 (af 10))))))) (am (aD tL)) aK))) aK)))))))))))))))
  (am (aD tL)))))) rfl
end
end G23
namespace G23
open PySem L2 L3 Wd
open C CY
noncomputable def pZ(W:Wl)(m:Nat):PyData:=if m < W.rows.length then .tuple [.str "long",.int m] else if W.st.isSome=true then .tuple [.str "stuck",.int W.GH.length] else .tuple [.str "told",.list (W.rows.map Cd)]
noncomputable def oE(W:Wl)(m:Nat)(p:Addr):PV:=if m < W.rows.length then .tup [.str "long",.int m] else if W.st.isSome=true then .tup [.str "stuck",.int W.GH.length] else .tup [.str "told",.ref p]
theorem Cj(W:Wl):W.GH.length≤W.rows.length:=by
 unfold Wl.GH
 split
 ·rw[List.length_dropLast];omega
 ·exact Nat.le_refl _
theorem i1{S:av}(i:Int)(h1:0≤i)(h2:i≤2001):Sh S (.int i) (.int i) 65 5:=(Sh.t (by omega)).le (Nat.le_refl _) (Nat.zero_le _)
theorem Sh.due{S:av}{js:List Str}{m:Nat}{W:Wl}{p:Addr}(hm:m≤2001)(h:Aa js W)(hp:W.st=none→S p=some (.lst (W.rows.map jO))):Sh S (oE W m p) (pZ W m) 13000200 6:=by
 have l1:=h.l
 have l2:=Cj W
 unfold oE pZ
 split
 ·exact(Sh.tup ((Sh.s "long" 5 (by decide +kernel) (by decide)).cons ((i1 _ (by omega) (by omega)).cons (.Kj _)))).le (by decide) (by decide)
 ·split
  ·exact(Sh.tup ((Sh.s "stuck" 5 (by decide +kernel) (by decide)).cons ((i1 _ (by omega) (by omega)).cons (.Kj _)))).le (by decide) (by decide)
  ·rename_i hs
   have hs:W.st=none:=by cases e:W.st with|none=>rfl|some r=>rw[e]at hs;exact absurd rfl hs
   exact(Sh.tup ((Sh.s "told" 5 (by decide +kernel) (by decide)).cons ((Sh.NW h (hp hs)).cons (.Kj _)))).le (by decide) (by decide)
abbrev oF(x:aF):Prop:=∀{S:av} {a pj pd:Addr} {js:List Str} {lim m:Nat} {W:Wl} {Q:bN} {E:bO},Jl S a pj pd js lim W→Q (oE W m pd) S→x [.ref a,.int m] S Q E
theorem Jw:oF (bi 2 fc):=by
 intro S a pj pd js lim m W Q E A k
 obtain⟨c,st,da,hst,dd⟩:=A.dn
 unfold fc
 refine fL ?_
 rw[show aB 2 [PV.ref a,PV.int m]=[some (.ref a),some (.int m)] from rfl]
 unfold oE at k
 refine ax fun N hN=>?_
 refine oa (v:=decide ((m:Int) < (W.rows.length:Int))) (fun Q E q=>by simp only[aJ,aj,v3,lk,c3,ad,cr,da,oj,kB,bS];exact q) (fun h=>?_) (fun h=>?_)
 ·have h:=of_decide_eq_true h
  rw[if_pos (by omega)]at k
  simp only[aG,aE,ar,v3,lk,c3]
  exact k
 ·have h:=of_decide_eq_false h
  rw[if_neg (by omega)]at k
  refine hN _ _ (ax fun N hN=>?_)
  refine oa (v:=W.st.isSome) (fun Q E q=>by simp only[aJ,aj,v3,lk,c3,ad,cr,da,iY,hst];exact q) (fun hs=>?_) (fun hs=>?_)
  ·rw[if_pos hs]at k
   simp only[aG,aE,ar,ao,aj,v3,lk,c3,ad,cr,da,iZ,b6,dd,List.length_map]
   exact k
  ·rw[if_neg (by rw[hs];decide)]at k
   refine hN _ _ ?_
   simp only[aG,aE,ar,aj,v3,lk,c3,ad,cr,da,iZ]
   exact k
abbrev gJ(n:Nat)(x:aF):Prop:=∀{S:av} {js:List Str} {ds:List (Str×Bd)} {cs:List Int} {M:Nat} {vs:List PV} {Q:bN} {E:bO},js.length≤8→js.Nodup→(∀p∈ds,p.2.good js []∧p.2.dep≤6)→vs.length≤3→(∀v∈vs,kq ds n v)→cs.length=js.length→(∀c∈cs,0≤c)→M≤2001→
 ((cA M js ds n vs (w0 cs)).run=true→∀p S',S p=none→S' p=some (.lst ((cA M js ds n vs (w0 cs)).rows.map jO))→Ext S S'→Q (.tup [.str "told",.ref p]) S')→((cA M js ds n vs (w0 cs)).ov=true→∀S',Ext S S'→Q (.tup [.str "long",.int M]) S')→(∀r,(cA M js ds n vs (w0 cs)).st=some r→(cA M js ds n vs (w0 cs)).ov=false→∀S',Ext S S'→Q (.tup [.str "stuck",.int r]) S')→x [Hw js ds,.tup (cs.map PV.int),.tup vs,.int M] S Q E
theorem Ih{xd:aF}(n:Nat)(KP:on n xd):gJ n (bi 8 (gH xd)):=by
 intro S js ds cs M vs Q E hj hn hds hvl hvs hcl hc hM k1 k2 k3
 unfold gH
 refine fL ?_
 rw[show aB 8 [Hw js ds,PV.tup (cs.map PV.int),PV.tup vs,PV.int M]=[some (Hw js ds),some (.tup (cs.map PV.int)),some (.tup vs),some (.int M),none,none,none,none] from rfl]
 refine ax fun N hN=>?_
 simp only[au,c3,List.set_cons_succ,List.set_cons_zero]
 refine hN _ _ (ax fun N hN=>?_)
 unfold ze
 refine ax fun N1 MZ=>?_
 simp only[au,cR,ar,v3,lk]
 refine KP hj hn hds hvl hvs hcl hc hM (fun h p S1 hp h1 X1=>?_) (fun h S1 X1=>⟨by decide,?_⟩) (fun r h h' S1 X1=>⟨by decide,?_⟩)
 ·simp only[List.set_cons_succ,List.set_cons_zero]
  refine MZ _ _ (ax fun N2 ID=>?_)
  simp only[au,ao,ar,v3,lk,ee,kn,h1]
  intro p2 hp2
  have np:p≠p2:=fun e=>by rw[e,hp2]at h1;cases h1
  simp only[List.set_cons_succ,List.set_cons_zero]
  refine ID _ _ (ax fun N3 LZ=>?_)
  simp only[aI,hG,um,ar,v3,lk,ai np,h1,nw,true_and]
  refine LZ _ _ ?_
  simp only[aG,aE,ar,v3,lk,c3]
  refine k1 h p2 _ (X1.free hp2) (by rw[ai np.symm,aa]) fun b o hb=>?_
  have Ml:b≠p:=fun e=>by rw[e,hp]at hb;cases hb
  have hb2:b≠p2:=fun e=>by rw[e,X1.free hp2]at hb;cases hb
  rw[ai Ml,ai hb2];exact X1 _ _ hb
 ·simp only[au,v3,lk,List.set_cons_succ,List.set_cons_zero]
  refine hN _ _ (ax fun N hN=>?_)
  refine oa (v:=false) (fun Q E q=>by simp only[mw,dL,aJ,ao,aE,ar,v3,lk,c3,eB,tT,hV,IZ,aq,String.reduceEq,and_true,and_false,true_and,if_false,if_true,List.any,beq_self_eq_true,Bool.true_or,Bool.not_true,Bool.false_eq_true];exact q) (fun h=>nomatch h) (fun _=>?_)
  refine hN _ _ (ax fun N hN=>?_)
  refine oa (v:=false) (fun Q E q=>by simp only[b_,dL,aJ,ao,ar,v3,lk,c3,eB,hV,IZ,aq,String.reduceEq,and_true,and_false,true_and,if_false,if_true,Bool.false_eq_true];exact q) (fun h=>nomatch h) (fun _=>?_)
  refine hN _ _ (ax fun N hN=>?_)
  refine oa (v:=true) (fun Q E q=>by simp only[b_,dL,aJ,ao,ar,v3,lk,c3,eB,hV,IZ,aq,String.reduceEq,and_true,and_false,true_and,and_self,if_false,if_true,Bool.not_false];exact q) (fun _=>?_) (fun h=>nomatch h)
  simp only[aG,aE,ar,ka,v3,lk,c3]
  refine⟨by decide,?_⟩
  rw[show List.lookup (Str.ofString "most") ([Str.ofString "most"].zip [PV.int M])=some (PV.int M)from rfl]
  exact k2 h S1 X1
 ·simp only[au,v3,lk,List.set_cons_succ,List.set_cons_zero]
  refine hN _ _ (ax fun N hN=>?_)
  refine oa (v:=false) (fun Q E q=>by simp only[mw,dL,aJ,ao,aE,ar,v3,lk,c3,eB,tT,hV,IZ,aq,String.reduceEq,and_true,and_false,true_and,false_and,if_false,if_true,List.any,beq_self_eq_true,Bool.true_or,Bool.or_true,Bool.not_true,Bool.false_eq_true];exact q) (fun h=>nomatch h) (fun _=>?_)
  refine hN _ _ (ax fun N hN=>?_)
  refine oa (v:=true) (fun Q E q=>by simp only[b_,dL,aJ,ao,ar,v3,lk,c3,eB,hV,IZ,aq,String.reduceEq,and_true,and_false,true_and,false_and,and_self,if_false,if_true,Bool.not_false];exact q) (fun _=>?_) (fun h=>nomatch h)
  simp only[aG,aE,ar,ka,v3,lk,c3]
  refine⟨by decide,?_⟩
  rw[show List.lookup (Str.ofString "row") ([Str.ofString "row"].zip [PV.int r])=some (PV.int r)from rfl]
  exact k3 r h h' S1 X1
theorem p_(W:Wl)(m:Nat)(p:Addr):∃us,oE W m p = .tup us:=by
 unfold oE
 split
 ·exact⟨_,rfl⟩
 ·split<;>exact⟨_,rfl⟩
structure sI (n:Nat) (js:List Str) (ds:List (Str×Bd)) (cs:List Int) (vs:List PV):Prop where
 jn:js.Nodup
 j8:js.length≤8
 dl:ds.length≤1000
 dg:∀p∈ds,p.2.good js []∧p.2.dep≤6
 vl:vs.length≤3
 vp:∀v∈vs,kq ds n v
 cl:cs.length=js.length
 LL:∀c∈cs,0≤c∧c≤10 ^ 9
theorem qd{xt:aF}{n:Nat}(Ih:gJ n xt){S:av}{js:List Str}{ds:List (Str×Bd)}{cs:List Int}{m lim:Nat}{vs:List PV}{Q:bN}{E:bO}(h:sI n js ds cs vs)(hl:lim≤2000)(hm:m≤lim)(N4:(cA (lim+1) js ds n vs (w0 cs)).ov=true→lim+1≤(cA (lim+1) js ds n vs (w0 cs)).rows.length)
  (k:∀u S',Ext S S'→(∃us,u = .tup us)→Sh S' u (pZ (cA (lim+1) js ds n vs (w0 cs)) m) 13000200 6→Q u S'):xt [Hw js ds,.tup (cs.map PV.int),.tup vs,.int m] S Q E:=by
 have tb:=oo (M:=lim+1) h.jn h.j8 (by omega) h.dl h.dg h.vp (rH h.cl h.LL)
 have sm:=(wQ (M:=m) (M':=lim+1) (by omega) js ds n vs).s (w0 cs) (Nat.zero_le _)
 generalize cA (lim+1) js ds n vs (w0 cs)=W at tb sm N4 k
 refine Ih h.j8 h.jn h.dg h.vl h.vp h.cl (fun c hc=>(h.LL c hc).1) (by omega) (fun hr p S1 _ hp X1=>?_) (fun hov S1 X1=>?_) (fun r hs hov S1 X1=>?_)
 ·by_cases hw:W.rows.length≤m
  ·rw[sm.1 hw]at hr hp
   have hs:=(Hk.mp hr).1
   have e:oE W m p = .tup [.str "told",.ref p]:=by unfold oE;rw[if_neg (by omega),hs];rfl
   have:=Sh.due (m:=m) (p:=p) (by omega) tb fun _=>hp
   rw[e]at this
   exact k _ S1 X1 ⟨_,rfl⟩ this
  ·have:=sm.2 (by omega);rw[(Hk.mp hr).2]at this;cases this
 ·by_cases hw:W.rows.length≤m
  ·rw[sm.1 hw]at hov;have:=N4 hov;omega
  ·refine k _ S1 X1 ⟨_,rfl⟩ ?_
   have e:pZ W m = .tuple [.str "long",.int m]:=by unfold pZ;rw[if_pos (by omega)]
   rw[e]
   exact(Sh.tup ((Sh.s "long" 5 (by decide +kernel) (by decide)).cons ((i1 _ (by omega) (by omega)).cons (.Kj _)))).le (by decide) (by decide)
 ·by_cases hw:W.rows.length≤m
  ·rw[sm.1 hw]at hs
   refine k _ S1 X1 ⟨_,rfl⟩ ?_
   have hd:(W.GH.length:Int)=r:=by
    have e1:W.GH=W.rows.dropLast:=by unfold Wl.GH;rw[hs];rfl
    rw[e1,List.length_dropLast]
    have e2:=(tb.s r hs).2
    have e3:=(tb.s r hs).1
    omega
   have e:pZ W m = .tuple [.str "stuck",.int r]:=by unfold pZ;rw[if_neg (by omega),hs,Option.isSome_some,if_pos rfl,hd]
   rw[e]
   have hl2:=tb.l
   have r0:=(tb.s r hs).1
   have r1:=(tb.s r hs).2
   exact(Sh.tup ((Sh.s "stuck" 5 (by decide +kernel) (by decide)).cons ((i1 _ (by omega) (by omega)).cons (.Kj _)))).le (by decide) (by decide)
  ·have:=sm.2 (by omega);rw[hov]at this;cases this
theorem xq{S:av}{a pj pd:Addr}{n:Nat}{js:List Str}{ds:List (Str×Bd)}{cs:List Int}{m lim:Nat}{vs:List PV}(h:sI n js ds cs vs)(hl:lim≤2000)(hm:m≤lim)(A:Jl S a pj pd js lim (cA (lim+1) js ds n vs (w0 cs))):Sh S (oE (cA (lim+1) js ds n vs (w0 cs)) m pd) (pZ (cA (lim+1) js ds n vs (w0 cs)) m) 13000200 6:=by
 refine Sh.due (by omega) (oo (M:=lim+1) h.jn h.j8 (by omega) h.dl h.dg h.vp (rH h.cl h.LL)) fun hs=>?_
 obtain⟨c,st,da,hst,dd⟩:=A.dn
 have:(cA (lim+1) js ds n vs (w0 cs)).GH=(cA (lim+1) js ds n vs (w0 cs)).rows:=by unfold Wl.GH;rw[hs];rfl
 rw[this]at dd
 exact dd
theorem oG{S:av}{v:PV}{d:PyData}{Q:bN}(h:Sh S v d 13000200 6)(ht:∃us,v = .tup us)(q:Q (.str d.shown) S):iJ [v] S Q:=by
 obtain⟨us,rfl⟩:=ht
 exact wx h (by decide) (by decide) q
theorem Jl.x{S S':av}{a pj pd:Addr}{js:List Str}{lim:Nat}{w:Wl}(A:Jl S a pj pd js lim w)(x:Ext S S'):Jl S' a pj pd js lim w:=by
 obtain⟨u,g,r⟩:=A
 exact⟨u,⟨x _ _ g.d,x _ _ g.j,x _ _ g.r,g.ne⟩,r⟩
theorem Jl.N4{S:av}{a pj pd:Addr}{js:List Str}{lim:Nat}{w:Wl}(A:Jl S a pj pd js lim w):w.ov=true→lim+1≤w.rows.length:=by
 obtain⟨u,g,_,_,_,o,_⟩:=A
 exact fun h=>Nat.le_of_eq (o h).symm
abbrev jX(x:aF):Prop:=∀{S:av} {d l:Addr} {Q:bN} {E:bO},GF S d l→(∀S',GF S' d l→Q (.bl true) S')→x [.ref d] S Q E
theorem JX{xc xd xb xa xt xu:aF}(Jh:iP xc)(GD:bq xd)(Ha:gT xb)(JW:eL 1 xa)(Ih:gJ 1 xt)(Jw:oF xu):jX (bi 7 (cU xc xd xb xa xt xu)):=by
 intro S d l Q E D k
 unfold cU
 refine fL ?_
 rw[show aB 7 [PV.ref d]=[some (.ref d),none,none,none,none,none,none] from rfl]
 refine ax fun N hN=>?_
 simp only[au,aE,ar,ae,v3,lk,c3]
 refine Jh D fun x y S1 hc D1 O1=>?_
 simp only[List.set_cons_succ,List.set_cons_zero]
 rw[show PV.tup [.tup [],.tup [.tup [.str "a",.tup [.str "pay",.tup [.int x,.int y]]]]]=Hw [] [("a",.pay x y)] from rfl]
 refine hN _ _ (ax fun N hN=>?_)
 simp only[au,aj,ae,ar,v3,lk,c3]
 refine GD D1 (by decide) (by decide) fun f S2 f0 f1 D2 O2=>?_
 simp only[aM,List.set_cons_succ,List.set_cons_zero]
 refine hN _ _ (ax fun N hN=>?_)
 simp only[au,aj,ae,ar,v3,lk,c3]
 refine GD D2 (by decide) (by decide) fun g S3 g0 g1 D3 O3=>?_
 simp only[aM,ba,bS,List.set_cons_succ,List.set_cons_zero]
 refine hN _ _ (ax fun N hN=>?_)
 simp only[au,aE,ar,v3,lk,c3,List.set_cons_succ,List.set_cons_zero]
 have RP:kq [("a",.pay x y)] 0 (.tup [.str "do",.int 0,.tup []]):=.LF (i:=0) (k:=1) (z:="a") (t:=.pay x y) rfl rfl rfl (.tup (by decide) (by simp))
 have pa:∀m:Int,1≤m→m≤2 ^ 60→kq [("a",.pay x y)] 1 (.tup [.str "again",.int m,.tup [.tup [.str "do",.int 0,.tup []]]]):=fun m h1 h2=>.MX h1 h2 (by simp) fun v hv=>by rw[List.mem_singleton.mp hv];exact RP
 have hA:sI 1 [] [("a",.pay x y)] [] [.tup [.str "again",.int (1+f),.tup [.tup [.str "do",.int 0,.tup []]]],.tup [.str "again",.int (2000+g - (1+f)),.tup [.tup [.str "do",.int 0,.tup []]]]]:=by
  refine⟨.nil,by decide,by simp,fun p hp=>?_,by simp,fun v hv=>?_,rfl,by simp⟩
  ·rw[List.mem_singleton.mp hp];exact⟨hc,show 1≤6 by decide⟩
  ·simp only[List.mem_cons,List.not_mem_nil,or_false]at hv
   rcases hv with rfl|rfl
   ·exact pa _ (by omega) (by omega)
   ·exact pa _ (by omega) (by omega)
 generalize [PV.tup [.str "again",.int (1+f),.tup [.tup [.str "do",.int 0,.tup []]]],.tup [.str "again",.int (2000+g - (1+f)),.tup [.tup [.str "do",.int 0,.tup []]]]]=vs at hA
 refine hN _ _ (ax fun N hN=>?_)
 simp only[au,ae,aE,ar,v3,lk]
 refine Ha (cs:=[]) (.inl rfl) fun a pj pd S4 ha L7 Je g4 X4=>?_
 have D4:=D3.ext X4
 have fr:∀q,S3 q=none→q≠d∧q≠l:=fun q h=>D3.free h
 simp only[List.set_cons_succ,List.set_cons_zero]
 refine hN _ _ (ax fun N hN=>?_)
 simp only[aI,ae,ar,v3,lk,c3]
 refine JW (lim:=2000) (rG 2000 g4) (om 2001 hA.cl fun c hc=>(hA.LL c hc).1) (by decide) hA.jn hA.dg hA.vp fun S5 A5 O5=>?_
 have D5:GF S5 d l:=by
  obtain⟨seed,number,left,Da⟩:=D4
  exact⟨seed,number,left,O5 _ _ Da.d (fr a ha).1.symm (fr pj L7).1.symm (fr pd Je).1.symm,O5 _ _ Da.l (fr a ha).2.symm (fr pj L7).2.symm (fr pd Je).2.symm,Da.s0,Da.s1,Da.nm,Da.lf,Da.ln⟩
 refine hN _ _ (ax fun N hN=>?_)
 simp only[bM,bg,aE,ar,c3,fE]
 refine bE (fun done σ S'=>∃(x1 x2 x3 x6:Option PV),σ=[some (.ref d),some (Hw [] [("a",.pay x y)]),x2,x3,some (.tup vs),some (.ref a),x6]∧Ext S5 S') ⟨none,_,_,_,rfl,.refl⟩ (fun _ _ _ _=>trivial) ?_ ?_
 ·rintro done u rest σ S6 K e ⟨_,x2,x3,x6,rfl,X6⟩ hK
  obtain⟨m,rfl,hm⟩:∃m:Nat,u = .int m∧m≤2000:=by
   have e':[PV.int 2000,.int 1999]=done++u::rest:=e
   have hu:u∈[PV.int 2000,.int 1999]:=by rw[e'];simp
   simp only[List.mem_cons,List.not_mem_nil,or_false]at hu
   rcases hu with rfl|rfl
   ·exact⟨2000,rfl,by decide⟩
   ·exact⟨1999,rfl,by decide⟩
  have A6:=Jl.x A5 X6
  simp only[Tg.put,List.set_cons_succ,List.set_cons_zero]
  simp only[bp,aJ,aj,ao,ae,aE,ar,v3,lk,c3]
  refine qd (cs:=[]) Ih hA (lim:=2000) (by decide) hm (Jl.N4 A6) fun u S7 X7 hu hs=>?_
  refine oG hs hu ?_
  have A7:=Jl.x A6 X7
  refine Jw A7 ?_
  refine oG (xq hA (by decide) hm A7) (p_ _ _ _) ?_
  simp only[bt,decide_true,Bool.true_bne,Bool.not_true,Bool.false_eq_true,if_false,aS]
  exact hK _ _ ⟨none,_,_,_,rfl,X6.trans X7⟩
 ·rintro σ S6 ⟨_,x2,x3,x6,rfl,X6⟩
  refine hN _ _ ?_
  simp only[aG,c3]
  exact k S6 (D5.ext X6)
abbrev zA(w:aF):Prop:=∀{ns:List Int} {S:av} {Q:bN} {E:bO},ns.length≤63→(∀S',Q (.bl true) S')→w [.cl (ns.map PV.int)] S Q E
theorem Ck{x0 x1 x2 x3 x4 x5 x6 x7 x8 x9:aF}(Kh:pG x0)(GD:bq x1)(JX:jX x2)(KL:nT x3)(Mq:gy 4 x4)(Ko:pS 3 x5)(Ha:gT x6)(JW:eL 3 x7)(Ih:gJ 3 x8)(Jw:oF x9):zA (bi 12 (xl x0 x1 x2 x3 x4 x5 x6 x7 x8 x9)):=by
 intro ns S Q E hns k
 unfold xl
 refine fL ?_
 rw[show aB 12 [PV.cl (ns.map PV.int)]=[some (.cl (ns.map PV.int)),none,none,none,none,none,none,none,none,none,none,none] from rfl]
 refine ax fun N hN=>?_
 simp only[au,ae,ar,v3,lk,c3]
 refine Kh hns (by decide) (by decide) fun d l S1 _ _ D1 _=>?_
 simp only[List.set_cons_succ,List.set_cons_zero]
 refine hN _ _ (ax fun N hN=>?_)
 have rest:∀S2,GF S2 d l→N [some (.cl (ns.map PV.int)),some (.ref d),none,none,none,none,none,none,none,none,none,none] S2:=by
  intro S2 D2
  refine hN _ _ (ax fun N hN=>?_)
  simp only[bM,cM,c3]
  refine⟨by decide,by decide,?_⟩
  refine bE (fun done σ S'=>∃(y2 y3 y4 y5 y6 y7 y8 y9 N5 N6:Option PV),σ=[some (.cl (ns.map PV.int)),some (.ref d),y2,y3,y4,y5,y6,y7,y8,y9,N5,N6]∧GF S' d l) ⟨_,_,_,_,_,_,_,_,_,_,rfl,D2⟩ (fun _ _ _ _=>trivial) ?_ ?_
  ·rintro done u rest σ S3 K e ⟨y2,y3,y4,y5,y6,y7,y8,y9,N5,N6,rfl,D3⟩ hK
   simp only[Tg.put,List.set_cons_succ,List.set_cons_zero]
   refine ax fun N2 ID=>?_
   simp only[au,ae,ar,v3,lk]
   refine KL D3 fun js ds S4 ho hd1 RQ QJ D4 O4=>?_
   have hdg:∀p∈ds,p.2.good js []∧p.2.dep≤6:=fun p hp=>⟨ho.gd p hp,ho.dq p hp⟩
   simp only[List.set_cons_succ,List.set_cons_zero]
   refine ID _ _ (ax fun N2 ID=>?_)
   simp only[au,aj,bb,ae,ar,v3,lk,c3,iL,dQ]
   refine⟨⟨by decide,by decide,by decide⟩,?_⟩
   rw[show((10:Int) ^ Int.toNat 6)=1000000 from rfl]
   intro pq hpq
   have dpq:=D4.free hpq
   refine GD (D4.new hpq) (by decide) (by decide) fun q S5 q0 q1 D5 O5=>?_
   have p5:=O5 _ _ (aa (S:=S4) (a:=pq)) dpq.1 dpq.2
   simp only[ad,p5]
   obtain⟨wl,L4,KK⟩:=cY (xs:=[PV.int 3,.int 3,.int 1000000]) q0 (by simpa using q1)
   rw[L4]
   obtain⟨wide,rfl,w1,w2⟩:∃wide:Int,wl = .int wide∧1≤wide∧wide≤2 ^ 60:=by
    simp only[List.mem_cons,List.not_mem_nil,or_false]at KK
    rcases KK with rfl|rfl|rfl
    ·exact⟨3,rfl,by decide,by decide⟩
    ·exact⟨3,rfl,by decide,by decide⟩
    ·exact⟨1000000,rfl,by decide,by decide⟩
   dsimp only
   simp only[List.set_cons_succ,List.set_cons_zero]
   refine ID _ _ (ax fun N2 ID=>?_)
   simp only[au,ae,ar,bb,v3,lk,c3]
   intro px hpx
   have QK:=D5.free hpx
   refine Mq (D5.new hpx) aa QK.1 QK.2 hd1 RQ (fun p hp=>⟨ho.dq p hp,ho.sz p hp⟩) (by decide) (by decide) w1 w2 fun P1 S6 lf PM PN _ _ _ D6 _ O6=>?_
   simp only[List.set_cons_succ,List.set_cons_zero]
   refine ID _ _ (ax fun N2 ID=>?_)
   have after:∀(vs:List PV) S7,vs.length≤3→(∀v∈vs,kq ds 3 v)→GF S7 d l→N2 [some (.cl (ns.map PV.int)),some (.ref d),some u,some (Hw js ds),some (.int wide),some (.tup vs),y6,y7,y8,y9,N5,N6] S7:=by
    intro vs S7 hvl PP D7
    refine ID _ _ (ax fun N2 ID=>?_)
    rw[show Hw js ds = .tup [gx js,.tup (ds.map mM)] from rfl]
    simp only[au,ao,ar,bh,bg,aj,v3,lk,c3,ad,eN,gx,fE]
    refine iO (fun done ys S'=>∃cs:List Int,ys=cs.map PV.int∧cs.length=done.length∧done.length≤js.length∧(∀c∈cs,0≤c∧c≤10 ^ 9)∧GF S' d l) ⟨[],rfl,rfl,Nat.zero_le _,by simp,D7⟩ ?_ ?_ ?_
    ·rintro done ys S' ⟨cs,rfl,e,hd,_⟩
     exact⟨trivial,cL (by rw[List.length_map,e];omega)⟩
    ·rintro done x rest ys S8 K e ⟨cs,rfl,e2,hd,hc,D8⟩ hK
     have hdl:done.length+1≤js.length:=by have:=congrArg List.length e;simp at this;omega
     simp only[ko,List.replicate_succ,List.replicate_zero,List.map_cons,List.map_nil,List.cons_append,List.nil_append,lk,Tg.put,List.set_cons_zero,cO,if_true]
     simp only[aj,ad,bb,ae,ar,v3,lk,c3,iL,dQ]
     refine GD D8 (by decide) (by decide) fun a S9 a0 a1 D9 O9=>?_
     refine GD D9 (by decide) (by decide) fun b Sa b0 b1 Da Oa=>?_
     refine⟨⟨by decide,by decide,by decide⟩,?_⟩
     rw[show((10:Int) ^ Int.toNat 9)=1000000000 from rfl]
     intro p hp
     have dp:=Da.free hp
     refine GD (Da.new hp) (by decide) (by decide) fun w Sb w0 w1 Db Ob=>?_
     have fb:=Ob _ _ (aa (S:=Sa) (a:=p)) dp.1 dp.2
     simp only[fb]
     obtain⟨c,hc2,QL⟩:=cY (xs:=[PV.int a,.int b,.int 1000000000]) w0 (by simpa using w1)
     rw[hc2]
     obtain⟨cc,rfl,q0,q1⟩:∃cc,c = .int cc∧0≤cc∧cc≤10 ^ 9:=by
      simp only[List.mem_cons,List.not_mem_nil,or_false]at QL
      rcases QL with rfl|rfl|rfl
      ·exact⟨a,rfl,a0,by omega⟩
      ·exact⟨b,rfl,b0,by omega⟩
      ·exact⟨_,rfl,by omega,by omega⟩
     dsimp only
     refine hK _ _ ⟨cs++[cc],by simp,by simp[e2],by rw[List.length_append];exact hdl,fun y hy=>?_,Db⟩
     rcases List.mem_append.mp hy with hy|hy
     ·exact hc y hy
     ·rw[List.mem_singleton.mp hy];exact⟨q0,q1⟩
    ·rintro ys S8 ⟨Ov,rfl,e2,hd,hc1,D8⟩
     have PQ:Ov.length=js.length:=by rw[e2,List.length_map]
     intro p hp
     simp only[aU,kn,aa,List.set_cons_succ,List.set_cons_zero]
     have D9:GF (GE S8 p (.lst (Ov.map PV.int))) d l:=D8.new hp
     generalize GE S8 p (.lst (Ov.map PV.int))=S9 at D9
     refine ID _ _ (ax fun N2 ID=>?_)
     simp only[au,aj,bb,ao,ar,v3,lk,c3,kB,bS,dU]
     intro pl hpl
     simp only[ad,aa]
     obtain⟨lim,hlim,hl1,hl2⟩:∃lim:Nat,Hv [PV.int 2000,.int 60] (if decide (3 < wide)=true then 1 else 0)=some (.int lim)∧1≤lim∧lim≤2000:=by
      by_cases hg:3 < wide
      ·rw[decide_eq_true hg];exact⟨60,rfl,by decide,by decide⟩
      ·rw[decide_eq_false hg];exact⟨2000,rfl,by decide,by decide⟩
     rw[hlim]
     dsimp only
     simp only[List.set_cons_succ,List.set_cons_zero]
     have Da:GF (GE S9 pl (.lst [.int 2000,.int 60])) d l:=D9.new hpl
     generalize GE S9 pl (.lst [.int 2000,.int 60])=Sa at Da
     refine ID _ _ (ax fun N2 ID=>?_)
     have last:∀(cs:List Int) Sb,cs.length=js.length→(∀c∈cs,0≤c∧c≤10 ^ 9)→GF Sb d l→N2 [some (.cl (ns.map PV.int)),some (.ref d),some u,some (.tup [.tup (js.map PV.str),.tup (ds.map mM)]),some (.int wide),some (.tup vs),some (.tup (cs.map PV.int)),some (.int lim),y8,y9,N5,N6] Sb:=by
      intro cs Sb hcl hc Db
      have hA:sI 3 js ds cs vs:=⟨ho.jn,QJ,by omega,hdg,hvl,PP,hcl,hc⟩
      refine ID _ _ (ax fun N2 ID=>?_)
      simp only[au,ae,ar,v3,lk]
      refine Ha (js:=js) (ds:=ds) (cs:=cs) (.inl rfl) fun a pj pd Sc ha L7 Je gc Xc=>?_
      have Dc:=Db.ext Xc
      have fr:∀q,Sb q=none→q≠d∧q≠l:=fun q h=>Db.free h
      simp only[List.set_cons_succ,List.set_cons_zero]
      refine ID _ _ (ax fun N2 ID=>?_)
      simp only[aI,ae,ar,v3,lk]
      refine JW (js:=js) (ds:=ds) (lim:=lim) (rG lim gc) (om (lim+1) hcl fun c hc'=>(hc c hc').1) hl2 ho.jn hdg PP fun Sd Ad Od=>?_
      have Dd:GF Sd d l:=by
       obtain⟨seed,number,left,Da⟩:=Dc
       exact⟨seed,number,left,Od _ _ Da.d (fr a ha).1.symm (fr pj L7).1.symm (fr pd Je).1.symm,Od _ _ Da.l (fr a ha).2.symm (fr pj L7).2.symm (fr pd Je).2.symm,Da.s0,Da.s1,Da.nm,Da.lf,Da.ln⟩
      obtain⟨c2,st2,da,_,dd⟩:=Jl.dn Ad
      refine ID _ _ (ax fun N2 ID=>?_)
      simp only[au,aj,v3,lk,c3,ad,cr,da,oj,List.set_cons_succ,List.set_cons_zero]
      refine ID _ _ ?_
      simp only[bM,bg,bb,ar,aj,ae,v3,lk,c3,ba,bS,aM]
      refine GD Dd (by omega) (by omega) fun r1 Se _ _ De Oe=>?_
      have Ae:Jl Se a pj pd js lim (cA (lim+1) js ds 3 vs (w0 cs)):=by
       obtain⟨u,g,r⟩:=Ad
       exact⟨u,⟨Oe _ _ g.d (fr a ha).1 (fr a ha).2,Oe _ _ g.j (fr pj L7).1 (fr pj L7).2,Oe _ _ g.r (fr pd Je).1 (fr pd Je).2,g.ne⟩,r⟩
      intro ps hps
      obtain⟨L,hL⟩:∃L,(cA (lim+1) js ds 3 vs (w0 cs)).rows.length=L:=⟨_,rfl⟩
      rw[hL]
      have Xf:Ext Se (GE Se ps (.lst [.int L,.int (L - 1),.int (L+1),.int (1+r1),.int L])):=.new hps
      have Af:=Jl.x Ae Xf
      have Df:=De.ext Xf
      have ff:(GE Se ps (.lst [.int L,.int (L - 1),.int (L+1),.int (1+r1),.int L])) ps=some (.lst (([(L:Int),L - 1,L+1,1+r1,L]:List Int).map PV.int)):=aa
      generalize GE Se ps (.lst [.int L,.int (L - 1),.int (L+1),.int (1+r1),.int L])=Sf at Af Df ff
      generalize ([(L:Int),L - 1,L+1,1+r1,L]:List Int)=ms at ff
      simp only[fE,ff]
      refine bE (fun dn σ S'=>∃(NU PR:Option PV),σ=[some (.cl (ns.map PV.int)),some (.ref d),some u,some (.tup [.tup (js.map PV.str),.tup (ds.map mM)]),some (.int wide),some (.tup vs),some (.tup (cs.map PV.int)),some (.int lim),some (.ref a),some (.int L),NU,PR]∧Ext Sf S') ⟨_,_,rfl,.refl⟩ (fun _ _ _ ⟨_,_,_,x⟩=>x _ _ ff) ?_ ?_
      ·rintro dn m rs σ Sg K2 e3 ⟨NU,PR,rfl,Xg⟩ L6
       obtain⟨mi,rfl⟩:∃mi,m = .int mi:=by
        have e':ms.map PV.int=dn++m::rs:=e3
        have:m∈ms.map PV.int:=by rw[e'];simp
        obtain⟨mi,_,rfl⟩:=List.mem_map.mp this
        exact⟨mi,rfl⟩
       simp only[Tg.put,List.set_cons_succ,List.set_cons_zero]
       have Ag:=Jl.x Af Xg
       simp only[bp,aJ,nB,aj,v3,lk,c3,nA,xI,bS]
       split
       ·rename_i hp0
        have hp0:=of_decide_eq_true hp0
        split
        ·rename_i hp1
         have hp1:=of_decide_eq_true hp1
         obtain⟨m,rfl⟩:=Int.eq_ofNat_of_zero_le (show 0≤mi by omega)
         have hm:m≤lim:=by omega
         refine ax fun N3 LZ=>?_
         simp only[au,ae,ar,v3,lk]
         refine qd (js:=js) (ds:=ds) Ih hA hl2 hm (Jl.N4 Ag) fun u2 Sh' Xh hu hs=>?_
         have Ah:=Jl.x Ag Xh
         simp only[List.set_cons_succ,List.set_cons_zero]
         refine LZ _ _ ?_
         simp only[bp,aJ,aj,ao,ae,ar,v3,lk]
         refine oG hs hu ?_
         refine Jw Ah ?_
         refine oG (xq hA hl2 hm Ah) (p_ _ _ _) ?_
         simp only[bt,decide_true,Bool.true_bne,Bool.not_true,Bool.false_eq_true,if_false,aS]
         exact L6 _ _ ⟨_,_,rfl,Xg.trans Xh⟩
        ·exact L6 _ _ ⟨_,_,rfl,Xg⟩
       ·rw[if_neg (by decide)]
        exact L6 _ _ ⟨_,_,rfl,Xg⟩
      ·rintro σ Sg ⟨NU,PR,rfl,Xg⟩
       exact hK _ _ ⟨_,_,_,_,_,_,_,_,_,_,rfl,Df.ext Xg⟩
     simp only[bp,aJ,aj,ae,ar,v3,lk,c3]
     refine GD Da (by decide) (by decide) fun r Sb r0 r1 Db Ob=>?_
     simp only[bt,Bool.false_bne,decide_eq_true_eq]
     split
     ·simp only[au,ae,ar,v3,lk]
      refine Ko (js:=js) (ds:=ds) Db ho.jn QJ (by omega) hdg PP hl2 fun cs Sc hcl hc Dc=>?_
      simp only[List.set_cons_succ,List.set_cons_zero]
      exact last cs Sc hcl hc Dc
     ·exact last Ov Sb PQ hc1 Db
   simp only[bp,aJ,aj,ae,ar,v3,lk,c3]
   refine GD D6 (by decide) (by decide) fun r S7 r0 r1 D7 O7=>?_
   simp only[bt,Bool.false_bne,decide_eq_true_eq]
   split
   ·simp only[au,aE,ar,List.set_cons_succ,List.set_cons_zero]
    exact after [] S7 (by simp) (by simp) D7
   ·exact after P1 S7 PM PN D7
  ·rintro σ S3 ⟨y2,y3,y4,y5,y6,y7,y8,y9,N5,N6,rfl,D3⟩
   refine hN _ _ ?_
   simp only[aG,c3]
   exact k S3
 simp only[bp,b_,dL,aJ,aj,ae,ar,v3,lk,c3]
 refine GD D1 (by decide) (by decide) fun r S2 r0 r1 D2 O2=>?_
 simp only[bt,Bool.false_bne,decide_eq_true_eq]
 split
 ·refine JX D2 fun S3 D3=>?_
  simp only[Bool.not_true,Bool.false_eq_true,if_false,aS]
  exact rest S3 D3
 ·simp only[Bool.false_eq_true,if_false,aS]
  exact rest S2 D2
theorem dJ:bq w__law_draw:=GD
theorem Ab:kC fw:=JR
theorem sJ:gQ cZ:=IC dJ
theorem xv:iP d4:=Jh dJ Ab
theorem xx:iQ d6:=IN dJ xv
theorem rL:∀n,gv n (d8 n)
 |0=>fun _ _ _ _ _ _ _ h0 h1 _=>by omega
 |n+1=>Jj dJ xx n (rL n)
theorem qe:∀n,cG n (bK n)
 |0=>fun h _ _=>absurd h (by have:=Bd.HJ;exact Nat.not_le.mpr (this _))
 |n+1=>tY n (qe n)
theorem qg:cG 12 bL:=qe 12
theorem qh:∀n,n≤12→fi n (bF n)
 |0,_=>fun h _ _=>absurd h (by have:=Bd.HJ;exact Nat.not_le.mpr (this _))
 |n+1,hn=>tZ n 12 qg (qh n (by omega)) (by omega)
theorem FF:fj cJ:=nO 12 (by decide) (rL 12) qg (qh 12 (by decide)) xx
theorem zB:ir fy:=t9 sJ dJ FF
theorem Eg:nT cK:=KL dJ zB sJ 12 (by decide) (rL 12)
theorem xy:∀n,iV n (b4 n)
 |0=>fun _ _ _ _ _ _ _ h _=>absurd h (by have:=Bd.HJ;exact Nat.not_le.mpr (this _))
 |n+1=>zj dJ n (xy n)
theorem xz:dA oq:=Ig (IP IO)
theorem zC:jJ ot:=JS (IP IO)
theorem qi:fm eM:=Hy Ib xz
theorem zD:jL kF:=JT Kk zC
theorem xA:iw bZ:=Ju Hi
theorem Ac:∀n,iW ((n+1) / 2) (iz n)∧lH (n / 2) (cI n)
 |0=>⟨fun _ _ _ _ h _=>absurd h (by have:=Bd.HJ;exact Nat.not_le.mpr (this _)),fun _ _ _ _ h _=>absurd h (by have:=Bd.HJ;exact Nat.not_le.mpr (this _))⟩
 |n+1=>by
  obtain⟨a,b⟩:=Ac n
  refine⟨?_,?_⟩
  ·rw[show(n+1+1) / 2=n / 2+1 by omega]
   exact fun{S js us t v Q E} h1 h2 h3 h4 h5 h6=>KM IQ Hi qi Js xA (n / 2) b (fun g1 g2 g3 g4 g5 g6=>a g1 g2 g3 g4 (Nat.le_trans g5 (by omega)) g6) (S:=S) (js:=js) (us:=us) (t:=t) (v:=v) (Q:=Q) (E:=E) h1 h2 h3 h4 h5 h6
  ·exact fun{S js us t v Q E} h1 h2 h3 h4 h5 h6=>ue (s0:=cI n) IQ qi zD ((n+1) / 2) a (S:=S) (js:=js) (us:=us) (a:=t) (v:=v) (Q:=Q) (E:=E) h1 h2 h3 h4 h5 h6
theorem zE:jM ow:=JU (Ac 12).1
theorem zF:dA gC:=wF Ab
theorem xB:∀n,dC n (d9 n)
 |0=>fun _ _ _ _ h=>absurd h (by have:=Bd.HJ;exact Nat.not_le.mpr (this _))
 |n+1=>Kl zF n (xB n)
theorem zG{a b:Nat}{x:aF}(h:a≤b)(s:dC b x):dC a x:=fun h1 h2 h3 h4 h5=>s h1 h2 h3 h4 (Nat.le_trans h5 h)
theorem Cl:dC 6 gE:=zG (by decide) (xB 12)
theorem oH:∀f n,n < f→eL n (fz f)
 |0,_,h=>absurd h (by omega)
 |f+1,n,h=>zv Cl n fun k hk=>oH f k (by omega)
theorem xC:∀f n,n < f→i6 n (cz f)
 |0,_,h=>absurd h (by omega)
 |f+1,n,h=>Km zE n fun k hk=>xC f k (by omega)
theorem FG:jR fv:=wW Ib xz
theorem sK:∀f n,n < f→i9 n (oy f)
 |0,_,h=>absurd h (by omega)
 |f+1,n,h=>Kn FG n fun k hk=>sK f k (by omega)
theorem Eh(n:Nat)(h:n < 12):on n rK:=KP n wY (sK 12 n h) (xC 12 n h)
theorem xD(n:Nat)(h:n < 12):gJ n ed:=Ih n (Eh n h)
theorem xE:∀n,gy n (d_ n)
 |0=>fun _ _ _ _ _ _ _ h0 h1=>absurd h1 (by omega)
 |n+1=>wX dJ (xy 12) n (xE n)
theorem Cm:gy 4 gF:=fun h1 h2 h3 h4 h5 h6 h7 h8 h9=>xE 12 h1 h2 h3 h4 h5 h6 h7 h8 (by omega)
theorem zH:jX cV:=JX xv dJ Ha (oH 12 1 (by decide)) (xD 1 (by decide)) Jw
theorem xF:∀ns:List Int,ns.length≤63→pY [.cl (ns.map PV.int)] (fun _=>none) (fun v _=>v = .bl true) gX:=fun ns h=>Ck Kh dJ zH Eg Cm (Ko 3 Ha (oH 12 3 (by decide)) dJ) Ha (oH 12 3 (by decide)) (xD 3 (by decide)) Jw h fun _=>rfl
end G23
namespace L3
open PySem L2 Xc
theorem Cn{P:List Value→Prop}(h:∀a,P [a])(us:List Value)(hl:us.length=1):P us:=match us,hl with|[_],_=>h _
theorem JI{P:List Value→Prop}(h:∀a b,P [a,b])(us:List Value)(hl:us.length=2):P us:=match us,hl with|[_,_],_=>h _ _
theorem Co{P:List Value→Prop}(h:∀a b c,P [a,b,c])(us:List Value)(hl:us.length=3):P us:=match us,hl with|[_,_,_],_=>h _ _ _
theorem Ai{P:List Value→Prop}(h:∀a b c d,P [a,b,c,d])(us:List Value)(hl:us.length=4):P us:=match us,hl with|[_,_,_,_],_=>h _ _ _ _
theorem Gn{P:List Value→Prop}(h:∀a b c d e,P [a,b,c,d,e])(us:List Value)(hl:us.length=5):P us:=match us,hl with|[_,_,_,_,_],_=>h _ _ _ _ _
section
variable {K:PySem.W.Frag} {h:Heap} {mg:Str→Option Value} {x c m q:Str} {st:Stmt} {ps fl:List Str}
noncomputable def qj:Option (Option Value)→Bool
 |some none=>true
 |_=>false
theorem oI{o:Option (Option Value)}(h:qj o=true):o=some none:=by
 unfold qj at h;split at h
 ·rfl
 ·cases h
def FnAt(K:PySem.W.Frag)(f:Addr)(m q:Str)(st:Stmt):Prop:=∃(oc kV doc pm cdv ct:Value) (od an:Option Addr) (osl:Array (Option Value)),
 K.lookup f=some ⟨oc,od,.func (PySem.W.fnOf m q (cj st) (aW st) (az st) .none kV doc pm an cdv ct),osl⟩∧PySem.W.codeIn K cdv q=true∧PySem.W.keepIn K (.ref f)=true
abbrev qk(m q:Str)(st:Stmt)(ps:List Str):Prop:=∀(kV doc pm:Value) (an:Option Addr) (cdv ct:Value) (us:List Value),us.length=ps.length→bindArgs (PySem.W.fnOf m q (cj st) (aW st) (az st) .none kV doc pm an cdv ct) ⟨us,[]⟩=pure (ps.zip us)
theorem FnAt.mk{f:Addr}(a:FnAt K f m q st)(hb:qk m q st ps):∃fd,Lo K m q st f fd∧Binds K fd ps []∧PySem.W.keepIn K (.ref f)=true:=by
 obtain⟨oc,kV,doc,pm,cdv,ct,od,an,osl,l,cc,k⟩:=a
 exact⟨_,m8 l cc k,(m8 l cc k).binds hb,k⟩
def HG(K:PySem.W.Frag)(x:Str)(st:Stmt):Prop:=∃f,PySem.W.nsIn K mainGlobals x=some (some (.ref f))∧FnAt K f x x st
theorem HG.own(X:K.In h)(G:h.Ns mainGlobals mg)(a:HG K x st)(hb:qk x x st ps):bd K mg x st ps:=by
 obtain⟨f,n,a⟩:=a
 obtain⟨fd,F,b,k⟩:=a.mk hb
 exact⟨f,fd,F,b,k,PySem.W.mg_of X G n⟩
theorem HG.law{fa:Addr}(X:K.In h)(G:h.Ns mainGlobals mg)(a:HG K x st)(hfa:mg x=some (.ref fa))(hb:qk x x st ps):∃kV doc pm an cdv ct,Ex K mg x st ps fa (PySem.W.fnOf x x (cj st) (aW st) (az st) .none kV doc pm an cdv ct):=by
 obtain⟨f,n,oc,kV,doc,pm,cdv,ct,od,an,osl,l,cc,k⟩:=a
 cases hfa.symm.trans (PySem.W.mg_of X G n)
 exact⟨kV,doc,pm,an,cdv,ct,m8 l cc k,(m8 l cc k).binds hb,k,hfa⟩
structure Go (K:PySem.W.Frag) (C:Addr):Prop where
 a:PySem.W.plainGet K C Str.empty=true
 b:PySem.W.hasDictIn K C=true
 c:PySem.W.plainOver K C=true
 d:PySem.W.findIn K (.ref C) "__setattr__" = some (some (.builtin "object.__setattr__"))
def Ow(K:PySem.W.Frag)(c:Str)(fl:List Str):Prop:=∃C,PySem.W.nsIn K mainGlobals c=some (some (.ref C))∧PySem.W.findIn K (.ref C) "__setattr__" = some (some (.builtin "object.__setattr__"))∧PySem.W.keepIn K (.ref C)=true∧
 (PySem.W.plainGet K C Str.empty&&PySem.W.hasDictIn K C&&PySem.W.plainOver K C&&PySem.W.makesIn K C&&fl.all fun f=>qj (PySem.W.findIn K (.ref C) f))=true
theorem Ow.cl(X:K.In h)(G:h.Ns mainGlobals mg)(a:Ow K c fl):Cw K mg c fl:=by
 obtain⟨C,n,s,k,r⟩:=a
 simp only[Bool.and_eq_true,List.all_eq_true]at r
 obtain⟨⟨⟨⟨r1,r2⟩,r3⟩,r4⟩,r5⟩:=r
 exact⟨C,n,PySem.W.mg_of X G n,⟨r1,r2,r3,s⟩,r4,k,fun f hf=>oI (r5 f hf)⟩
def N7(K:PySem.W.Frag)(c m q:Str)(st:Stmt):Prop:=∃C f,PySem.W.nsIn K mainGlobals c=some (some (.ref C))∧PySem.W.findIn K (.ref C) m=some (some (.ref f))∧PySem.W.isFn K (.ref f)=true∧FnAt K f m q st
theorem N7.own(a:N7 K c m q st)(k:Cw K mg c fl)(hb:qk m q st ps):wf K c m q st ps:=by
 obtain⟨C,f,n,e,i,a⟩:=a
 obtain⟨fd,F,b,kp⟩:=a.mk hb
 obtain⟨C',n',_,cl,_⟩:=k.ex
 cases G1.inj (c:=c) n n'
 exact⟨C,f,fd,n,cl,⟨e,i,kp⟩,F,b⟩
def Mr(K:PySem.W.Frag)(c q:Str)(st:Stmt)(fl:List Str):Prop:=∃C f,PySem.W.nsIn K mainGlobals c=some (some (.ref C))∧PySem.W.findIn K (.ref C) "__init__" = some (some (.ref f))∧PySem.W.isFn K (.ref f)=true∧FnAt K f "__init__" q st∧PySem.W.keepIn K (.ref C)=true∧
 PySem.W.findIn K (.ref C) "__setattr__" = some (some (.builtin "object.__setattr__"))∧PySem.W.findIn K (.ref C) "__getattribute__" = some (some (.builtin "BaseException.__getattribute__"))∧PySem.W.findIn K (.ref C) "__getattr__" = some none∧
 PySem.W.mroIn K C (.type "BaseException")=some true∧PySem.W.mroIn K C (.type "object")=some true∧PySem.W.findIn K (.ref C) "__class__" = some (some (.builtin "object.__class__"))∧
 PySem.W.specialIn K (.builtin "object.__class__") "__get__" = some (some (.builtin "getset_descriptor.__get__"))∧PySem.W.takesIn K (.builtin "object.__class__")=some true∧
 (j5 K C&&(PySem.W.kitOne K (.ref C) (.type "ValueError") == some true)&&fl.all fun f=>qj (PySem.W.findIn K (.ref C) f))=true
theorem Mr.ek(a:Mr K c q st fl):∃C,G1 K c C∧ExcK K C∧PySem.W.kitOne K (.ref C) (.type "ValueError")=some true∧∀f∈fl,NoAttr K C f:=by
 obtain⟨C,f,n,i1,i2,i3,i4,e1,e2,e3,e4,e5,e6,e7,e8,r⟩:=a
 simp only[Bool.and_eq_true,List.all_eq_true]at r
 obtain⟨⟨r1,r2⟩,r3⟩:=r
 exact⟨C,n,⟨r1,e1,e2,e3,e4,e5,e6,e7,e8⟩,eq_of_beq r2,fun f hf=>oI (r3 f hf)⟩
theorem Mr.xc(X:K.In h)(G:h.Ns mainGlobals mg)(a:Mr K c q st fl)(hb:qk "__init__" q st ps):EA K mg c q st ps fl:=by
 obtain⟨C',n',ek,_,na⟩:=a.ek
 obtain⟨C,f,n,i1,i2,i3,i4,_⟩:=a
 have e:=G1.inj (c:=c) n' n;subst e
 obtain⟨fd,F,b,kp⟩:=i3.mk hb
 exact⟨_,f,fd,F,b,n,PySem.W.mg_of X G n,ek,na,i1,i2,i4⟩
theorem qm(X:K.In h)(G:h.Ns mainGlobals mg)(a:∃C,PySem.W.nsIn K mainGlobals c=some (some (.ref C))):xJ K mg c:=let ⟨C,e⟩:=a;⟨C,PySem.W.mg_of X G e,e⟩
def Ox(K:PySem.W.Frag)(D:Str)(cs:List Str):Prop:=∃C,PySem.W.nsIn K mainGlobals D=some (some (.ref C))∧PySem.W.typeIn K (.ref C)=some (.type "type")∧PySem.W.hasDictIn K C=true∧PySem.W.mroIn K C (.type "BaseException")=some true∧
 (cs.all fun c=>match PySem.W.nsIn K mainGlobals c with|some (some (.ref B))=>PySem.W.mroIn K B (.ref C) == some true|_=>false)=true
theorem sL{C:Addr}:∀{cs:List Str},(cs.all fun c=>match PySem.W.nsIn K mainGlobals c with|some (some (.ref B))=>PySem.W.mroIn K B (.ref C) == some true|_=>false)=true→KJ K C cs
 |[],_=>trivial
 |d::cs,e=>by
  rw[List.all_cons,Bool.and_eq_true]at e
  obtain⟨e1,e2⟩:=e
  refine⟨?_,sL e2⟩
  split at e1
  ·rename_i B hB;exact⟨B,hB,eq_of_beq e1⟩
  ·cases e1
theorem Ox.xe(X:K.In h)(G:h.Ns mainGlobals mg){cs:List Str}(a:Ox K x cs):Ft K mg x cs:=by
 obtain⟨C,n,t,d,b,r⟩:=a
 exact⟨C,PySem.W.mg_of X G n,⟨t,(by obtain⟨cd,hc,_⟩:=PySem.W.any_some d;rw[hc];rfl),b⟩,sL r⟩
theorem xG{l:List (Str×Str)}(r:∀p∈l,∃q st fl,Mr K p.1 q st fl∧p.2∈fl):JP K l:=by
 induction l with
 |nil=>trivial
 |cons p l ih=>
  obtain⟨q,st,fl,a,hf⟩:=r p (by simp)
  obtain⟨C,n,ek,_,na⟩:=a.ek
  exact⟨⟨C,n,ek,na _ hf⟩,ih fun p' hp=>r p' (by simp[hp])⟩
def zI(K:PySem.W.Frag)(l:List (Str×Str×Bool)):Prop:=(l.all fun t=>match PySem.W.nsIn K mainGlobals t.1,PySem.W.nsIn K mainGlobals t.2.1 with|some (some (.ref C)),some (some (.ref D))=>PySem.W.kitOne K (.ref C) (.ref D) == some t.2.2|_,_=>false)=true
theorem zJ{l:List (Str×Str×Bool)}(e:zI K l)(r:∀p∈l,∃q st fl,Mr K p.1 q st fl):XTab K l:=by
 induction l with
 |nil=>trivial
 |cons p l ih=>
  unfold zI at e
  rw[List.all_cons,Bool.and_eq_true]at e
  obtain⟨e1,e2⟩:=e
  obtain⟨c,d,b⟩:=p
  refine⟨?_,ih e2 fun p' hp=>r p' (by simp[hp])⟩
  obtain⟨q,st,fl,a⟩:=r (c,d,b) (by simp)
  obtain⟨C',n',ek,kv,_⟩:=a.ek
  split at e1
  ·rename_i C D h1 h2
   have e:=G1.inj (c:=c) n' h1;subst e
   exact⟨_,D,h1,h2,ek,eq_of_beq e1,kv⟩
  ·cases e1
theorem ji(X:K.In h)(G:h.Ns mainGlobals mg){l:List Str}(a:(l.all fun x=>qj (PySem.W.nsIn K mainGlobals x))=true)(hx:x∈l:=by decide):mg x=none:=PySem.W.mg_none_of X G (oI (List.all_eq_true.mp a x hx))
section
variable {f C:Addr} {oc kV doc pm cdv ct:Value} {od an:Option Addr} {osl:Array (Option Value)}
theorem Gp(n:PySem.W.nsIn K mainGlobals x=some (some (.ref f)))(l:K.lookup f=some ⟨oc,od,.func (PySem.W.fnOf x x (cj st) (aW st) (az st) .none kV doc pm an cdv ct),osl⟩)(cc:PySem.W.codeIn K cdv x=true)(k:PySem.W.keepIn K (.ref f)=true):HG K x st:=⟨f,n,oc,kV,doc,pm,cdv,ct,od,an,osl,l,cc,k⟩
theorem Gq(n:PySem.W.nsIn K mainGlobals c=some (some (.ref C)))(e:PySem.W.findIn K (.ref C) m=some (some (.ref f)))(i:PySem.W.isFn K (.ref f)=true)(l:K.lookup f=some ⟨oc,od,.func (PySem.W.fnOf m q (cj st) (aW st) (az st) .none kV doc pm an cdv ct),osl⟩)(cc:PySem.W.codeIn K cdv q=true)(k:PySem.W.keepIn K (.ref f)=true):N7 K c m q st:=⟨C,f,n,e,i,oc,kV,doc,pm,cdv,ct,od,an,osl,l,cc,k⟩
theorem Gr(n:PySem.W.nsIn K mainGlobals c=some (some (.ref C)))(e:PySem.W.findIn K (.ref C) "__setattr__" = some (some (.builtin "object.__setattr__")))(k:PySem.W.keepIn K (.ref C)=true)
  (r:(PySem.W.plainGet K C Str.empty&&PySem.W.hasDictIn K C&&PySem.W.plainOver K C&&PySem.W.makesIn K C&&fl.all fun f=>qj (PySem.W.findIn K (.ref C) f))=true):Ow K c fl:=⟨C,n,e,k,r⟩
theorem Gs(n:PySem.W.nsIn K mainGlobals c=some (some (.ref C)))(e:PySem.W.findIn K (.ref C) "__init__" = some (some (.ref f)))(i:PySem.W.isFn K (.ref f)=true)(l:K.lookup f=some ⟨oc,od,.func (PySem.W.fnOf "__init__" q (cj st) (aW st) (az st) .none kV doc pm an cdv ct),osl⟩)(cc:PySem.W.codeIn K cdv q=true)(k:PySem.W.keepIn K (.ref f)=true)(kc:PySem.W.keepIn K (.ref C)=true)
  (e1:PySem.W.findIn K (.ref C) "__setattr__" = some (some (.builtin "object.__setattr__"))) (e2:PySem.W.findIn K (.ref C) "__getattribute__" = some (some (.builtin "BaseException.__getattribute__"))) (e3:PySem.W.findIn K (.ref C) "__getattr__" = some none)
  (e4:PySem.W.mroIn K C (.type "BaseException")=some true) (e5:PySem.W.mroIn K C (.type "object")=some true) (e6:PySem.W.findIn K (.ref C) "__class__" = some (some (.builtin "object.__class__")))
  (e7:PySem.W.specialIn K (.builtin "object.__class__") "__get__" = some (some (.builtin "getset_descriptor.__get__"))) (e8:PySem.W.takesIn K (.builtin "object.__class__")=some true)
  (r:(j5 K C&&(PySem.W.kitOne K (.ref C) (.type "ValueError") == some true)&&fl.all fun f=>qj (PySem.W.findIn K (.ref C) f))=true):Mr K c q st fl:=⟨C,f,n,e,i,⟨oc,kV,doc,pm,cdv,ct,od,an,osl,l,cc,k⟩,kc,e1,e2,e3,e4,e5,e6,e7,e8,r⟩
theorem Gu{cs:List Str}(n:PySem.W.nsIn K mainGlobals x=some (some (.ref C)))(t:PySem.W.typeIn K (.ref C)=some (.type "type"))(d:PySem.W.hasDictIn K C=true)(b:PySem.W.mroIn K C (.type "BaseException")=some true)
  (r:(cs.all fun c=>match PySem.W.nsIn K mainGlobals c with|some (some (.ref B))=>PySem.W.mroIn K B (.ref C) == some true|_=>false)=true):Ox K x cs:=⟨C,n,t,d,b,r⟩
theorem Aj(n:PySem.W.nsIn K mainGlobals x=some (some (.ref C))):∃C,PySem.W.nsIn K mainGlobals x=some (some (.ref C)):=⟨C,n⟩
end
end
section
variable {K:PySem.W.Frag} {h:Heap} {mg:Str→Option Value} {x:Str} {st:Stmt} {ps:List Str}
end
end L3
namespace G23
open PySem L2 L3
theorem Cp{l:PySem.W.OpenLaw}{w:World}{K:PySem.W.Frag}{h:Heap}{mg:Str→Option Value}{fa:Addr}(X:K.In h)(G:h.Ns mainGlobals mg)(hfa:mg "law" = some (.ref fa))
  (Ja:HG K "common" (bA 10))
  (Ii:HG K "fraction" (bA 11))
  (JY:HG K "plus" (bA 12))
  (Jx:HG K "times" (bA 13))
  (Jb:HG K "chosen" (bA 15))
  (HN:HG K "things_of" (bA 17))
  (Jy:HG K "added" (bA 18))
  (HB:HG K "multiplied" (bA 19))
  (Ij:HG K "no_tally" (bA 20))
  (Jc:HG K "behind" (bA 21))
  (Jz:HG K "again" (bA 22))
  (G5:HG K "tally_of_often" (bA 23))
  (Hc:HG K "tally_of_take" (bA 24))
  (Ik:HG K "tally_of" (bA 25))
  (JA:HG K "tally" (bA 26))
  (GW:N7 K "Telling" "__init__" "Telling.__init__" (mt 28 0))
  (HC:N7 K "Telling" "do" "Telling.do" (mt 28 1))
  (Hj:HG K "with_tallies" (bA 29))
  (JZ:HG K "tell" (bA 30))
  (J3:HG K "told" (bA 31))
  (HP:HG K "_law_deal" (bA 33))
  (HQ:HG K "_law_draw" (bA 34))
  (HD:HG K "_law_words" (bA 35))
  (Il:HG K "_law_low" (bA 36))
  (HR:HG K "_law_plus" (bA 37))
  (HS:HG K "_law_cost" (bA 38))
  (HU:HG K "_law_leaf" (bA 39))
  (HV:HG K "_law_body" (bA 40))
  (GZ:HG K "_law_pass_count" (bA 41))
  (GX:HG K "_law_round_count" (bA 42))
  (G6:HG K "_law_deed_body" (bA 43))
  (HE:HG K "_law_house" (bA 44))
  (G7:HG K "_law_any_house" (bA 45))
  (Hd:HG K "_law_trace_to" (bA 46))
  (HW:HG K "_law_gone" (bA 47))
  (HX:HG K "_law_tale" (bA 48))
  (Im:HG K "_law_all" (bA 49))
  (HF:HG K "_law_begun" (bA 50))
  (He:HG K "_law_just_for" (bA 51))
  (Io:HG K "_law_due" (bA 52))
  (HY:HG K "_law_told" (bA 53))
  (Hf:HG K "_law_at_bound" (bA 54))
  (Ho:Ow K "Telling" ["jars","most","cost","doings"])
  (Ip:∃C,PySem.W.nsIn K mainGlobals "DueError" = some (some (.ref C)))
  (IF:∃C,PySem.W.nsIn K mainGlobals "BadText" = some (some (.ref C)))
  (IG:∃C,PySem.W.nsIn K mainGlobals "NoHouse" = some (some (.ref C)))
  (JB:∃C,PySem.W.nsIn K mainGlobals "Stuck" = some (some (.ref C)))
  (II:∃C,PySem.W.nsIn K mainGlobals "TooLong" = some (some (.ref C)))
  (IJ:∃C,PySem.W.nsIn K mainGlobals "NoStory" = some (some (.ref C)))
  (IK:∃C,PySem.W.nsIn K mainGlobals "TooMany" = some (some (.ref C)))
  (JC:∃C,PySem.W.nsIn K mainGlobals "NoRow" = some (some (.ref C)))
  (GL:Mr K "TooLong" "TooLong.__init__" (mt 5 0) ["most"])
  (GQ:Mr K "Stuck" "Stuck.__init__" (mt 4 0) ["row"])
  (Iq:Ox K "DueError" ["TooLong","Stuck"])
  (LN:zI K IZ)
  (KB:((["ValueError","abs","any","int","isinstance","len","list","max","min","range","repr","reversed","tuple","zip"]:List Str).all fun x=>qj (PySem.W.nsIn K mainGlobals x))=true)
  (LP:HG K "law" (bA 55))
  : ∃fd:FuncData,(∀(s:Shared) (v:Value),BindsTo s fd ⟨[v],[]⟩ [("_law_script",v)])∧∀base:Heap,K.In base→base.Ns mainGlobals mg→eh l.prog w K mg base qo 33 fa fd ["_law_script"] (DF K 1 pY):=by
 obtain⟨kV,doc,pm,an,cdv,ct,O⟩:=LP.law X G hfa (ps:=["_law_script"]) (fun _ _ _ _ _ _=>Cn fun _=>rfl)
 exact⟨_,fun s v=>.of_eq rfl,fun base _ _=>(Ci (P:=l.prog) (w:=w) (base:=base) ⟨Ja.own X G (fun _ _ _ _ _ _=>JI fun _ _=>rfl),
  Ii.own X G (fun _ _ _ _ _ _=>JI fun _ _=>rfl),
  JY.own X G (fun _ _ _ _ _ _=>JI fun _ _=>rfl),
  Jx.own X G (fun _ _ _ _ _ _=>JI fun _ _=>rfl),
  Jb.own X G (fun _ _ _ _ _ _=>JI fun _ _=>rfl),
  HN.own X G (fun _ _ _ _ _ _=>Co fun _ _ _=>rfl),
  Jy.own X G (fun _ _ _ _ _ _=>JI fun _ _=>rfl),
  HB.own X G (fun _ _ _ _ _ _=>JI fun _ _=>rfl),
  Ij.own X G (fun _ _ _ _ _ _=>Cn fun _=>rfl),
  Jc.own X G (fun _ _ _ _ _ _=>JI fun _ _=>rfl),
  Jz.own X G (fun _ _ _ _ _ _=>JI fun _ _=>rfl),
  G5.own X G (fun _ _ _ _ _ _=>Co fun _ _ _=>rfl),
  Hc.own X G (fun _ _ _ _ _ _=>JI fun _ _=>rfl),
  Ik.own X G (fun _ _ _ _ _ _=>Co fun _ _ _=>rfl),
  JA.own X G (fun _ _ _ _ _ _=>Co fun _ _ _=>rfl),
  GW.own (mg:=mg) (Ho.cl X G) (fun _ _ _ _ _ _=>Co fun _ _ _=>rfl),
  HC.own (mg:=mg) (Ho.cl X G) (fun _ _ _ _ _ _=>Co fun _ _ _=>rfl),
  Hj.own X G (fun _ _ _ _ _ _=>JI fun _ _=>rfl),
  JZ.own X G (fun _ _ _ _ _ _=>JI fun _ _=>rfl),
  J3.own X G (fun _ _ _ _ _ _=>Ai fun _ _ _ _=>rfl),
  HP.own X G (fun _ _ _ _ _ _=>JI fun _ _=>rfl),
  HQ.own X G (fun _ _ _ _ _ _=>JI fun _ _=>rfl),
  HD.own X G (fun _ _ _ _ _ _=>JI fun _ _=>rfl),
  Il.own X G (fun _ _ _ _ _ _=>JI fun _ _=>rfl),
  HR.own X G (fun _ _ _ _ _ _=>JI fun _ _=>rfl),
  HS.own X G (fun _ _ _ _ _ _=>Cn fun _=>rfl),
  HU.own X G (fun _ _ _ _ _ _=>JI fun _ _=>rfl),
  HV.own X G (fun _ _ _ _ _ _=>Ai fun _ _ _ _=>rfl),
  GZ.own X G (fun _ _ _ _ _ _=>Cn fun _=>rfl),
  GX.own X G (fun _ _ _ _ _ _=>Cn fun _=>rfl),
  G6.own X G (fun _ _ _ _ _ _=>Ai fun _ _ _ _=>rfl),
  HE.own X G (fun _ _ _ _ _ _=>Ai fun _ _ _ _=>rfl),
  G7.own X G (fun _ _ _ _ _ _=>Cn fun _=>rfl),
  Hd.own X G (fun _ _ _ _ _ _=>Ai fun _ _ _ _=>rfl),
  HW.own X G (fun _ _ _ _ _ _=>Co fun _ _ _=>rfl),
  HX.own X G (fun _ _ _ _ _ _=>Gn fun _ _ _ _ _=>rfl),
  Im.own X G (fun _ _ _ _ _ _=>Ai fun _ _ _ _=>rfl),
  HF.own X G (fun _ _ _ _ _ _=>JI fun _ _=>rfl),
  He.own X G (fun _ _ _ _ _ _=>Ai fun _ _ _ _=>rfl),
  Io.own X G (fun _ _ _ _ _ _=>JI fun _ _=>rfl),
  HY.own X G (fun _ _ _ _ _ _=>Ai fun _ _ _ _=>rfl),
  Hf.own X G (fun _ _ _ _ _ _=>Cn fun _=>rfl),
  Ho.cl X G,
  ji (x:="ValueError") X G KB,
  ji (x:="abs") X G KB,
  ji (x:="any") X G KB,
  ji (x:="int") X G KB,
  ji (x:="isinstance") X G KB,
  ji (x:="len") X G KB,
  ji (x:="list") X G KB,
  ji (x:="max") X G KB,
  ji (x:="min") X G KB,
  ji (x:="range") X G KB,
  ji (x:="repr") X G KB,
  ji (x:="reversed") X G KB,
  ji (x:="tuple") X G KB,
  ji (x:="zip") X G KB,
  qm X G Ip,
  qm X G IF,
  qm X G IG,
  qm X G JB,
  qm X G II,
  qm X G IJ,
  qm X G IK,
  qm X G JC,
  GL.xc X G (fun _ _ _ _ _ _=>JI fun _ _=>rfl),
  GQ.xc X G (fun _ _ _ _ _ _=>JI fun _ _=>rfl),
  Iq.xe X G,
  xG (by intro p hp;simp only[ND,List.mem_cons,List.not_mem_nil,or_false]at hp;rcases hp with rfl|rfl;exact⟨_,_,_,GL,by decide⟩;exact⟨_,_,_,GQ,by decide⟩),
  zJ LN (by intro p hp;simp only[IZ,List.mem_cons,List.not_mem_nil,or_false]at hp;rcases hp with rfl|rfl|rfl|rfl|rfl|rfl|rfl|rfl|rfl|rfl|rfl|rfl|rfl|rfl;exact⟨_,_,_,GL⟩;exact⟨_,_,_,GL⟩;exact⟨_,_,_,GL⟩;exact⟨_,_,_,GL⟩;exact⟨_,_,_,GL⟩;exact⟨_,_,_,GL⟩;exact⟨_,_,_,GL⟩;exact⟨_,_,_,GQ⟩;exact⟨_,_,_,GQ⟩;exact⟨_,_,_,GQ⟩;exact⟨_,_,_,GQ⟩;exact⟨_,_,_,GQ⟩;exact⟨_,_,_,GQ⟩;exact⟨_,_,_,GQ⟩)⟩ O).ok⟩
theorem FH{l:PySem.W.OpenLaw}{q:Program}{loose:List Str}{XP:(Str→Option Value)→Heap→Prop}{YP:World→Heap→Prop}{d:DefRec}{K:Params→PySem.W.Frag}(hn:l.most=some 63)(hdf:d.params.defaults=[])
  (hY:∀(w:World) (h:Heap),YP w h→(K w.params).In h)
  (F:∀(w:World) (mg:Str→Option Value) (fa:Addr) (h:Heap),(K w.params).In h→h.Ns mainGlobals mg→mg d.name=some (.ref fa)→
   ∃fd:FuncData,(∀(s:Shared) (u:Value),BindsTo s fd ⟨[u],[]⟩ [("_law_script",u)])∧∀base:Heap,(K w.params).In base→base.Ns mainGlobals mg→eh l.prog w (K w.params) mg base qo 33 fa fd ["_law_script"] (DF (K w.params) 1 pY)) :
  PySem.W.WalkO q loose XP YP l.row.toRowW d [] (fun f vs=>PySem.call f vs):=
 L2.yu (n:=63) (k:=33) (x:="_law_script") (CX:=fun _=>qo) (sp:=fun w=>DF (K w.params) 1 pY) hn (by decide) hdf ⟨rfl,by decide,by decide,rfl⟩ hY F (fun _ _ a ns hl hO hS=>Fj hO hS (xF ns hl)) fun _ _ _ _ _ z=>z
end G23
local macro_rules | `(tactic| walk_at "k")=>`(tactic| (apply L3.Gp; k_is; k_is; k_is; k_is))
local macro_rules | `(tactic| walk_at "m")=>`(tactic| (apply L3.Gq; k_is; k_is; k_is; k_is; k_is; k_is))
local macro_rules | `(tactic| walk_at "c")=>`(tactic| (apply L3.Gr; k_is; k_is; k_is; kernel_rfl))
local macro_rules | `(tactic| walk_at "e")=>`(tactic| (apply L3.Gs; k_is; k_is; k_is; k_is; k_is; k_is; k_is; k_is; k_is; k_is; k_is; k_is; k_is; k_is; k_is; kernel_rfl))
local macro_rules | `(tactic| walk_at "t")=>`(tactic| (apply L3.Gu; k_is; k_is; k_is; k_is; kernel_rfl))
open PySem PySem.W PyProof.Rows
set_option maxRecDepth 100000 in
set_option maxHeartbeats 0 in
theorem PySem.Challenge.cw_dueworth_k23_stories_told_holds : PySem.Challenge.rw_dueworth_k23_stories_told.Holds := by
 w_on; refine holds_law E23.said fun said => ?_
 refine holds_open (q := E23.vw) (loose := []) (Xt := fun s => (xlAt E23.vw [] s && recOk (RowW.records E23.rr) s)) (XP := XL E23.vw []) (N := 6858)
  (Yf := Hook.obs E23.hk) (Ya := Hook.val E23.hk) (YP := Hook.says (kHook E23.early.heap_1 E23.as E23.FI)) E23.left (Hook.of E23.hk) (Hook.keeps E23.hk) (fun s e => xl_of s (Bool.and_eq_true_iff.mp e).1)
  XL.keeps rfl rfl rfl (fun s e => recFacts_of (Bool.and_eq_true_iff.mp e).2) rfl (by assumption)
  (by decide +kernel) ⟨rfl, rfl, rfl, rfl, rfl, by decide +kernel⟩ ?hw ?hc
 (case hw => w_witness2)
 k_fill
 refine G23.FH (l := PySem.Challenge.rw_dueworth_k23_stories_told) rfl rfl (fun w h Y => PySem.W.kIn_of Y) ?F
 case F =>
  intro w mg fa h KX G hmg
  refine' G23.Cp KX G hmg ?Ja ?Ii ?JY ?Jx ?Jb ?HN ?Jy ?HB ?Ij ?Jc ?Jz ?G5 ?Hc ?Ik ?JA ?GW ?HC ?Hj ?JZ ?J3 ?HP ?HQ ?HD ?Il ?HR ?HS ?HU ?HV ?GZ ?GX ?G6 ?HE ?G7 ?Hd ?HW ?HX ?Im ?HF ?He ?Io ?HY ?Hf ?Ho ?Ip ?IF ?IG ?JB ?II ?IJ ?IK ?JC ?GL ?GQ ?Iq ?LN ?KB ?LP
  (case Ja => walk_at "k")
  (case Ii => walk_at "k")
  (case JY => walk_at "k")
  (case Jx => walk_at "k")
  (case Jb => walk_at "k")
  (case HN => walk_at "k")
  (case Jy => walk_at "k")
  (case HB => walk_at "k")
  (case Ij => walk_at "k")
  (case Jc => walk_at "k")
  (case Jz => walk_at "k")
  (case G5 => walk_at "k")
  (case Hc => walk_at "k")
  (case Ik => walk_at "k")
  (case JA => walk_at "k")
  (case GW => walk_at "m")
  (case HC => walk_at "m")
  (case Hj => walk_at "k")
  (case JZ => walk_at "k")
  (case J3 => walk_at "k")
  (case HP => walk_at "k")
  (case HQ => walk_at "k")
  (case HD => walk_at "k")
  (case Il => walk_at "k")
  (case HR => walk_at "k")
  (case HS => walk_at "k")
  (case HU => walk_at "k")
  (case HV => walk_at "k")
  (case GZ => walk_at "k")
  (case GX => walk_at "k")
  (case G6 => walk_at "k")
  (case HE => walk_at "k")
  (case G7 => walk_at "k")
  (case Hd => walk_at "k")
  (case HW => walk_at "k")
  (case HX => walk_at "k")
  (case Im => walk_at "k")
  (case HF => walk_at "k")
  (case He => walk_at "k")
  (case Io => walk_at "k")
  (case HY => walk_at "k")
  (case Hf => walk_at "k")
  (case Ho => walk_at "c")
  (case Ip => apply L3.Aj; k_is)
  (case IF => apply L3.Aj; k_is)
  (case IG => apply L3.Aj; k_is)
  (case JB => apply L3.Aj; k_is)
  (case II => apply L3.Aj; k_is)
  (case IJ => apply L3.Aj; k_is)
  (case IK => apply L3.Aj; k_is)
  (case JC => apply L3.Aj; k_is)
  (case GL => walk_at "e")
  (case GQ => walk_at "e")
  (case Iq => walk_at "t")
  (case LN => unfold L3.zI; kernel_rfl)
  (case KB => kernel_rfl)
  (case LP => walk_at "k")
#print axioms PySem.Challenge.cw_dueworth_k23_stories_told_holds
