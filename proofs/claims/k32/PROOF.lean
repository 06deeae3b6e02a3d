import PyProof.Rows.All
import Wide.All
import OpenK.AllK
import Wide.FinOn
import Lean
import PyProof.EqAt
import PyProof.EqKinds
import PyProof.TupleCall
import PySem.Challenge.RW_dueworth_k32_lines_and_their_count
import Open.Tree
import Open.Head
section
set_option Elab.async false
set_option linter.all false
set_option maxRecDepth 100000
set_option maxHeartbeats 0
namespace ET
open PySem PySem.W PyProof.Rows
def jG(tb:String→Option Builtin)(p:Program)(w:World)(n₀:Nat)(ann:Option Value):Nat→SharedT→Thread→Option SharedT
 |0,_,_=>none
 |n+1,s,t=>match through t with
  |true=>some s
  |false=>match stepOk n₀ ann t with
   |false=>none
   |true=>match stepT (denote tb) p w s t with
    |some x=>jG tb p w n₀ ann n x.1 x.2
    |none=>none
theorem nE{tb:String→Option Builtin}{p:Program}{w:World}{n₀:Nat}{ann:Option Value}:∀{n:Nat} {s s':SharedT} {t:Thread},jG tb p w n₀ ann n s t=some s'→topRun tb p w n₀ ann n s.abs t=some s'.abs
 |0,_,_,_,h=>by cases h
 |n+1,s,s',t,h=>by
  unfold jG at h
  unfold topRun
  cases he:through t with
  |true=>rw[he]at h;cases h;rfl
  |false=>
   rw[he]at h
   cases hk:stepOk n₀ ann t with
   |false=>rw[hk]at h;cases h
   |true=>
    rw[hk]at h
    cases hs:stepT (denote tb) p w s t with
    |none=>rw[hs]at h;cases h
    |some r=>rw[hs]at h;rw[stepT_spec hs];exact nE h
def Cj:List Obj→BT→Nat→Option (BT×Nat)
 |[],t,n=>some (t,n)
 |o::os,t,n=>match ((t.ins n o).get n).isSome with
  |true=>Cj os (t.ins n o) (n+1)
  |false=>none
theorem sK{life:Life}:∀{os:List Obj} {t t':BT} {n n':Nat},Cj os t n=some (t',n')→absHeap t' n' life=⟨(absHeap t n life).objs++os.toArray,life⟩
 |[],t,t',n,n',h=>by cases h;simp[absHeap]
 |o::os,t,t',n,n',h=>by
  unfold Cj at h
  cases g:((t.ins n o).get n).isSome with
  |false=>rw[g]at h;cases h
  |true=>
   rw[g]at h
   rw[sK h,absHeap_ins g]
   simp[Heap.push]
def jH(tb:String→Option Builtin)(p:Program)(w:World)(N:Nat)(s₀:Shared):Option Shared:=
 match s₀.heap.isNs mainGlobals&&s₀.gens.size == 0 with
 |true=>match Cj s₀.heap.objs.toList .nil 0 with
  |some x=>match jG tb p w x.2 (s₀.heap.nsMap mainGlobals "__annotations__") N ⟨x.1,x.2,s₀.heap.life,s₀.gens,s₀.drawn,s₀.toks,s₀.os⟩ (topStub p)with
   |some s=>match staticsOk (importedModules p.main.body) s₀.heap s.abs.heap&&namesBound p s.abs.heap&&gensDone s.abs&&laidKept s₀.heap s.abs.heap with
    |true=>some s.abs
    |false=>none
   |none=>none
  |none=>none
 |false=>none
theorem rj{tb:String→Option Builtin}{p:Program}{w:World}{N:Nat}{s₀ s:Shared}(h:jH tb p w N s₀=some s):topFrom tb p w N s₀=some s:=by
 unfold jH at h
 unfold topFrom
 cases h1:s₀.heap.isNs mainGlobals&&s₀.gens.size == 0 with
 |false=>rw[h1]at h;cases h
 |true=>
  rw[h1]at h
  dsimp only at h ⊢
  cases h2:Cj s₀.heap.objs.toList .nil 0 with
  |none=>rw[h2]at h;cases h
  |some x=>
   rw[h2]at h
   dsimp only at h
   have e:=sK (life:=s₀.heap.life) h2
   have e':absHeap x.1 x.2 s₀.heap.life=s₀.heap:=by
    rw[e]
    simp[absHeap,BT.list]
   have n':x.2=s₀.heap.objs.size:=by rw[←e',absHeap_size]
   cases h3:jG tb p w x.2 (s₀.heap.nsMap mainGlobals "__annotations__") N ⟨x.1,x.2,s₀.heap.life,s₀.gens,s₀.drawn,s₀.toks,s₀.os⟩ (topStub p)with
   |none=>rw[h3]at h;cases h
   |some r=>
    rw[h3]at h
    dsimp only at h
    have ea:SharedT.abs ⟨x.1,x.2,s₀.heap.life,s₀.gens,s₀.drawn,s₀.toks,s₀.os⟩=s₀:=by
     unfold SharedT.abs
     rw[e']
    have:=nE h3
    rw[ea,n']at this
    rw[this]
    exact h
theorem rm{tb:String→Option Builtin}{p:Program}{w:World}{N:Nat}{s₀:Shared}{α:Type}{f:Shared→α}{a:α}(h:Option.map f (jH tb p w N s₀)=some a):Option.map f (topFrom tb p w N s₀)=some a:=by
 obtain⟨s,h1,h2⟩:=Option.map_eq_some_iff.mp h
 rw[rj h1]
 exact congrArg some h2
def seenT(p q:Program)(loose:List Str)(Xt:Shared→Bool){α:Type}(Yf:Shared→α)(N:Nat)(u u':World):=
 Option.map (fun c=>Option.map (fun s=>(openSeen q loose (importedModules p.main.body) Xt true s,Yf s)) (jH treeTable p u' N c)) (fencedOpening treeTable p u N)
lay_quick seenT
theorem sL{p q:Program}{loose:List Str}{Xt:Shared→Bool}{α:Type}{Yf:Shared→α}{N:Nat}{u u':World}{r}(h:PySem.W.Fast.tw2787559817927863336 p q loose Xt Yf N u u'=r):seenT p q loose Xt Yf N u u'=r:=by
 rw[PySem.W.Fast.te2787559817927863336]
 exact h
theorem D8{p q:Program}{loose:List Str}{Xt:Shared→Bool}{α:Type}{Yf:Shared→α}{Ya:World→α}{N:Nat}
  (h:∀u:World,seenT p q loose Xt Yf N u u=some (some (openGood q loose,Ya u))):LeftO p q loose Xt Yf Ya N:=fun u=>by
 obtain⟨c,a,b⟩:=Option.map_eq_some_iff.mp (h u)
 unfold openEnds
 rw[a]
 exact rm b
theorem ve{p q:Program}{loose:List Str}{Xt:Shared→Bool}{α:Type}{Yf:Shared→α}{Ya:World→α}{N:Nat}(row:String)
  (h0:∀u:World,seenT p q loose Xt Yf N u (u.withFollow row false)=some (some (openGood q loose,Ya (u.withFollow row false))))
  (h1:∀u:World,seenT p q loose Xt Yf N u (u.withFollow row true)=some (some (openGood q loose,Ya (u.withFollow row true)))):LeftO p q loose Xt Yf Ya N:=fun u=>by
 obtain⟨c,a,b⟩:=Option.map_eq_some_iff.mp (h0 u)
 obtain⟨c',a',b'⟩:=Option.map_eq_some_iff.mp (h1 u)
 have hc:c'=c:=by rw[a]at a';cases a';rfl
 subst hc
 have b:=rm b
 have b':=rm b'
 have hu:=World.withFollow_self u row
 unfold openEnds
 rw[a]
 cases hb:u.params.followText row<;>rw[hb]at hu
 ·rw[hu]at b
  exact b
 ·rw[hu]at b'
  exact b'
end ET
namespace E32
open PySem PySem.W PyProof.Rows
abbrev tp(i:Nat):Stmt:=PySem.Challenge.pw_dueworth_k32_lines_and_their_count.main.body.getD i (.Pass ⟨0,0,0,0⟩)
/-- the text without what says nothing -/
def vw:Program:={ PySem.Challenge.pw_dueworth_k32_lines_and_their_count with main:={ PySem.Challenge.pw_dueworth_k32_lines_and_their_count.main with body:=[tp 1,tp 2,tp 3,tp 4,tp 6,tp 7,tp 8,tp 11,tp 12,tp 13,tp 15,tp 16,tp 17,tp 19,tp 20,tp 21,tp 22,tp 24,tp 25,tp 26,tp 27,tp 28,tp 29,tp 30,tp 31,tp 32,tp 34,tp 35,tp 36,tp 37,tp 39,tp 40,tp 41,tp 42,tp 43,tp 44,tp 45,tp 46,tp 47,tp 48,tp 49,tp 50,tp 51,tp 52,tp 53,tp 54,tp 55,tp 56,tp 57,tp 58,tp 59,tp 60,tp 61,tp 62,tp 63,tp 64,tp 65,tp 66,tp 67,tp 68,tp 69,tp 70] } }
abbrev rr:RowW:=OpenRow.toRowW (OpenLaw.row PySem.Challenge.rw_dueworth_k32_lines_and_their_count)
local macro_rules | `(tactic| o_head $H)=>`(tactic|
 refine holds_open (q:=vw) (loose:=["SIDES_FROM","parts_reached"]) (Xt:=fun s=>(xlAt vw [] s&&recOk (RowW.records rr) s)) (XP:=XL vw []) (N:=4040)
  (Yf:=Hook.obs $H) (Ya:=Hook.val $H) (YP:=Hook.says $H) ?hl (Hook.of $H) (Hook.keeps $H) (fun s e=>xl_of s (Bool.and_eq_true_iff.mp e).1)
  XL.keeps rfl rfl rfl (fun s e=>recFacts_of (Bool.and_eq_true_iff.mp e).2) rfl (by assumption)
  (by decide +kernel) ⟨rfl,rfl,rfl,rfl,rfl,by decide +kernel⟩ ?hw ?hc)
/-- the law is well said: by the quick twin of the look,with no twin of the program -/
theorem said:OpenLaw.wellSaid PySem.Challenge.rw_dueworth_k32_lines_and_their_count=true:=(congrFun PySem.W.Fast.te9446332074065402090 _).trans (by kernel_rfl)
/-- says nothing; what lies in the heap is written down by the way -/
theorem early(h:∀P:Prop,P):PySem.Challenge.rw_dueworth_k32_lines_and_their_count.Holds:=by
 w_on;refine holds_law said fun said=>?_;k_head
 all_goals exact h _
abbrev as:List Addr:=[2,3,15,16,18,19,21,22,23,25,26,28,29,30,32,33,35,36,37,39,40,42,43,44,46,47,49,50,51,53,54,56,57,58,59,61,62,64,65,66,68,69,71,72,73,75,76,78,79,80,83,84,85,88,89,90,93,94,95,98,99,100,102,103,105,106,107,109,110,112,113,114,116,117,119,120,121,123,124,126,127,128,131,132,133,136,137,138,141,142,143,145,146,148,149,150,153,154,155,158,159,160,162,163,165,166,167,169,170,172,173,174,176,177,179,180,181,183,184,186,187,188,190,191,193,194,195,197,198,200,201,202,205,206,207,210,211,212,214,215,217,218,219,222,223,224,226,227,229,230,231,233,234,236,237,238,240,241,243,244,245,247,248,250,251,252,254,255,257,258,259,261,262,264,265,266,268,269,271,272,273,275,276,278,279,280,282,283,285,286,287,290,291,292,294,295,297,298,299,301,302,304,305,306,309,310,311,314,315,316,319,320,321,324,325,326,329,330,331,333,334,336,337,338,341,342,343,346,347,348,351,352,353,355,356,358,359,360,362,363,365,366,367,369,370,372,373,374,377,378,379,382,383,384,387,388,389,391,392,394,395,396,399,400]
theorem Fr(P:Params):as=(early.heap_1 P).map (·.1):=by kernel_rfl
noncomputable abbrev hk:Hook:=kHook early.heap_1 as Fr
theorem Ck(u:World):ET.seenT (OpenLaw.row PySem.Challenge.rw_dueworth_k32_lines_and_their_count).prog vw ["SIDES_FROM","parts_reached"] (fun s=>(xlAt vw [] s&&recOk (RowW.records rr) s)) (Hook.obs hk) 4040 u (u.withFollow "special-get-raises" false)=some (some (openGood vw ["SIDES_FROM","parts_reached"],Hook.val hk (u.withFollow "special-get-raises" false))):=ET.sL (by kernel_rfl)
theorem Cl(u:World):ET.seenT (OpenLaw.row PySem.Challenge.rw_dueworth_k32_lines_and_their_count).prog vw ["SIDES_FROM","parts_reached"] (fun s=>(xlAt vw [] s&&recOk (RowW.records rr) s)) (Hook.obs hk) 4040 u (u.withFollow "special-get-raises" true)=some (some (openGood vw ["SIDES_FROM","parts_reached"],Hook.val hk (u.withFollow "special-get-raises" true))):=ET.sL (by kernel_rfl)
theorem left:LeftO (OpenLaw.row PySem.Challenge.rw_dueworth_k32_lines_and_their_count).prog vw ["SIDES_FROM","parts_reached"] (fun s=>(xlAt vw [] s&&recOk (RowW.records rr) s)) (Hook.obs hk) (Hook.val hk) 4040:=ET.ve "special-get-raises" Ck Cl
end E32
end
open PySem in
abbrev Vq:=Value->Shared->Prop
open PySem in
abbrev Va:=List (Addr×Obj)
open PySem in
abbrev Vo:=PySem.W.Frag
open PySem in
abbrev Vr:=Str->Option Value
open PySem in
abbrev Vs:=List Str
open PySem in
abbrev Vu:=List Int
open PySem in
abbrev Vv:=List Value
open PySem in
abbrev Vw:=Array Value
set_option Elab.async false
set_option linter.all false
set_option maxRecDepth 100000
namespace L2
open PySem PySem.Spec PyProof.Rows
abbrev bI:=Sum Int Str
noncomputable def nF:bI->Value->Bool
 | .inl k,v=>Value.isInt k v
 | .inr x,v=>Value.isStrOf x v
noncomputable def Ep(w:World):bI->Int
 | .inl k=>hashInt k
 | .inr x=>hashStr w x
theorem bK:∀{k:bI} {v:Value},nF k v=true->(∃i t,k=Sum.inl i/\v=Value.int i t)\/(∃x t,k=Sum.inr x/\v=Value.str x t)
 | .inl i,v,h=>by
  obtain⟨t,e⟩:=Value.isInt_shape (k:=i) (v:=v) h
  exact .inl ⟨i,t,rfl,e⟩
 | .inr x,v,h=>by
  obtain⟨t,e⟩:=Value.isStrOf_shape (x:=x) (v:=v) h
  exact .inr ⟨x,t,rfl,e⟩
def t5(i:Int)(t:Tok):nF (.inl i) (.int i t)=true:=by simp[nF,Value.isInt]
def kq(x:Str)(t:Tok):nF (.inr x) (.str x t)=true:=by simp[nF,Value.isStrOf]
def AA(a b:Int):decide ((Sum.inl a:bI)=Sum.inl b)=(a == b):=by
 by_cases e:a=b
 ·subst e;simp
 ·have h:¬(Sum.inl a:bI)=Sum.inl b:=fun q=>e (Sum.inl.inj q)
  rw[decide_eq_false h]
  exact(beq_eq_false_iff_ne.mpr e).symm
def AB(a b:Str):decide ((Sum.inr a:bI)=Sum.inr b)=decide (a=b):=by
 by_cases e:a=b
 ·subst e;simp
 ·have h:¬(Sum.inr a:bI)=Sum.inr b:=fun q=>e (Sum.inr.inj q)
  rw[decide_eq_false h,decide_eq_false e]
def AC(a:Int)(b:Str):decide ((Sum.inl a:bI)=Sum.inr b)=false:=decide_eq_false (fun q=>nomatch q)
def AD(a:Str)(b:Int):decide ((Sum.inr a:bI)=Sum.inl b)=false:=decide_eq_false (fun q=>nomatch q)
noncomputable def bf(prog:Program)(w:World):PySem.KeyKind prog w bI where
 is:=nF
 hash:=Ep w
 inj:=fun v a b ha hb=>by
  rcases bK ha with⟨i,t,rfl,rfl⟩|⟨x,t,rfl,rfl⟩
  ·rcases bK hb with⟨j,u,rfl,e⟩|⟨y,u,rfl,e⟩
   ·injection e with e1 _;rw[e1]
   ·exact nomatch e
  ·rcases bK hb with⟨j,u,rfl,e⟩|⟨y,u,rfl,e⟩
   ·exact nomatch e
   ·injection e with e1 _;rw[e1]
 byValue:=fun k v h=>by
  rcases bK h with⟨i,t,rfl,rfl⟩|⟨x,t,rfl,rfl⟩<;>rfl
 pyHash:=fun hv h=>by
  rcases bK hv with⟨i,t,rfl,rfl⟩|⟨x,t,rfl,rfl⟩
  ·exact wpAny_pyHash_int h
  ·exact wpAny_pyHash_str h
 eqBool:=fun hu hv h=>by
  rcases bK hu with⟨i,t,rfl,rfl⟩|⟨x,t,rfl,rfl⟩
  ·rcases bK hv with⟨j,u,rfl,rfl⟩|⟨y,u,rfl,rfl⟩
   ·rw[AA]at h;exact wpAny_eqBool_int h
   ·rw[AC]at h;exact SeqAt.EqAt.int_str i t y u _ _ _ _ h
  ·rcases bK hv with⟨j,u,rfl,rfl⟩|⟨y,u,rfl,rfl⟩
   ·rw[AD]at h;exact SeqAt.EqAt.str_int x t j u _ _ _ _ h
   ·rw[AB]at h;exact wpAny_eqBool_str h
 «strs»:=fun k x t v h=>by
  rcases bK h with⟨i,u,rfl,e⟩|⟨y,u,rfl,e⟩
  ·exact nomatch e
  ·injection e with e1 _
   subst e1
   cases v<;>rfl
def pW(prog:Program)(w:World)(i:Int)(t:Tok):(bf prog w).is (.inl i) (.int i t)=true:=t5 i t
def pX(prog:Program)(w:World)(x:Str)(t:Tok):(bf prog w).is (.inr x) (.str x t)=true:=kq x t
inductive V where
 |non|bl (b:Bool)|int (i:Int)|str (x:Str)|Lq (b:Array UInt8)|NT (b:UInt64)|ref (a:Addr)|ty (n:String)
 deriving DecidableEq
noncomputable def RelV:V->Value->Prop
 | .non,u=>u=Value.none
 | .bl b,u=>u=Value.bool b
 | .int i,u=>∃t,u=Value.int i t
 | .str x,u=>∃t,u=Value.str x t
 | .Lq b,u=>∃t,u=Value.bytes b t
 | .NT b,u=>∃t,u=Value.float b t
 | .ref a,u=>u=Value.ref a
 | .ty n,u=>u=Value.type n
noncomputable abbrev Vals:List V->List Value->Prop:=Paired RelV
theorem Vals.length{xs:List V}{us:Vv}(r:Vals xs us):xs.length=us.length:=Paired.length r
theorem Vals.get:∀{xs:List V} {us:Vv} {i:Nat} {x:V},Vals xs us->xs[i]?=some x->∃u,us[i]?=some u/\RelV x u
 |_,_,_,_,.nil,e=>by simp at e
 |_,_,0,_,.cons r _,e=>by simp at e;subst e;exact⟨_,rfl,r⟩
 |_,_,i+1,x,.cons _ t,e=>by
  obtain⟨u,h1,h2⟩:=Vals.get (i:=i) (x:=x) t (by simpa using e)
  exact⟨u,by simpa using h1,h2⟩
theorem Vals.set{x:V}{u:Value}(r:RelV x u):∀{xs:List V} {us:Vv} (i:Nat),Vals xs us->Vals (xs.set i x) (us.set i u)
 |_,_,_,.nil=>.nil
 |_,_,0,.cons _ t=>.cons r t
 |_,_,i+1,.cons q t=>.cons q (Vals.set r i t)
theorem Vals.append:∀{xs ys:List V} {us ws:Vv},Vals xs us->Vals ys ws->Vals (xs++ys) (us++ws)
 |_,_,_,_,.nil,s=>s
 |_,_,_,_,.cons r t,s=>.cons r (Vals.append t s)
theorem Vals.take:∀{xs:List V} {us:Vv} (n:Nat),Vals xs us->Vals (xs.take n) (us.take n)
 |_,_,0,_=>.nil
 |_,_,_+1,.nil=>.nil
 |_,_,n+1,.cons r t=>.cons r (Vals.take n t)
theorem Vals.drop:∀{xs:List V} {us:Vv} (n:Nat),Vals xs us->Vals (xs.drop n) (us.drop n)
 |_,_,0,r=>r
 |_,_,_+1,.nil=>.nil
 |_,_,n+1,.cons _ t=>Vals.drop n t
noncomputable def RelO:Option V->Option Value->Prop
 |some v,some u=>RelV v u
 |none,none=>True
 |_,_=>False
noncomputable def KV{κ:Type}:List (κ×V)->List (κ×Value)->Prop:=Paired fun(p:κ×V) (q:κ×Value)=>p.1=q.1/\RelV p.2 q.2
noncomputable def kV:bI->V
 | .inl i=>.int i
 | .inr x=>.str x
inductive HO where
 /-- a list -/
 |lst (xs:List V)
 /-- a tuple (never changes) -/
 |tup (xs:List V)
 /-- a dict whose keys are ints and texts; one whose keys are tuples of ints and texts (the empty one is both) -/
 |dK (kvs:List (bI×V))|dT (kvs:List (List bI×V))
 /-- a set of ints: its members,its size -/
 |set (S:Int->Bool) (n:Nat)
 /-- an instance of the class at C,its dict at dx,its attributes -/
 |ins (C dx:Addr) (fs:List (Str×V))
 /-- the dict of the instance at x -/
 |own (x:Addr)
 /-- the dict of an exception -/
 |xd (fs:List (Str×V))
 /-- a bound method,f of x -/
 |met (f x:Addr)
 /-- a range object lo,lo + 1,.. below hi -/
 |NU (lo hi:Int)
 /-- a thing that is known to the object (the script; a dict while a loop walks it): read,never written while it is so -/
 |frz (o:Obj) (u:HO)
 /-- a code object's table -/
 |Mp (ps:Vw)
 /-- any other thing,by what is true of its one object (a def of Pf own: Qc a S n:=HO.ext fun h=>..) -/
 |ext (φ:Heap->Prop)
abbrev Hp:=Addr->Option HO
noncomputable def upd(H:Hp)(a:Addr)(o:HO):Hp:=fun b=>if b=a then some o else H b
def aG{H:Hp}{a:Addr}{o:HO}:upd H a o a=some o:=by unfold upd;rw[if_pos rfl]
def aI{H:Hp}{a b:Addr}{o:HO}(h:b≠a):upd H a o b=H b:=by unfold upd;rw[if_neg h]
def Cm{H:Hp}{a b:Addr}{o u:HO}(h:H a=some o)(h':H b=some u)(d:o≠u):a≠b:=by
 intro e;subst e;rw[h]at h';exact d (Option.some.inj h')
def ba{H:Hp}{a b:Addr}{o:HO}(h:H a=some o)(h':H b=none):a≠b:=by
 intro e;subst e;rw[h]at h';cases h'
def Gy(h:Heap)(a:Addr)(its:Vw):Prop:=∃o,h.get? a=some o/\o.dict=none/\o.cls = .type "tuple"/\∃n,o.data = .seq its n
def Gy.tup{h:Heap}{a:Addr}{its:Vw}(x:Gy h a its):IsTup h a its:=let ⟨o,e,_,c,d⟩:=x;⟨o,e,c,d⟩
def Gy.new(h:Heap)(its:Vw):Gy (h.push { cls:=.type "tuple",data:=.seq its }) h.objs.size its:=⟨_,Heap.get?_push_size _ rfl,rfl,rfl,_,rfl⟩
section
variable (P:Program) (w:World)
noncomputable def ObjOk(H:Hp)(h:Heap)(a:Addr):HO->Prop
 | .lst xs=>xs.length<=sizeLine/\∃(its:Vv) (n:Nat),Vals xs its/\h.get? a=some { cls:=.type "list",data:=.seq its.toArray n }
 | .tup xs=>xs.length<=sizeLine/\∃its:List Value,Vals xs its/\Gy h a its.toArray
 | .dK kvs=>kvs.length<=sizeLine/\(a == sysModules)=false/\∃vs,KV kvs vs/\h.DictOf (bf P w) a vs
 | .dT kvs=>kvs.length<=sizeLine/\(a == sysModules)=false/\∃xs:List (List bI×Addr×Value),
   Paired (fun(p:List bI×V) (q:List bI×Addr×Value)=>p.1=q.1/\H q.2.1=some (.tup (p.1.map kV))/\RelV p.2 q.2.2) kvs xs/\
   ∃o es ep,h.get? a=some o/\o.ExactDict/\o.data = .dict es ep/\es.toList=xs.map (entryOfKey (tupleKind (bf P w)))/\(xs.map (·.1)).Nodup
 | .set S n=>h.SetOf (intKind P w) a S n
 | .ins C dx fs=>H dx=some (.own a)/\fs.length<=1000/\dx≠a/\h.get? a=some (PySem.W.instObj C dx)/\
   ∃mA,h.Ns1 dx mA/\(∀f,RelO (fs.lookup f) (mA f))/\PySem.Within mA (fs.map (·.1))
 | .own _=>∃o,h.get? a=some o
 | .xd fs=>∃mA,h.Ns1 a mA/\∀f,RelO (fs.lookup f) (mA f)
 | .NU lo hi=>∃t u v,h.get? a=some { cls:=.type "range",data:=.fields #[.int lo t,.int hi u,.int 1 v] }
 | .frz o u=>h.get? a=some o/\ObjOk H h a u
 | .Mp ps=>h.get? a=some { cls:=.none,data:=.fields ps }
 | .met f x=>h.get? a=some (PySem.W.methodObj (.ref f) (.ref x))
 | .ext φ=>φ h/\(∃o,h.get? a=some o)/\∀h1 h2:Heap,φ h1->(∀o,h1.get? a=some o->h2.get? a=some o)->φ h2
def IB(H:Hp)(h:Heap):Prop:=∀a o,H a=some o->ObjOk P w H h a o
end
section
variable {P:Program} {w:World} {H H':Hp} {h h':Heap} {a:Addr} {o:HO}
theorem ObjOk.lt(x:ObjOk P w H h a o):a < h.objs.size:=by
 cases o with
 |lst xs=>obtain⟨_,_,_,_,e⟩:=x;exact Heap.lt_size e
 |tup xs=>obtain⟨_,_,_,p⟩:=x;exact p.tup.lt
 |dK kvs=>obtain⟨_,_,_,_,o,_,_,e,_⟩:=x;exact Heap.lt_size e
 |dT kvs=>obtain⟨_,_,_,_,o,_,_,e,_⟩:=x;exact Heap.lt_size e
 |set S n=>obtain⟨o,_,_,_,e,_⟩:=x;exact Heap.lt_size e
 |ins C dx fs=>obtain⟨_,_,_,e,_⟩:=x;exact Heap.lt_size e
 |own y=>obtain⟨_,e⟩:=x;exact Heap.lt_size e
 |xd fs=>obtain⟨_,⟨_,_,_,e,_⟩,_⟩:=x;exact Heap.lt_size e
 |NU lo hi=>obtain⟨_,_,_,e⟩:=x;exact Heap.lt_size e
 |frz ob u=>obtain⟨e,_⟩:=x;exact Heap.lt_size e
 |Mp ps=>exact Heap.lt_size (show h.get? a=some _ from x)
 |met f y=>exact Heap.lt_size (show h.get? a=some _ from x)
 |ext φ=>obtain⟨_,⟨_,e⟩,_⟩:=x;exact Heap.lt_size e
theorem Paired.Mq{α β:Type}{F G:α->β->Prop}:∀{l₁:List α} {l₂:List β},Paired F l₁ l₂->(∀a b,F a b->G a b)->Paired G l₁ l₂
 |_,_,.nil,_=>.nil
 |_,_,.cons r t,f=>.cons (f _ _ r) (Paired.Mq t f)
def ObjOk.stay(x:ObjOk P w H h a o)(k:∀b u,(b=a\/H b=some (.own a))->h.get? b=some u->h'.get? b=some u)
  (ho:∀b,H b=some (.own a)->H' b=some (.own a)) (ht:∀b xs,H b=some (.tup xs)->H' b=some (.tup xs)):ObjOk P w H' h' a o:=by
 induction o with
 |lst xs=>obtain⟨z,its,n,r,e⟩:=x;exact⟨z,its,n,r,k _ _ (.inl rfl) e⟩
 |tup xs=>obtain⟨z,its,r,ob,e,c⟩:=x;exact⟨z,its,r,ob,k _ _ (.inl rfl) e,c⟩
 |dK kvs=>obtain⟨z,y,vs,r,ob,es,ep,e,c⟩:=x;exact⟨z,y,vs,r,ob,es,ep,k _ _ (.inl rfl) e,c⟩
 |dT kvs=>
  obtain⟨z,y,xs,r,ob,es,ep,e,c⟩:=x
  exact⟨z,y,xs,Paired.Mq r fun p q z=>⟨z.1,ht _ _ z.2.1,z.2.2⟩,ob,es,ep,k _ _ (.inl rfl) e,c⟩
 |set S n=>obtain⟨ob,es,ep,t,e,c⟩:=x;exact⟨ob,es,ep,t,k _ _ (.inl rfl) e,c⟩
 |ins C dx fs=>
  obtain⟨d,z,ne,e,mA,⟨od,es,ep,e2,c⟩,r⟩:=x
  exact⟨ho _ d,z,ne,k _ _ (.inl rfl) e,mA,⟨od,es,ep,k _ _ (.inr d) e2,c⟩,r⟩
 |own y=>obtain⟨ob,e⟩:=x;exact⟨ob,k _ _ (.inl rfl) e⟩
 |xd fs=>obtain⟨mA,⟨od,es,ep,e,c⟩,r⟩:=x;exact⟨mA,⟨od,es,ep,k _ _ (.inl rfl) e,c⟩,r⟩
 |NU lo hi=>obtain⟨t,u,v,e⟩:=x;exact⟨t,u,v,k _ _ (.inl rfl) e⟩
 |frz ob u ih=>obtain⟨e,q⟩:=x;exact⟨k _ _ (.inl rfl) e,ih q⟩
 |Mp ps=>
  have e:h.get? a=some { cls:=.none,data:=.fields ps }:=x
  show h'.get? a=some { cls:=.none,data:=.fields ps }
  exact k a _ (.inl rfl) e
 |met f y=>
  have e:h.get? a=some (PySem.W.methodObj (.ref f) (.ref y)):=x
  show h'.get? a=some (PySem.W.methodObj (.ref f) (.ref y))
  exact k a _ (.inl rfl) e
 |ext φ=>obtain⟨p,⟨o,e⟩,st⟩:=x;exact⟨st _ _ p fun o q=>k _ _ (.inl rfl) q,⟨o,k _ _ (.inl rfl) e⟩,st⟩
theorem IB.lt(x:IB P w H h)(e:H a=some o):a < h.objs.size:=(x a o e).lt
def IB.fresh(x:IB P w H h)(e:h.objs.size<=a):H a=none:=by
 cases q:H a with
 |none=>rfl
 |some u=>exact absurd (Nat.lt_of_lt_of_le (x.lt q) e) (Nat.lt_irrefl _)
def IB.kept(x:IB P w H h)(k:∀b u,h.get? b=some u->h'.get? b=some u):IB P w H h':=fun a o e=>
 (x a o e).stay (fun b u _ q=>k b u q) (fun _ q=>q) fun _ _ q=>q
def IB.laid(x:IB P w H h)(k:∀b u,h.get? b=some u->h'.get? b=some u)(hp:h.objs.size<=a)(new:ObjOk P w (upd H a o) h' a o):IB P w (upd H a o) h':=fun b u e=>by
 have hn:=x.fresh hp
 by_cases hb:b=a
 ·subst hb;rw[aG]at e;cases e;exact new
 ·rw[aI hb]at e
  exact(x b u e).stay (fun c v _ q=>k c v q) (fun c q=>by rw[aI (ba q hn)];exact q) fun c xs q=>by rw[aI (ba q hn)];exact q
end
def Rd(H:Hp)(a:Addr)(u:HO):Prop:=H a=some u\/∃o,H a=some (.frz o u)
def Rd.ok{P:Program}{w:World}{H:Hp}{h:Heap}{a:Addr}{u:HO}(r:Rd H a u)(x:IB P w H h):ObjOk P w H h a u:=by
 rcases r with r|⟨o,r⟩
 ·exact x a u r
 ·obtain⟨_,q⟩:=x a _ r
  exact q
noncomputable def Cn:Option HO->Prop
 |some (.lst _)=>True
 |some (.dK _)=>True
 |some (.dT _)=>True
 |some (.set _ _)=>True
 |some (.ins _ _ _)=>True
 |some (.ext _)=>True
 |_=>False
section
variable {P:Program} {w:World} {H:Hp} {h h':Heap} {x e:Addr} {o':HO}
def IB.write(ok:IB P w H h)(mu:Cn (H x))(he:e=x\/H e=some (.own x))(k:∀b u,b≠e->h.get? b=some u->h'.get? b=some u)(MX:∃u,h'.get? e=some u)
  (new:ObjOk P w (upd H x o') h' x o'):IB P w (upd H x o') h':=fun b u q=>by
 have M7:∀c y,H c=some (.own y)->c≠x:=fun c y r z=>by subst z;rw[r]at mu;exact mu
 have NV:∀c xs,H c=some (.tup xs)->c≠x:=fun c xs r z=>by subst z;rw[r]at mu;exact mu
 by_cases hb:b=x
 ·subst hb;rw[aG]at q;cases q;exact new
 ·rw[aI hb]at q
  by_cases Mr:b=e
  ·have q':H b=some (.own x):=by
    rcases he with z|z
    ·exact absurd (Mr.trans z) hb
    ·rw[Mr];exact z
   rw[q]at q';cases q'
   obtain⟨v,hv⟩:=MX
   exact⟨v,by rw[Mr];exact hv⟩
  ·refine(ok b u q).stay (fun c v hc r=>k c v ?_ r) (fun c r=>by rw[aI (M7 c b r)];exact r) fun c xs r=>by rw[aI (NV c xs r)];exact r
   rcases hc with rfl|hc
   ·exact Mr
   ·rintro rfl
    rcases he with z|z
    ·exact M7 c b hc z
    ·rw[hc]at z;cases z;exact hb rfl
end
structure Un (fs ex:List Addr) (H H':Hp) (h h':Heap):Prop where
 keep:∀b o,h.get? b=some o->H b=none->b ∉ fs->b ∉ ex->h'.get? b=some o
 slot:∀b o,h.get? b=some o->H b=none->b∈fs->b ∉ ex->∃sl,h'.get? b=some { o with slots:=sl }
 free:∀b o,h.get? b=some o->H b=none->b ∉ ex->H' b=none
 there:∀b o,h.get? b=some o->b ∉ ex->∃o',h'.get? b=some o'
 tups:∀b xs,H b=some (.tup xs)->H' b=some (.tup xs)
 J5:∀b o u,H b=some (.frz o u)->H' b=some (.frz o u)
 Kw:∀b ps,H b=some (.Mp ps)->∃more,H' b=some (.Mp (ps++more))
section
variable {fs fs' ex ex':List Addr} {H H1 H2:Hp} {h h1 h2 h':Heap} {a x e:Addr} {o:HO}
def Un.any(u:Un fs ex H H1 h h1){b:Addr}{ob:Obj}(q:h.get? b=some ob)(n:H b=none)(hx:b ∉ ex):∃sl,h1.get? b=some { ob with slots:=sl }:=by
 by_cases hb:b∈fs
 ·exact u.slot b ob q n hb hx
 ·exact⟨ob.slots,u.keep b ob q n hb hx⟩
def Un.kept(k:∀b u,h.get? b=some u->h'.get? b=some u):Un fs ex H H h h':=
 ⟨fun b ob q _ _ _=>k b ob q,fun b ob q _ _ _=>⟨ob.slots,k b ob q⟩,fun _ _ _ n _=>n,fun b ob q _=>⟨ob,k b ob q⟩,fun _ _ q=>q,fun _ _ _ q=>q,fun _ ps q=>⟨#[],by rw[q];simp⟩⟩
def Un.refl:Un fs ex H H h h:=Un.kept fun _ _ q=>q
def Un.laid(k:∀b u,h.get? b=some u->h'.get? b=some u)(hp:h.objs.size<=a)(hn:H a=none):Un fs ex H (upd H a o) h h' where
 keep:=fun b u q _ _ _=>k b u q
 slot:=fun b u q _ _ _=>⟨u.slots,k b u q⟩
 free:=fun b u q n _=>by rw[aI (Nat.ne_of_lt (Nat.lt_of_lt_of_le (Heap.lt_size q) hp))];exact n
 there:=fun b u q _=>⟨u,k b u q⟩
 tups:=fun b xs q=>by rw[aI (ba q hn)];exact q
 J5:=fun b u xs q=>by rw[aI (ba q hn)];exact q
 Kw:=fun b ps q=>⟨#[],by rw[aI (ba q hn),q];simp⟩
def Un.write(mu:Cn (H x))(he:e=x\/H e=some (.own x))(k:∀b u,b≠e->h.get? b=some u->h'.get? b=some u)(MX:∃u,h'.get? e=some u):Un fs ex H (upd H x o) h h':=by
 have hx:∀b,H b=none->b≠x:=fun b n z=>by subst z;rw[n]at mu;exact mu
 have hb:∀b,H b=none->b≠e:=fun b n z=>by
  subst z
  rcases he with r|r
  ·exact hx b n r
  ·rw[n]at r;cases r
 have hm:∀b u,H b=some u->¬Cn (some u)->b≠x:=fun b u q nm z=>by subst z;rw[q]at mu;exact nm mu
 refine⟨fun b u q n _ _=>k b u (hb b n) q,fun b u q n _ _=>⟨u.slots,k b u (hb b n) q⟩,fun b u q n _=>by rw[aI (hx b n)];exact n,fun b u q _=>?_,
  fun b xs q=>by rw[aI (hm b _ q fun z=>z)];exact q,fun b u xs q=>by rw[aI (hm b _ q fun z=>z)];exact q,fun b ps q=>⟨#[],by rw[aI (hm b _ q fun z=>z),q];simp⟩⟩
 by_cases Mr:b=e
 ·subst Mr;exact MX
 ·exact⟨u,k b u Mr q⟩
end
noncomputable def D_(h:Heap)(H:Hp):List Addr:=(List.range h.objs.size).filter fun a=>(H a).isSome
noncomputable def ou(h:Heap)(H:Hp):Heap:=PySem.W.hideAll h (D_ h H)
def t6(h:Heap)(H:Hp):(ou h H).objs.size=h.objs.size:=PySem.W.hideAll_size _ _
def vf{h:Heap}{H:Hp}{b:Addr}{o:Obj}(e:h.get? b=some o)(n:H b=none):(ou h H).get? b=some o:=
 PySem.W.hideAll_get _ e fun hm=>by
  have q:(H b).isSome=true:=(List.mem_filter.mp hm).2
  rw[n]at q;simp at q
def xX{h:Heap}{H:Hp}{b:Addr}{o:Obj}(e:(ou h H).get? b=some o):h.get? b=some o/\H b=none:=by
 have e':h.get? b=some o:=PySem.W.of_hideAll (D_ h H) e
 refine⟨e',?_⟩
 cases q:H b with
 |none=>rfl
 |some x=>
  have hm:b∈D_ h H:=List.mem_filter.mpr ⟨List.mem_range.mpr (Heap.lt_size e'),by simp[q]⟩
  have z:(ou h H).get? b=none:=PySem.W.hideAll_none (D_ h H) hm
  rw[z]at e;cases e
structure Mod (K:Vo) (mg:Vr) (base:Heap):Prop where
 NW:K.In base
 glob:base.Ns mainGlobals mg
 blt:∃mb,base.Ns builtinsNs mb/\∀x:Str,x ≠ "__name__"->mb x=bootBuiltins x
 nolimit:base.NoLimit
structure Cx where
 prog:Program
 w:World
 K:Vo
 mg:Vr
 base:Heap
 A:Around
 N:List Str
 s₀:Shared
 H₀:Hp
 env:Env
 outer:List Env
 stack:List Env
 ex:List Addr
 fn:Str->Bool
 calm:Bool
 pn:Va
 xe:Value->Shared->Prop
noncomputable def frs(l:List Env):List Addr:=l.filterMap (·.frame)
noncomputable abbrev Cx.fs(X:Cx):List Addr:=frs X.outer
def Co(sc:Scope)(x:Str):Prop:=sc.names.lookup x=some .local\/sc.names.lookup x=some .cell\/sc.names.lookup x=some .free
def xS(sc:Scope)(x:Str):Prop:=sc.names.lookup x=some .local\/sc.names.lookup x=some .cell
def Er(env:Env)(h:Heap)(m:Vr)(x:Str)(u:Value):Prop:=
 (env.kindOf x=some .local/\m x=some u)\/((env.kindOf x=some .cell\/env.kindOf x=some .free)/\∃c,env.cells.lookup x=some c/\h.IsCell c (some u))
structure Cx.Ok (X:Cx):Prop where
 mod:Mod X.K X.mg X.base
 kind:X.env.scope.kind = .function
 glob:X.env.globals=mainGlobals
 blt:X.env.builtins=builtinsNs
 above:X.s₀.heap.objs.size<=X.env.locals
 inj:∀x y c,X.env.cells.lookup x=some c->X.env.cells.lookup y=some c->x=y
 has:∀x,(X.env.kindOf x=some .cell\/X.env.kindOf x=some .free)->∃c,X.env.cells.lookup x=some c
 MY:∀x c,X.fn x=true->X.env.cells.lookup x=some c->X.s₀.heap.objs.size<=c
 hd:X.calm=true->X.A.handled=none
 frames:X.A.frames=some X.stack
 stk:X.stack=X.outer\/(X.stack=X.env::X.outer/\X.env.frame=some X.env.locals)
 NX:∀b∈X.ex,b≠X.env.locals/\∀x c,X.env.cells.lookup x=some c->c≠b
 bs:∀b o,X.base.get? b=some o->X.s₀.heap.get? b=some o/\X.H₀ b=none
 LV:X.base.objs.size<=X.s₀.heap.objs.size
 Lg:∀b o,X.base.get? b=some o->b ∉ X.ex
 Lr:∀b∈X.ex,b ∉ X.fs
 JC:X.s₀.heap.FunFrames X.base X.outer
 Ms:∀b∈X.fs,X.H₀ b=none
structure Inv (X:Cx) (pins:Va) (σ:List (Option V)) (H:Hp) (s:Shared):Prop where
 ok:X.Ok
 os:s.os=X.s₀.os
 bare:AllBare s.gens
 base:Un X.fs X.ex X.H₀ H X.s₀.heap s.heap
 loc:∃m,s.heap.Ns X.env.locals m/\∀(i:Nat) (x:Str) (v:V),X.N[i]?=some x->σ[i]?=some (some v)->Co X.env.scope x->∃u,RelV v u/\Er X.env s.heap m x u
 cell:∀x c,X.env.cells.lookup x=some c->∃v,s.heap.IsCell c v
 free:H X.env.locals=none
 Io:∀x c,X.env.cells.lookup x=some c->H c=none
 pin:∀p∈X.pn++pins,s.heap.get? p.1=some p.2/\H p.1=none/\p.1≠X.env.locals/\p.1 ∉ X.fs/\∀v,p.2.data ≠ .cell v
 hok:IB X.prog X.w H s.heap
 len:σ.length=X.N.length
section
variable {X:Cx} {pins:Va} {σ:List (Option V)} {H H':Hp} {s:Shared} {h':Heap}
def Cx.Ok.NY(ok:X.Ok){b:Addr}{o:Obj}(e:X.base.get? b=some o):b ∉ X.fs:=fun hb=>by
 have:=(ok.JC.mem hb).1
 rw[e]at this;cases this
theorem Inv.bs(I:Inv X pins σ H s):∀b o,X.base.get? b=some o->s.heap.get? b=some o/\H b=none:=fun b o e=>
 ⟨I.base.keep b o (I.ok.bs b o e).1 (I.ok.bs b o e).2 (I.ok.NY e) (I.ok.Lg b o e),I.base.free b o (I.ok.bs b o e).1 (I.ok.bs b o e).2 (I.ok.Lg b o e)⟩
def Inv.bk(I:Inv X pins σ H s):∀b o,X.base.get? b=some o->s.heap.get? b=some o:=fun b o e=>(I.bs b o e).1
theorem Inv.mod(I:Inv X pins σ H s):Mod X.K X.mg X.base:=I.ok.mod
def Inv.Ls(I:Inv X pins σ H s):X.K.In s.heap:=I.ok.mod.NW.keeps I.bk
theorem Inv.lt(I:Inv X pins σ H s):X.env.locals < s.heap.objs.size:=let ⟨_,hn,_⟩:=I.loc;hn.lt
def Inv.sz(I:Inv X pins σ H s):X.s₀.heap.objs.size<=s.heap.objs.size:=Nat.le_trans I.ok.above (Nat.le_of_lt I.lt)
def Inv.M8(I:Inv X pins σ H s){a:Addr}(h:s.heap.objs.size<=a):a ∉ X.fs:=fun hb=>by
 obtain⟨_,o,ho,_⟩:=I.ok.JC.mem hb
 exact absurd (Nat.lt_of_lt_of_le (Heap.lt_size ho) (Nat.le_trans I.sz h)) (Nat.lt_irrefl _)
def Inv.Mt(I:Inv X pins σ H s):∀x c,X.env.cells.lookup x=some c->c≠X.env.locals:=fun x c e z=>by
 obtain⟨v,o,ho,hd⟩:=I.cell x c e
 obtain⟨m,⟨o',es,ep,ho',hd',_⟩,_⟩:=I.loc
 rw[z,ho']at ho;cases ho;rw[hd']at hd;cases hd
theorem Inv.JC(I:Inv X pins σ H s):s.heap.FunFrames X.base X.outer:=by
 have all:∀(l:List Env),(∀b∈frs l,b∈X.fs)->X.s₀.heap.FunFrames X.base l->s.heap.FunFrames X.base l:=by
  intro l
  induction l with
  |nil=>intro _ _;trivial
  |cons env r ih=>
   intro hs hl
   obtain⟨hk,⟨L,o,hf,hn,ho,hd⟩,hr⟩:=hl
   have hL:L∈X.fs:=hs L (by unfold frs;rw[List.filterMap_cons,hf];exact List.mem_cons_self)
   obtain⟨sl,e⟩:=I.base.slot L o ho (I.ok.Ms L hL) hL fun z=>I.ok.Lr L z hL
   exact⟨hk,⟨L,_,hf,hn,e,hd⟩,ih (fun b hb=>hs b (by unfold frs;rw[List.filterMap_cons,hf];exact List.mem_cons_of_mem _ hb)) hr⟩
 exact all X.outer (fun _ hb=>hb) I.ok.JC
theorem Inv.stack(I:Inv X pins σ H s):s.heap.FunFrames X.base X.stack:=by
 rcases I.ok.stk with e|⟨e,hf⟩
 ·rw[e];exact I.JC
 ·rw[e]
  obtain⟨m,hn,_⟩:=I.loc
  refine .cons (by rw[I.ok.kind];decide) hf hn ?_ I.JC
  exact Heap.get?_none_of_le (Nat.le_trans I.ok.LV I.ok.above)
def Inv.Jh(I:Inv X pins σ H s):∀b∈frs X.stack,b∈X.env.locals::X.fs:=fun b hb=>by
 rcases I.ok.stk with e|⟨e,hf⟩
 ·rw[e]at hb;exact List.mem_cons_of_mem _ hb
 ·rw[e]at hb
  unfold frs at hb
  rw[List.filterMap_cons,hf]at hb
  exact hb
def Inv.K8(I:Inv X pins σ H s):∀b∈frs X.stack,H b=none:=fun b hb=>by
 rcases List.mem_cons.mp (I.Jh b hb)with e|hb
 ·rw[e];exact I.free
 ·obtain⟨_,o,ho,_⟩:=I.ok.JC.mem hb
  exact I.base.free b o ho (I.ok.Ms b hb) fun z=>I.ok.Lr b z hb
def Inv.step{g':Array GenState}{t':Nat}{d':Drawn}{ch:List Addr}(I:Inv X pins σ H s)
  (hch:∀b∈ch,(b∈X.ex\/X.s₀.heap.objs.size<=b)/\b≠X.env.locals/\(∀x c,X.env.cells.lookup x=some c->c≠b)/\∀p∈X.pn++pins,p.1≠b)
  (keep:∀b o,b≠X.env.locals->b ∉ X.fs->b ∉ ch->s.heap.get? b=some o->H b=none->h'.get? b=some o)
  (slot:∀b o,b≠X.env.locals->b∈X.fs->b ∉ ch->s.heap.get? b=some o->H b=none->∃sl,h'.get? b=some { o with slots:=sl }) (free:∀b o,b ∉ ch->s.heap.get? b=some o->H b=none->H' b=none)
  (there:∀b o,b ∉ ch->s.heap.get? b=some o->∃o',h'.get? b=some o')
  (tups:∀b xs,H b=some (.tup xs)->H' b=some (.tup xs)) (J5:∀b o u,H b=some (.frz o u)->H' b=some (.frz o u)) (Kw:∀b ps,H b=some (.Mp ps)->∃more,H' b=some (.Mp (ps++more)))
  (ns:∀m,s.heap.Ns X.env.locals m->h'.Ns X.env.locals m) (hok:IB X.prog X.w H' h') (hg:AllBare g') :
  Inv X pins σ H' { s with heap:=h',gens:=g',drawn:=d',toks:=t' }:=by
 have Pg:∀b o,X.s₀.heap.get? b=some o->b≠X.env.locals:=fun b o e=>Nat.ne_of_lt (Nat.lt_of_lt_of_le (Heap.lt_size e) I.ok.above)
 have Nv:∀b o,X.s₀.heap.get? b=some o->b ∉ X.ex->b ∉ ch:=fun b o e hx hb=>by
  rcases(hch b hb).1 with z|z
  ·exact hx z
  ·exact absurd (Nat.lt_of_lt_of_le (Heap.lt_size e) z) (Nat.lt_irrefl _)
 have cellK:∀x c,X.env.cells.lookup x=some c->∀v,s.heap.IsCell c v->h'.IsCell c v:=fun x c e v ⟨o,ho,hd⟩=>by
  have M9:c ∉ ch:=fun z=>(hch c z).2.2.1 x c e rfl
  by_cases hc:c∈X.fs
  ·obtain⟨sl,q⟩:=slot c o (I.Mt x c e) hc M9 ho (I.Io x c e)
   exact⟨_,q,hd⟩
  ·exact⟨o,keep c o (I.Mt x c e) hc M9 ho (I.Io x c e),hd⟩
 refine⟨I.ok,I.os,hg,⟨fun b o e n hb hx=>?_,fun b o e n hb hx=>?_,fun b o e n hx=>?_,fun b o e hx=>?_,fun b xs e=>tups b xs (I.base.tups b xs e),fun b o xs e=>J5 b o xs (I.base.J5 b o xs e),fun b ps e=>?_⟩,?_,fun x c e=>?_,?_,fun x c e=>?_,fun p hp=>?_,hok,I.len⟩
 ·exact keep b o (Pg b o e) hb (Nv b o e hx) (I.base.keep b o e n hb hx) (I.base.free b o e n hx)
 ·obtain⟨sl,e1⟩:=I.base.slot b o e n hb hx
  obtain⟨sl',e2⟩:=slot b _ (Pg b o e) hb (Nv b o e hx) e1 (I.base.free b o e n hx)
  exact⟨sl',e2⟩
 ·obtain⟨o',e1⟩:=I.base.there b o e hx
  exact free b o' (Nv b o e hx) e1 (I.base.free b o e n hx)
 ·obtain⟨o',e1⟩:=I.base.there b o e hx
  exact there b o' (Nv b o e hx) e1
 ·obtain⟨m1,e1⟩:=I.base.Kw b ps e
  obtain⟨m2,e2⟩:=Kw b _ e1
  exact⟨m1++m2,by rw[e2,Array.append_assoc]⟩
 ·obtain⟨m,hn,hl⟩:=I.loc
  refine⟨m,ns m hn,fun i x v e1 e2 e3=>?_⟩
  obtain⟨u,r,l⟩:=hl i x v e1 e2 e3
  refine⟨u,r,?_⟩
  rcases l with l|⟨k,c,e,z⟩
  ·exact .inl l
  ·exact .inr ⟨k,c,e,cellK x c e _ z⟩
 ·obtain⟨v,z⟩:=I.cell x c e
  exact⟨v,cellK x c e v z⟩
 ·obtain⟨m,⟨o,_,_,ho,_⟩,_⟩:=I.loc
  exact free _ o (fun z=>(hch _ z).2.1 rfl) ho I.free
 ·obtain⟨v,o,ho,hd⟩:=I.cell x c e
  exact free c o (fun z=>(hch c z).2.2.1 x c e rfl) ho (I.Io x c e)
 ·obtain⟨e,n,ne,nf,d⟩:=I.pin p hp
  have M9:p.1 ∉ ch:=fun z=>(hch p.1 z).2.2.2 p hp rfl
  exact⟨keep p.1 p.2 ne nf M9 e n,free p.1 p.2 M9 e n,ne,nf,d⟩
def Inv.un{t':Nat}(I:Inv X pins σ H s)(u:Un X.fs [] H H' s.heap h')(hok:IB X.prog X.w H' h'):Inv X pins σ H' { s with heap:=h',toks:=t' }:=by
 obtain⟨m,⟨o,es,ep,ho,r⟩,_⟩:=id I.loc
 obtain⟨sl,hL⟩:=u.any ho I.free (by simp)
 exact I.step (g':=s.gens) (d':=s.drawn) (ch:=[]) (fun _ z=>nomatch z) (fun b o _ hb _ e n=>u.keep b o e n hb (by simp)) (fun b o _ hb _ e n=>u.slot b o e n hb (by simp)) (fun b o _ e n=>u.free b o e n (by simp)) (fun b o _ e=>u.there b o e (by simp)) u.tups u.J5 u.Kw (fun m' hm=>by
  obtain⟨o',es',NZ,ho',r'⟩:=hm
  rw[ho]at ho';cases ho'
  exact⟨_,es',NZ,hL,r'⟩) hok I.bare
def Inv.call{g':Array GenState}{t':Nat}{d':Drawn}{ch:List Addr}(I:Inv X pins σ H s)(u:Un (frs X.stack) ch H H' s.heap h')(hok:IB X.prog X.w H' h')(hg:AllBare g')
  (hch:∀b∈ch,(b∈X.ex\/X.s₀.heap.objs.size<=b)/\b≠X.env.locals/\(∀x c,X.env.cells.lookup x=some c->c≠b)/\∀p∈X.pn++pins,p.1≠b) :
  Inv X pins σ H' { s with heap:=h',gens:=g',drawn:=d',toks:=t' }:=by
 obtain⟨m,⟨o,es,ep,ho,r⟩,_⟩:=id I.loc
 obtain⟨sl,hL⟩:=u.any ho I.free fun z=>(hch _ z).2.1 rfl
 exact I.step (ch:=ch) hch (fun b o hL hb hc e n=>u.keep b o e n (fun z=>(List.mem_cons.mp (I.Jh b z)).elim hL hb) hc) (fun b o _ _ hc e n=>u.any e n hc) (fun b o hc e n=>u.free b o e n hc) (fun b o hc e=>u.there b o e hc) u.tups u.J5 u.Kw (fun m' hm=>by
  obtain⟨o',es',NZ,ho',r'⟩:=hm
  rw[ho]at ho';cases ho'
  exact⟨_,es',NZ,hL,r'⟩) hok hg
def Inv.turned{t':Nat}{it:Addr}(I:Inv X pins σ H s)(k:∀b o,b≠it->s.heap.get? b=some o->h'.get? b=some o)(hn:H it=none)(hL:it≠X.env.locals)
  (h1:it∈X.ex\/X.s₀.heap.objs.size<=it) (h2:∀x c,X.env.cells.lookup x=some c->c≠it) (h3:∀p∈X.pn++pins,p.1≠it):Inv X pins σ H { s with heap:=h',toks:=t' }:=by
 have M_:∀b u,H b=some u->b≠it:=fun b u e z=>by rw[z,hn]at e;cases e
 refine I.step (g':=s.gens) (d':=s.drawn) (ch:=[it]) (fun b hb=>?_) (fun b o _ _ hc e _=>k b o (fun z=>hc (by simp[z])) e) (fun b o _ _ hc e _=>⟨o.slots,k b o (fun z=>hc (by simp[z])) e⟩) (fun _ _ _ _ n=>n)
  (fun b o hc e=>⟨o,k b o (fun z=>hc (by simp[z])) e⟩) (fun _ _ e=>e) (fun _ _ _ e=>e) (fun b ps e=>⟨#[],by rw[e];simp⟩) (fun m hm=>?_) (fun b u e=>?_) I.bare
 ·have e:b=it:=by simpa using hb
  subst e
  exact⟨h1,hL,h2,h3⟩
 ·obtain⟨o,es,ep,ho,r⟩:=hm
  exact⟨o,es,ep,k _ o (Ne.symm hL) ho,r⟩
 ·refine(I.hok b u e).stay (fun c v hc q=>k c v ?_ q) (fun _ q=>q) fun _ _ q=>q
  rcases hc with z|z
  ·rw[z];exact M_ b u e
  ·exact M_ c _ z
def Inv.tok(I:Inv X pins σ H s)(t:Nat):Inv X pins σ H { s with toks:=t }:=I.un (h':=s.heap) (t':=t) Un.refl I.hok
theorem Inv.kept{t':Nat}(I:Inv X pins σ H s)(k:∀b u,s.heap.get? b=some u->h'.get? b=some u):Inv X pins σ H { s with heap:=h',toks:=t' }:=I.un (Un.kept k) (I.hok.kept k)
theorem Inv.laid{a:Addr}{o:HO}{t':Nat}(I:Inv X pins σ H s)(k:∀b u,s.heap.get? b=some u->h'.get? b=some u)(hp:s.heap.objs.size<=a)(new:ObjOk X.prog X.w (upd H a o) h' a o) :
  Inv X pins σ (upd H a o) { s with heap:=h',toks:=t' }:=I.un (Un.laid k hp (I.hok.fresh hp)) (I.hok.laid k hp new)
theorem Inv.write{x e:Addr}{o:HO}{t':Nat}(I:Inv X pins σ H s)(mu:Cn (H x))(he:e=x\/H e=some (.own x))(k:∀b u,b≠e->s.heap.get? b=some u->h'.get? b=some u)(MX:∃u,h'.get? e=some u)
  (new:ObjOk X.prog X.w (upd H x o) h' x o):Inv X pins σ (upd H x o) { s with heap:=h',toks:=t' }:=I.un (Un.write mu he k MX) (I.hok.write mu he k MX new)
def Inv.weak{σ':List (Option V)}(I:Inv X pins σ H s)(hl:σ'.length=σ.length)(w:∀(i:Nat) v,σ'[i]?=some (some v)->σ[i]?=some (some v)):Inv X pins σ' H s:=
 ⟨I.ok,I.os,I.bare,I.base,let ⟨m,hn,hl'⟩:=I.loc;⟨m,hn,fun i x v e1 e2 e3=>hl' i x v e1 (w i v e2) e3⟩,I.cell,I.free,I.Io,I.pin,I.hok,hl.trans I.len⟩
def Inv.JE{K_:Va}(I:Inv X pins σ H s)(h:∀p∈K_,s.heap.get? p.1=some p.2/\H p.1=none/\p.1≠X.env.locals/\p.1 ∉ X.fs/\∀v,p.2.data ≠ .cell v):Inv X K_ σ H s:=
 ⟨I.ok,I.os,I.bare,I.base,I.loc,I.cell,I.free,I.Io,fun p hp=>(List.mem_append.mp hp).elim (fun z=>I.pin p (List.mem_append_left _ z)) (h p),I.hok,I.len⟩
def pY{N:Vs}(hN:N.Nodup){i j:Nat}{x:Str}(a:N[i]?=some x)(b:N[j]?=some x):i=j:=by
 obtain⟨h1,e1⟩:=List.getElem?_eq_some_iff.mp a
 obtain⟨h2,e2⟩:=List.getElem?_eq_some_iff.mp b
 exact(List.getElem_inj hN).mp (e1.trans e2.symm)
def nG {M : Model} {A : Around} {E : Value -> Shared -> Prop} {i : Nat} {x : Str} {v : V} {u : Value} {Q : Unit -> Shared -> Prop} (I : Inv X pins σ H s) (hN : X.N.Nodup) (hi : X.N[i]? = some x) (hx : xS X.env.scope x) (r : RelV v u)
  (h : ∀ s', Inv X pins (σ.set i (some v)) H s' -> (∃ a, Heap.SameBut a s.heap s'.heap /\ (a = X.env.locals \/ X.env.cells.lookup x = some a)) -> Q () s') (hf : X.fn x = true \/ X.env.scope.names.lookup x = some .local := by first | exact .inl rfl | exact .inr rfl | assumption) : wpAny M A (storeName X.env x u) Q E s := by
 obtain ⟨m, hn, hl⟩ := id I.loc
 have hcls : (X.env.scope.kind == .class || (X.env.scope.kind == .module && X.env.locals != X.env.globals)) = false := by rw [I.ok.kind]; rfl
 have Ph : i < σ.length := by rw [I.len]; exact (List.getElem?_eq_some_iff.mp hi).1
 have Mt := I.Mt
 have tracked : ∀ {a : Addr} {h' : Heap}, (∃ o, s.heap.get? a = some o /\ H a = none) -> Heap.SameBut a s.heap h' -> IB X.prog X.w H h' := fun {a h'} ha hs b ob e => by
  obtain ⟨_, _, hfree⟩ := ha
  refine (I.hok b ob e).stay (fun c w' hc q => (hs.2 c ?_).trans q) (fun _ q => q) fun _ _ q => q
  rintro rfl
  rcases hc with rfl | hc
  ·rw [hfree] at e; cases e
  ·rw [hfree] at hc; cases hc
 rcases hx with hk | hk
 ·refine wpAny_storeName_local hk hn (fun h' hn' hs => ?_) hcls
  obtain ⟨oL, _, _, Qd, _⟩ := id hn
  refine h _ ⟨I.ok, I.os, I.bare, ⟨fun b o e n hb hx => ?_, fun b o e n hb hx => ?_, I.base.free, fun b o e hx => ?_, I.base.tups, I.base.J5, I.base.Kw⟩, ⟨_, hn', fun j y v' e1 e2 e3 => ?_⟩, fun y c e => ?_, I.free, I.Io, fun p hp => ?_, tracked ⟨oL, Qd, I.free⟩ hs, by simpa using I.len⟩ ⟨_, hs, .inl rfl⟩
  ·exact (hs.2 b (Nat.ne_of_lt (Nat.lt_of_lt_of_le (Heap.lt_size e) I.ok.above))).trans (I.base.keep b o e n hb hx)
  ·obtain ⟨sl, e1⟩ := I.base.slot b o e n hb hx
   exact ⟨sl, (hs.2 b (Nat.ne_of_lt (Nat.lt_of_lt_of_le (Heap.lt_size e) I.ok.above))).trans e1⟩
  ·obtain ⟨o', e1⟩ := I.base.there b o e hx
   exact ⟨o', (hs.2 b (Nat.ne_of_lt (Nat.lt_of_lt_of_le (Heap.lt_size e) I.ok.above))).trans e1⟩
  ·by_cases hj : j = i
   ·subst hj
    rw [hi] at e1; cases e1
    rw [List.getElem?_set_self Ph] at e2
    cases e2
    exact ⟨u, r, .inl ⟨hk, by simp⟩⟩
   ·rw [List.getElem?_set_ne (Ne.symm hj)] at e2
    obtain ⟨u', r', q⟩ := hl j y v' e1 e2 e3
    refine ⟨u', r', ?_⟩
    rcases q with ⟨k, e⟩ | ⟨k, c, e, z⟩
    ·refine .inl ⟨k, ?_⟩
     have : y ≠ x := fun e => hj (pY hN e1 (e ▸ hi))
     simp [this, e]
    ·exact .inr ⟨k, c, e, z.sameBut hs (Mt y c e)⟩
  ·obtain ⟨w', z⟩ := I.cell y c e
   exact ⟨w', z.sameBut hs (Mt y c e)⟩
  ·obtain ⟨e, n, ne, nf, d⟩ := I.pin p hp
   exact ⟨(hs.2 p.1 ne).trans e, n, ne, nf, d⟩
 ·have hfn : X.fn x = true := by
   rcases hf with z | z
   ·exact z
   ·rw [z] at hk; cases hk
  obtain ⟨c, hc⟩ := I.ok.has x (.inl hk)
  obtain ⟨w', z⟩ := I.cell x c hc
  refine wpAny_storeName_cell I.ok.kind hk hc z (fun h' hc' hs => ?_)
  obtain ⟨oc, hoc, N0⟩ := id z
  refine h { s with heap := h' } ⟨I.ok, I.os, I.bare, ⟨fun b o e n hb hx => ?_, fun b o e n hb hx => ?_, I.base.free, fun b o e hx => ?_, I.base.tups, I.base.J5, I.base.Kw⟩, ⟨m, hn.sameBut hs (Ne.symm (Mt x c hc)), fun j y v' e1 e2 e3 => ?_⟩, fun y c' e => ?_, I.free, I.Io, fun p hp => ?_, tracked ⟨oc, hoc, I.Io x c hc⟩ hs, by simpa using I.len⟩ ⟨c, hs, .inr hc⟩
  ·exact (hs.2 b (Nat.ne_of_lt (Nat.lt_of_lt_of_le (Heap.lt_size e) (I.ok.MY x c hfn hc)))).trans (I.base.keep b o e n hb hx)
  ·obtain ⟨sl, e1⟩ := I.base.slot b o e n hb hx
   exact ⟨sl, (hs.2 b (Nat.ne_of_lt (Nat.lt_of_lt_of_le (Heap.lt_size e) (I.ok.MY x c hfn hc)))).trans e1⟩
  ·obtain ⟨o', e1⟩ := I.base.there b o e hx
   exact ⟨o', (hs.2 b (Nat.ne_of_lt (Nat.lt_of_lt_of_le (Heap.lt_size e) (I.ok.MY x c hfn hc)))).trans e1⟩
  ·by_cases hj : j = i
   ·subst hj
    rw [hi] at e1; cases e1
    rw [List.getElem?_set_self Ph] at e2
    cases e2
    exact ⟨u, r, .inr ⟨.inl hk, c, hc, hc'⟩⟩
   ·rw [List.getElem?_set_ne (Ne.symm hj)] at e2
    obtain ⟨u', r', q⟩ := hl j y v' e1 e2 e3
    refine ⟨u', r', ?_⟩
    rcases q with q | ⟨k, c', e, z'⟩
    ·exact .inl q
    ·refine .inr ⟨k, c', e, z'.sameBut hs ?_⟩
     rintro rfl
     exact hj (pY hN e1 (I.ok.inj _ _ _ e hc ▸ hi))
  ·by_cases hcc : c' = c
   ·subst hcc; exact ⟨_, hc'⟩
   ·obtain ⟨w2, z2⟩ := I.cell y c' e
    exact ⟨w2, z2.sameBut hs hcc⟩
  ·obtain ⟨e, n, ne, nf, d⟩ := I.pin p hp
   refine ⟨(hs.2 p.1 ?_).trans e, n, ne, nf, d⟩
   intro q
   rw [q, hoc] at e
   have q' : oc = p.2 := Option.some.inj e
   exact d w' (by rw [<- q']; exact N0)
def dP{M:Model}{A:Around}{E:Vq}{i:Nat}{x:Str}{v:V}{u:Value}{Q:Unit->Shared->Prop}(I:Inv X pins σ H s)(hN:X.N.Nodup)(hi:X.N[i]?=some x)(hx:xS X.env.scope x)(r:RelV v u)
  (h:∀s',Inv X pins (σ.set i (some v)) H s'->Q () s') (hf:X.fn x=true\/X.env.scope.names.lookup x=some .local:=by first|exact .inl rfl|exact .inr rfl|assumption):wpAny M A (storeName X.env x u) Q E s:=
 nG I hN hi hx r (fun s' I' _=>h s' I') hf
def Inv.Na{s':Shared}{ch:List Addr}(I:Inv X pins σ H s)(ho:s'.os=s.os)(u:Un (frs X.stack) ch H H' s.heap s'.heap)(hok:IB X.prog X.w H' s'.heap)(hg:AllBare s'.gens)
  (hch:∀b∈ch,(b∈X.ex\/X.s₀.heap.objs.size<=b)/\b≠X.env.locals/\(∀x c,X.env.cells.lookup x=some c->c≠b)/\∀p∈X.pn++pins,p.1≠b):Inv X pins σ H' s':=by
 obtain⟨h',g',d',t',o'⟩:=s'
 have e:o'=s.os:=ho
 subst e
 exact I.call (g':=g') (t':=t') (d':=d') u hok hg hch
end
abbrev XK:=Value->Option Addr->Hp->Prop
abbrev St:=List (Option V)
abbrev VK:=V->Hp->Prop
abbrev TE:=St->Hp->VK->Prop
abbrev TT:=St->Hp->(Bool->Hp->Prop)->Prop
abbrev TA:=St->Hp->(List V->Hp->Prop)->Prop
structure rq where
 nx:St->Hp->Prop
 rt:VK
 bk:St->Hp->Prop:=fun _ _=>False
 ct:St->Hp->Prop:=fun _ _=>False
abbrev TS:=rq->St->Hp->Prop
def EP(X:Cx)(pins:Va)(σ:St)(Q:VK)(u:Value)(s':Shared):Prop:=∃v H',Inv X pins σ H' s'/\RelV v u/\Q v H'
def TP(X:Cx)(pins:Va)(σ:St)(Q:Bool->Hp->Prop)(b:Bool)(s':Shared):Prop:=∃H',Inv X pins σ H' s'/\Q b H'
def AP(X:Cx)(pins:Va)(σ:St)(Q:List V->Hp->Prop)(us:Vv)(s':Shared):Prop:=∃vs H',Inv X pins σ H' s'/\Vals vs us/\Q vs H'
def SP(X:Cx)(pins:Va)(D:rq)(f:Flow)(s':Shared):Prop:=
 match f with
 | .next=>∃σ' H',Inv X pins σ' H' s'/\D.nx σ' H'
 | .brk=>∃σ' H',Inv X pins σ' H' s'/\D.bk σ' H'
 | .cont=>∃σ' H',Inv X pins σ' H' s'/\D.ct σ' H'
 | .ret u=>∃v σ' H',Inv X pins σ' H' s'/\RelV v u/\D.rt v H'
def PE(X:Cx)(e:Expr)(t:TE):Prop:=
 ∀(pins:Va) (s:Shared) (σ:St) (H:Hp) (Q:VK),Inv X pins σ H s->t σ H Q->wpAny (model X.prog X.w) X.A (eval e X.env) (EP X pins σ Q) X.xe s
def PT(X:Cx)(e:Expr)(t:TT):Prop:=
 ∀(pins:Va) (s:Shared) (σ:St) (H:Hp) (Q:Bool->Hp->Prop),Inv X pins σ H s->t σ H Q->wpAny (model X.prog X.w) X.A (isTrue e X.env (eval e X.env)) (TP X pins σ Q) X.xe s
def PW(X:Cx)(e:Expr)(t:TT):Prop:=
 ∀(whole:Sem Value) (pins:Va) (s:Shared) (σ:St) (H:Hp) (Q:Bool->Hp->Prop),Inv X pins σ H s->t σ H Q->wpAny (model X.prog X.w) X.A (isTrue e X.env whole) (TP X pins σ Q) X.xe s
def PW.pt{X:Cx}{e:Expr}{t:TT}(h:PW X e t):PT X e t:=h _
def PA(X:Cx)(es:List Expr)(t:TA):Prop:=
 ∀(pos:Pos) (pins:Va) (s:Shared) (σ:St) (H:Hp) (Q:List V->Hp->Prop),Inv X pins σ H s->t σ H Q->wpAny (model X.prog X.w) X.A (spliced (backTo pos (starEach es X.env))) (AP X pins σ Q) X.xe s
def PS(X:Cx)(st:Stmt)(t:TS):Prop:=
 ∀(pins:Va) (s:Shared) (σ:St) (H:Hp) (D:rq),Inv X pins σ H s->t D σ H->wpAny (model X.prog X.w) X.A (exec st X.env) (SP X pins D) X.xe s
def Kx(X:Cx)(st:List Stmt)(t:TS):Prop:=
 ∀(pins:Va) (s:Shared) (σ:St) (H:Hp) (D:rq),Inv X pins σ H s->t D σ H->wpAny (model X.prog X.w) X.A (execs st X.env) (SP X pins D) X.xe s
def F9{α:Type}{t:Sem α}{Q Q':α->Shared->Prop}{M:Model}{A:Around}{E:Vq}{s:Shared}(h:wpAny M A t Q E s)(hQ:∀a s,Q a s->Q' a s):wpAny M A t Q' E s:=wpAny_mono h hQ fun _ _ x=>x
section
variable {X:Cx}
def Es(i:Nat):TE:=fun σ H Q=>∃v,σ[i]?=some (some v)/\Q v H
def tC(v:V):TE:=fun _ H Q=>Q v H
def AE{i:Nat}{x:Str}{pos:Pos}(hN:X.N[i]?=some x)(hv:Co X.env.scope x)(hd:(x == ("__debug__":Str))=false:=by decide)(hcd:(x == ("__classdict__":Str))=false:=by decide):PE X (.Name x pos) (Es i):=by
 intro pins s σ H Q I h
 obtain⟨v,e,h⟩:=h
 obtain⟨m,hn,hl⟩:=I.loc
 obtain⟨u,r,l⟩:=hl i x v hN e hv
 have fin:EP X pins σ Q u s:=⟨v,H,I,r,h⟩
 rcases l with⟨hk,hm⟩|⟨hk,c,hc,hcell⟩
 ·exact wpAny_Name (wpAny_loadName_local I.ok.kind hk hn hm fin) hd
 ·rcases hk with hk|hk
  ·exact wpAny_Name (wpAny_loadName_cell I.ok.kind hk hc hcell fin) hd
  ·exact wpAny_Name (wpAny_loadName_free I.ok.kind hk hc hcell fin hcd) hd
def AF{i j pos}:PE X (.Constant (.int i) j pos) (tC (.int i)):=fun _ _ _ H _ I h=>wpAny_Constant_int ⟨.int i,H,I.tok _,⟨_,rfl⟩,h⟩
def Cp{b j pos}:PE X (.Constant (.bool b) j pos) (tC (.bl b)):=fun _ _ _ H _ I h=>Constant_bool ⟨.bl b,H,I,rfl,h⟩
def AG{j pos}:PE X (.Constant .none j pos) (tC .non):=fun _ _ _ H _ I h=>Constant_none ⟨.non,H,I,rfl,h⟩
def AH{x j pos}:PE X (.Constant (.str x) j pos) (tC (.str x)):=fun _ _ _ H _ I h=>Calls.Constant_str ⟨.str x,H,I.tok _,⟨_,rfl⟩,h⟩
def Gl(X:Cx)(x:Str):Prop:=X.env.kindOf x=some .globalImplicit
def sM{E:Vq}{pins:Va}{s:Shared}{σ:St}{H:Hp}{x:Str}{u:Value}{pos:Pos}{Q:Vq}(I:Inv X pins σ H s)(hg:Gl X x)(hm:X.mg x=some u)(h:Q u s)
  (hd:(x == ("__debug__":Str))=false:=by decide):wpAny (model X.prog X.w) X.A (eval (.Name x pos) X.env) Q E s:=
 Calls.Name_function_global I.ok.kind hg (Calls.loadGlobal_global (by rw[I.ok.glob];exact I.mod.glob.keeps I.bk) hm h) hd
def eG{E:Vq}{pins:Va}{s:Shared}{σ:St}{H:Hp}{x:Str}{u:Value}{pos:Pos}{Q:Vq}(I:Inv X pins σ H s)(hg:Gl X x)(hm:X.mg x=none)(hv:bootBuiltins x=some u)(h:Q u s)
  (hn:x ≠ "__name__":=by decide) (hd:(x == ("__debug__":Str))=false:=by decide):wpAny (model X.prog X.w) X.A (eval (.Name x pos) X.env) Q E s:=by
 obtain⟨mb,h1,h2⟩:=I.mod.blt
 exact Calls.Name_function_global I.ok.kind hg (Calls.loadGlobal_builtin (by rw[I.ok.glob];exact I.mod.glob.keeps I.bk) hm (by rw[I.ok.blt];exact h1.keeps I.bk) ((h2 x hn).trans hv) h) hd
def xY{x:Str}{v:V}{u:Value}{pos:Pos}(hg:Gl X x)(hm:X.mg x=none)(hv:bootBuiltins x=some u)(r:RelV v u)(hn:x ≠ "__name__":=by decide)(hd:(x == ("__debug__":Str))=false:=by decide):PE X (.Name x pos) (tC v):=
 fun _ _ _ H _ I h=>eG I hg hm hv ⟨v,H,I,r,h⟩ hn hd
variable {a b:Expr} {ta tb:TE} {pos:Pos}
def tB(t:TE):TT:=fun σ H Q=>t σ H fun x H1=>∃c,x = .bl c/\Q c H1
def AI{e:Expr}{t:TE}(h:PE X e t)(he:∀whole,isTrue e X.env whole=(do let v <-whole;standAt e.pos;holding [v] (truthy v)):=by intro _;rfl):PT X e (tB t):=by
 intro pins s σ H Q I hw
 refine isTrue_plain (F9 (h pins s σ H _ I hw) fun v s1 ⟨x,H1,I1,r1,q1⟩=>?_) (he _)
 obtain⟨d,rfl,q⟩:=q1
 cases r1
 exact wpAny_truthy_bool ⟨H1,I1,q⟩
variable {tA Nw:TT} {rest:List Expr}
def Eu(t u:TT):TT:=fun σ H Q=>t σ H fun c H1=>if c=true then u σ H1 Q else Q false H1
def FA(t u:TT):TT:=fun σ H Q=>t σ H fun c H1=>if c=true then Q true H1 else u σ H1 Q
def Ev(t:TT):TT:=fun σ H Q=>t σ H fun c H1=>Q (!c) H1
def xZ(ha:PT X a tA):PW X (.BoolOp .And [a] pos) tA:=by
 intro wh pins s σ H Q I h
 refine isTrue_and (F9 (ha pins s σ H Q I h) fun c s1 e=>?_)
 cases c with
 |true=>exact isTrue_and_nil e
 |false=>exact e
def AJ(ha:PT X a tA):PW X (.BoolOp .Or [a] pos) tA:=by
 intro wh pins s σ H Q I h
 refine isTrue_or (F9 (ha pins s σ H Q I h) fun c s1 e=>?_)
 cases c with
 |false=>exact isTrue_or_nil e
 |true=>exact e
def AK(ha:PT X a tA)(hb:PW X (.BoolOp .And (b::rest) pos) Nw):PW X (.BoolOp .And (a::b::rest) pos) (Eu tA Nw):=by
 intro wh pins s σ H Q I h
 refine isTrue_and (F9 (ha pins s σ H _ I h) fun c s1 ⟨H1,I1,q1⟩=>?_)
 cases c with
 |true=>exact hb wh pins s1 σ H1 Q I1 q1
 |false=>exact⟨H1,I1,q1⟩
def Cq(ha:PT X a tA)(hb:PW X (.BoolOp .Or (b::rest) pos) Nw):PW X (.BoolOp .Or (a::b::rest) pos) (FA tA Nw):=by
 intro wh pins s σ H Q I h
 refine isTrue_or (F9 (ha pins s σ H _ I h) fun c s1 ⟨H1,I1,q1⟩=>?_)
 cases c with
 |true=>exact⟨H1,I1,q1⟩
 |false=>exact hb wh pins s1 σ H1 Q I1 q1
def AL(ha:PT X a tA):PT X (.UnaryOp .Not a pos) (Ev tA):=by
 intro pins s σ H Q I h
 exact isTrue_not (ha pins s σ H (fun c H1=>Q (!c) H1) I h)
def Cr(ta tb:TE):TE:=fun σ H Q=>ta σ H fun x H1=>∃c,x = .bl c/\if c=true then tb σ H1 Q else Q (.bl false) H1
def Ew(ta tb:TE):TE:=fun σ H Q=>ta σ H fun x H1=>∃c,x = .bl c/\if c=true then Q (.bl true) H1 else tb σ H1 Q
def Cs(ta:TE):TE:=fun σ H Q=>ta σ H fun x H1=>∃c,x = .bl c/\Q (.bl (!c)) H1
def AM{op}{t:TE}(h:PE X a t):PE X (.BoolOp op [a] pos) t:=fun pins s σ H Q I hw=>BoolOp_one (h pins s σ H Q I hw)
def AN(ha:PE X a ta)(hb:PE X (.BoolOp .And (b::rest) pos) tb):PE X (.BoolOp .And (a::b::rest) pos) (Cr ta tb):=by
 intro pins s σ H Q I h
 refine BoolOp_and (F9 (ha pins s σ H _ I h) fun v s1 ⟨x,H1,I1,r1,q1⟩=>?_)
 obtain⟨c,rfl,q1⟩:=q1
 cases r1
 refine wpAny_truthy_bool ?_
 cases c with
 |true=>exact hb pins s1 σ H1 Q I1 q1
 |false=>exact⟨.bl false,H1,I1,rfl,q1⟩
def Ct(ha:PE X a ta)(hb:PE X (.BoolOp .Or (b::rest) pos) tb):PE X (.BoolOp .Or (a::b::rest) pos) (Ew ta tb):=by
 intro pins s σ H Q I h
 refine BoolOp_or (F9 (ha pins s σ H _ I h) fun v s1 ⟨x,H1,I1,r1,q1⟩=>?_)
 obtain⟨c,rfl,q1⟩:=q1
 cases r1
 refine wpAny_truthy_bool ?_
 cases c with
 |false=>exact hb pins s1 σ H1 Q I1 q1
 |true=>exact⟨.bl true,H1,I1,rfl,q1⟩
def AO(ha:PE X a ta):PE X (.UnaryOp .Not a pos) (Cs ta):=by
 intro pins s σ H Q I h
 refine UnaryOp_ (F9 (ha pins s σ H _ I h) fun v s1 ⟨x,H1,I1,r1,q1⟩=>?_)
 obtain⟨c,rfl,q1⟩:=q1
 cases r1
 exact not_of (wpAny_truthy_bool ⟨.bl (!c),H1,I1,rfl,q1⟩)
def FB(t:TT)(ta tb:TE):TE:=fun σ H Q=>t σ H fun c H1=>if c=true then ta σ H1 Q else tb σ H1 Q
def vg{c:Expr}(hc:PT X c tA)(ha:PE X a ta)(hb:PE X b tb):PE X (.IfExp c a b pos) (FB tA ta tb):=by
 intro pins s σ H Q I h
 refine wpAny_IfExp (F9 (hc pins s σ H _ I h) fun d s1 ⟨H1,I1,q1⟩=>?_)
 cases d with
 |true=>exact ha pins s1 σ H1 Q I1 q1
 |false=>exact hb pins s1 σ H1 Q I1 q1
end
def SqL(K:Vo)(H:Hp)(a:Addr)(xs:List V):Prop:=
 Rd H a (.lst xs) \/
  ∃(o:Obj) (its:Vw) (n:Nat),K.lookup a=some o/\o.cls = .type "list"/\o.dict=none/\o.data = .seq its n/\its.size<=sizeLine/\Vals xs its.toList
def SqT(K:Vo)(H:Hp)(a:Addr)(xs:List V):Prop:=
 Rd H a (.tup xs) \/
  ∃(o:Obj) (its:Vw) (n:Nat),K.lookup a=some o/\o.cls = .type "tuple"/\o.dict=none/\o.data = .seq its n/\its.size<=sizeLine/\Vals xs its.toList
noncomputable def Ex:Value->Option V
 | .none=>some .non
 | .bool b=>some (.bl b)
 | .int i _=>some (.int i)
 | .str x _=>some (.str x)
 | .bytes b _=>some (.Lq b)
 | .float b _=>some (.NT b)
 | .ref a=>some (.ref a)
 | .type n=>some (.ty n)
 |_=>none
def RelV.abs{x:V}{u:Value}(r:RelV x u):Ex u=some x:=by
 cases x with
 |non=>cases r;rfl
 |bl _=>cases r;rfl
 |int _=>obtain⟨t,rfl⟩:=r;rfl
 |str _=>obtain⟨t,rfl⟩:=r;rfl
 |Lq _=>obtain⟨t,rfl⟩:=r;rfl
 |NT _=>obtain⟨t,rfl⟩:=r;rfl
 |ref _=>cases r;rfl
 |ty _=>cases r;rfl
theorem RelV.inj{x y:V}{u:Value}(r:RelV x u)(q:RelV y u):x=y:=Option.some.inj (r.abs.symm.trans q.abs)
theorem Vals.inj:∀{xs ys:List V} {us:Vv},Vals xs us->Vals ys us->xs=ys
 |_,_,_,.nil,.nil=>rfl
 |_,_,_,.cons r t,.cons r' t'=>by rw[r.inj r',Vals.inj t t']
section
variable {X:Cx} {pins:Va} {σ:St} {H:Hp} {s:Shared} {a:Addr} {xs ys:List V}
def SqL.of{K:Vo}(h:H a=some (.lst xs)):SqL K H a xs:=.inl (.inl h)
def SqT.of{K:Vo}(h:H a=some (.tup xs)):SqT K H a xs:=.inl (.inl h)
def Inv.list(I:Inv X pins σ H s)(h:SqL X.K H a xs):∃its:List Value,Vals xs its/\PlainL s.heap a its.toArray/\xs.length<=sizeLine:=by
 rcases h with h|⟨o,its,n,hk,hc,hd,hs,hz,r⟩
 ·obtain⟨z,its,n,r,e⟩:=h.ok I.hok
  exact⟨its,r,⟨_,n,e,rfl,rfl,rfl⟩,z⟩
 ·refine⟨its.toList,r,⟨o,n,I.Ls a o hk,hc,hd,by simpa using hs⟩,?_⟩
  have e:=r.length
  simp only[Array.length_toList]at e
  omega
def Inv.tuple(I:Inv X pins σ H s)(h:SqT X.K H a xs):∃its:List Value,Vals xs its/\IsTup s.heap a its.toArray/\xs.length<=sizeLine:=by
 rcases h with h|⟨o,its,n,hk,hc,_,hs,hz,r⟩
 ·obtain⟨z,its,r,p⟩:=h.ok I.hok
  exact⟨its,r,p.tup,z⟩
 ·refine⟨its.toList,r,⟨o,I.Ls a o hk,hc,n,by simpa using hs⟩,?_⟩
  have e:=r.length
  simp only[Array.length_toList]at e
  omega
def Inv.JH(I:Inv X pins σ H s)(h:SqL X.K H a xs)(h':SqL X.K H a ys):xs=ys:=by
 obtain⟨its,r,⟨o,n,e,_,_,d⟩,_⟩:=I.list h
 obtain⟨its',r',⟨o',n',e',_,_,d'⟩,_⟩:=I.list h'
 rw[e]at e';cases e'
 rw[d]at d'
 injection d' with d1 _
 have:its=its':=by simpa using congrArg Array.toList d1
 subst this
 exact r.inj r'
def Inv.Ji(I:Inv X pins σ H s)(h:SqT X.K H a xs)(h':SqT X.K H a ys):xs=ys:=by
 obtain⟨its,r,⟨o,e,_,n,d⟩,_⟩:=I.tuple h
 obtain⟨its',r',⟨o',e',_,n',d'⟩,_⟩:=I.tuple h'
 rw[e]at e';cases e'
 rw[d]at d'
 injection d' with d1 _
 have:its=its':=by simpa using congrArg Array.toList d1
 subst this
 exact r.inj r'
end
noncomputable abbrev Cx.wish(X:Cx)(E:Vq):Cx:={ X with xe:=E }
noncomputable abbrev Cx.Mv(X:Cx):Cx:=X.wish fun _ _=>False
theorem Cx.Ok.wish{X:Cx}(ok:X.Ok)(E:Vq):(X.wish E).Ok:=
 ⟨ok.mod,ok.kind,ok.glob,ok.blt,ok.above,ok.inj,ok.has,ok.MY,ok.hd,ok.frames,ok.stk,ok.NX,ok.bs,ok.LV,ok.Lg,ok.Lr,ok.JC,ok.Ms⟩
def Cx.Ok.Ip{X:Cx}{E:Vq}(ok:(X.wish E).Ok):X.Ok:=
 ⟨ok.mod,ok.kind,ok.glob,ok.blt,ok.above,ok.inj,ok.has,ok.MY,ok.hd,ok.frames,ok.stk,ok.NX,ok.bs,ok.LV,ok.Lg,ok.Lr,ok.JC,ok.Ms⟩
section
variable {X:Cx} {pins:Va} {σ:St} {H:Hp} {s:Shared} {E:Vq}
theorem Inv.wish(I:Inv X pins σ H s)(E:Vq):Inv (X.wish E) pins σ H s:=⟨I.ok.wish E,I.os,I.bare,I.base,I.loc,I.cell,I.free,I.Io,I.pin,I.hok,I.len⟩
theorem Inv.Ip(I:Inv (X.wish E) pins σ H s):Inv X pins σ H s:=⟨I.ok.Ip,I.os,I.bare,I.base,I.loc,I.cell,I.free,I.Io,I.pin,I.hok,I.len⟩
theorem SP.Ip{D:rq}{f:Flow}{s':Shared}(h:SP (X.wish E) pins D f s'):SP X pins D f s':=by
 cases f with
 |next=>obtain⟨σ',H',I,q⟩:=h;exact⟨σ',H',I.Ip,q⟩
 |brk=>obtain⟨σ',H',I,q⟩:=h;exact⟨σ',H',I.Ip,q⟩
 |cont=>obtain⟨σ',H',I,q⟩:=h;exact⟨σ',H',I.Ip,q⟩
 |ret u=>obtain⟨v,σ',H',I,r,q⟩:=h;exact⟨v,σ',H',I.Ip,r,q⟩
theorem Kx.Mv{st:List Stmt}{t:TS}(h:Kx X.Mv st t):Kx X st t:=fun pins s σ H D I hw=>
 wpAny_mono (h pins s σ H D (I.wish _) hw) (fun _ _ q=>q.Ip) fun _ _ z=>False.elim z
end
section
variable {X:Cx} {st:Stmt} {rest:List Stmt} {t u:TS} {e:Expr} {te:TE} {pos:Pos}
def Cu:TS:=fun D σ H=>D.nx σ H
def Ey(t u:TS):TS:=fun D σ H=>t { D with nx:=u D } σ H
def x_:Kx X [] Cu:=fun _ _ σ H _ I h=>wpAny_execs_nil ⟨σ,H,I,h⟩
def vh(h1:PS X st t)(h2:Kx X rest u):Kx X (st::rest) (Ey t u):=by
 intro pins s σ H D I h
 refine wpAny_execs_cons (F9 (h1 pins s σ H { D with nx:=u D } I h) fun f s1 q=>?_)
 cases f with
 |next=>
  obtain⟨σ',H',I',q⟩:=q
  exact h2 pins s1 σ' H' D I' q
 |ret v=>exact q
 |brk=>exact q
 |cont=>exact q
def ya(h1:PS X st t):Kx X [st] t:=by
 intro pins s σ H D I h
 refine wpAny_execs_cons (F9 (h1 pins s σ H D I h) fun f s1 q=>?_)
 cases f with
 |next=>exact wpAny_execs_nil q
 |ret v=>exact q
 |brk=>exact q
 |cont=>exact q
def Inv.quiet{pins:Va}{σ:St}{H:Hp}{s:Shared}(I:Inv X pins σ H s):interactive X.env=false:=by simp[interactive,I.ok.kind]
def Cv(te:TE):TS:=fun D σ H=>te σ H fun _ H1=>D.nx σ H1
def yb(he:PE X e te)(hs:swapsWith e none pos.line X.env=pure false:=by rfl):PS X (.Expr e pos) (Cv te):=by
 intro pins s σ H D I h
 exact wpAny_Expr_any (F9 (he pins s σ H _ I h) fun v s1 ⟨x,H1,I1,r1,q1⟩=>⟨σ,H1,I1,q1⟩) I.quiet hs
def Ez(te:TE):TS:=fun D σ H=>te σ H D.rt
def AQ(he:PE X e te):PS X (.Return (some e) pos) (Ez te):=by
 intro pins s σ H D I h
 exact wpAny_Return_some (F9 (he pins s σ H _ I h) fun v s1 ⟨x,H1,I1,r1,q1⟩=>⟨x,σ,H1,I1,r1,q1⟩)
def EA(c:TT)(t u:TS):TS:=fun D σ H=>c σ H fun b H1=>if b=true then t D σ H1 else u D σ H1
def Cw{c:Expr}{a b:List Stmt}{tc:TT}(hc:PT X c tc)(ha:Kx X a t)(hb:Kx X b u):PS X (.If c a b pos) (EA tc t u):=by
 intro pins s σ H D I h
 refine wpAny_If (F9 (hc pins s σ H _ I h) fun d s1 ⟨H1,I1,q1⟩=>?_)
 cases d with
 |true=>exact ha pins s1 σ H1 D I1 q1
 |false=>exact hb pins s1 σ H1 D I1 q1
end
abbrev TG:=V->St->Hp->(St->Hp->Prop)->Prop
abbrev zO:=List V->St->Hp->(St->Hp->Prop)->Prop
def PG(X:Cx)(target:Expr)(t:TG):Prop:=
 ∀(pins:Va) (s:Shared) (σ:St) (H:Hp) (v:V) (u:Value) (Q:St->Hp->Prop),Inv X pins σ H s->RelV v u->t v σ H Q->
  wpAny (model X.prog X.w) X.A (assign target X.env u) (fun _ s'=>∃σ' H',Inv X pins σ' H' s'/\Q σ' H') X.xe s
def Cy(X:Cx)(ts:List Expr)(t:zO):Prop:=
 ∀(pins:Va) (s:Shared) (σ:St) (H:Hp) (vs:List V) (us:Vv) (Q:St->Hp->Prop),Inv X pins σ H s->Vals vs us->t vs σ H Q->
  wpAny (model X.prog X.w) X.A (assignInOrder ((assignEach ts X.env).map (·.2)) us) (fun _ s'=>∃σ' H',Inv X pins σ' H' s'/\Q σ' H') X.xe s
abbrev AR:=V->V->V->Hp->(Hp->Prop)->Prop
def yc(X:Cx)(t:AR):Prop:=
 ∀(pins:Va) (s:Shared) (σ:St) (H:Hp) (o i v:V) (ov iv u:Value) (Q:Hp->Prop),Inv X pins σ H s->RelV o ov->RelV i iv->RelV v u->t o i v H Q->
  wpAny (model X.prog X.w) X.A (setItem ov iv u) (fun _ s'=>∃H',Inv X pins σ H' s'/\Q H') X.xe s
abbrev EB:=V->V->Hp->VK->Prop
def FC(X:Cx)(op:Operator)(t:EB):Prop:=
 ∀(pins:Va) (s:Shared) (σ:St) (H:Hp) (x y:V) (v u:Value) (Q:VK),Inv X pins σ H s->RelV x v->RelV y u->t x y H Q->
  wpAny (model X.prog X.w) X.A (inplaceOp op v u) (EP X pins σ Q) X.xe s
section
variable {X:Cx} {pos:Pos}
def pZ(i:Nat):TG:=fun v σ H Q=>Q (σ.set i (some v)) H
def yd{i:Nat}{x:Str}(hN:X.N.Nodup)(hi:X.N[i]?=some x)(hx:xS X.env.scope x)(hf:X.fn x=true\/X.env.scope.names.lookup x=some .local:=by first|exact .inl rfl|exact .inr rfl|assumption):PG X (.Name x pos) (pZ i):=by
 intro pins s σ H v u Q I r h
 exact wpAny_assign_Name (dP I hN hi hx r (fun s' I'=>⟨_,H,I',h⟩) hf)
noncomputable def Cz:zO:=fun vs σ H Q=>vs=[]/\Q σ H
noncomputable def zP(t:TG)(u:zO):zO:=fun vs σ H Q=>∃v r,vs=v::r/\t v σ H fun σ' H'=>u r σ' H' Q
def ye:Cy X [] Cz:=by
 intro pins s σ H vs us Q I r h
 obtain⟨e,h⟩:=h
 subst e
 cases r
 exact assignInOrder_nil ⟨σ,H,I,h⟩
def vi{e:Expr}{es:List Expr}{t:TG}{u:zO}(h1:PG X e t)(h2:Cy X es u)
  (hs:(assignEach (e::es) X.env).map (·.2)=assign e X.env::(assignEach es X.env).map (·.2):=by rfl):Cy X (e::es) (zP t u):=by
 intro pins s σ H vs us Q I r h
 obtain⟨v,vr,e1,h⟩:=h
 subst e1
 cases r with
 |cons r rr=>
  rw[hs]
  refine assignInOrder_cons (F9 (h1 pins s σ H _ _ _ I r h) fun _ s1 ⟨σ1,H1,I1,q1⟩=>?_)
  exact h2 pins s1 σ1 H1 _ _ Q I1 rr q1
def CA(K:Vo)(n:Nat)(t:zO):TG:=fun v σ H Q=>∃a xs,v = .ref a/\SqT K H a xs/\xs.length=n/\t xs σ H Q
def AS{es:List Expr}{k:Nat}{t:zO}{n:Nat}(hc:X.calm=true)(h:Cy X es t)
  (hn:(assignEach es X.env).length=n:=by rfl) (hst:(assignEach es X.env).findIdx? (·.1)=none:=by rfl):PG X (.Tuple es k pos) (CA X.K n t):=by
 intro pins s σ H v u Q I r hw
 obtain⟨a,xs,e1,hq,hl,hw⟩:=hw
 subst e1
 cases r
 obtain⟨its,rv,ht,hz⟩:=I.tuple hq
 refine assign_Tuple_tuple (I.ok.hd hc) ht (by simp[hn,<-hl,rv.length]) hst fun h' hx=>?_
 have I1:Inv X pins σ H { s with heap:=h' }:=I.kept (t':=s.toks) fun b o e=>hx b o (Nat.ne_of_lt (Heap.lt_size e)) e
 exact h pins _ σ H xs _ Q I1 (by simpa using rv) hw
def EC(to ti:TE)(t:AR):TG:=fun v σ H Q=>to σ H fun o H1=>ti σ H1 fun i H2=>t o i v H2 fun H3=>Q σ H3
def AT{o i:Expr}{to ti:TE}{t:AR}(ho:PE X o to)(hi:PE X i ti)(hs:yc X t)
  (ha:∀v,assign (.Subscript o i pos) X.env v=(do
   let ov <-holding [v] (eval o X.env)
   let iv <-holding [v,ov] (eval i X.env)
   standAt pos
   holding [v,ov,iv] (setItem ov iv v)
   release [v,ov,iv] []):=by intro _;rfl):PG X (.Subscript o i pos) (EC to ti t):=by
 intro pins s σ H v u Q I r h
 rw[ha]
 refine wpAny_bind (wpAny_holding (F9 (ho pins s σ H _ I h) fun ov s1 ⟨x,H1,I1,r1,q1⟩=>?_))
 refine wpAny_bind (wpAny_holding (F9 (hi pins s1 σ H1 _ I1 q1) fun iv s2 ⟨y,H2,I2,r2,q2⟩=>?_))
 refine wpAny_bind (wpAny_standAt (wpAny_bind (wpAny_holding (F9 (hs pins s2 σ H2 x y v ov iv u _ I2 r1 r2 r q2) fun _ s3 ⟨H3,I3,q3⟩=>?_))))
 exact wpAny_release ⟨σ,H3,I3,q3⟩
def yf(te:TE)(g:TG):TS:=fun D σ H=>te σ H fun x H1=>g x σ H1 D.nx
def vj{tg e:Expr}{te:TE}{g:TG}(he:PE X e te)(hg:PG X tg g)(hs:swapsWithSole [tg] e pos.line X.env=pure false:=by rfl)(hw:swappedStores [tg] e X.env=pure none:=by rfl)
  (h1:(assignEach [tg] X.env).map (·.2)=[assign tg X.env]:=by rfl):PS X (.Assign [tg] e pos) (yf te g):=by
 intro pins s σ H D I h
 refine wpAny_Assign_stores (F9 (he pins s σ H _ I h) fun v s1 ⟨x,H1,I1,r1,q1⟩=>?_) hs hw
 rw[h1]
 exact F9 (hg pins s1 σ H1 x v _ I1 r1 q1) fun _ s2 q=>q
def AU{i:Nat}{x:Str}{e:Expr}{te:TE}{pos':Pos}(hN:X.N.Nodup)(hi:X.N[i]?=some x)(hx:xS X.env.scope x)(he:PE X e te)(hs:swapsWith e (some (.Name x pos')) pos.line X.env=pure false:=by rfl)(hf:X.fn x=true\/X.env.scope.names.lookup x=some .local:=by first|exact .inl rfl|exact .inr rfl|assumption) :
  PS X (.Assign [.Name x pos'] e pos) (yf te (pZ i)):=by
 intro pins s σ H D I h
 refine wpAny_Assign_Name (F9 (he pins s σ H _ I h) fun v s1 ⟨y,H1,I1,r1,q1⟩=>?_) hs
 exact dP I1 hN hi hx r1 (fun s2 I2=>⟨_,H1,I2,q1⟩) hf
def ED(i j:Nat)(ta:TA):TS:=fun D σ H=>ta σ H fun vs H1=>∃v w,vs=[v,w]/\D.nx ((σ.set i (some v)).set j (some w)) H1
def AV{i j:Nat}{x y:Str}{a b:Expr}{ta:TA}{px py pt:Pos}{kt k2 Mw}(hc:X.calm=true)(hN:X.N.Nodup)(hi:X.N[i]?=some x)(hj:X.N[j]?=some y)(hij:i≠j)
  (hx:X.env.scope.names.lookup x=some .local) (hy:X.env.scope.names.lookup y=some .local) (ha:PA X [a,b] ta)
  (hw:swappedStores [.Tuple [.Name x px,.Name y py] kt pt] (.Tuple [a,b] k2 Mw) X.env=pure (some [x,y]))
  (hs:swapsWithSole [.Tuple [.Name x px,.Name y py] kt pt] (.Tuple [a,b] k2 Mw) pos.line X.env=pure false:=by rfl) :
  PS X (.Assign [.Tuple [.Name x px,.Name y py] kt pt] (.Tuple [a,b] k2 Mw) pos) (ED i j ta):=by
 intro pins s σ H D I h
 rw[exec_Assign_arm]
 refine wpAny_bind (wpAny_standAt ?_)
 rw[hs]
 refine wpAny_bind (wpAny_pure ?_)
 rw[if_neg (by decide)]
 refine wpAny_bind (Tuple_ (F9 (ha _ pins s σ H _ I h) fun us s1 ⟨vs,H1,I1,r1,q1⟩=>?_))
 obtain⟨v,w,e1,q1⟩:=q1
 subst e1
 obtain⟨u1,u2,rfl,rv,rw'⟩:∃u1 u2,us=[u1,u2]/\RelV v u1/\RelV w u2:=by
  cases r1 with
  |cons p q=>
   cases q with
   |cons p' q'=>
    cases q'
    exact⟨_,_,rfl,p,p'⟩
 refine wpAny_newObj_type ?_ (by show 2<=sizeLine;decide)
 have I2:Inv X pins σ H1 { s1 with heap:=s1.heap.push { cls:=.type "tuple",data:=.seq [u1,u2].toArray } }:=I1.kept (t':=s1.toks) fun b o e=>Heap.get?_push_of_some _ e
 rw[hw]
 refine wpAny_bind (wpAny_pure ?_)
 show wpAny (model X.prog X.w) X.A (do rule "assign.swapped-stores"; let items <-unpackItems (.ref s1.heap.objs.size) 2 none;assignInOrder [fun v=>bindName X.env y v,fun v=>bindName X.env x v] items.reverse;pure Flow.next) _ _ _
 refine wpAny_bind (wpAny_rule (wpAny_bind (unpackItems_tuple (items:=#[u1,u2]) (I.ok.hd hc) (IsTup.new s1.heap _) fun h' hx'=>?_)))
 have I3:=I2.kept (h':=h') (t':=s1.toks) fun b o e=>hx' b o (Nat.ne_of_lt (Heap.lt_size e)) e
 show wpAny _ _ (assignInOrder [fun v=>bindName X.env y v,fun v=>bindName X.env x v] [u2,u1] >>= fun _=>pure Flow.next) _ _ _
 refine wpAny_bind (assignInOrder_cons (wpAny_bindName (dP I3 hN hj (.inl hy) rw' (fun s2 I4=>?_) (.inr hy))))
 refine assignInOrder_cons (wpAny_bindName (dP I4 hN hi (.inl hx) rv (fun s3 I5=>assignInOrder_nil (wpAny_pure ?_)) (.inr hx)))
 rw[List.set_comm _ _ (Ne.symm hij)]at I5
 exact⟨_,H1,I5,q1⟩
def EE(i:Nat)(te:TE)(ti:EB):TS:=fun D σ H=>∃x,σ[i]?=some (some x)/\te σ H fun y H1=>ti x y H1 fun z H2=>D.nx (σ.set i (some z)) H2
def AW{i:Nat}{x:Str}{e:Expr}{te:TE}{op:Operator}{ti:EB}{pos':Pos}(hN:X.N.Nodup)(hi:X.N[i]?=some x)(hx:xS X.env.scope x)(he:PE X e te)(ho:FC X op ti)(hf:X.fn x=true\/X.env.scope.names.lookup x=some .local:=by first|exact .inl rfl|exact .inr rfl|assumption) :
  PS X (.AugAssign (.Name x pos') op e pos) (EE i te ti):=by
 intro pins s σ H D I h
 obtain⟨v,e1,h⟩:=h
 obtain⟨m,hn,hl⟩:=I.loc
 have vis:Co X.env.scope x:=by rcases hx with k|k;exact .inl k;exact .inr (.inl k)
 obtain⟨u,r,l⟩:=hl i x v hi e1 vis
 refine wpAny_AugAssign_Name ?_
 have go:wpAny (model X.prog X.w) X.A (eval e X.env) (fun w s₂=>wpAny (model X.prog X.w) X.A (inplaceOp op u w) (fun r s₃=>wpAny (model X.prog X.w) X.A (storeName X.env x r) (fun _=>SP X pins D .next) X.xe s₃) X.xe s₂) X.xe s:=by
  refine F9 (he pins s σ H _ I h) fun w s1 ⟨y,H1,I1,r1,q1⟩=>?_
  refine F9 (ho pins s1 σ H1 v y u w _ I1 r r1 q1) fun z s2 ⟨zv,H2,I2,r2,q2⟩=>?_
  exact dP I2 hN hi hx r2 (fun s3 I3=>⟨_,H2,I3,q2⟩) hf
 rcases l with⟨hk,hm⟩|⟨hk,c,hc,hcell⟩
 ·exact wpAny_loadName_local I.ok.kind hk hn hm go
 ·rcases hk with hk|hk
  ·exact wpAny_loadName_cell I.ok.kind hk hc hcell go
  ·rcases hx with k|k
   ·have:X.env.scope.names.lookup x=some .free:=hk
    rw[k]at this;cases this
   ·have:X.env.scope.names.lookup x=some .free:=hk
    rw[k]at this;cases this
end
section
variable {X:Cx} {pos:Pos}
def AX(c:TT)(tb:TS):TS:=fun D σ H=>∃W:Nat->St->Hp->Prop,(∃m,W m σ H)/\∀m σ H,W m σ H->
 c σ H fun b H1=>if b=true then ∃N:St->Hp->Prop,(∀σ' H',N σ' H'->∃m',m' < m/\W m' σ' H')/\tb { D with nx:=N,ct:=N,bk:=D.nx } σ H1 else D.nx σ H1
def vk{c:Expr}{body:List Stmt}{tc:TT}{tb:TS}(hp:PassesOwn (model X.prog X.w) X.A X.env X.xe)(hc:PT X c tc)(hb:Kx X body tb):PS X (.While c body [] pos) (AX tc tb):=by
 intro pins s σ H D I h
 obtain⟨W,⟨m0,w0⟩,turn⟩:=h
 refine wpAny_While (codeAny_whileLoop (fun n s'=>∃σ' H',Inv X pins σ' H' s'/\W n σ' H') ?_ m0 ⟨σ,H,I,w0⟩)
 rintro n s1 ⟨σ1,H1,I1,w1⟩
 refine wpAny_passesOwn hp (F9 (hc pins s1 σ1 H1 _ I1 (turn n σ1 H1 w1)) fun b s2 ⟨H2,I2,q2⟩=>?_)
 cases b with
 |true=>
  obtain⟨N,hN,q2⟩:=q2
  rw[if_pos rfl]
  refine wpAny_passesOwn hp (F9 (hb pins s2 σ1 H2 _ I2 q2) fun f s3 q3=>?_)
  cases f with
  |next=>
   obtain⟨σ3,H3,I3,n3⟩:=q3
   obtain⟨m',hm,w3⟩:=hN σ3 H3 n3
   exact⟨m',hm,σ3,H3,I3,w3⟩
  |cont=>
   obtain⟨σ3,H3,I3,n3⟩:=q3
   obtain⟨m',hm,w3⟩:=hN σ3 H3 n3
   exact⟨m',hm,σ3,H3,I3,w3⟩
  |brk=>exact q3
  |ret v=>exact q3
 |false=>
  rw[if_neg Bool.false_ne_true]
  exact wpAny_execs_nil ⟨σ1,H2,I2,q2⟩
end
structure It where
 go:Nat->Hp->Prop
 Ny:Nat->Hp->V->Hp->Prop
 stop:Nat->Hp->Prop
def ft(X:Cx)(pins:Va)(H:Hp)(b:Addr):Prop:=
 H b=none/\b≠X.env.locals/\b ∉ X.fs/\(b∈X.ex\/X.s₀.heap.objs.size<=b)/\(∀x c,X.env.cells.lookup x=some c->c≠b)/\∀p∈X.pn++pins,p.1≠b
def Inv.IC{X:Cx}{pins:Va}{σ:St}{H H':Hp}{s:Shared}{b:Addr}(I:Inv X pins σ H s)(hb:s.heap.objs.size<=b)(hn:H' b=none):ft X pins H' b:=by
 refine⟨hn,Nat.ne_of_gt (Nat.lt_of_lt_of_le I.lt hb),I.M8 hb,.inr (Nat.le_trans I.sz hb),fun x c e z=>?_,fun p hp z=>?_⟩
 ·obtain⟨v,q⟩:=I.cell x c e
  exact absurd (Nat.lt_of_lt_of_le q.lt (by rw[z];exact hb)) (Nat.lt_irrefl _)
 ·exact absurd (Nat.lt_of_lt_of_le (Heap.lt_size (I.pin p hp).1) (by rw[z];exact hb)) (Nat.lt_irrefl _)
structure m8 (P:Program) (w:World) (K:Vo) (tg:Expr) (J:It) (fp:List Addr) (it:Addr) (tn:Nat->Heap->Prop):Prop where
 mem:it∈fp
 obj:∀i h,tn i h->∀b∈fp,∃o,h.get? b=some o/\∀v,o.data ≠ .cell v
 keep:∀i h h',tn i h->(∀b∈fp,∀o,h.get? b=some o->h'.get? b=some o)->tn i h'
 item:∀(X:Cx),X.prog=P->X.w=w->X.K=K->X.calm=true->∀(i:Nat) (pins:Va) (s:Shared) (σ:St) (H:Hp) (E:Vq),Inv X pins σ H s->(∀b∈fp,ft X pins H b)->tn i s.heap->J.go i H->
  wpAny (model P w) X.A (pyNext (.ref it)) (fun r s1=>∃u,r=some u/\
   wpAny (model P w) X.A (letOwnedTupleGo tg (.ref it) u) (fun _ s2=>∃x H',Inv X pins σ H' s2/\RelV x u/\J.Ny i H x H'/\tn (i+1) s2.heap/\∀b∈fp,H' b=none) E s1) E s
 done:∀(X:Cx),X.prog=P->X.w=w->X.K=K->X.calm=true->∀(i:Nat) (pins:Va) (s:Shared) (σ:St) (H:Hp) (E:Vq),Inv X pins σ H s->(∀b∈fp,ft X pins H b)->tn i s.heap->J.stop i H->
  wpAny (model P w) X.A (pyNext (.ref it)) (fun r s1=>r=none/\Inv X pins σ H s1) E s
 self:∀(A:Around) (i:Nat) (s:Shared) (Q:Vq) (E:Vq),tn i s.heap->Q (.ref it) s->wpAny (model P w) A (pyIter (.ref it)) Q E s
abbrev TI:=St->Hp->(It->Hp->Prop)->Prop
def EF(X:Cx)(pins:Va)(σ:St)(tg:Expr)(R:It->Hp->Prop)(itv:Value)(s2:Shared):Prop:=
 ∃(it:Addr) (fp:List Addr) (tn:Nat->Heap->Prop) (J:It) (H':Hp),itv = .ref it/\Inv X pins σ H' s2/\m8 X.prog X.w X.K tg J fp it tn/\tn 0 s2.heap/\(∀b∈fp,ft X pins H' b)/\R J H'
def PI(X:Cx)(tg iter:Expr)(wi:TI):Prop:=
 ∀(pins:Va) (s:Shared) (σ:St) (H:Hp) (R:It->Hp->Prop),Inv X pins σ H s->wi σ H R->
  wpAny (model X.prog X.w) X.A (eval iter X.env) (fun v s1=>wpAny (model X.prog X.w) X.A (pyIter v) (EF X pins σ tg R) X.xe s1) X.xe s
def k9 {M : Model} {A : Around} {E : Value -> Shared -> Prop} {s : Shared} {tg : Expr} {it : Addr} {u : Value} {o : Obj} {n : String} {vs : Array Value} {Q : Unit -> Shared -> Prop} (ho : s.heap.get? it = some o) (hc : o.cls = .type n) (hd : o.data = .fields vs)
    (hn : ["enumerate", "zip", "dict_itemiterator", "dict_reverseitemiterator", "odict_iterator", "itertools.zip_longest", "itertools.pairwise"].contains n = false) (hQ : Q () s) : wpAny M A (letOwnedTupleGo tg (.ref it) u) Q E s := by
  unfold letOwnedTupleGo
  cases tg <;> first
    | exact wpAny_pure hQ
    | (cases u <;> first
        | exact wpAny_pure hQ
        | (refine wpAny_bind (wpAny_load ho ?_)
           rw [hc, hd]
           show wpAny M A (if (["enumerate", "zip", "dict_itemiterator", "dict_reverseitemiterator", "odict_iterator", "itertools.zip_longest", "itertools.pairwise"].contains n && vs[0]? == some (rawInt _)) = true then _ else _) Q E s
           rw [if_neg (by intro h; rw [hn, Bool.false_and] at h; cases h)]
           exact wpAny_pure hQ))
noncomputable def Ea(K:Vo)(a:Addr):It:=
 ⟨fun i H=>∃xs x,SqL K H a xs/\xs[i]?=some x,fun i H x H'=>H'=H/\∀xs,SqL K H a xs->xs[i]?=some x,fun i H=>∃xs,SqL K H a xs/\xs.length<=i⟩
noncomputable def EG(K:Vo)(a:Addr):It:=
 ⟨fun i H=>∃xs x,SqT K H a xs/\xs[i]?=some x,fun i H x H'=>H'=H/\∀xs,SqT K H a xs->xs[i]?=some x,fun i H=>∃xs,SqT K H a xs/\xs.length<=i⟩
noncomputable def Eb(lo:Int)(n:Nat):It:=⟨fun i _=>i < n,fun i H x H'=>H'=H/\x = .int (lo+i),fun i _=>n<=i⟩
def t7{P:Program}{w:World}{K:Vo}{tg:Expr}(a it:Addr):m8 P w K tg (Ea K a) [it] it (fun i h=>h.IsListIter it a i) where
 mem:=by simp
 obj:=fun i h st b hb=>by
  have e:b=it:=by simpa using hb
  subst e
  obtain⟨o,e,c,d⟩:=st
  exact⟨o,e,fun v z=>by rw[d]at z;cases z⟩
 keep:=fun i h h' st k=>st.at fun o e=>k it (by simp) o e
 item:=by
  intro X hP hw hK hc i pins s σ H E I hf st hg
  subst hP hw hK
  obtain⟨xs,x,hq,hx⟩:=hg
  obtain⟨its,rv,p,hz⟩:=I.list hq
  obtain⟨u,hu,ru⟩:=rv.get hx
  obtain⟨f0,f1,f2,f3,f4,f5⟩:=hf it (by simp)
  refine wpAny_pyNext_list_item st p.isList (x:=u) (by simpa using hu) fun h' st' sb=>?_
  have I1:Inv X pins σ H { s with heap:=h' }:=I.turned (t':=s.toks) (fun b o hb e=>(sb.2 b hb).trans e) f0 f1 f3 f4 f5
  obtain⟨o,e,c,d⟩:=id st'
  exact⟨u,rfl,k9 (s:={ s with heap:=h' }) e c d (by decide) ⟨x,H,I1,ru,⟨rfl,fun ys hy=>by rw[I.JH hy hq];exact hx⟩,st',fun b hb=>(hf b hb).1⟩⟩
 done:=by
  intro X hP hw hK hc i pins s σ H E I hf st hg
  subst hP hw hK
  obtain⟨xs,hq,hx⟩:=hg
  obtain⟨its,rv,p,hz⟩:=I.list hq
  obtain⟨f0,f1,f2,f3,f4,f5⟩:=hf it (by simp)
  have hl:=rv.length
  exact wpAny_pyNext_list_end (I.ok.hd hc) st p.isList (by simp;omega) fun h' eb=>⟨rfl,I.turned (t':=s.toks) (fun b o hb e=>eb b o hb e) f0 f1 f3 f4 f5⟩
 self:=fun _ _ _ _ _ st h=>wpAny_pyIter_listiter st h
def rA{P:Program}{w:World}{K:Vo}{tg:Expr}(a it:Addr):m8 P w K tg (EG K a) [it] it (fun i h=>h.IsTupleIter it a i) where
 mem:=by simp
 obj:=fun i h st b hb=>by
  have e:b=it:=by simpa using hb
  subst e
  obtain⟨o,e,c,d⟩:=st
  exact⟨o,e,fun v z=>by rw[d]at z;cases z⟩
 keep:=fun i h h' st k=>st.at fun o e=>k it (by simp) o e
 item:=by
  intro X hP hw hK hc i pins s σ H E I hf st hg
  subst hP hw hK
  obtain⟨xs,x,hq,hx⟩:=hg
  obtain⟨its,rv,p,hz⟩:=I.tuple hq
  obtain⟨u,hu,ru⟩:=rv.get hx
  obtain⟨f0,f1,f2,f3,f4,f5⟩:=hf it (by simp)
  refine wpAny_pyNext_tuple_item st (show s.heap.IsTuple a its.toArray from p) (x:=u) (by simpa using hu) fun h' st' sb=>?_
  have I1:Inv X pins σ H { s with heap:=h' }:=I.turned (t':=s.toks) (fun b o hb e=>(sb.2 b hb).trans e) f0 f1 f3 f4 f5
  obtain⟨o,e,c,d⟩:=id st'
  exact⟨u,rfl,k9 (s:={ s with heap:=h' }) e c d (by decide) ⟨x,H,I1,ru,⟨rfl,fun ys hy=>by rw[I.Ji hy hq];exact hx⟩,st',fun b hb=>(hf b hb).1⟩⟩
 done:=by
  intro X hP hw hK hc i pins s σ H E I hf st hg
  subst hP hw hK
  obtain⟨xs,hq,hx⟩:=hg
  obtain⟨its,rv,p,hz⟩:=I.tuple hq
  obtain⟨f0,f1,f2,f3,f4,f5⟩:=hf it (by simp)
  have hl:=rv.length
  exact wpAny_pyNext_tuple_end (I.ok.hd hc) st (show s.heap.IsTuple a its.toArray from p) (by simp;omega) fun h' eb=>⟨rfl,I.turned (t':=s.toks) (fun b o hb e=>eb b o hb e) f0 f1 f3 f4 f5⟩
 self:=fun _ _ _ _ _ st h=>wpAny_pyIter_tupleiter st h
def rB{P:Program}{w:World}{K:Vo}{tg:Expr}(it:Addr)(lo:Int)(n:Nat):m8 P w K tg (Eb lo n) [it] it (fun i h=>IsRangeIter h it (lo+(i:Nat) * 1) ((n:Int) - (i:Nat)) 1) where
 mem:=by simp
 obj:=fun i h st b hb=>by
  have e:b=it:=by simpa using hb
  subst e
  exact⟨_,st,fun v z=>by
   have z':Data.fields _=Data.cell v:=z
   cases z'⟩
 keep:=fun i h h' st k=>k it (by simp) _ st
 item:=by
  intro X hP hw hK hc i pins s σ H E I hf st hg
  subst hP hw hK
  obtain⟨f0,f1,f2,f3,f4,f5⟩:=hf it (by simp)
  have W:=Walks.range (prog:=X.prog) (w:=X.w) (I.ok.hd hc) it lo 1 n
  refine W.item i s _ _ hg st fun v h' tk hv st' kk=>?_
  obtain⟨t,rfl⟩:=hv
  have I1:Inv X pins σ H { s with heap:=h',toks:=tk }:=I.turned (fun b o hb e=>kk b o (by simpa using hb) e) f0 f1 f3 f4 f5
  refine⟨_,rfl,k9 (s:={ s with heap:=h',toks:=tk }) (n:="range_iterator") st' rfl rfl (by decide) ⟨.int (lo+i),H,I1,⟨t,?_⟩,⟨rfl,rfl⟩,st',fun b hb=>(hf b hb).1⟩⟩
  rw[Int.mul_one]
 done:=by
  intro X hP hw hK hc i pins s σ H E I hf st hg
  subst hP hw hK
  obtain⟨f0,f1,f2,f3,f4,f5⟩:=hf it (by simp)
  exact wpAny_pyNext_range_end (I.ok.hd hc) st (by have:n<=i:=hg;omega) fun h' eb=>⟨rfl,I.turned (t':=s.toks) (fun b o hb e=>eb b o hb e) f0 f1 f3 f4 f5⟩
 self:=fun _ _ _ _ _ st h=>wpAny_pyIter_rangeiter st h
section
variable {X:Cx} {tg:Expr}
def vm{pins:Va}{σ:St}{H:Hp}{s:Shared}{R:It->Hp->Prop}{E:Vq}{lo hi:Int}{t u v:Tok}{tk:Nat}(I:Inv X pins σ H s)(h1:-(2 ^ 62)<=lo)(h2:lo < 2 ^ 62)(h3:-(2 ^ 62)<=hi)(h4:hi < 2 ^ 62)
  (q:R (Eb lo (hi - lo).toNat) H):wpAny (model X.prog X.w) X.A (pyIter (.ref s.heap.objs.size)) (EF X pins σ tg R) E { s with heap:=s.heap.push { cls:=.type "range",data:=.fields #[.int lo t,.int hi u,.int 1 v] },toks:=tk }:=by
 refine wpAny_pyIter_range (IsRange.new ..) (small_one h1 h2 h3 h4) ?_
 have I1:Inv X pins σ H { s with heap:=s.heap.push { cls:=.type "range",data:=.fields #[.int lo t,.int hi u,.int 1 v] },toks:=tk }:=I.kept fun b o e=>Heap.get?_push_of_some _ e
 refine⟨(s.heap.push { cls:=.type "range",data:=.fields #[.int lo t,.int hi u,.int 1 v] }).objs.size,[(s.heap.push { cls:=.type "range",data:=.fields #[.int lo t,.int hi u,.int 1 v] }).objs.size],_,_,H,rfl,
  I1.kept (t':=tk) fun b o e=>Heap.get?_push_of_some _ e,rB _ lo (hi - lo).toNat,?_,fun b hb=>?_,q⟩
 ·have e1:lo+((0:Nat):Int) * 1=lo:=by simp
  have e2:(((hi - lo).toNat:Nat):Int) - ((0:Nat):Int)=Builtin.Range.rangeSize lo hi 1:=by rw[rangeSize_one];split<;>omega
  show IsRangeIter _ _ (lo+((0:Nat):Int) * 1) ((((hi - lo).toNat:Nat):Int) - ((0:Nat):Int)) 1
  rw[e1,e2]
  exact Heap.get?_push_size _ rfl
 ·have e:b=(s.heap.push { cls:=.type "range",data:=.fields #[.int lo t,.int hi u,.int 1 v] }).objs.size:=by simpa using hb
  subst e
  exact I1.IC (Nat.le_refl _) (I1.hok.fresh (Nat.le_refl _))
def CC(ta:TA):TI:=fun σ H R=>ta σ H fun vs H1=>∃j:Int,vs=[.int j]/\-(2 ^ 62)<=j/\j < 2 ^ 62/\R (Eb 0 j.toNat) H1
def t8{a:Expr}{ta:TA}{p pos:Pos}(hg:Gl X "range")(hm:X.mg "range" = none)(ha:PA X [a] ta)(hs:starEach [a] X.env=[(false,eval a X.env)]:=by rfl):PI X tg (.Call (.Name "range" p) [a] [] pos) (CC ta):=by
 intro pins s σ H R I h
 refine Call_ (eG I hg hm boot_range (PyProof.Rows.callWith_type1 (F9 (ha pos pins s σ H _ I h) fun us s1 ⟨vs,H1,I1,r1,q1⟩=>?_) hs rfl))
 obtain⟨j,e,q1,q2,q⟩:=q1
 subst e
 cases r1 with
 |cons r rr=>
  cases rr
  obtain⟨t,rfl⟩:=r
  exact call_range_1 (vm I1 (by omega) (by omega) q1 q2 (by simpa using q))
def EH(wi:TI)(g:TG)(tb:TS):TS:=fun D σ H=>wi σ H fun J H1=>∃W:Nat->Nat->St->Hp->Prop,(∃m,W 0 m σ H1)/\∀i m σ H,W i m σ H->
 (J.stop i H/\D.nx σ H)\/(J.go i H/\∃N:St->Hp->Prop,(∀σ' H',N σ' H'->∃m',m' < m/\W (i+1) m' σ' H')/\∀x H',J.Ny i H x H'->g x σ H' fun σ2 H2=>tb { D with nx:=N,ct:=N,bk:=D.nx } σ2 H2)
noncomputable def lU(fp:List Addr)(h:Heap):List (Addr×Obj):=fp.filterMap fun b=>(h.get? b).map fun o=>(b,o)
def i9{fp:List Addr}{h:Heap}{b:Addr}{o:Obj}(hb:b∈fp)(e:h.get? b=some o):(b,o)∈lU fp h:=List.mem_filterMap.mpr ⟨b,hb,by rw[e];rfl⟩
def t9{fp:List Addr}{h:Heap}{p:Addr×Obj}(hp:p∈lU fp h):p.1∈fp/\h.get? p.1=some p.2:=by
 obtain⟨b,hb,e⟩:=List.mem_filterMap.mp hp
 cases q:h.get? b with
 |none=>rw[q]at e;cases e
 |some o=>
  rw[q]at e
  have e':(b,o)=p:=Option.some.inj e
  subst e'
  exact⟨hb,q⟩
def Inv.pinned{pins:Va}{σ:St}{H:Hp}{s:Shared}{fp:List Addr}(I:Inv X pins σ H s)(hf:∀b∈fp,ft X pins H b)(ho:∀b∈fp,∃o,s.heap.get? b=some o/\∀v,o.data ≠ .cell v):Inv X (pins++lU fp s.heap) σ H s:=
 I.JE fun p hp=>(List.mem_append.mp hp).elim (fun z=>I.pin p (List.mem_append_right _ z)) fun z=>by
  obtain⟨hb,e⟩:=t9 z
  obtain⟨f0,f1,f2,_⟩:=hf p.1 hb
  obtain⟨o,e',d⟩:=ho p.1 hb
  rw[e]at e';cases e'
  exact⟨e,f0,f1,f2,d⟩
def Inv.IZ{pins pl:Va}{σ:St}{H:Hp}{s:Shared}(I:Inv X (pins++pl) σ H s):Inv X pins σ H s:=I.JE fun p hp=>I.pin p (List.mem_append_right _ (List.mem_append_left _ hp))
def AY{iter:Expr}{body:List Stmt}{wi:TI}{g:TG}{tb:TS}{pos:Pos}(hp:PassesOwn (model X.prog X.w) X.A X.env X.xe)(hc:X.calm=true)(hi:PI X tg iter wi)(hg:PG X tg g)(hb:Kx X body tb)
  (hs:∀x,foldedSetIterable iter X.env x=pure x:=by intro _;rfl):PS X (.For tg iter body [] pos) (EH wi g tb):=by
 intro pins s σ H D I h
 refine wpAny_For (F9 (hi pins s σ H _ I h) fun v s1 h1=>F9 h1 fun itv s2 h2=>?_) hs
 obtain⟨it,fp,tn,J,H2,e,I2,T,st2,f2,W,⟨m0,w0⟩,turn⟩:=h2
 subst e
 -- what stays true of the iterator's objects through the loop
 have stat:∀{H':Hp},(∀b∈fp,H' b=none)->∀b∈fp,ft X pins H' b:=fun hn b hb=>⟨hn b hb,(f2 b hb).2⟩
 refine codeAny_forLoop_any (fun n s'=>∃i σ' H',Inv X pins σ' H' s'/\tn i s'.heap/\(∀b∈fp,H' b=none)/\W i n σ' H') ?_ m0 ⟨0,σ,H2,I2,st2,fun b hb=>(f2 b hb).1,w0⟩
 rintro n s3 ⟨i,σ3,H3,I3,st3,Pi,w3⟩
 rcases turn i n σ3 H3 w3 with⟨stop,qn⟩|⟨go,N,hN,step⟩
 ·refine wpAny_passesOwn hp (F9 (T.done X rfl rfl rfl hc i pins s3 σ3 H3 X.xe I3 (stat Pi) st3 stop) fun r s4 ⟨hr,I4⟩=>?_)
  subst hr
  exact wpAny_execs_nil ⟨σ3,H3,I4,qn⟩
 ·refine wpAny_passesOwn hp (F9 (T.item X rfl rfl rfl hc i pins s3 σ3 H3 X.xe I3 (stat Pi) st3 go) fun r s4 ⟨u,hr,h4⟩=>?_)
  subst hr
  refine wpAny_passesOwn hp (F9 h4 fun _ s5 ⟨x,H5,I5,r5,y5,LW,N1⟩=>?_)
  have N4:=I5.pinned (stat N1) (T.obj _ _ LW)
  refine wpAny_passesOwn hp (F9 (hg _ s5 σ3 H5 x u _ N4 r5 (step x H5 y5)) fun _ s6 ⟨σ6,H6,I6,q6⟩=>?_)
  refine wpAny_passesOwn hp (F9 (hb _ s6 σ6 H6 _ I6 q6) fun f s7 q7=>?_)
  have again:∀{σ7:St} {H7:Hp},Inv X (pins++lU fp s5.heap) σ7 H7 s7->N σ7 H7->∃m,m < n/\∃i σ' H',Inv X pins σ' H' s7/\tn i s7.heap/\(∀b∈fp,H' b=none)/\W i m σ' H':=fun{σ7 H7} I7 n7=>by
   obtain⟨m',hm,w7⟩:=hN σ7 H7 n7
   refine⟨m',hm,i+1,σ7,H7,I7.IZ,T.keep _ _ _ LW fun b hb o e=>(I7.pin (b,o) (List.mem_append_right _ (List.mem_append_right _ (i9 hb e)))).1,fun b hb=>?_,w7⟩
   obtain⟨o,e,d⟩:=T.obj _ _ LW b hb
   exact(I7.pin (b,o) (List.mem_append_right _ (List.mem_append_right _ (i9 hb e)))).2.1
  cases f with
  |next=>obtain⟨σ7,H7,I7,n7⟩:=q7;exact again I7 n7
  |cont=>obtain⟨σ7,H7,I7,n7⟩:=q7;exact again I7 n7
  |brk=>obtain⟨σ7,H7,I7,q7⟩:=q7;exact⟨σ7,H7,I7.IZ,q7⟩
  |ret v=>obtain⟨x7,σ7,H7,I7,r7,q7⟩:=q7;exact⟨x7,σ7,H7,I7.IZ,r7,q7⟩
end
abbrev R2:=V->V->Hp->VK->Prop
def jE(X:Cx)(f:Value->Value->Sem Value)(r:R2):Prop:=
 ∀(pins:Va) (s:Shared) (σ:St) (H:Hp) (x y:V) (v u:Value) (Q:VK),Inv X pins σ H s->RelV x v->RelV y u->r x y H Q->
  wpAny (model X.prog X.w) X.A (f v u) (EP X pins σ Q) X.xe s
def Ec(X:Cx)(f:Value->Sem Value)(r:V->Hp->VK->Prop):Prop:=
 ∀(pins:Va) (s:Shared) (σ:St) (H:Hp) (x:V) (v:Value) (Q:VK),Inv X pins σ H s->RelV x v->r x H Q->
  wpAny (model X.prog X.w) X.A (f v) (EP X pins σ Q) X.xe s
def gM(X:Cx)(f:Value)(r:List V->Hp->VK->Prop):Prop:=
 ∀(pins:Va) (s:Shared) (σ:St) (H:Hp) (xs:List V) (us:Vv) (Q:VK),Inv X pins σ H s->Vals xs us->r xs H Q->
  wpAny (model X.prog X.w) X.A (call f us) (EP X pins σ Q) X.xe s
def CD(r:R2)(ta tb:TE):TE:=fun σ H Q=>ta σ H fun x H1=>tb σ H1 fun y H2=>r x y H2 Q
def FD(r:V->Hp->VK->Prop)(ta:TE):TE:=fun σ H Q=>ta σ H fun x H1=>r x H1 Q
def rI(C:Int->Int->Prop)(g:Int->Int->V):R2:=fun x y H Q=>∃i j,x = .int i/\y = .int j/\C i j/\Q (g i j) H
def yg(g:Int->Int->V):R2:=fun x y H Q=>∃i j,x = .int i/\y = .int j/\Q (g i j) H
noncomputable def rU(g:Int->V):V->Hp->VK->Prop:=fun x H Q=>∃i,x = .int i/\Q (g i) H
section
variable {X:Cx} {a b c:Expr} {ta tb tc:TE} {pos:Pos}
def AZ(ha:PE X a ta)(hb:PE X b tb){pins:Va}{s:Shared}{σ:St}{H:Hp}{R:V->V->Hp->Prop}(I:Inv X pins σ H s)
  (h:ta σ H fun x H1=>tb σ H1 fun y H2=>R x y H2) {Q:Vq} {f:Value->Value->Sem Value}
  (hf:∀v u s2 x y H2,Inv X pins σ H2 s2->RelV x v->RelV y u->R x y H2->wpAny (model X.prog X.w) X.A (f v u) Q X.xe s2) :
  wpAny (model X.prog X.w) X.A (eval a X.env) (fun v s₁=>wpAny (model X.prog X.w) X.A (eval b X.env) (fun u s₂=>wpAny (model X.prog X.w) X.A (f v u) Q X.xe s₂) X.xe s₁) X.xe s:=by
 refine F9 (ha pins s σ H _ I h) fun v s1 ⟨x,H1,I1,r1,q1⟩=>?_
 refine F9 (hb pins s1 σ H1 _ I1 q1) fun u s2 ⟨y,H2,I2,r2,q2⟩=>?_
 exact hf v u s2 x y H2 I2 r1 r2 q2
def CF{op:Operator}{r:R2}(ho:jE X (binaryOp op) r)(ha:PE X a ta)(hb:PE X b tb):PE X (.BinOp a op b pos) (CD r ta tb):=by
 intro pins s σ H Q I h
 exact wpAny_BinOp (AZ ha hb I h fun v u s2 x y H2 I2 rx ry q=>ho pins s2 σ H2 x y v u Q I2 rx ry q)
def CG{op:UnaryOp}{r:V->Hp->VK->Prop}(ho:Ec X (unaryOp op) r)(ha:PE X a ta):PE X (.UnaryOp op a pos) (FD r ta):=by
 intro pins s σ H Q I h
 exact UnaryOp_ (F9 (ha pins s σ H _ I h) fun v s1 ⟨x,H1,I1,r1,q1⟩=>ho pins s1 σ H1 x v Q I1 r1 q1)
def Ed{f:Value->Value->Sem Value}{C:Int->Int->Prop}{g:Int->Int->Int}
  (rule:∀(i j:Int) (t u:Tok) (s:Shared) (Q:Vq) (E:Vq),C i j->Q (.int (g i j) s.toks) { s with toks:=s.toks+1 }->wpAny (model X.prog X.w) X.A (f (.int i t) (.int j u)) Q E s) :
  jE X f (rI C fun i j=>.int (g i j)):=by
 intro pins s σ H x y v u Q I rx ry h
 obtain⟨i,j,rfl,rfl,hc,q⟩:=h
 obtain⟨t,rfl⟩:=rx
 obtain⟨t',rfl⟩:=ry
 exact rule i j t t' s _ _ hc ⟨.int (g i j),H,I.tok _,⟨_,rfl⟩,q⟩
def CH{f:Value->Value->Sem Value}{g:Int->Int->Int}
  (rule:∀(i j:Int) (t u:Tok) (s:Shared) (Q:Vq) (E:Vq),Q (.int (g i j) s.toks) { s with toks:=s.toks+1 }->wpAny (model X.prog X.w) X.A (f (.int i t) (.int j u)) Q E s) :
  jE X f (yg fun i j=>.int (g i j)):=by
 intro pins s σ H x y v u Q I rx ry h
 obtain⟨i,j,rfl,rfl,q⟩:=h
 obtain⟨t,rfl⟩:=rx
 obtain⟨t',rfl⟩:=ry
 exact rule i j t t' s _ _ ⟨.int (g i j),H,I.tok _,⟨_,rfl⟩,q⟩
def A0{f:Value->Value->Sem Value}{g:Int->Int->Bool}
  (rule:∀(i j:Int) (t u:Tok) (s:Shared) (Q:Vq) (E:Vq),Q (.bool (g i j)) s->wpAny (model X.prog X.w) X.A (f (.int i t) (.int j u)) Q E s) :
  jE X f (yg fun i j=>.bl (g i j)):=by
 intro pins s σ H x y v u Q I rx ry h
 obtain⟨i,j,rfl,rfl,q⟩:=h
 obtain⟨t,rfl⟩:=rx
 obtain⟨t',rfl⟩:=ry
 exact rule i j t t' s _ _ ⟨.bl (g i j),H,I,rfl,q⟩
def A1(i j:Int):Prop:=0<=j/\j<=1000000/\i.natAbs < 2 ^ 64
def LX(i j:Int):Prop:=(-(2 ^ 64) < i/\i < 2 ^ 64)\/(-(2 ^ 64) < j/\j < 2 ^ 64)
def LX.ok{i j:Int}(h:LX i j):IntMulOk i j:=by
 rcases h with⟨h1,h2⟩|⟨h1,h2⟩
 ·exact .of_left (intBits_le_64 h1 h2)
 ·exact .of_right (intBits_le_64 h1 h2)
def A2:jE X (binaryOp .Add) (yg fun i j=>.int (i+j)):=CH fun _ _ _ _ _ _ _ q=>add_int q
def A3:jE X (binaryOp .Sub) (yg fun i j=>.int (i - j)):=CH fun _ _ _ _ _ _ _ q=>sub_int q
def yh:jE X (binaryOp .Mod) (rI (fun _ j=>j≠0) fun i j=>.int (i.fmod j)):=Ed fun _ _ _ _ _ _ _ hc q=>mod_int' hc q
def A4:jE X (binaryOp .Pow) (rI A1 fun i j=>.int (i ^ j.toNat)):=Ed fun _ _ _ _ _ _ _ hc q=>pow_int_small hc.1 hc.2.1 hc.2.2 q
def FE{f:Value->Sem Value}{g:Int->Int}
  (rule:∀(i:Int) (t:Tok) (s:Shared) (Q:Vq) (E:Vq),Q (.int (g i) s.toks) { s with toks:=s.toks+1 }->wpAny (model X.prog X.w) X.A (f (.int i t)) Q E s) :
  Ec X f (rU fun i=>.int (g i)):=by
 intro pins s σ H x v Q I rx h
 obtain⟨i,rfl,q⟩:=h
 obtain⟨t,rfl⟩:=rx
 exact rule i t s _ _ ⟨.int (g i),H,I.tok _,⟨_,rfl⟩,q⟩
def A5:Ec X (unaryOp .USub) (rU fun i=>.int (-i)):=FE fun _ _ _ _ _ q=>neg_int q
end
noncomputable def CJ:V->V->Bool
 | .non,.non=>true | .non,.int _=>true | .int _,.non=>true | .non,.bl _=>true | .bl _,.non=>true | .non,.str _=>true | .str _,.non=>true
 | .int _,.int _=>true | .bl _,.bl _=>true | .str _,.str _=>true | .Lq _,.Lq _=>true
 | .int _,.str _=>true | .str _,.int _=>true | .bl _,.str _=>true | .str _,.bl _=>true
 |_,_=>false
def FF:R2:=fun x y H Q=>CJ x y=true/\Q (.bl (decide (x=y))) H
def FG:R2:=fun x y H Q=>CJ x y=true/\Q (.bl (!decide (x=y))) H
def sN{i j:Int}:decide (V.int i=V.int j)=(i == j):=by
 rw[Bool.eq_iff_iff]
 simp
def vn{i j:Bool}:decide (V.bl i=V.bl j)=(i == j):=by
 rw[Bool.eq_iff_iff]
 simp
def sO{i j:Str}:decide (V.str i=V.str j)=(i == j):=by
 rw[Bool.eq_iff_iff]
 simp
def sP{i j:Array UInt8}:decide (V.Lq i=V.Lq j)=(i.toList == j.toList):=by
 rw[Bool.eq_iff_iff]
 cases i
 cases j
 simp
section
variable {X:Cx} {a b c:Expr} {ta tb tc:TE} {pos:Pos}
def aV{pins:Va}{σ:St}{H:Hp}{s:Shared}{Q:VK}{k k':Bool}(I:Inv X pins σ H s)(q:Q (.bl k) H)(e:k=k'):EP X pins σ Q (.bool k') s:=by
 subst e
 exact⟨.bl k,H,I,rfl,q⟩
def vo:jE X (compareOp .Eq) FF:=by
 intro pins s σ H x y v u Q I rx ry h
 obtain⟨hs,q⟩:=h
 cases x with
 |non=>
  cases rx
  cases y with
  |non=>cases ry;exact PySem.EqNone.eq_none_none (aV I q (by simp))
  |bl j=>cases ry;exact PySem.EqNone.eq_none_bool (aV I q (by simp))
  |int j=>obtain⟨t',rfl⟩:=ry;exact PySem.EqNone.eq_none_int (aV I q (by simp))
  |str j=>obtain⟨t',rfl⟩:=ry;exact PySem.EqNone.eq_none_str (aV I q (by simp))
  |_=>exact absurd (show false=true from hs) Bool.false_ne_true
 |bl i=>
  cases rx
  cases y with
  |non=>cases ry;exact PySem.EqNone.eq_bool_none (aV I q (by simp))
  |bl j=>cases ry;exact eq_bool (aV I q vn)
  |str j=>obtain⟨t',rfl⟩:=ry;exact PySem.EqMixed.eq_bool_str (aV I q (by simp))
  |_=>exact absurd (show false=true from hs) Bool.false_ne_true
 |int i=>
  obtain⟨t,rfl⟩:=rx
  cases y with
  |non=>cases ry;exact PySem.EqNone.eq_int_none (aV I q (by simp))
  |int j=>obtain⟨t',rfl⟩:=ry;exact eq_int (aV I q sN)
  |str j=>obtain⟨t',rfl⟩:=ry;exact PySem.EqMixed.eq_int_str (aV I q (by simp))
  |_=>exact absurd (show false=true from hs) Bool.false_ne_true
 |str i=>
  obtain⟨t,rfl⟩:=rx
  cases y with
  |non=>cases ry;exact PySem.EqNone.eq_str_none (aV I q (by simp))
  |bl j=>cases ry;exact PySem.EqMixed.eq_str_bool (aV I q (by simp))
  |int j=>obtain⟨t',rfl⟩:=ry;exact PySem.EqMixed.eq_str_int (aV I q (by simp))
  |str j=>obtain⟨t',rfl⟩:=ry;exact eq_str (aV I q sO)
  |_=>exact absurd (show false=true from hs) Bool.false_ne_true
 |Lq i=>
  obtain⟨t,rfl⟩:=rx
  cases y with
  |Lq j=>obtain⟨t',rfl⟩:=ry;exact PySem.W.eq_bytes (aV I q sP)
  |_=>exact absurd (show false=true from hs) Bool.false_ne_true
 |_=>cases y<;>exact absurd (show false=true from hs) Bool.false_ne_true
def vp:jE X (compareOp .NotEq) FG:=by
 intro pins s σ H x y v u Q I rx ry h
 obtain⟨hs,q⟩:=h
 cases x with
 |non=>
  cases rx
  cases y with
  |non=>cases ry;exact PySem.EqNone.ne_none_none (aV I q (by simp))
  |bl j=>cases ry;exact PySem.EqNone.ne_none_bool (aV I q (by simp))
  |int j=>obtain⟨t',rfl⟩:=ry;exact PySem.EqNone.ne_none_int (aV I q (by simp))
  |str j=>obtain⟨t',rfl⟩:=ry;exact PySem.EqNone.ne_none_str (aV I q (by simp))
  |_=>exact absurd (show false=true from hs) Bool.false_ne_true
 |bl i=>
  cases rx
  cases y with
  |non=>cases ry;exact PySem.EqNone.ne_bool_none (aV I q (by simp))
  |bl j=>cases ry;exact ne_bool (aV I q (congrArg not vn))
  |str j=>obtain⟨t',rfl⟩:=ry;exact PySem.EqMixed.ne_bool_str (aV I q (by simp))
  |_=>exact absurd (show false=true from hs) Bool.false_ne_true
 |int i=>
  obtain⟨t,rfl⟩:=rx
  cases y with
  |non=>cases ry;exact PySem.EqNone.ne_int_none (aV I q (by simp))
  |int j=>obtain⟨t',rfl⟩:=ry;exact ne_int (aV I q (congrArg not sN))
  |str j=>obtain⟨t',rfl⟩:=ry;exact PySem.EqMixed.ne_int_str (aV I q (by simp))
  |_=>exact absurd (show false=true from hs) Bool.false_ne_true
 |str i=>
  obtain⟨t,rfl⟩:=rx
  cases y with
  |non=>cases ry;exact PySem.EqNone.ne_str_none (aV I q (by simp))
  |bl j=>cases ry;exact PySem.EqMixed.ne_str_bool (aV I q (by simp))
  |int j=>obtain⟨t',rfl⟩:=ry;exact PySem.EqMixed.ne_str_int (aV I q (by simp))
  |str j=>obtain⟨t',rfl⟩:=ry;exact ne_str (aV I q (congrArg not sO))
  |_=>exact absurd (show false=true from hs) Bool.false_ne_true
 |Lq i=>
  obtain⟨t,rfl⟩:=rx
  cases y with
  |Lq j=>obtain⟨t',rfl⟩:=ry;exact PySem.W.ne_bytes (aV I q (congrArg not sP))
  |_=>exact absurd (show false=true from hs) Bool.false_ne_true
 |_=>cases y<;>exact absurd (show false=true from hs) Bool.false_ne_true
def CK:jE X (compareOp .Lt) (yg fun i j=>.bl (decide (i < j))):=A0 fun _ _ _ _ _ _ _ q=>lt_int q
def CL:jE X (compareOp .Gt) (yg fun i j=>.bl (decide (j < i))):=A0 fun _ _ _ _ _ _ _ q=>gt_int q
def CM:jE X (compareOp .GtE) (yg fun i j=>.bl (decide (j<=i))):=A0 fun _ _ _ _ _ _ _ q=>ge_int q
def t_:jE X (compareOp .In) (fun x y H Q=>∃i j,x = .str i/\y = .str j/\Q (.bl (!(Builtin.Str.occurrences j i 0 j.length 1).isEmpty)) H):=by
 intro pins s σ H x y v u Q I rx ry h
 obtain⟨i,j,rfl,rfl,q⟩:=h
 obtain⟨t,rfl⟩:=rx
 obtain⟨t',rfl⟩:=ry
 exact in_str (aV I q rfl)
def yi:jE X (compareOp .IsNot) (fun x y H Q=>y = .non/\Q (.bl (!decide (x = .non))) H):=by
 intro pins s σ H x y v u Q I rx ry h
 obtain⟨rfl,q⟩:=h
 cases ry
 refine isnot_none_gen (aV I q ?_)
 cases x<;>first
  |(cases rx;rfl)
  |(obtain⟨t,rfl⟩:=rx;rfl)
def bb(b:Expr){op:CmpOp}(h:op ≠ .In:=by decide)(h2:op ≠ .NotIn:=by decide):behindInMarks op b=false:=by
 have e1:(op == CmpOp.In)=false:=by cases op<;>first|rfl|exact absurd rfl h
 have e2:(op == CmpOp.NotIn)=false:=by cases op<;>first|rfl|exact absurd rfl h2
 cases b<;>simp[behindInMarks,e1,e2]
def yj{op:CmpOp}{r:R2}(ho:jE X (compareOp op) r)(ha:PE X a ta)(hb:PE X b tb)(hm:behindInMarks op b=false):PE X (.Compare a [op] [b] pos) (CD r ta tb):=by
 intro pins s σ H Q I h
 exact wpAny_Compare1 (AZ ha hb I h fun v u s2 x y H2 I2 rx ry q=>ho pins s2 σ H2 x y v u Q I2 rx ry q) hm
def CN(t:TE):TT:=fun σ H Q=>t σ H fun x H'=>∃k,x = .bl k/\Q k H'
def yk{op:CmpOp}{r:R2}(ho:jE X (compareOp op) r)(ha:PE X a ta)(hb:PE X b tb)(hm:behindInMarks op b=false):PT X (.Compare a [op] [b] pos) (CN (CD r ta tb)):=by
 intro pins s σ H Q I h
 refine wpAny_isTrue_Compare1 (F9 (ha pins s σ H _ I h) fun v s1 ⟨x,H1,I1,r1,q1⟩=>F9 (hb pins s1 σ H1 _ I1 q1) fun u s2 ⟨y,H2,I2,r2,q2⟩=>
  F9 (ho pins s2 σ H2 x y v u _ I2 r1 r2 q2) fun c s3 ⟨z,H3,I3,r3,k,e,q3⟩=>?_) hm
 subst e
 cases r3
 exact wpAny_truthy_bool ⟨H3,I3,q3⟩
def kr:(sizeLine:Nat) < 2 ^ 63:=by rw[sizeLine_eq];decide
def rC:jE X (binaryOp .Add) (fun x y H Q=>∃i j,x = .str i/\y = .str j/\i.length+j.length<=sizeLine/\Q (.str (i++j)) H):=by
 intro pins s σ H x y v u Q I rx ry h
 obtain⟨i,j,rfl,rfl,hz,q⟩:=h
 obtain⟨t,rfl⟩:=rx
 obtain⟨t',rfl⟩:=ry
 exact add_str (fun t' tk=>⟨.str (i++j),H,I.tok _,⟨_,rfl⟩,q⟩) hz
def fE{x:V}{us:Vv}(r:Vals [x] us):∃u,us=[u]/\RelV x u:=by
 cases r with
 |cons r1 r2=>cases r2;exact⟨_,rfl,r1⟩
def sQ{x y:V}{us:Vv}(r:Vals [x,y] us):∃u w',us=[u,w']/\RelV x u/\RelV y w':=by
 cases r with
 |cons r1 r2=>
  cases r2 with
  |cons r3 r4=>cases r4;exact⟨_,_,rfl,r1,r3⟩
def vq:gM X (.builtin "abs") (fun xs H Q=>∃i,xs=[.int i]/\Q (.int (if i < 0 then -i else i)) H):=by
 intro pins s σ H xs us Q I r h
 obtain⟨i,rfl,q⟩:=h
 obtain⟨u,rfl,t,rfl⟩:=fE r
 exact call_abs_int fun u tk=>⟨.int (if i < 0 then -i else i),H,I.tok _,⟨_,rfl⟩,q⟩
def ua(hc:X.calm=true):gM X (.builtin "max") (fun xs H Q=>∃i j,xs=[.int i,.int j]/\Q (.int (if j > i then j else i)) H):=by
 intro pins s σ H xs us Q I r h
 obtain⟨i,j,rfl,q⟩:=h
 obtain⟨u,w',rfl,⟨t,rfl⟩,⟨t',rfl⟩⟩:=sQ r
 refine max_two_ints (I.ok.hd hc) fun h' tk k=>⟨_,H,I.kept k,?_,q⟩
 by_cases hj:j > i
 ·rw[if_pos hj,if_pos hj];exact⟨_,rfl⟩
 ·rw[if_neg hj,if_neg hj];exact⟨_,rfl⟩
def nH:gM X (.type "int") (fun xs H Q=>(∃i,xs=[.int i]/\Q (.int i) H)\/∃k,xs=[.bl k]/\Q (.int (if k then 1 else 0)) H):=by
 intro pins s σ H xs us Q I r h
 rcases h with⟨i,rfl,q⟩|⟨k,rfl,q⟩
 ·obtain⟨u,rfl,t,rfl⟩:=fE r
  exact call_int_int ⟨.int i,H,I,⟨_,rfl⟩,q⟩
 ·obtain⟨u,rfl,r1⟩:=fE r
  cases r1
  exact call_int_bool ⟨.int (if k then 1 else 0),H,I.tok _,⟨_,rfl⟩,q⟩
end
section
variable {prog:Program} {w:World} {A:Around} {E:Vq} {s:Shared} {K:Vo} {x dx C f:Addr} {mA:Vr} {name:Str} {v:Value}
end
def RelO.some_of{v:V}{o:Option Value}(r:RelO (some v) o):∃u,o=some u/\RelV v u:=by
 cases o with
 |none=>exact(show False from r).elim
 |some u=>exact⟨u,rfl,r⟩
section
variable {P:Program} {w:World} {H H':Hp} {h h':Heap} {a C dx:Addr} {fs fs':List (Str×V)}
end
section
variable {X:Cx} {pins:Va} {σ:St} {H:Hp} {s:Shared} {a C dx:Addr} {fs:List (Str×V)} {f:Str} {v:V} {A:Around} {E:Vq}
end
section
variable {X:Cx} {o e value:Expr} {f:Str} {pos pos' tpos:Pos} {ta tv:TE}
noncomputable def EI:V->V->Hp->VK->Prop:=fun x y H Q=>∃i j,x = .int i/\y = .int j/\Q (.int (i+j)) H
end
section
variable {X:Cx} {pins:Va} {σ:St} {H:Hp} {s:Shared} {A:Around} {E:Vq} {Q:Vq} {c:Value} {b:Bool}
end
structure Room (k:Nat) (A:Around):Prop where
 hd:A.handled=none
 dp:A.depth+3 * k+5 < recursionLimit
 un:A.units+16 * k+200 < cLine
 gd:A.guards=some []
def Room.mono{j k:Nat}{A:Around}(r:Room k A)(h:j<=k):Room j A:=⟨r.hd,by have:=r.dp;omega,by have:=r.un;omega,r.gd⟩
theorem Room.deeper{k:Nat}{A:Around}(r:Room (k+1) A)(env:Env):Room k (A.deeper env):=
 ⟨r.hd,by have:=r.dp;show A.depth+1+3 * k+5 < _;omega,by have:=r.un;show A.units+3+16 * k+200 < _;omega,r.gd⟩
theorem Room.depth{k:Nat}{A:Around}(r:Room k A):A.depth < recursionLimit:=by have:=r.dp;omega
def CO:TA:=fun _ H Q=>Q [] H
def zQ(ta:TE)(tr:TA):TA:=fun σ H Q=>ta σ H fun x H1=>tr σ H1 fun xs H2=>Q (x::xs) H2
section
variable {X:Cx} {e:Expr} {es:List Expr} {te:TE} {t:TA} {pos:Pos}
def A6:PA X [] CO:=fun _ _ _ _ H Q I h=>Calls.spliced_nil ⟨[],H,I,.nil,h⟩
def ym(ha:PE X e te)(hr:PA X es t)(hs:starEach (e::es) X.env=(false,eval e X.env)::starEach es X.env:=by rfl):PA X (e::es) (zQ te t):=by
 intro pos pins s σ H Q I h
 rw[hs]
 show wpAny _ _ (spliced ((false,eval e X.env)::backTo pos (starEach es X.env))) _ _ s
 refine Calls.spliced_cons (F9 (ha pins s σ H _ I h) fun u s1 ⟨x,H1,I1,r1,q1⟩=>?_)
 exact F9 (hr pos pins s1 σ H1 _ I1 q1) fun us s2 ⟨xs,H2,I2,r2,q2⟩=>⟨x::xs,H2,I2,.cons r1 r2,q2⟩
def EJ(t:TA):TE:=fun σ H Q=>t σ H fun xs H1=>xs.length<=sizeLine/\∀p,H1 p=none->Q (.ref p) (upd H1 p (.tup xs))
def EK(t:TA):TE:=fun σ H Q=>t σ H fun xs H1=>xs.length<=sizeLine/\∀p,H1 p=none->Q (.ref p) (upd H1 p (.lst xs))
def A7{x1}(h:PA X es t):PE X (.Tuple es x1 pos) (EJ t):=by
 intro pins s σ H Q I hq
 refine wpAny_Tuple_spliced (F9 (h pos pins s σ H _ I hq) fun us s1 ⟨xs,H1,I1,r,z,q⟩=>⟨by rw[<-r.length];exact z,?_⟩)
 have hf:H1 s1.heap.objs.size=none:=I1.hok.fresh (Nat.le_refl _)
 refine⟨.ref s1.heap.objs.size,upd H1 s1.heap.objs.size (.tup xs),I1.laid (t':=s1.toks) (fun b u e=>Heap.get?_push_of_some _ e) (Nat.le_refl _) ?_,rfl,q _ hf⟩
 exact⟨z,us,r,⟨_,Heap.get?_push_size _ rfl,rfl,rfl,_,rfl⟩⟩
def A8(h:PA X es t):PE X (.List es pos) (EK t):=by
 intro pins s σ H Q I hq
 refine wpAny_List_spliced (F9 (h pos pins s σ H _ I hq) fun us s1 ⟨xs,H1,I1,r,z,q⟩=>⟨by rw[<-r.length];exact z,?_⟩)
 have hf:H1 s1.heap.objs.size=none:=I1.hok.fresh (Nat.le_refl _)
 refine⟨.ref s1.heap.objs.size,upd H1 s1.heap.objs.size (.lst xs),I1.laid (t':=s1.toks) (fun b u e=>Heap.get?_push_of_some _ e) (Nat.le_refl _) ?_,rfl,q _ hf⟩
 exact⟨z,us,0,r,Heap.get?_push_size _ rfl⟩
end
abbrev Sp:=List V->Hp->VK->XK->Prop
abbrev vt:=List Env->Hp->Shared->XK->Value->Shared->Prop
structure yn (P:Program) (w:World) (K:Vo) (mg:Vr) (base:Heap) (A:Around) (outer:List Env) (s:Shared) (H:Hp):Prop where
 frames:A.frames=some outer
 mod:Mod K mg base
 bs:∀b o,base.get? b=some o->s.heap.get? b=some o/\H b=none
 LV:base.objs.size<=s.heap.objs.size
 JC:s.heap.FunFrames base outer
 Ms:∀b∈frs outer,H b=none
 hok:IB P w H s.heap
 bare:AllBare s.gens
def CE(outer:List Env)(P:Program)(w:World)(H:Hp)(s:Shared)(Q:VK)(u:Value)(s':Shared):Prop:=
 ∃v H',s'.os=s.os/\AllBare s'.gens/\Un (frs outer) [] H H' s.heap s'.heap/\IB P w H' s'.heap/\RelV v u/\Q v H'
def CR(CX:vt)(outer:List Env)(P:Program)(w:World)(H:Hp)(s:Shared)(Q:VK)(E:XK)(r:Result)(s':Shared):Prop:=
 match r with
 | .ok (.ret u)=>CE outer P w H s Q u s'
 | .ok _=>False
 | .error e=>CX outer H s E e s'
structure m9 (P:Program) (w:World) (K:Vo) (mg:Vr) (base:Heap) (CX:vt) (k:Nat) (f:Addr) (fd:FuncData) (ps:Vs) (sp:Sp):Prop where
 len:∀vs H Q E,sp vs H Q E->vs.length=ps.length
 run:∀(A:Around) (outer:List Env) (s:Shared) (H:Hp) (args:Args) (us:Vv) (vs:List V) (Q:VK) (E:XK),Room k A->yn P w K mg base A outer s H->BindsTo s fd args (ps.zip us)->Vals vs us->sp vs H Q E->
  codeAny (model P w) A (.call (.ref f) args) (CR CX outer P w H s Q E) s
section
variable {X:Cx} {pins:Va} {σ:St} {H:Hp} {s s':Shared}
def Inv.N5(I:Inv X pins σ H s):yn X.prog X.w X.K X.mg X.base X.A X.stack s H:=
 ⟨I.ok.frames,I.ok.mod,I.bs,Nat.le_trans I.ok.LV I.sz,I.stack,I.K8,I.hok,I.bare⟩
def Inv.after{Q:VK}{u:Value}(I:Inv X pins σ H s)(h:CE X.stack X.prog X.w H s Q u s'):EP X pins σ Q u s':=by
 obtain⟨v,H',os,bare,un,hok,r,q⟩:=h
 obtain⟨hh,g,d,t,os'⟩:=s'
 obtain rfl:os'=s.os:=os
 exact⟨v,H',I.call (h':=hh) (g':=g) (d':=d) (t':=t) (ch:=[]) un hok bare (fun b z=>absurd z (by simp)),r,q⟩
end
def CP(sp:Sp)(dvs:List V)(E:XK)(t:TA):TE:=fun σ H Q=>t σ H fun vs H1=>sp (vs++dvs) H1 Q E
def Binds(K:Vo)(fd:FuncData)(ps:Vs)(ds:Vv):Prop:=
 ∀(s:Shared) (us:Vv),K.In s.heap->(us++ds).length=ps.length->BindsTo s fd ⟨us,[]⟩ (ps.zip (us++ds))
def Binds.all{K:Vo}{fd:FuncData}{ps:Vs}(h:∀us:List Value,us.length=ps.length->bindArgs fd ⟨us,[]⟩=pure (ps.zip us)):Binds K fd ps []:=fun s us _ hl=>by
 rw[List.append_nil]at hl ⊢
 exact .of_eq (h us hl)
def rD(CX:vt)(X:Cx)(E:XK):Prop:=∀(pins:Va) (σ:St) (H:Hp) (s:Shared) (e:Value) (s':Shared),Inv X pins σ H s->CX X.stack H s E e s'->X.xe e s'
section
variable {X:Cx} {CX:vt} {k:Nat} {f C:Addr} {fd:FuncData} {ps:Vs} {sp:Sp} {dvs:List V} {ds:Vv} {E:XK} {x m:Str} {p pos apos:Pos} {e o:Expr} {es:List Expr} {ta:TE} {t:TA}
def A9{pins:Va}{σ:St}{H:Hp}{s:Shared}{Q:VK}{us:Vv}{vs:List V}(F:m9 X.prog X.w X.K X.mg X.base CX k f fd ps sp)(hr:Room k X.A)(hb:Binds X.K fd ps ds)(hd:Vals dvs ds)(hx:rD CX X E)
  (I:Inv X pins σ H s) (r:Vals vs us) (h:sp (vs++dvs) H Q E):wpAny (model X.prog X.w) X.A (call (.ref f) us) (EP X pins σ Q) X.xe s:=by
 have r2:Vals (vs++dvs) (us++ds):=r.append hd
 have hl:(us++ds).length=ps.length:=by rw[<-r2.length];exact F.len _ _ _ _ h
 refine wpAny_call (codeAny_mono (F.run X.A X.stack s H ⟨us,[]⟩ (us++ds) (vs++dvs) Q E hr I.N5 (hb s us I.Ls hl) r2 h) fun r s' hq=>?_)
 cases r with
 |error e=>exact hx pins σ H s e s' I hq
 |ok fl=>
  cases fl with
  |ret u=>exact I.after hq
  |next=>exact False.elim hq
  |brk=>exact False.elim hq
  |cont=>exact False.elim hq
def sR(F:m9 X.prog X.w X.K X.mg X.base CX k f fd ps sp)(hr:Room k X.A)(hg:Gl X x)(hm:X.mg x=some (.ref f))(hk:PySem.W.keepIn X.K (.ref f)=true)(hb:Binds X.K fd ps ds)(hd:Vals dvs ds)(hx:rD CX X E)
  (ha:PA X (e::es) t) (hdb:(x == ("__debug__":Str))=false:=by decide) (he:starEach (e::es) X.env=(false,eval e X.env)::starEach es X.env:=by rfl) (hpl:(backTo pos (starEach es X.env)).any (·.1)=false:=by rfl) :
  PE X (.Call (.Name x p) (e::es) [] pos) (CP sp dvs E t):=by
 intro pins s σ H Q I h
 refine wpAny_Call_Name_kw (sM I hg hm ?_ hdb)
 refine PySem.W.callWith_K (h₀:=X.base) I.ok.mod.NW hk (F9 (ha pos pins s σ H _ I h) fun us s1 ⟨vs,H1,I1,r,q⟩=>⟨I1.Ls,?_⟩) he hpl
 exact A9 F hr hb hd hx I1 r q
end
section
variable {X:Cx} {CX:vt} {k:Nat} {f C:Addr} {fd:FuncData} {ps ks:Vs} {sp:Sp} {E:XK} {x m:Str} {p pos apos kpos:Pos} {e o:Expr} {es:List Expr} {kws:List Keyword} {te ta:TE} {t tk:TA} {nm:Option Str}
variable {g:List Value->List Value->List Value} {gV:List V->List V->List V}
end
structure d_ (N P:Vs) (sc:Scope):Prop where
 kind:sc.kind = .function
 co:sc.isCoroutine=false
 gen:sc.isGenerator=false
 nd:N.Nodup
 pre:N.take P.length=P
 par:∀x∈P,sc.names.lookup x=some .local\/sc.names.lookup x=some .cell
 Mx:∀y∈sc.names,y.2 ≠ .free
theorem nI{kindOf:Str->Option NameKind}{x:Str}:∀{binds:List (Str×Value)} {m:Vr},(∀v,(x,v) ∉ binds)->bindL kindOf binds m x=m x
 |[],_,_=>rfl
 |(n,v)::r,m,h=>by
  unfold bindL
  rw[nI fun w hw=>h w (List.mem_cons_of_mem _ hw)]
  split
  ·have:x≠n:=by rintro rfl;exact h v List.mem_cons_self
   simp[this]
  ·rfl
theorem nJ{kindOf:Str->Option NameKind}{x:Str}:∀{binds:List (Str×Value)} {m:Vr},(∀v,(x,v) ∉ binds)->bindC kindOf binds m x=m x
 |[],_,_=>rfl
 |(n,v)::r,m,h=>by
  unfold bindC
  rw[nJ fun w hw=>h w (List.mem_cons_of_mem _ hw)]
  split
  ·rfl
  ·have:x≠n:=by rintro rfl;exact h v List.mem_cons_self
   simp[this]
theorem nK{kindOf:Str->Option NameKind}{x:Str}{v:Value}:∀{P:Vs} {vs:Vv} {i:Nat} {m:Vr},P.Nodup->P[i]?=some x->vs[i]?=some v->kindOf x=some .local->
  bindL kindOf (P.zip vs) m x=some v
 |[],_,_,_,_,h,_,_=>by simp at h
 |_::_,[],_,_,_,_,h,_=>by simp at h
 |p::P,w::vs,0,m,nd,h1,h2,hk=>by
  simp at h1 h2;subst h1;subst h2
  show bindL kindOf ((p,w)::P.zip vs) m p=_
  unfold bindL
  rw[nI fun v hv=>(List.nodup_cons.mp nd).1 (List.of_mem_zip hv).1,if_pos hk]
  simp
 |p::P,w::vs,i+1,m,nd,h1,h2,hk=>by
  show bindL kindOf ((p,w)::P.zip vs) m x=_
  unfold bindL
  exact nK (i:=i) (List.nodup_cons.mp nd).2 (by simpa using h1) (by simpa using h2) hk
theorem nL{kindOf:Str->Option NameKind}{x:Str}{v:Value}:∀{P:Vs} {vs:Vv} {i:Nat} {m:Vr},P.Nodup->P[i]?=some x->vs[i]?=some v->kindOf x≠some .local->
  bindC kindOf (P.zip vs) m x=some v
 |[],_,_,_,_,h,_,_=>by simp at h
 |_::_,[],_,_,_,_,h,_=>by simp at h
 |p::P,w::vs,0,m,nd,h1,h2,hk=>by
  simp at h1 h2;subst h1;subst h2
  show bindC kindOf ((p,w)::P.zip vs) m p=_
  unfold bindC
  rw[nJ fun v hv=>(List.nodup_cons.mp nd).1 (List.of_mem_zip hv).1,if_neg hk]
  simp
 |p::P,w::vs,i+1,m,nd,h1,h2,hk=>by
  show bindC kindOf ((p,w)::P.zip vs) m x=_
  unfold bindC
  exact nL (i:=i) (List.nodup_cons.mp nd).2 (by simpa using h1) (by simpa using h2) hk
noncomputable def gN(N:Vs)(vs:List V):St:=vs.map some++List.replicate (N.length - vs.length) none
noncomputable def p5(CX:vt)(P:Program)(w:World)(K:Vo)(mg:Vr)(base:Heap)(N:Vs)(qual:Str)(scope:Scope)(f:Addr)(cd:Value)(A:Around)(outer:List Env)(s:Shared)(H:Hp)(E:XK):Cx where
 prog:=P
 w:=w
 K:=K
 mg:=mg
 base:=base
 A:=A.deeper (envOfC qual scope s.heap.objs.size f cd)
 N:=N
 s₀:=s
 H₀:=H
 env:=envOfC qual scope s.heap.objs.size f cd
 outer:=outer
 stack:=envOfC qual scope s.heap.objs.size f cd::outer
 ex:=[]
 calm:=true
 fn:=fun _=>true
 pn:=[]
 xe:=fun e s'=>wpAny (model P w) (A.deeper (envOfC qual scope s.heap.objs.size f cd)) (leaving (envOfC qual scope s.heap.objs.size f cd) e) (fun _ s''=>CX outer H s E e s'') (fun e' s''=>CX outer H s E e' s'') s'
def p7{sc:Scope}{n:Nat}{x:Str}(h:sc.names.lookup x=some .cell):∃c,(cellsFrom n sc.names []).lookup x=some c:=by
 have q:=PySem.W.cellsFrom_some sc.names n [] (.inl h)
 exact Option.isSome_iff_exists.mp q
def ub{CX:vt}{P:Program}{w:World}{K:Vo}{mg:Vr}{base:Heap}{N ps:Vs}{qual:Str}{scope:Scope}{f:Addr}{cd:Value}{A:Around}{outer:List Env}{s s1:Shared}{H:Hp}{E:XK}{us:Vv}{vs:List V}
  (S:d_ N ps scope) (hd:A.handled=none) (e0:yn P w K mg base A outer s H) (hl:vs.length=ps.length) (r:Vals vs us)
  (x:InCallC s s.heap.objs.size (bindL (envOfC qual scope s.heap.objs.size f cd).kindOf (ps.zip us) fun _=>none) (cellsFrom (s.heap.objs.size+1) scope.names []) (bindC (envOfC qual scope s.heap.objs.size f cd).kindOf (ps.zip us) fun _=>none) s1) :
  Inv (p5 CX P w K mg base N qual scope f cd A outer s H E) [] (gN N vs) H s1:=by
 have hpl:ps.length<=N.length:=by have:=congrArg List.length S.pre;rw[List.length_take]at this;omega
 obtain⟨h1,tk,rfl,hk⟩:=x.done
 have Nc:∀b:Addr,b ∉ (p5 CX P w K mg base N qual scope f cd A outer s H E).ex:=fun b z=>absurd (show b∈([]:List Addr)from z) (by simp)
 refine⟨⟨e0.mod,S.kind,rfl,rfl,Nat.le_refl _,fun y z c h1 h2=>?_,fun y hy=>?_,fun y c _ h=>?_,fun _=>hd,Around.frames_deeper e0.frames,.inr ⟨rfl,rfl⟩,fun b z=>absurd z (Nc b),e0.bs,e0.LV,fun b _ _=>Nc b,fun b z=>absurd z (Nc b),e0.JC,e0.Ms⟩,
  rfl,e0.bare,Un.kept hk,⟨_,x.toInCall.ns,fun i y v h1 h2 h3=>?_⟩,fun y c h=>⟨_,x.cell y c h⟩,e0.hok.fresh (Nat.le_refl _),fun y c h=>?_,fun p hp=>absurd (show p∈([]:Va)from hp) (by simp),e0.hok.kept hk,?_⟩
 ·exact name_of_addr x.apart (PySem.mem_of_lookup h1) (PySem.mem_of_lookup h2)
 ·have hy:scope.names.lookup y=some .cell\/scope.names.lookup y=some .free:=hy
  rcases hy with hy|hy
  ·exact p7 hy
  ·exact absurd rfl (S.Mx _ (PySem.mem_of_lookup hy))
 ·exact Nat.le_of_lt (x.above y c (PySem.mem_of_lookup h))
 ·have hi:i < vs.length:=by
   unfold gN at h2
   by_cases hi:i < vs.length
   ·exact hi
   ·rw[List.getElem?_append_right (by simpa using hi)]at h2
    rw[List.getElem?_replicate]at h2
    split at h2<;>cases h2
  have ha:vs[i]?=some v:=by
   unfold gN at h2
   rw[List.getElem?_append_left (by simpa using hi),List.getElem?_map]at h2
   cases e:vs[i]? with
   |none=>rw[e]at h2;cases h2
   |some a=>rw[e]at h2;cases h2;rfl
  obtain⟨u,hu,rv⟩:=r.get ha
  have hp:ps[i]?=some y:=by
   rw[<-S.pre,List.getElem?_take_of_lt (by omega)];exact h1
  have Pj:ps.Nodup:=by rw[<-S.pre];exact S.nd.sublist (List.take_sublist _ _)
  refine⟨u,rv,?_⟩
  rcases S.par y (List.mem_of_getElem? hp)with k|k
  ·exact .inl ⟨k,nK Pj hp hu k⟩
  ·obtain⟨c,e⟩:=p7 (n:=s.heap.objs.size+1) k
   refine .inr ⟨.inl k,c,e,?_⟩
   have q:=x.cell y c e
   rw[nL Pj hp hu (by show scope.names.lookup y≠_;rw[k];decide)]at q
   exact q
 ·exact e0.hok.fresh (Nat.le_of_lt (x.above y c (PySem.mem_of_lookup h)))
 ·unfold gN
  show _=N.length
  rw[List.length_append,List.length_map,List.length_replicate]
  omega
def zR{CX:vt}{P:Program}{w:World}{K:Vo}{mg:Vr}{base:Heap}{k:Nat}{f:Addr}{name qual:Str}{params:Arguments}{body:List Stmt}{scope:Scope}{dV kV doc pm cdv ct oc:Value}{an od:Option Addr}
  {osl:Array (Option Value)} {N ps:Vs} {sp:Sp} (lk:K.lookup f=some ⟨oc,od,.func (PySem.W.fnOf name qual params body scope dV kV doc pm an cdv ct),osl⟩) (hcd:PySem.W.codeIn K cdv qual=true) (S:d_ N ps scope)
  (len:∀vs H Q E,sp vs H Q E->vs.length=ps.length)
  (hbody:∀(A:Around) (outer:List Env) (s:Shared) (H:Hp) (vs:List V) (Q:VK) (E:XK),Room k (A.deeper (envOfC qual scope s.heap.objs.size f cdv))->sp vs H Q E->
   ∃t,Kx (p5 CX P w K mg base N qual scope f cdv A outer s H E) body t/\t { nx:=fun _ H'=>Q .non H',rt:=Q } (gN N vs) H) :
  m9 P w K mg base CX (k+1) f (PySem.W.fnOf name qual params body scope dV kV doc pm an cdv ct) ps sp:=by
 refine⟨len,fun A outer s H args us vs Q E hr e0 hb r LK=>?_⟩
 have hl:=len _ _ _ _ LK
 have KX:K.In s.heap:=e0.mod.NW.keeps fun b o e=>(e0.bs b o e).1
 have lim:s.heap.NoLimit:=e0.mod.nolimit.keeps fun b o e=>(e0.bs b o e).1
 have hkind:∀y∈ps.zip us,scope.names.lookup y.1=some .local\/(scope.names.lookup y.1=some .cell/\((cellsFrom (s.heap.objs.size+1) scope.names []).lookup y.1).isSome=true):=fun⟨n,v⟩ hy=>by
  rcases S.par n (List.of_mem_zip hy).1 with q|q
  ·exact .inl q
  ·exact .inr ⟨q,PySem.W.cellsFrom_some _ _ _ (.inl q)⟩
 refine codeAny_call_function hr.depth (KX _ _ lk) rfl S.co S.gen rfl (PySem.W.codeRec_of KX hcd) (hb _ _ _ _ ?_)
 refine wpAny_newFunctionEnv_cells S.kind hkind fun env he s1 x=>?_
 subst he
 refine⟨lim.keeps x.toInCall.keep,codeAny_func ?_⟩
 obtain⟨t,ht,hq⟩:=hbody A outer s H vs Q E (hr.deeper _) LK
 have I:Inv (p5 CX P w K mg base N qual scope f cdv A outer s H E) [] (gN N vs) H s1:=ub S hr.hd e0 hl r x
 refine wpAny_mono (ht [] s1 (gN N vs) H _ I hq) (fun fl s' hs=>?_) fun e s' hs=>hs
 have fin:∀{σ':St} {H':Hp} {v:V} {u:Value},Inv (p5 CX P w K mg base N qual scope f cdv A outer s H E) [] σ' H' s'->RelV v u->Q v H'->CE outer P w H s Q u s':=
  fun{σ' H' v u} J rv q=>⟨v,H',J.os,J.bare,J.base,J.hok,rv,q⟩
 cases fl with
 |ret u=>
  obtain⟨v,σ',H',J,rv,q⟩:=hs
  exact fin J rv q
 |next=>
  obtain⟨σ',H',J,q⟩:=hs
  exact fin (v:=V.non) (u:=Value.none) J rfl q
 |brk=>
  obtain⟨_,_,_,q⟩:=hs
  exact False.elim q
 |cont=>
  obtain⟨_,_,_,q⟩:=hs
  exact False.elim q
section
variable {X:Cx} {x:Str} {p pos:Pos} {e:Expr} {es:List Expr} {t:TA} {id T:String} {r:List V->Hp->VK->Prop}
def Ft(r:List V->Hp->VK->Prop)(t:TA):TE:=fun σ H Q=>t σ H fun vs H1=>r vs H1 Q
def vv(hc:gM X (.builtin id) r)(hg:Gl X x)(hm:X.mg x=none)(hv:bootBuiltins x=some (.builtin id))(ha:PA X (e::es) t)(hn:x ≠ "__name__":=by decide)(hdb:(x == ("__debug__":Str))=false:=by decide)
  (he:starEach (e::es) X.env=(false,eval e X.env)::starEach es X.env:=by rfl) (hpl:(backTo pos (starEach es X.env)).any (·.1)=false:=by rfl):PE X (.Call (.Name x p) (e::es) [] pos) (Ft r t):=by
 intro pins s σ H Q I h
 refine wpAny_Call_Name_kw (eG I hg hm hv ?_ hn hdb)
 exact PyProof.Rows.callWith_builtin1 (F9 (ha pos pins s σ H _ I h) fun us s1 ⟨vs,H1,I1,r1,q1⟩=>hc pins s1 σ H1 vs us Q I1 r1 q1) he hpl
def uc(hc:gM X (.type T) r)(hg:Gl X x)(hm:X.mg x=none)(hv:bootBuiltins x=some (.type T))(ha:PA X (e::es) t)(hn:x ≠ "__name__":=by decide)(hdb:(x == ("__debug__":Str))=false:=by decide)
  (he:starEach (e::es) X.env=(false,eval e X.env)::starEach es X.env:=by rfl) (hpl:(backTo pos (starEach es X.env)).any (·.1)=false:=by rfl):PE X (.Call (.Name x p) (e::es) [] pos) (Ft r t):=by
 intro pins s σ H Q I h
 refine wpAny_Call_Name_kw (eG I hg hm hv ?_ hn hdb)
 exact PyProof.Rows.callWith_type1 (F9 (ha pos pins s σ H _ I h) fun us s1 ⟨vs,H1,I1,r1,q1⟩=>hc pins s1 σ H1 vs us Q I1 r1 q1) he hpl
end
end L2
namespace HT
open PySem PyProof.Rows
section
open PySem.SeqAt
open PySem.AutoSeq1 (wpAny_loadPart')
open PySem.MeetsSeq PySem.MeetsSeq2 PySem.MeetsSeq3
end
section
variable {prog:Program} {w:World} {A:Around} {E:Vq} {s:Shared}
def yo{t b:Addr}{vs ws:Vv}{Q:Vq}(ht:IsTup s.heap t vs.toArray)(hb:IsTup s.heap b ws.toArray)(hv:vs≠[])
  (h1:ws=[]->Q (.ref t) s) (h2:ws≠[]->Q (.ref s.heap.objs.size) { s with heap:=s.heap.push { cls:=.type "tuple",data:=.seq (vs++ws).toArray } })
  (hsz:vs.length+ws.length<=sizeLine):wpAny (model prog w) A (binaryOp .Add (.ref t) (.ref b)) Q E s:=by
 obtain⟨⟨cls,dd,data,sl⟩,ho,hc,n,hd⟩:=id ht
 obtain⟨⟨N6,dd2,data2,sl2⟩,ho2,hc2,n2,hd2⟩:=id hb
 simp only at hc hd hc2 hd2
 subst hc hd hc2 hd2
 have e:vs.toArray++ws.toArray=(vs++ws).toArray:=by simp
 by_cases hw:ws=[]
 ·exact concat_meets ⟨_,ho,rfl⟩ ⟨_,ho2,rfl⟩ noFill_tuple_add seq_tuple_add PySem.F.slot_tuple_add PySem.F.entry_tuple_add (PySem.F.args_tuple_add_2 _ _)
   (tuple_addW1 t b vs.toArray ws.toArray n n2 dd dd2 sl sl2 (by simpa using hv) (by simp[hw])) ⟨ho,ho2,h1 hw⟩
 ·refine concat_meets ⟨_,ho,rfl⟩ ⟨_,ho2,rfl⟩ noFill_tuple_add seq_tuple_add PySem.F.slot_tuple_add PySem.F.entry_tuple_add (PySem.F.args_tuple_add_2 _ _)
   (tuple_addW2 t b vs.toArray ws.toArray n n2 dd dd2 sl sl2 (by simpa using hv) (by simpa using hw) (by rw[List.size_toArray,List.size_toArray];exact hsz)) ⟨ho,ho2,?_⟩
  rw[e]
  exact h2 hw
noncomputable def Gz(n d:Nat):Option Int->Nat
 |none=>d
 |some v=>if v < 0 then (v+(n:Int)).toNat else min v.toNat n
def lV(n d:Nat):Gz n d none=d:=rfl
def sU(n d k:Nat):Gz n d (some (k:Int))=min k n:=by
 show(if (k:Int) < 0 then ((k:Int)+(n:Int)).toNat else min (k:Int).toNat n)=min k n
 rw[if_neg (by omega),Int.toNat_natCast]
def A_(n d:Nat)(hd:d<=n)(o:Option Int):Gz n d o<=n:=by
 cases o with
 |none=>exact hd
 |some v=>
  show(if v < 0 then (v+(n:Int)).toNat else min v.toNat n)<=n
  by_cases hv:v < 0
  ·rw[if_pos hv];omega
  ·rw[if_neg hv];exact Nat.min_le_right _ _
def sV(v:Int)(n d:Nat):(if v < 0 then max (v+(n:Int)) 0 else min v (n:Int))=((Gz n d (some v):Nat):Int):=by
 show(if v < 0 then max (v+(n:Int)) 0 else min v (n:Int))=(((if v < 0 then (v+(n:Int)).toNat else min v.toNat n):Nat):Int)
 by_cases hv:v < 0
 ·simp only[if_pos hv];omega
 ·simp only[if_neg hv];omega
def rE(lo hi:Option Int)(n:Nat):Builtin.Slice.sliceAdjust lo hi 1 (n:Int)=(((Gz n 0 lo:Nat):Int),((Gz n n hi:Nat):Int)):=by
 have h1:¬((1:Int) < 0):=by omega
 unfold Builtin.Slice.sliceAdjust
 simp only[h1,if_false]
 refine Prod.ext ?_ ?_
 ·cases lo with
  |none=>rfl
  |some v=>exact sV v n 0
 ·cases hi with
  |none=>rfl
  |some v=>exact sV v n n
def rF(i j:Nat):Builtin.Slice.slicePlaces (i:Int) (j:Int) 1=j - i:=by
 unfold Builtin.Slice.slicePlaces
 have h1:(1:Int) > 0:=by omega
 simp only[h1,if_true,Int.ediv_one]
 split<;>omega
def lW{v:Value}{o:Option Int}{Q:Option Int->Shared->Prop}(p:IsPart v o)(h:Q o s):wpAny (model prog w) A (Builtin.Slice.slicePartIndex v) Q E s:=by
 cases p with
 |none=>exact slicePart_none h
 |int i t=>exact slicePart_int h
def fF{sl:Addr}{vl vu:Value}{lo hi:Option Int}{n:Nat}{Q:Int×Int×Nat->Shared->Prop}(hs:s.heap.IsSliceOf sl vl vu .none)(pl:IsPart vl lo)(pu:IsPart vu hi)
  (h:Q (((Gz n 0 lo:Nat):Int),1,Gz n n hi - Gz n 0 lo) s):wpAny (model prog w) A (Builtin.Slice.sliceApplied (.ref sl) (pure (n:Int))) Q E s:=by
 obtain⟨os,hos,hcs,hds⟩:=id hs
 unfold Builtin.Slice.sliceApplied Builtin.Slice.sliceFields
 refine wpAny_bind (wpAny_bind (wpAny_field hos hds (x:=vl) rfl (wpAny_bind (wpAny_field hos hds (x:=vu) rfl (wpAny_bind (wpAny_field hos hds (x:=.none) rfl (wpAny_pure ?_)))))))
 refine wpAny_bind (slicePart_none ?_)
 show wpAny _ _ (if ((1:Int) == 0)=true then _ else _) _ _ s
 rw[if_neg (by decide)]
 refine wpAny_bind (lW pl (wpAny_bind (lW pu (wpAny_bind (wpAny_pure ?_)))))
 show wpAny _ _ (match Builtin.Slice.sliceAdjust lo hi 1 (n:Int)with|(lo,hi)=>pure (lo,(1:Int),Builtin.Slice.slicePlaces lo hi 1)) _ _ s
 rw[rE lo hi n]
 show wpAny _ _ (pure (((Gz n 0 lo:Nat):Int),(1:Int),Builtin.Slice.slicePlaces ((Gz n 0 lo:Nat):Int) ((Gz n n hi:Nat):Int) 1)) _ _ s
 rw[rF]
 exact wpAny_pure h
def vx(xs:Vw)(i k:Nat):((List.range k).filterMap fun(m:Nat)=>xs[((i:Int)+(m:Int) * 1).toNat]?).toArray=((xs.toList.drop i).take k).toArray:=by
 have e:(fun(m:Nat)=>xs[((i:Int)+(m:Int) * 1).toNat]?)=fun m=>xs[i+m]?:=by
  funext m
  have:((i:Int)+(m:Int) * 1).toNat=i+m:=by omega
  rw[this]
 rw[e]
 have:=pick_run xs i k
 rw[List.filterMap_map]at this
 have e2:((fun x=>xs[x]?) ∘ fun x=>i+x)=fun m=>xs[i+m]?:=rfl
 rw[e2]at this
 rw[this]
def jI{t sl:Addr}{items:Vw}{vl vu:Value}{lo hi:Option Int}{Q:Vq}(ht:IsTup s.heap t items)(hs:s.heap.IsSliceOf sl vl vu .none)(pl:IsPart vl lo)(pu:IsPart vu hi)
  (hw:¬(Gz items.size 0 lo=0/\Gz items.size items.size hi=items.size))
  (h:Q (.ref s.heap.objs.size) { s with heap:=s.heap.push { cls:=.type "tuple",data:=.seq ((items.toList.drop (Gz items.size 0 lo)).take (Gz items.size items.size hi - Gz items.size 0 lo)).toArray } })
  (hsz:items.size<=sizeLine):wpAny (model prog w) A (getItem (.ref t) (.ref sl)) Q E s:=by
 have La:sizeOk (.seq ((items.toList.drop (Gz items.size 0 lo)).take (Gz items.size items.size hi - Gz items.size 0 lo)).toArray):=by
  show((items.toList.drop (Gz items.size 0 lo)).take (Gz items.size items.size hi - Gz items.size 0 lo)).toArray.size<=sizeLine
  rw[List.size_toArray,List.length_take,List.length_drop,Array.length_toList]
  omega
 have hj:Gz items.size items.size hi<=items.size:=A_ _ _ (Nat.le_refl _) hi
 obtain⟨os,hos,hcs,hds⟩:=id hs
 have N8:s.TypeIs (.ref sl) "slice":=⟨os,hos,hcs⟩
 unfold getItem
 try with_reducible refine wpAny_holding ?_
 first|refine wpAny_bind (wpAny_pure ?_)|skip
 refine wpAny_bind (wpAny_sequenceKey ht.typeIs (by decide) ?_)
 refine wpAny_bind (wpAny_callSpecial?_slot (name:=Str.ofString "__getitem__") ht.typeIs PyProof.Rows.slot_tuple_getitem
  (wpAny_call_entry PyProof.Rows.slot_tuple_getitem ht.typeIs entry_tuple_getitem ?_ (args_tuple_getitem _ _)))
 show wpAny _ _ (Builtin.Tuple.tupleItemsOf (.ref t) >>= _) _ _ s
 refine wpAny_bind (tupleItemsOf_ ht ?_)
 refine wpAny_bind (wpAny_typeOf N8 ?_)
 rw[if_pos (by decide)]
 refine wpAny_bind (fF hs pl pu ?_)
 have hno:¬((((Gz items.size 0 lo:Nat):Int) == 0&&(1:Int) == 1&&(Gz items.size items.size hi - Gz items.size 0 lo) == items.size)=true):=by
  intro q
  rw[Bool.and_eq_true,Bool.and_eq_true]at q
  have q1:((Gz items.size 0 lo:Nat):Int)=0:=eq_of_beq q.1.1
  have q2:Gz items.size items.size hi - Gz items.size 0 lo=items.size:=eq_of_beq q.2
  exact hw ⟨by omega,by omega⟩
 show wpAny _ _ (if (((Gz items.size 0 lo:Nat):Int) == 0&&(1:Int) == 1&&(Gz items.size items.size hi - Gz items.size 0 lo) == items.size)=true then _ else _) _ _ s
 rw[if_neg hno,vx]
 first
  |exact wpAny_bind (m:=Builtin.Tuple.tupleExact _) (wpAny_newObj_type (wpAny_pure ⟨_,rfl,wpAny_pure h⟩) La)
  |exact wpAny_bind (m:=Builtin.Tuple.tupleExact _) (wpAny_newObj_type (wpAny_bind (wpAny_pure (wpAny_pure ⟨_,rfl,wpAny_pure h⟩))) La)
  |exact wpAny_bind (wpAny_bind (m:=Builtin.Tuple.tupleExact _) (wpAny_newObj_type (wpAny_pure (wpAny_pure ⟨_,rfl,wpAny_pure h⟩)) La))
  |exact wpAny_bind (wpAny_bind (m:=Builtin.Tuple.tupleExact _) (wpAny_newObj_type (wpAny_pure ⟨_,rfl,wpAny_pure h⟩) La))
end
end HT
namespace L2
open PySem PySem.Spec PyProof.Rows
abbrev TO:=St->Hp->(Option Int->Hp->Prop)->Prop
def PO(X:Cx)(e:Option Expr)(t:TO):Prop:=
 ∀(pins:Va) (s:Shared) (σ:St) (H:Hp) (Q:Option Int->Hp->Prop),Inv X pins σ H s->t σ H Q->
  wpAny (model X.prog X.w) X.A (evalPart e X.env) (fun u s'=>∃o H',Inv X pins σ H' s'/\IsPart u o/\Q o H') X.xe s
noncomputable def yp:TO:=fun _ H Q=>Q none H
noncomputable def CQ(t:TE):TO:=fun σ H Q=>t σ H fun x H1=>∃i,x = .int i/\Q (some i) H1
def rG{ns:Vu}:∀{us:Vv},Vals (ns.map V.int) us->IntsAre us ns:=by
 induction ns with
 |nil=>intro us r;rw[List.map_nil]at r;cases r;exact .nil
 |cons n ns ih=>
  intro us r
  rw[List.map_cons]at r
  cases r with
  |cons r1 r2=>
   obtain⟨t,e⟩:=r1
   subst e
   exact .cons n t (ih r2)
section
variable {X:Cx} {e:Expr} {te:TE} {lo hi:Option Expr} {tl th:TO} {pos p2:Pos}
def yq:PO X none yp:=by
 intro pins s σ H Q I h
 rw[evalPart_none]
 exact wpAny_pure ⟨none,H,I,.none,h⟩
def yr(h:PE X e te):PO X (some e) (CQ te):=by
 intro pins s σ H Q I hw
 rw[evalPart_some]
 refine F9 (h pins s σ H _ I hw) fun u s1 ⟨x,H1,I1,r1,q1⟩=>?_
 obtain⟨i,rfl,q⟩:=q1
 obtain⟨t,rfl⟩:=r1
 exact⟨some i,H1,I1,.int i t,q⟩
def Ce(X:Cx)(r:V->Option Int->Option Int->Hp->VK->Prop):Prop:=
 ∀(pins:Va) (s:Shared) (σ:St) (H:Hp) (x:V) (v vl vu:Value) (lo hi:Option Int) (sl:Addr) (Q:VK),Inv X pins σ H s->RelV x v->s.heap.IsSliceOf sl vl vu .none->IsPart vl lo->IsPart vu hi->r x lo hi H Q->
  ∃T id,typeLookup (.type T) "__getitem__" = pure (some (.builtin id))/\s.TypeIs v T/\wpAny (model X.prog X.w) X.A (getItem v (.ref sl)) (EP X pins σ Q) X.xe s
def FH(r:V->Option Int->Option Int->Hp->VK->Prop)(te:TE)(tl th:TO):TE:=fun σ H Q=>te σ H fun x H1=>tl σ H1 fun l H2=>th σ H2 fun u H3=>r x l u H3 Q
def vy{r:V->Option Int->Option Int->Hp->VK->Prop}(hr:Ce X r)(he:PE X e te)(hl:PO X lo tl)(hu:PO X hi th):PE X (.Subscript e (.Slice lo hi none p2) pos) (FH r te tl th):=by
 intro pins s σ H Q I h
 refine Subscript_ (F9 (he pins s σ H _ I h) fun v s1 ⟨x,H1,I1,r1,q1⟩=>?_)
 refine wpAny_Slice (F9 (hl pins s1 σ H1 _ I1 q1) fun vl s2 ⟨l,H2,I2,pl,q2⟩=>F9 (hu pins s2 σ H2 _ I2 q2) fun vu s3 ⟨u,H3,I3,pu,q3⟩=>?_)
 rw[evalPart_none]
 refine wpAny_pure ?_
 have I4:Inv X pins σ H3 { s3 with heap:=s3.heap.push { cls:=.type "slice",data:=.fields #[vl,vu,.none] } }:=I3.kept (t':=s3.toks) fun b ob q=>Heap.get?_push_of_some _ q
 obtain⟨T,id,hT,ht,hg⟩:=hr pins { s3 with heap:=s3.heap.push { cls:=.type "slice",data:=.fields #[vl,vu,.none] } } σ H3 x v vl vu l u s3.heap.objs.size Q I4 r1 (Heap.IsSliceOf.new ..) pl pu q3
 show wpAny (model X.prog X.w) X.A (subscriptTail e (.Slice lo hi none p2) v (.ref s3.heap.objs.size)) (EP X pins σ Q) X.xe { s3 with heap:=s3.heap.push { cls:=.type "slice",data:=.fields #[vl,vu,.none] } }
 exact tail_any (ops:=[.ref s3.heap.objs.size,v]) ht hT hg (by with_unfolding_all rfl)
noncomputable def lX(xs:List V)(lo hi:Option Int):List V:=(xs.drop (HT.Gz xs.length 0 lo)).take (HT.Gz xs.length xs.length hi - HT.Gz xs.length 0 lo)
def k_(xs:List V)(lo hi:Option Int):(lX xs lo hi).length<=xs.length:=by
 unfold lX
 rw[List.length_take,List.length_drop]
 omega
noncomputable def EL(K:Vo):V->Option Int->Option Int->Hp->VK->Prop:=fun x lo hi H Q=>∃a xs,x = .ref a/\SqT K H a xs/\
 ¬(HT.Gz xs.length 0 lo=0/\HT.Gz xs.length xs.length hi=xs.length)/\∀p,H p=none->Q (.ref p) (upd H p (.tup (lX xs lo hi)))
def Ba:Ce X (EL X.K):=by
 intro pins s σ H x v vl vu lo hi sl Q I rx hs pl pu h
 obtain⟨a,xs,rfl,hx,hw,q⟩:=h
 cases rx
 obtain⟨its,r,ht,hz⟩:=I.tuple hx
 have hlen:its.toArray.size=xs.length:=by rw[List.size_toArray];exact r.length.symm
 refine⟨"tuple",_,PyProof.Rows.slot_tuple_getitem.lookup,ht.typeIs,?_⟩
 refine HT.jI ht hs pl pu (by rw[hlen];exact hw) ?_ (by rw[hlen];exact hz)
 rw[hlen]
 refine⟨.ref s.heap.objs.size,_,I.laid (t':=s.toks) (o:=.tup (lX xs lo hi)) (fun b ob q=>Heap.get?_push_of_some _ q) (Nat.le_refl _) ?_,rfl,q _ (I.hok.fresh (Nat.le_refl _))⟩
 exact⟨Nat.le_trans (k_ xs lo hi) hz,_,(r.drop (HT.Gz xs.length 0 lo)).take (HT.Gz xs.length xs.length hi - HT.Gz xs.length 0 lo),Gy.new _ _⟩
def CS(K:Vo):R2:=fun x y H Q=>∃a b xs ys,x = .ref a/\y = .ref b/\SqT K H a xs/\SqT K H b ys/\xs≠[]/\xs.length+ys.length<=sizeLine/\
 (ys=[]->Q (.ref a) H)/\(ys≠[]->∀p,H p=none->Q (.ref p) (upd H p (.tup (xs++ys))))
def Vals.J6{xs:List V}{us:Vv}(r:Vals xs us):us=[]↔xs=[]:=by
 cases r with
 |nil=>simp
 |cons _ _=>simp
def yt:jE X (binaryOp .Add) (CS X.K):=by
 intro pins s σ H x y v u Q I rx ry h
 obtain⟨a,b,xs,ys,rfl,rfl,ha,hb,hx,hz,q1,q2⟩:=h
 cases rx
 cases ry
 obtain⟨its,r1,p1,_⟩:=I.tuple ha
 obtain⟨its2,r2,p2,_⟩:=I.tuple hb
 refine HT.yo p1 p2 (fun z=>hx (r1.J6.mp z)) (fun z=>⟨.ref a,H,I,rfl,q1 (r2.J6.mp z)⟩) (fun z=>?_) (by rw[<-r1.length,<-r2.length];exact hz)
 refine⟨.ref s.heap.objs.size,_,I.laid (t':=s.toks) (o:=.tup (xs++ys)) (fun b ob q=>Heap.get?_push_of_some _ q) (Nat.le_refl _) ?_,rfl,q2 (fun w=>z (r2.J6.mpr w)) _ (I.hok.fresh (Nat.le_refl _))⟩
 exact⟨by rw[List.length_append];exact hz,_,r1.append r2,Gy.new _ _⟩
end
noncomputable def sW(n:Nat)(i:Int):Option Nat:=if 0<=i then (if i < n then some i.toNat else none) else if -(n:Int)<=i then some (i+n).toNat else none
noncomputable def G2{α:Type}(xs:List α)(i:Int):Option α:=(sW xs.length i).bind fun j=>xs[j]?
def sX{n:Nat}{i:Int}{j:Nat}(h:sW n i=some j):seqIndex? i n=some j/\j < n/\-(n:Int)<=i/\i < n:=by
 unfold sW at h
 by_cases h0:0<=i
 ·rw[if_pos h0]at h
  by_cases h1:i < n
  ·rw[if_pos h1]at h
   have e:i.toNat=j:=Option.some.inj h
   exact⟨by rw[seqIndex_of h0 h1,e],by omega,by omega,h1⟩
  ·rw[if_neg h1]at h;cases h
 ·rw[if_neg h0]at h
  by_cases h1:-(n:Int)<=i
  ·rw[if_pos h1]at h
   have e:(i+n).toNat=j:=Option.some.inj h
   exact⟨by rw[seqIndex_neg (by omega) h1,e],by omega,h1,by omega⟩
  ·rw[if_neg h1]at h;cases h
def ow{α:Type}{xs:List α}{i:Int}{v:α}(h:G2 xs i=some v):∃j,seqIndex? i xs.length=some j/\xs[j]?=some v/\j < xs.length/\-(xs.length:Int)<=i/\i < xs.length:=by
 unfold G2 at h
 cases e:sW xs.length i with
 |none=>rw[e]at h;cases h
 |some j=>
  rw[e]at h
  obtain⟨h1,h2,h3,h4⟩:=sX e
  exact⟨j,h1,h,h2,h3,h4⟩
def ed{α:Type}{xs:List α}{j:Nat}{v:α}(h:xs[j]?=some v):G2 xs (j:Int)=some v:=by
 have hj:j < xs.length:=(List.getElem?_eq_some_iff.mp h).1
 have e:sW xs.length (j:Int)=some j:=by
  unfold sW
  rw[if_pos (by omega),if_pos (by omega)];simp
 unfold G2;rw[e];exact h
def lI(b:Expr):Prop:=∀o i,subscripted b false o i=operate [o,i] (getItem o i)
def Cf(X:Cx)(r:R2):Prop:=
 ∀(value slice:Expr) (pins:Va) (s:Shared) (σ:St) (H:Hp) (x y:V) (v u:Value) (Q:VK),Inv X pins σ H s->RelV x v->RelV y u->r x y H Q->
  subscripted slice false v u=operate [v,u] (getItem v u)->wpAny (model X.prog X.w) X.A (subscriptTail value slice v u) (EP X pins σ Q) X.xe s
def Bb(X:Cx)(id:String)(r:V->List V->Hp->VK->Prop):Prop:=
 ∀(pins:Va) (s:Shared) (σ:St) (H:Hp) (x:V) (xs:List V) (v:Value) (us:Vv) (Q:VK),Inv X pins σ H s->RelV x v->Vals xs us->r x xs H Q->
  wpAny (model X.prog X.w) X.A (call (.builtin id) (v::us)) (EP X pins σ Q) X.xe s
section
variable {X:Cx} {a b:Expr} {ta tb:TE} {pos:Pos}
def CT{r:R2}(hr:Cf X r)(ha:PE X a ta)(hb:PE X b tb)(hs:lI b):PE X (.Subscript a b pos) (CD r ta tb):=by
 intro pins s σ H Q I h
 exact Subscript_ (AZ ha hb I h fun v u s2 x y H2 I2 rx ry q=>hr a b pins s2 σ H2 x y v u Q I2 rx ry q (hs _ _))
def EM(K:Vo):R2:=fun x y H Q=>∃p xs i v,x = .ref p/\y = .int i/\SqL K H p xs/\G2 xs i=some v/\Q v H
def EN(K:Vo):R2:=fun x y H Q=>∃p xs i v,x = .ref p/\y = .int i/\SqT K H p xs/\G2 xs i=some v/\Q v H
def EO:R2:=fun x y H Q=>∃z i c,x = .str z/\y = .int i/\z.length<=sizeLine/\G2 z.cps.toList i=some c/\Q (.str ⟨#[c]⟩) H
def sY:Cf X (EM X.K):=by
 intro value slice pins s σ H x y v u Q I rx ry h hs
 obtain⟨p,xs,i,z,rfl,rfl,hq,he,q⟩:=h
 cases rx
 obtain⟨t,rfl⟩:=ry
 obtain⟨its,r,pl,hz⟩:=I.list hq
 obtain⟨j,h1,h2,h3,h4,h5⟩:=ow he
 obtain⟨w,ew,rw'⟩:=r.get h2
 have hl:=r.length
 have hn:=kr
 have fin:EP X pins σ Q w s:=⟨z,H,I,rw',q⟩
 by_cases h0:0<=i
 ·have hj:i.toNat=j:=by
   rw[seqIndex_of h0 h5]at h1
   exact Option.some.inj h1
  exact item_listR pl.isList h0 (by omega) (by rw[hj];simpa using ew) fin hs
 ·have hj:(i+(its.toArray.size:Int)).toNat=j:=by
   rw[seqIndex_neg (by omega) h4]at h1
   rw[List.size_toArray,<-hl]
   exact Option.some.inj h1
  exact subscriptTail_builtinR (x:=w) pl.isList.typeIs slot_list_getitem.lookup
   (wpAny_getItem_list_neg (Q:=fun r s'=>r=w/\EP X pins σ Q r s') pl.isList (by omega) (by rw[List.size_toArray]<;>omega) (by omega) (by rw[hj];simpa using ew) ⟨rfl,fin⟩) hs
def Bc:Cf X (EN X.K):=by
 intro value slice pins s σ H x y v u Q I rx ry h hs
 obtain⟨p,xs,i,z,rfl,rfl,hq,he,q⟩:=h
 cases rx
 obtain⟨t,rfl⟩:=ry
 obtain⟨its,r,pl,hz⟩:=I.tuple hq
 obtain⟨j,h1,h2,h3,h4,h5⟩:=ow he
 obtain⟨w,ew,rw'⟩:=r.get h2
 have hl:=r.length
 have hn:=kr
 have fin:EP X pins σ Q w s:=⟨z,H,I,rw',q⟩
 exact subscriptTail_builtinR (x:=w) pl.typeIs slot_tuple_getitem.lookup
  (getItem_tuple (j:=j) (Q:=fun r s'=>r=w/\EP X pins σ Q r s') pl (by omega) (by omega) (by rw[List.size_toArray,<-hl];exact h1) (by simpa using ew) ⟨rfl,fin⟩) hs
def Be:Cf X EO:=by
 intro value slice pins s σ H x y v u Q I rx ry h hs
 obtain⟨z,i,c,rfl,rfl,hz,he,q⟩:=h
 obtain⟨t,rfl⟩:=rx
 obtain⟨t',rfl⟩:=ry
 obtain⟨j,h1,h2,h3,h4,h5⟩:=ow he
 have hl:z.cps.toList.length=z.length:=by simp[Str.length]
 rw[hl]at h1 h4 h5
 have hn:=kr
 exact tail_any (typeIs_str s z t) slot_str_getitem.lookup (getItem_str (c:=c) (by
  have e1:decide (i < -(2 ^ 63:Int))=false:=decide_eq_false (by omega)
  have e2:decide (i>=2 ^ 63)=false:=decide_eq_false (by omega)
  rw[e1,e2,Bool.or_false]) (by rw[h1];simpa using h2) ⟨.str ⟨#[c]⟩,H,I.tok _,⟨_,rfl⟩,q⟩) hs
def rH(its:Vv)(n j:Nat)(u:Value):Obj.mapSeq (·.setIfInBounds j u) { cls:=.type "list",data:=.seq its.toArray n }={ cls:=.type "list",data:=.seq (its.set j u).toArray n }:=by
 simp[Obj.mapSeq]
theorem Inv.lst{pins:Va}{σ:St}{H:Hp}{s:Shared}{p:Addr}{xs:List V}(I:Inv X pins σ H s)(h:H p=some (.lst xs)) :
  ∃(its:Vv) (n:Nat),Vals xs its/\s.heap.get? p=some { cls:=.type "list",data:=.seq its.toArray n }/\xs.length<=sizeLine:=by
 obtain⟨z,its,n,r,e⟩:=I.hok p _ h
 exact⟨its,n,r,e,z⟩
def Inv.My{pins:Va}{σ:St}{H:Hp}{s:Shared}{p:Addr}{xs ys:List V}{its its':Vv}{n n':Nat}{f:Obj->Obj}(I:Inv X pins σ H s)(h:H p=some (.lst xs))
  (ho:s.heap.get? p=some { cls:=.type "list",data:=.seq its.toArray n }) (hf:f { cls:=.type "list",data:=.seq its.toArray n }={ cls:=.type "list",data:=.seq its'.toArray n' }) (r:Vals ys its') (hz:ys.length<=sizeLine) (t:Nat) :
  Inv X pins σ (upd H p (.lst ys)) { s with heap:=s.heap.update p f,toks:=t }:=by
 have e:(s.heap.update p f).get? p=some { cls:=.type "list",data:=.seq its'.toArray n' }:=by
  rw[Heap.get?_update_self f ho (by rw[hf]<;>rfl),hf]
 refine I.write (x:=p) (e:=p) (by rw[h];trivial) (.inl rfl) (fun b u hb q=>(Heap.get?_update_other _ _ (Ne.symm hb)).trans q) ⟨_,e⟩ ?_
 exact⟨hz,its',n',r,e⟩
noncomputable def CU:V->V->V->Hp->(Hp->Prop)->Prop:=fun o i v H Q=>∃p xs k j,o = .ref p/\i = .int k/\H p=some (.lst xs)/\sW xs.length k=some j/\Q (upd H p (.lst (xs.set j v)))
def vz:yc X CU:=by
 intro pins s σ H o i v ov iv u Q I ro ri rv h
 obtain⟨p,xs,k,j,rfl,rfl,hp,hj,q⟩:=h
 cases ro
 obtain⟨t,rfl⟩:=ri
 obtain⟨its,n,r,ho,hz⟩:=I.lst hp
 obtain⟨h1,h2,h3,h4⟩:=sX hj
 have hl:=r.length
 have hn:=kr
 have I':Inv X pins σ (upd H p (.lst (xs.set j v))) { s with heap:=s.heap.update p (Obj.mapSeq (·.setIfInBounds j u)) }:=
  I.My hp ho (rH its n j u) (r.set rv j) (by rw[List.length_set];exact hz) s.toks
 by_cases h0:0<=k
 ·have hk:k.toNat=j:=by
   rw[seqIndex_of h0 h4]at h1
   exact Option.some.inj h1
  exact PySem.W.ki_setAt ho h0 (by omega) (by rw[List.size_toArray,<-hl];exact h4) (by rw[hk];exact⟨_,I',q⟩)
 ·have hk:(k+(its.toArray.size:Int)).toNat=j:=by
   rw[seqIndex_neg (by omega) h3]at h1
   rw[List.size_toArray,<-hl]
   exact Option.some.inj h1
  exact PySem.W.ki_setBack ho (by omega) (by rw[List.size_toArray,<-hl];exact h3) (by omega) (by rw[hk];exact⟨_,I',q⟩)
def oy(lo hi:Option Int)(n:Nat):(sliceBounds lo hi none n).1=((HT.Gz n 0 lo:Nat):Int)/\(sliceBounds lo hi none n).2.1=((HT.Gz n n hi:Nat):Int)/\(sliceBounds lo hi none n).2.2=1:=by
 refine⟨?_,?_,rfl⟩
 ·cases lo with
  |none=>simp[sliceBounds,HT.Gz]
  |some i=>
   simp only[sliceBounds,HT.Gz,Option.getD_none,show(1:Int) > 0 by decide,if_true]
   by_cases h:i < 0
   ·simp only[h,if_true]<;>omega
   ·simp only[h,if_false]<;>omega
 ·cases hi with
  |none=>simp[sliceBounds,HT.Gz]
  |some i=>
   simp only[sliceBounds,HT.Gz,Option.getD_none,show(1:Int) > 0 by decide,if_true]
   by_cases h:i < 0
   ·simp only[h,if_true]<;>omega
   ·simp only[h,if_false]<;>omega
def m_(its:Vv)(lo hi:Option Int):slicePick its.toArray lo hi none=((its.drop (HT.Gz its.length 0 lo)).take (HT.Gz its.length its.length hi - HT.Gz its.length 0 lo)).toArray:=by
 obtain⟨h1,h2,h3⟩:=oy lo hi its.toArray.size
 unfold slicePick
 rw[h1,h2,h3]
 simp only[sliceRange_one,pick_run,List.size_toArray]<;>rfl
noncomputable def EQ(K:Vo):V->Option Int->Option Int->Hp->VK->Prop:=fun x lo hi H Q=>∃a xs,x = .ref a/\SqL K H a xs/\∀p,H p=none->Q (.ref p) (upd H p (.lst (lX xs lo hi)))
def sZ:Ce X (EQ X.K):=by
 intro pins s σ H x v vl vu lo hi sl Q I rx hs pl pu h
 obtain⟨a,xs,rfl,hx,q⟩:=h
 cases rx
 obtain⟨its,r,ht,hz⟩:=I.list hx
 have hlen:=r.length
 refine⟨"list",_,slot_list_getitem.lookup,ht.isList.typeIs,?_⟩
 refine wpAny_getItem_list_slice ht.isList hs pl pu .none (by simp) ?_ (by rw[List.size_toArray]<;>omega)
 rw[m_,<-hlen]
 refine⟨.ref s.heap.objs.size,_,I.laid (t':=s.toks) (o:=.lst (lX xs lo hi)) (fun b ob q=>Heap.get?_push_of_some _ q) (Nat.le_refl _) ?_,rfl,q _ (I.hok.fresh (Nat.le_refl _))⟩
 exact⟨Nat.le_trans (k_ xs lo hi) hz,_,0,(r.drop (HT.Gz xs.length 0 lo)).take (HT.Gz xs.length xs.length hi - HT.Gz xs.length 0 lo),Heap.get?_push_size _ rfl⟩
def oz:jE X (compareOp .NotIn) (fun x y H Q=>∃i j,x = .str i/\y = .str j/\Q (.bl (!(!(Builtin.Str.occurrences j i 0 j.length 1).isEmpty))) H):=by
 intro pins s σ H x y v u Q I rx ry h
 obtain⟨i,j,rfl,rfl,q⟩:=h
 obtain⟨t,rfl⟩:=rx
 obtain⟨t',rfl⟩:=ry
 exact notIn_str ⟨.bl _,H,I,rfl,q⟩
def fS:gM X (.builtin "len") (fun xs H Q=>∃p ys,xs=[.ref p]/\(SqL X.K H p ys\/SqT X.K H p ys)/\Q (.int ys.length) H):=by
 intro pins s σ H xs us Q I r h
 obtain⟨p,ys,rfl,hq,q⟩:=h
 obtain⟨u,rfl,rx⟩:=fE r
 cases rx
 have hn:=kr
 rcases hq with hq|hq
 ·obtain⟨its,r',pl,hz⟩:=I.list hq
  have hlen:=r'.length
  exact Calls.call_len_list pl.isList (by simp only[List.size_toArray]<;>omega) ⟨.int ys.length,H,I.tok _,⟨s.toks+1,by rw[List.size_toArray,hlen]⟩,q⟩
 ·obtain⟨its,r',pl,hz⟩:=I.tuple hq
  have hlen:=r'.length
  exact len_tuple pl (by simp only[List.size_toArray]<;>omega) ⟨.int ys.length,H,I.tok _,⟨s.toks+1,by rw[List.size_toArray,hlen]⟩,q⟩
def oA:gM X (.builtin "len") (fun xs H Q=>∃z,xs=[.str z]/\z.length<=sizeLine/\Q (.int z.length) H):=by
 intro pins s σ H xs us Q I r h
 obtain⟨z,rfl,hz,q⟩:=h
 obtain⟨u,rfl,t,rfl⟩:=fE r
 have hn:=kr
 exact len_str (by omega) ⟨.int z.length,H,I.tok _,⟨_,rfl⟩,q⟩
def iU:gM X (.type "tuple") (fun xs H Q=>∃p ys,xs=[.ref p]/\((SqL X.K H p ys/\∀l,H l=none->Q (.ref l) (upd H l (.tup ys)))\/(SqT X.K H p ys/\Q (.ref p) H))):=by
 intro pins s σ H xs us Q I r h
 obtain⟨p,ys,rfl,h⟩:=h
 obtain⟨u,rfl,rx⟩:=fE r
 cases rx
 rcases h with⟨hq,q⟩|⟨hq,q⟩
 ·obtain⟨its,r',pl,hz⟩:=I.list hq
  have hlen:=r'.length
  refine call_tuple_list pl.isList (fun h' kp=>?_) (by simp only[List.size_toArray]<;>omega)
  have I1:Inv X pins σ H { s with heap:=h' }:=I.kept (t':=s.toks) kp
  have I2:Inv X pins σ (upd H h'.objs.size (.tup ys)) { s with heap:=h'.push { cls:=.type "tuple",data:=.seq its.toArray } }:=
   I1.laid (t':=s.toks) (fun b o e=>Heap.get?_push_of_some _ e) (Nat.le_refl _) (show ObjOk X.prog X.w _ _ _ (.tup ys)from ⟨hz,its,r',Gy.new _ _⟩)
  exact⟨.ref h'.objs.size,_,I2,rfl,q _ (I1.hok.fresh (Nat.le_refl _))⟩
 ·obtain⟨its,r',pl,hz⟩:=I.tuple hq
  exact call_tuple_same pl ⟨.ref p,H,I,rfl,q⟩
def Ee(K:Vo)(T:String)(x:V)(H:Hp):Prop:=match x with
 | .str _=>T = "str"
 | .int _=>T = "int"
 | .ref p=>(T = "list"/\∃xs,SqL K H p xs)\/(T = "tuple"/\∃o,K.lookup p=some o/\o.cls = .type "tuple"/\o.dict=none) \/
   (T = "dict"/\((∃kvs,H p=some (.dK kvs))\/∃kvs,H p=some (.dT kvs)))\/(T = "set"/\∃S n,H p=some (.set S n))
 |_=>False
def vA{pins:Va}{σ:St}{H:Hp}{s:Shared}{T:String}{x:V}{v:Value}(I:Inv X pins σ H s)(r:RelV x v)(ty:Ee X.K T x H) :
  s.TypeIs v T/\∀a,v = .ref a->∃ob,s.heap.get? a=some ob/\ob.dict=none:=by
 cases x with
 |str z=>
  obtain⟨t,rfl⟩:=r
  cases (show T = "str" from ty)
  exact⟨typeIs_str s z t,fun _ e=>nomatch e⟩
 |int i=>
  obtain⟨t,rfl⟩:=r
  cases (show T = "int" from ty)
  exact⟨typeIs_int s i t,fun _ e=>nomatch e⟩
 |ref p=>
  cases r
  rcases ty with⟨rfl,xs,hq⟩|⟨rfl,o,hk,hc,hd⟩|⟨rfl,hk⟩|⟨rfl,S,n,hk⟩
  ·obtain⟨its,_,pl,_⟩:=I.list hq
   refine⟨pl.isList.typeIs,fun a e=>?_⟩
   cases e
   obtain⟨o,n,e,c,hd,_⟩:=pl
   exact⟨o,e,hd⟩
  ·refine⟨⟨o,I.Ls p o hk,hc⟩,fun a e=>?_⟩
   cases e
   exact⟨o,I.Ls _ o hk,hd⟩
  ·have z:∃o,s.heap.get? p=some o/\o.ExactDict:=by
    rcases hk with⟨kvs,hk⟩|⟨kvs,hk⟩
    ·obtain⟨_,_,_,_,o,_,_,e,ex,_⟩:=I.hok p _ hk
     exact⟨o,e,ex⟩
    ·obtain⟨_,_,_,_,o,_,_,e,ex,_⟩:=I.hok p _ hk
     exact⟨o,e,ex⟩
   obtain⟨o,e,ex⟩:=z
   refine⟨⟨o,e,ex.1⟩,fun a e2=>?_⟩
   cases e2
   exact⟨o,e,ex.2.1⟩
  ·obtain⟨o,_,_,_,e,ex,_⟩:=I.hok p _ hk
   refine⟨⟨o,e,ex.1⟩,fun a e2=>?_⟩
   cases e2
   exact⟨o,e,ex.2.1⟩
 |_=>exact False.elim ty
def ER(K:Vo)(T:String)(r:V->List V->Hp->VK->Prop)(to:TE):TE:=fun σ H Q=>to σ H fun x H1=>Ee K T x H1/\r x [] H1 Q
def FI(K:Vo)(T:String)(r:V->List V->Hp->VK->Prop)(to:TE)(t:TA):TE:=fun σ H Q=>to σ H fun x H1=>Ee K T x H1/\t σ H1 fun xs H2=>r x xs H2 Q
variable {o e:Expr} {es:List Expr} {to:TE} {t:TA} {name:Str} {apos cpos:Pos} {T id:String} {r:V->List V->Hp->VK->Prop}
def Bf(pa:PlainAttrs T)(slot:Slot T name id)(hty:typeOf (.builtin id)=pure (.type "method_descriptor"))(hm:Bb X id r)(ho:PE X o to)
  (hbase:attributeBase o name X.env (eval o X.env)=eval o X.env:=by rfl) (hline:(apos.endLine == cpos.line)=true:=by rfl):PE X (.Call (.Attribute o name apos) [] [] cpos) (ER X.K T r to):=by
 intro pins s σ H Q I h
 refine wpAny_Call_method0_late hbase hline (F9 (ho pins s σ H _ I h) fun v s1 ⟨x,H1,I1,r1,ty,q1⟩=>?_)
 obtain⟨h1,h2⟩:=vA I1 r1 ty
 exact⟨T,id,pa,slot,hty,h1,h2,Calls.callWith_builtin rfl (PySem.evalArgs_none (hm pins s1 σ H1 x [] v [] Q I1 r1 .nil q1))⟩
def CV(pa:PlainAttrs T)(slot:Slot T name id)(hty:typeOf (.builtin id)=pure (.type "method_descriptor"))(hm:Bb X id r)(ho:PE X o to)(ha:PA X (e::es) t)
  (hbase:attributeBase o name X.env (eval o X.env)=eval o X.env:=by rfl)
  (hfew:((backTo cpos (starEach (e::es) X.env)).all (fun x=>!x.1)&&(backToKw cpos (keywordEach [] X.env)).all (fun x=>x.1.isSome)
   && decide ((e::es).length+([]:List Keyword).length+(if ([]:List Keyword).isEmpty then 0 else 1) < 30))=true:=by rfl)
  (hline:(apos.endLine == cpos.line)=true:=by rfl) (hs:starEach (e::es) X.env=(false,eval e X.env)::starEach es X.env:=by rfl) (hplain:(backTo cpos (starEach es X.env)).any (·.1)=false:=by rfl) :
  PE X (.Call (.Attribute o name apos) (e::es) [] cpos) (FI X.K T r to t):=by
 intro pins s σ H Q I h
 refine wpAny_Call_method_late hbase hfew hline rfl (F9 (ho pins s σ H _ I h) fun v s1 ⟨x,H1,I1,r1,ty,q1⟩=>?_)
 obtain⟨h1,h2⟩:=vA I1 r1 ty
 refine⟨T,id,pa,slot,hty,h1,h2,?_⟩
 have hA:=ha cpos pins s1 σ H1 _ I1 q1
 rw[hs]at hA ⊢
 refine Calls.callWith_builtin (by show(false || (backTo cpos (starEach es X.env)).any (·.1))=false;rw[hplain]<;>rfl) (Calls.evalArgs_plain ?_)
 exact F9 hA fun us s2 ⟨vs,H2,I2,r2,q2⟩=>hm pins s2 σ H2 x vs v us Q I2 r1 r2 q2
end
def CW(X:Cx)(id:String)(r:V->List V->Hp->VK->Prop):Prop:=
 ∀(pins:Va) (s:Shared) (σ:St) (H:Hp) (x:V) (xs:List V) (v:Value) (us:Vv) (Q:VK),Inv X pins σ H s->RelV x v->Vals xs us->r x xs H Q->
  wpAny (model X.prog X.w) X.A (call (.builtin id) (v::us)) (EP X pins σ Q) X.xe s
theorem Vals.one:∀{x:V} {us:Vv},Vals [x] us->∃u,us=[u]/\RelV x u
 |_,_,.cons r .nil=>⟨_,rfl,r⟩
theorem Vals.zero:∀{us:Vv},Vals [] us->us=[]
 |_,.nil=>rfl
theorem Vals.dropLast{xs:List V}{us:Vv}(h:Vals xs us):Vals xs.dropLast us.dropLast:=by
 induction h with
 |nil=>exact .nil
 |cons r t ih=>
  cases t with
  |nil=>exact .nil
  |cons q t'=>exact .cons r ih
theorem Vals.eraseIdx:∀{xs:List V} {us:Vv} (i:Nat),Vals xs us->Vals (xs.eraseIdx i) (us.eraseIdx i)
 |_,_,_,.nil=>.nil
 |_,_,0,.cons _ t=>t
 |_,_,i+1,.cons r t=>.cons r (Vals.eraseIdx i t)
theorem Vals.reverse{xs:List V}{us:Vv}(h:Vals xs us):Vals xs.reverse us.reverse:=by
 induction h with
 |nil=>exact .nil
 |cons r t ih=>rw[List.reverse_cons,List.reverse_cons];exact Vals.append ih (.cons r .nil)
theorem Vals.rep{xs:List V}{us:Vv}(h:Vals xs us):∀k:Nat,Vals (List.replicate k xs).flatten (List.replicate k us).flatten
 |0=>.nil
 |k+1=>by
  rw[List.replicate_succ,List.replicate_succ,List.flatten_cons,List.flatten_cons]
  exact Vals.append h (Vals.rep h k)
def rJ{α:Type}(l:List α):l.eraseIdx (l.length - 1)=l.dropLast:=by
 induction l with
 |nil=>rfl
 |cons a r ih=>
  cases r with
  |nil=>rfl
  |cons b r=>
   have e:(a::b::r).length - 1=((b::r).length - 1)+1:=by
    have h1:(a::b::r).length=r.length+2:=rfl
    have h2:(b::r).length=r.length+1:=rfl
    omega
   rw[e,List.eraseIdx_cons_succ,ih]
   all_goals rfl
theorem nM{α:Type}:∀(l:List α) (i:Nat),(l.eraseIdx i).length<=l.length
 |[],_=>Nat.le_refl _
 |_::_,0=>Nat.le_succ _
 |_::r,i+1=>Nat.succ_le_succ (nM r i)
theorem kw(its:Vv):∀(k:Nat) (acc:Vv),
  List.foldl (fun x1 x2=>x1++x2) acc.toArray (List.replicate k its.toArray)=(acc++(List.replicate k its).flatten).toArray
 |0,acc=>by simp
 |k+1,acc=>by
  have e:acc.toArray++its.toArray=(acc++its).toArray:=by simp
  have e2:(acc++its)++(List.replicate k its).flatten=acc++(List.replicate (k+1) its).flatten:=by
   rw[List.replicate_succ,List.flatten_cons,List.append_assoc]
  rw[<-e2,<-kw its k (acc++its),<-e,List.replicate_succ,List.foldl_cons]
section
variable {X:Cx} {pins:Va} {σ:St} {H:Hp} {s:Shared} {l b:Addr} {xs ys zs:List V}
def Inv.Lu{its its':Vv}{n:Nat}{f:Array Value->Array Value}{t':Nat}(I:Inv X pins σ H s)(hH:H l=some (.lst xs))
  (e:s.heap.get? l=some { cls:=.type "list",data:=.seq its.toArray n }) (hf:f its.toArray=its'.toArray) (hv:Vals ys its') (hz:ys.length<=sizeLine) :
  Inv X pins σ (upd H l (.lst ys)) { s with heap:=s.heap.update l (Obj.mapSeq f),toks:=t' }:=by
 have q:=PySem.IsL.update e f
 rw[hf]at q
 refine I.write (x:=l) (e:=l) (by rw[hH];exact trivial) (.inl rfl) (fun b' u hb hu=>(Heap.get?_update_other s.heap (Obj.mapSeq f) (Ne.symm hb)).trans hu) ⟨_,q⟩ ?_
 exact⟨hz,its',_,hv,q⟩
def Inv.Nd{its:Vv}{t':Nat}(I:Inv X pins σ H s)(hv:Vals ys its)(hz:ys.length<=sizeLine) :
  Inv X pins σ (upd H s.heap.objs.size (.lst ys)) { s with heap:=s.heap.push { cls:=.type "list",data:=.seq its.toArray },toks:=t' }:=
 I.laid (fun _ _ q=>Heap.get?_push_of_some _ q) (Nat.le_refl _) ⟨hz,its,0,hv,Heap.get?_push_size _ rfl⟩
theorem Inv.fresh(I:Inv X pins σ H s):H s.heap.objs.size=none:=I.hok.fresh (Nat.le_refl _)
def Inv.J7(I:Inv X pins σ H s)(hH:H l=some (.lst xs)):xs.length<=sizeLine/\∃(its:Vv) (n:Nat),Vals xs its/\xs.length=its.length/\s.heap.get? l=some { cls:=.type "list",data:=.seq its.toArray n }:=by
 obtain⟨z,its,n,r,e⟩:=I.hok l _ hH
 exact⟨z,its,n,r,r.length,e⟩
def p8{n:Nat}(h:n<=sizeLine):Builtin.List.listTooLong n=false:=by
 unfold Builtin.List.listTooLong
 exact decide_eq_false (by omega)
end
section
variable {X:Cx}
noncomputable def yu:V->List V->Hp->VK->Prop:=fun x vs H Q=>∃l xs y,x = .ref l/\vs=[y]/\H l=some (.lst xs)/\xs.length < sizeLine/\Q .non (upd H l (.lst (xs++[y])))
def ud:CW X "list.append" yu:=by
 intro pins s σ H x vs v us Q I rx rv h
 obtain⟨l,xs,y,rfl,rfl,hH,hz,q⟩:=h
 cases rx
 obtain⟨u,rfl,ru⟩:=rv.one
 obtain⟨z,its,n,r,hl,e⟩:=I.J7 hH
 refine call_meets F.slot_list_append ⟨_,e,rfl⟩ F.entry_list_append (F.args_list_append_2 _ _) (PySem.list_append l its.toArray n u (by rw[List.size_toArray];omega)) ⟨e,?_⟩
 refine⟨.non,_,I.Lu (its':=its++[u]) hH e (by simp) (r.append (.cons ru .nil)) ?_,rfl,q⟩
 rw[List.length_append,List.length_singleton]
 omega
noncomputable def yv:V->List V->Hp->VK->Prop:=fun x vs H Q=>∃l b xs zs,x = .ref l/\vs=[.ref b]/\H l=some (.lst xs)/\H b=some (.lst zs)/\xs.length+zs.length<=sizeLine/\Q .non (upd H l (.lst (xs++zs)))
def ue:CW X "list.extend" yv:=by
 intro pins s σ H x vs v us Q I rx rv h
 obtain⟨l,b,xs,zs,rfl,rfl,hH,hB,hz,q⟩:=h
 cases rx
 obtain⟨u,rfl,ru⟩:=rv.one
 cases ru
 obtain⟨z,its,n,r,hl,e⟩:=I.J7 hH
 obtain⟨z2,its2,n2,r2,hl2,e2⟩:=I.J7 hB
 have hsz:its.toArray.size+its2.toArray.size<=sizeLine:=by rw[List.size_toArray,List.size_toArray];omega
 have Lv:¬(!its.toArray.isEmpty&&Builtin.List.listTooLong (its.toArray.size+its2.toArray.size))=true:=by
  rw[p8 hsz,Bool.and_false]
  exact Bool.false_ne_true
 refine call_meets F.slot_list_extend ⟨_,e,rfl⟩ F.entry_list_extend (F.args_list_extend_2 _ _)
  (AutoSeq1.list_extend_list_list_0 l its.toArray n b its2.toArray n2 Lv (by rw[List.size_toArray];omega) (by omega)) ⟨e,e2,?_⟩
 refine⟨.non,_,I.Lu (its':=its++its2) hH e (by simp) (r.append r2) ?_,rfl,q⟩
 rw[List.length_append]
 omega
noncomputable def ES:V->List V->Hp->VK->Prop:=fun x vs H Q=>∃l xs y,x = .ref l/\vs=[]/\H l=some (.lst xs)/\xs[xs.length - 1]?=some y/\Q y (upd H l (.lst xs.dropLast))
def Bg:CW X "list.pop" ES:=by
 intro pins s σ H x vs v us Q I rx rv h
 obtain⟨l,xs,y,rfl,rfl,hH,hy,q⟩:=h
 cases rx
 have Qe:=rv.zero
 subst Qe
 obtain⟨z,its,n,r,hl,e⟩:=I.J7 hH
 obtain⟨u,hu,ru⟩:=r.get hy
 have hy':its.toArray[its.toArray.size - 1]?=some u:=by
  show its.toArray[its.length - 1]?=some u
  rw[<-Array.getElem?_toList,<-hl]
  exact hu
 refine call_meets F.slot_list_pop ⟨_,e,rfl⟩ F.entry_list_pop (F.args_list_pop_1 _) (MeetsSeq.list_pop_last l its.toArray n u hy' (by rw[List.size_toArray];omega)) ⟨e,?_⟩
 refine⟨y,_,I.Lu (its':=its.dropLast) hH e ?_ r.dropLast ?_,ru,q⟩
 ·show its.toArray.eraseIdxIfInBounds (its.toArray.size - 1)=its.dropLast.toArray
  rw[List.size_toArray,List.eraseIdxIfInBounds_toArray,rJ]
 ·rw[List.length_dropLast]
  omega
noncomputable def Bh:V->List V->Hp->VK->Prop:=fun x vs H Q=>∃l xs i k y,x = .ref l/\vs=[.int i]/\H l=some (.lst xs)/\-(2 ^ 63)<=i/\i < 2 ^ 63/\seqIndex? i xs.length=some k/\xs[k]?=some y/\Q y (upd H l (.lst (xs.eraseIdx k)))
def vB:CW X "list.pop" Bh:=by
 intro pins s σ H x vs v us Q I rx rv h
 obtain⟨l,xs,i,k,y,rfl,rfl,hH,h1,h2,hk,hy,q⟩:=h
 cases rx
 obtain⟨u,rfl,ru⟩:=rv.one
 obtain⟨t,rfl⟩:=ru
 obtain⟨z,its,n,r,hl,e⟩:=I.J7 hH
 obtain⟨w,hw,rw'⟩:=r.get hy
 refine call_meets F.slot_list_pop ⟨_,e,rfl⟩ F.entry_list_pop (F.args_list_pop_2 _ _)
  (MeetsSeq.list_pop_at l its.toArray n i t k w (fitsIndex_both h1 h2) (by rw[List.size_toArray,<-hl];exact hk) (by rw[<-Array.getElem?_toList];exact hw) (by rw[List.size_toArray];omega)) ⟨e,?_⟩
 refine⟨y,_,I.Lu (its':=its.eraseIdx k) hH e ?_ (r.eraseIdx k) ?_,rw',q⟩
 ·show its.toArray.eraseIdxIfInBounds k=(its.eraseIdx k).toArray
  rw[List.eraseIdxIfInBounds_toArray]
 ·have:=nM xs k
  omega
def EU:R2:=fun x y H Q=>∃l b xs zs,x = .ref l/\y = .ref b/\H l=some (.lst xs)/\H b=some (.lst zs)/\xs.length+zs.length<=sizeLine/\∀p,H p=none->Q (.ref p) (upd H p (.lst (xs++zs)))
def Bi:jE X (binaryOp .Add) EU:=by
 intro pins s σ H x y v u Q I rx ry h
 obtain⟨l,b,xs,zs,rfl,rfl,hH,hB,hz,q⟩:=h
 cases rx
 cases ry
 obtain⟨z,its,n,r,hl,e⟩:=I.J7 hH
 obtain⟨z2,its2,n2,r2,hl2,e2⟩:=I.J7 hB
 refine PySem.P.add_list e e2 ?_ (by rw[List.size_toArray,List.size_toArray];omega)
 have ea:its.toArray++its2.toArray=(its++its2).toArray:=by simp
 rw[ea]
 exact⟨.ref _,_,I.Nd (t':=s.toks) (r.append r2) (by rw[List.length_append];omega),rfl,q _ I.fresh⟩
def EV:R2:=fun x y H Q=>∃l k xs,x = .ref l/\y = .int k/\H l=some (.lst xs)/\-(2 ^ 63)<=k/\k < 2 ^ 63/\xs.length * k.toNat<=sizeLine/\
 ∀p,H p=none->Q (.ref p) (upd H p (.lst (List.replicate k.toNat xs).flatten))
def yw{α:Type}(xs:List α)(k:Nat):(List.replicate k xs).flatten.length=k * xs.length:=by
 induction k with
 |zero=>simp
 |succ k ih=>rw[List.replicate_succ,List.flatten_cons,List.length_append,ih,Nat.succ_mul,Nat.add_comm]
def Bj:jE X (binaryOp .Mult) EV:=by
 intro pins s σ H x y v u Q I rx ry h
 obtain⟨l,k,xs,rfl,rfl,hH,h1,h2,hz,q⟩:=h
 cases rx
 obtain⟨t,rfl⟩:=ry
 obtain⟨z,its,n,r,hl,e⟩:=I.J7 hH
 have hlen:its.toArray.size * k.toNat<=sizeLine:=by rw[List.size_toArray,<-hl];exact hz
 have hcap:¬its.toArray.size * k.toNat > (2 ^ 63 - 1) / 8:=by
  have:(sizeLine:Nat)<=(2 ^ 63 - 1) / 8:=by decide
  omega
 have hfit:¬(!Builtin.List.listFitsIndex k)=true:=by
  rw[fitsIndex_both h1 h2]
  exact Bool.false_ne_true
 have Lv:¬Builtin.List.listTooLong (its.toArray.size * k.toNat)=true:=by
  rw[p8 hlen]
  exact Bool.false_ne_true
 have hnew:List.foldl (fun x1 x2=>x1++x2) #[] (List.replicate (if its.toArray.isEmpty=true then 0 else k.toNat) its.toArray)=(List.replicate k.toNat its).flatten.toArray:=by
  have f0:∀m:Nat,List.foldl (fun x1 x2=>x1++x2) #[] (List.replicate m its.toArray)=(List.replicate m its).flatten.toArray:=fun m=>by
   have:=kw its m []
   rw[List.nil_append]at this
   exact this
  rw[f0]
  cases its with
  |nil=>simp
  |cons a r'=>rw[if_neg (by simp)]
 refine wpAny_binaryOp_repeat_ref (T:="list") (U:="int") (by decide) ⟨_,e,rfl⟩ (fun s'=>typeIs_int s' k t) noFill_list_mul F.fills_int_mul F.slot_int_rmul repeat_list F.slot_int_index.lookup
  (call_meets F.slot_int_rmul (typeIs_int s k t) F.entry_int_rmul (F.args_int_rmul_2 _ _) (int___rmul___int_list k t l its.toArray n)
   ⟨e,rfl,⟨_,e,rfl⟩,call_meets F.slot_list_mul ⟨_,e,rfl⟩ F.entry_list_mul (F.args_list_mul_2 _ _) (AutoListH.list___mul___list_int_3 l its.toArray n k t hfit hcap Lv) ⟨e,?_⟩⟩)
 rw[hnew]
 exact⟨.ref _,_,I.Nd (t':=s.toks) (r.rep k.toNat) (by rw[yw,Nat.mul_comm];exact hz),rfl,q _ I.fresh⟩
end
section
variable {prog:Program} {w:World} {A:Around} {E:Vq} {s:Shared}
end
section
variable {X:Cx}
end
section
variable {κ:Type} [DecidableEq κ]
noncomputable def iQ(kvs:List (κ×V))(k:κ):Option V:=(kvs.find? fun kv=>decide (kv.1=k)).map (·.2)
noncomputable def gT(kvs:List (κ×V))(k:κ)(v:V):List (κ×V):=
 if (kvs.any fun kv=>decide (kv.1=k))=true then kvs.map (fun kv=>if kv.1=k then (kv.1,v) else kv) else kvs++[(k,v)]
def HU{p:κ×V}{r:List (κ×V)}{k:κ}(e:p.1=k):iQ (p::r) k=some p.2:=by simp[iQ,List.find?_cons,e]
def He{p:κ×V}{r:List (κ×V)}{k:κ}(e:¬p.1=k):iQ (p::r) k=iQ r k:=by simp[iQ,List.find?_cons,e]
theorem lY(k:κ):∀kvs:List (κ×V),(kvs.any fun kv=>decide (kv.1=k))=(iQ kvs k).isSome
 |[]=>rfl
 |p::r=>by
  rw[List.any_cons]
  by_cases e:p.1=k
  ·simp only[HU e,decide_eq_true e,Bool.true_or,Option.isSome_some]
  ·rw[He e,decide_eq_false e,Bool.false_or];exact lY k r
def gU(kvs:List (κ×V))(k:κ)(v:V):(gT kvs k v).length<=kvs.length+1:=by
 unfold gT
 split
 ·rw[List.length_map];omega
 ·rw[List.length_append,List.length_cons,List.length_nil];omega
def RelO.HV{o:Option V}{u:Option Value}(r:RelO o u):o.isSome=u.isSome:=by
 cases o with
 |none=>cases u with
  |none=>rfl
  |some _=>exact(show False from r).elim
 |some _=>cases u with
  |none=>exact(show False from r).elim
  |some _=>rfl
theorem RelO.getD{o:Option V}{u:Option Value}{d:V}{d':Value}(r:RelO o u)(rd:RelV d d'):RelV (o.getD d) (u.getD d'):=by
 cases o with
 |none=>cases u with
  |none=>exact rd
  |some _=>exact(show False from r).elim
 |some _=>cases u with
  |none=>exact(show False from r).elim
  |some _=>exact r
def KV.val{kvs:List (κ×V)}{vs:List (κ×Value)}(r:KV kvs vs)(k:κ):RelO (iQ kvs k) (valueAt vs k):=by
 unfold KV at r
 induction r with
 |nil=>exact True.intro
 |@cons p q ps qs h t ih=>
  obtain⟨h1,h2⟩:=h
  by_cases e:p.1=k
  ·have e':q.1=k:=h1.symm.trans e
   have b:valueAt (q::qs) k=some q.2:=by simp[valueAt,List.find?_cons,e']
   rw[HU e,b];exact h2
  ·have e':¬q.1=k:=fun z=>e (h1.trans z)
   have b:valueAt (q::qs) k=valueAt qs k:=by simp[valueAt,List.find?_cons,e']
   rw[He e,b];exact ih
theorem KV.any{kvs:List (κ×V)}{vs:List (κ×Value)}(r:KV kvs vs)(k:κ):(kvs.any fun kv=>decide (kv.1=k))=vs.any fun kv=>decide (kv.1=k):=by
 unfold KV at r
 induction r with
 |nil=>rfl
 |cons h t ih=>rw[List.any_cons,List.any_cons,ih,h.1]
def KV.repl{kvs:List (κ×V)}{vs:List (κ×Value)}(r:KV kvs vs)(k:κ){y:V}{u:Value}(ry:RelV y u) :
  KV (kvs.map fun kv=>if kv.1=k then (kv.1,y) else kv) (vs.map fun kv=>if kv.1=k then (kv.1,u) else kv):=by
 unfold KV at r ⊢
 induction r with
 |nil=>exact .nil
 |@cons p q ps qs h t ih=>
  rw[List.map_cons,List.map_cons]
  refine .cons ?_ ih
  obtain⟨h1,h2⟩:=h
  by_cases e:p.1=k
  ·rw[if_pos e,if_pos (h1.symm.trans e)];exact⟨h1,ry⟩
  ·rw[if_neg e,if_neg (fun z=>e (h1.trans z))];exact⟨h1,h2⟩
def KV.put{kvs:List (κ×V)}{vs:List (κ×Value)}(r:KV kvs vs)(k:κ){y:V}{u:Value}(ry:RelV y u):KV (gT kvs k y) (stored vs k u):=by
 unfold gT stored
 rw[r.any k]
 by_cases e:(vs.any fun kv=>decide (kv.1=k))=true
 ·rw[if_pos e,if_pos e];exact r.repl k ry
 ·rw[if_neg e,if_neg e];exact Paired.snoc r ⟨rfl,ry⟩
theorem KV.length{kvs:List (κ×V)}{vs:List (κ×Value)}(r:KV kvs vs):kvs.length=vs.length:=Paired.length r
end
def ld{P:Program}{w:World}{k:bI}{u:Value}(r:RelV (kV k) u):(bf P w).is k u=true:=by
 cases k with
 |inl i=>obtain⟨t,e⟩:=(show ∃t,u=Value.int i t from r);subst e;exact pW P w i t
 |inr x=>obtain⟨t,e⟩:=(show ∃t,u=Value.str x t from r);subst e;exact pX P w x t
theorem nN{P:Program}{w:World}:∀{ks:List bI} {us:Vv},Vals (ks.map kV) us->ItemsAre (bf P w) ks us
 |[],_,r=>by rw[List.map_nil]at r;cases r;exact .nil
 |k::ks,_,r=>by
  rw[List.map_cons]at r
  cases r with
  |cons h t=>exact .cons (ld h) (nN t)
noncomputable abbrev KT(H:Hp):List (List bI×V)->List (List bI×Addr×Value)->Prop:=Paired fun p q=>p.1=q.1/\H q.2.1=some (.tup (p.1.map kV))/\RelV p.2 q.2.2
def KT.val{H:Hp}{kvs:List (List bI×V)}{xs:List (List bI×Addr×Value)}(r:KT H kvs xs)(k:List bI):RelO (iQ kvs k) ((atKey xs k).map (·.2)):=by
 induction r with
 |nil=>exact True.intro
 |@cons p q ps qs h t ih=>
  obtain⟨h1,_,h2⟩:=h
  by_cases e:p.1=k
  ·have e':q.1=k:=h1.symm.trans e
   have b:atKey (q::qs) k=some q.2:=by simp[atKey,List.find?_cons,e']
   rw[HU e,b];exact h2
  ·have e':¬q.1=k:=fun z=>e (h1.trans z)
   have b:atKey (q::qs) k=atKey qs k:=by simp[atKey,List.find?_cons,e']
   rw[He e,b];exact ih
def KT.repl{H:Hp}{kvs:List (List bI×V)}{xs:List (List bI×Addr×Value)}(r:KT H kvs xs)(k:List bI){y:V}{u:Value}(ry:RelV y u) :
  KT H (kvs.map fun kv=>if kv.1=k then (kv.1,y) else kv) (xs.map (putAt k u)):=by
 induction r with
 |nil=>exact .nil
 |@cons p q ps qs h t ih=>
  rw[List.map_cons,List.map_cons]
  refine .cons ?_ ih
  obtain⟨h1,h2,h3⟩:=h
  unfold putAt
  by_cases e:p.1=k
  ·rw[if_pos e,if_pos (h1.symm.trans e)];exact⟨h1,h2,ry⟩
  ·rw[if_neg e,if_neg (fun z=>e (h1.trans z))];exact⟨h1,h2,h3⟩
def KT.put{H:Hp}{kvs:List (List bI×V)}{xs:List (List bI×Addr×Value)}(r:KT H kvs xs)(k:List bI){b:Addr}{y:V}{u:Value}(hb:H b=some (.tup (k.map kV)))(ry:RelV y u) :
  KT H (gT kvs k y) (storedH xs k b u):=by
 have e:(kvs.any fun kv=>decide (kv.1=k))=(atKey xs k).isSome:=by
  rw[lY,(r.val k).HV,Option.isSome_map]
 unfold gT storedH
 rw[e]
 by_cases q:(atKey xs k).isSome=true
 ·rw[if_pos q,if_pos q];exact r.repl k ry
 ·rw[if_neg q,if_neg q];exact Paired.snoc r ⟨rfl,hb,ry⟩
def KT.keeps{H H':Hp}{kvs:List (List bI×V)}{xs:List (List bI×Addr×Value)}(r:KT H kvs xs)(ht:∀b ys,H b=some (.tup ys)->H' b=some (.tup ys)):KT H' kvs xs:=
 Paired.Mq r fun _ _ z=>⟨z.1,ht _ _ z.2.1,z.2.2⟩
section
variable {P:Program} {w:World} {H:Hp} {h:Heap} {a:Addr}
def zS{u:HO}(ok:IB P w H h)(e:Rd H a u):ObjOk P w H h a u:=e.ok ok
def lg{kvs:List (bI×V)}(ok:IB P w H h)(e:Rd H a (.dK kvs)):kvs.length<=sizeLine/\(a == sysModules)=false/\∃vs,KV kvs vs/\h.DictOf (bf P w) a vs:=
 show ObjOk P w H h a (.dK kvs)from zS ok e
def zT{kvs:List (bI×V)}(ok:IB P w H h)(e:H a=some (.dK kvs)):kvs.length<=sizeLine/\(a == sysModules)=false/\∃vs,KV kvs vs/\h.DictOf (bf P w) a vs:=lg ok (.inl e)
def dY{ks:List bI}(ok:IB P w H h)(e:H a=some (.tup (ks.map kV))):(tupleKind (bf P w)).is h ks a:=by
 obtain⟨_,its,r,o,h1,_,h2,n,h3⟩:=(show ObjOk P w H h a (.tup (ks.map kV))from ok a _ e)
 exact⟨o,its.toArray,n,h1,h2,h3,by simpa using nN r⟩
def lZ{kvs:List (List bI×V)}(ok:IB P w H h)(e:Rd H a (.dT kvs)):kvs.length<=sizeLine/\(a == sysModules)=false/\
  ∃xs,KT H kvs xs/\h.DictOfH (tupleKind (bf P w)) a xs:=by
 obtain⟨z,y,xs,r,o,es,ep,h1,h2,h3,h4,h5⟩:=(show ObjOk P w H h a (.dT kvs)from zS ok e)
 refine⟨z,y,xs,r,o,es,ep,h1,h2,h3,h4,fun x hx=>?_,h5⟩
 have all:∀{l:List (List bI×V)} {m:List (List bI×Addr×Value)},KT H l m->∀x∈m,(tupleKind (bf P w)).is h x.1 x.2.1:=by
  intro l m q
  induction q with
  |nil=>intro x hx;exact nomatch hx
  |@cons p q ps qs hq t ih=>
   intro x hx
   rcases List.mem_cons.mp hx with e|hx
   ·subst e
    exact dY ok (by rw[<-hq.1];exact hq.2.1)
   ·exact ih x hx
 exact all r x hx
def CZ{kvs:List (List bI×V)}(ok:IB P w H h)(e:H a=some (.dT kvs)):kvs.length<=sizeLine/\(a == sysModules)=false/\
  ∃xs,KT H kvs xs/\h.DictOfH (tupleKind (bf P w)) a xs:=lZ ok (.inl e)
end
def DGet(H:Hp)(a:Addr)(y:V)(r:Option V):Prop:=
 (∃kvs k,Rd H a (.dK kvs)/\y=kV k/\r=iQ kvs k)\/∃kvs k b,Rd H a (.dT kvs)/\y = .ref b/\H b=some (.tup (k.map kV))/\r=iQ kvs k
def Lw(H:Hp)(a:Addr)(y v:V)(H':Hp):Prop:=
 (∃kvs k,H a=some (.dK kvs)/\y=kV k/\kvs.length < sizeLine/\H'=upd H a (.dK (gT kvs k v))) \/
 ∃kvs k b,H a=some (.dT kvs)/\y = .ref b/\H b=some (.tup (k.map kV))/\kvs.length < sizeLine/\H'=upd H a (.dT (gT kvs k v))
theorem DGet.k{H:Hp}{a:Addr}{kvs:List (bI×V)}{k:bI}(e:H a=some (.dK kvs)):DGet H a (kV k) (iQ kvs k):=.inl ⟨kvs,k,.inl e,rfl,rfl⟩
theorem Lw.k{H:Hp}{a:Addr}{kvs:List (bI×V)}{k:bI}{v:V}(e:H a=some (.dK kvs))(hl:kvs.length < sizeLine):Lw H a (kV k) v (upd H a (.dK (gT kvs k v))):=.inl ⟨kvs,k,e,rfl,hl,rfl⟩
section
variable {X:Cx} {pins:Va} {σ:St} {H:Hp} {s:Shared} {a:Addr} {y v:V} {u r:Value} {o:Option V} {A:Around} {E:Vq}
def Inv.big(I:Inv X pins σ H s):sysModules < s.heap.objs.size:=by
 have h:mainGlobals < s.heap.objs.size:=(I.mod.glob.keeps I.bk).lt
 exact Nat.lt_trans (by decide) h
def uf{Q:Vq}(hu:A.units+1 < cLine)(I:Inv X pins σ H s)(g:DGet H a y (some v))(ry:RelV y u)(h:∀w' s',Inv X pins σ H s'->RelV v w'->Q w' s') :
  wpAny (model X.prog X.w) A (getItem (.ref a) u) Q E s:=by
 rcases g with⟨kvs,k,e,ey,l⟩|⟨kvs,k,b,e,ey,eb,l⟩
 ·subst ey
  obtain⟨z,hd,vs,rel,dd⟩:=lg I.hok e
  obtain⟨w',hw,rw'⟩:=RelO.some_of (v:=v) (o:=valueAt vs k) (by rw[l];exact rel.val k)
  exact wpAny_getItem_of (ld ry) dd.mapOf hw (h w' _ (I.tok _) rw')
 ·subst ey
  cases (show u=Value.ref b from ry)
  obtain⟨z,hd,xs,rel,dd⟩:=lZ I.hok e
  obtain⟨w',hw,rw'⟩:=RelO.some_of (v:=v) (o:=(atKey xs k).map (·.2)) (by rw[l];exact rel.val k)
  obtain⟨p,hp,hp2⟩:=Option.map_eq_some_iff.mp hw
  refine wpAny_getItem_heap (tupleKind_room_in1 hu) (dY I.hok eb) dd hp ?_
  rw[hp2]
  exact h w' _ (I.tok _) rw'
def C0{Q:Vq}(hu:A.units+1 < cLine)(I:Inv X pins σ H s)(g:DGet H a y o)(ry:RelV y u)(h:∀s',Inv X pins σ H s'->Q (.bool o.isSome) s') :
  wpAny (model X.prog X.w) A (compareOp .In u (.ref a)) Q E s:=by
 rcases g with⟨kvs,k,e,ey,l⟩|⟨kvs,k,b,e,ey,eb,l⟩
 ·subst ey
  obtain⟨z,hd,vs,rel,dd⟩:=lg I.hok e
  refine wpAny_in_of (ld ry) hd dd.mapOf ?_
  rw[<-(rel.val k).HV,<-l]
  exact h _ (I.tok _)
 ·subst ey
  cases (show u=Value.ref b from ry)
  obtain⟨z,hd,xs,rel,dd⟩:=lZ I.hok e
  refine wpAny_in_heap (tupleKind_room_in1 hu) (dY I.hok eb) hd dd ?_
  have q:=(rel.val k).HV
  rw[Option.isSome_map]at q
  rw[<-q,<-l]
  exact h _ (I.tok _)
def s9{Q:Vq}(hu:A.units+1 < cLine)(I:Inv X pins σ H s)(g:DGet H a y o)(ry:RelV y u)(h:∀s',Inv X pins σ H s'->Q (.bool (!o.isSome)) s') :
  wpAny (model X.prog X.w) A (compareOp .NotIn u (.ref a)) Q E s:=by
 rcases g with⟨kvs,k,e,ey,l⟩|⟨kvs,k,b,e,ey,eb,l⟩
 ·subst ey
  obtain⟨z,hd,vs,rel,dd⟩:=lg I.hok e
  refine wpAny_notIn_of (ld ry) hd dd.mapOf ?_
  rw[<-(rel.val k).HV,<-l]
  exact h _ (I.tok _)
 ·subst ey
  cases (show u=Value.ref b from ry)
  obtain⟨z,hd,xs,rel,dd⟩:=lZ I.hok e
  refine wpAny_notIn_heap (tupleKind_room_in1 hu) (dY I.hok eb) hd dd ?_
  have q:=(rel.val k).HV
  rw[Option.isSome_map]at q
  rw[<-q,<-l]
  exact h _ (I.tok _)
def oB{h':Heap}{t':Nat}{ob:HO}(I:Inv X pins σ H s)(mu:Cn (H a))(hs:Heap.SameBut a s.heap h')(he:∃q,h'.get? a=some q)(new:ObjOk X.prog X.w (upd H a ob) h' a ob) :
  Inv X pins σ (upd H a ob) { s with heap:=h',toks:=t' }:=
 I.write (x:=a) (e:=a) mu (.inl rfl) (fun b q hb z=>(hs.2 b hb).trans z) he new
def vC{P:Program}{w:World}{H':Hp}{h':Heap}{kvs:List (bI×V)}{vs:List (bI×Value)}(z:kvs.length<=sizeLine)(hd:(a == sysModules)=false)(rel:KV kvs vs)(dd:h'.DictOf (bf P w) a vs) :
  ObjOk P w H' h' a (.dK kvs):=⟨z,hd,vs,rel,dd⟩
def ug{H':Hp}{Q:Unit->Shared->Prop}(hu:A.units+1 < cLine)(I:Inv X pins σ H s)(g:Lw H a y v H')(ry:RelV y u)(rv:RelV v r)(h:∀s',Inv X pins σ H' s'->Q () s') :
  wpAny (model X.prog X.w) A (setItem (.ref a) u r) Q E s:=by
 rcases g with⟨kvs,k,e,ey,l,eH⟩|⟨kvs,k,b,e,ey,eb,l,eH⟩
 ·subst ey eH
  obtain⟨z,hd,vs,rel,dd⟩:=zT I.hok e
  have hz:vs.length<=sizeLine:=by rw[<-rel.length];exact z
  have hl:(gT kvs k v).length<=sizeLine:=by have:=gU kvs k v;omega
  refine wpAny_setItem_pairs (hsz:=hz) (ld ry) dd fun h' Mz hs=>h _ ?_
  have he:∃q,h'.get? a=some q:=let ⟨q,_,_,hq,_⟩:=Mz;⟨q,hq⟩
  exact oB I (by rw[e];exact True.intro) hs he (vC hl hd (rel.put k rv) Mz)
 ·subst ey eH
  cases (show u=Value.ref b from ry)
  obtain⟨z,hd,xs,rel,dd⟩:=CZ I.hok e
  have hz:xs.length<=sizeLine:=by rw[<-Paired.length rel];exact z
  have hl:(gT kvs k v).length<=sizeLine:=by have:=gU kvs k v;omega
  refine wpAny_setItem_heap (hsz:=hz) (tupleKind_room_in1 hu) (dY I.hok eb) dd fun h' Mz hs=>h _ ?_
  obtain⟨q,es,ep,hq,h2,h3,h4,_,h5⟩:=Mz
  refine oB I (by rw[e];exact True.intro) hs ⟨q,hq⟩ ⟨hl,hd,_,(rel.put k eb rv).keeps fun c ys ec=>?_,q,es,ep,hq,h2,h3,h4,h5⟩
  rw[aI (Cm ec e (fun z=>nomatch z))]
  exact ec
end
section
variable {X:Cx} {pins:Va} {σ:St} {H:Hp} {s:Shared} {a:Addr} {kvs:List (bI×V)} {k:bI} {u:Value} {A:Around} {E:Vq}
def C1{Q:Vq}(I:Inv X pins σ H s)(e:Rd H a (.dK kvs))(h:∀t s',Inv X pins σ H s'->Q (.int kvs.length t) s'):wpAny (model X.prog X.w) A (call (.builtin "len") [.ref a]) Q E s:=by
 obtain⟨z,hd,vs,rel,dd⟩:=lg I.hok e
 refine call_len_dict hd dd (by rw[<-rel.length];rw[sizeLine_eq]at z;omega) ?_
 rw[<-rel.length]
 exact h _ _ (I.tok _)
end
def p_{X:Cx}{pins:Va}{σ:St}{H:Hp}{s:Shared}{a:Addr}{y:V}{o:Option V}(I:Inv X pins σ H s)(g:DGet H a y o):s.TypeIs (.ref a) "dict":=by
 rcases g with⟨kvs,k,e,_,_⟩|⟨kvs,k,b,e,_,_,_⟩
 ·obtain⟨_,_,vs,_,dd⟩:=lg I.hok e
  exact dd.typeIs
 ·obtain⟨_,_,xs,_,dd⟩:=lZ I.hok e
  exact dd.typeIs
section
variable {X:Cx} {o i e value:Expr} {pos pos' tpos:Pos} {td ty tv:TE}
end
def vD{P:Program}{w:World}{H:Hp}(h:Heap)(hb:sysModules < h.objs.size):ObjOk P w H (h.push { cls:=.type "dict",data:=.dict #[] }) h.objs.size (.dK []):=
 ⟨Nat.zero_le _,beq_eq_false_iff_ne.mpr (Ne.symm (Nat.ne_of_lt hb)),[],.nil,Heap.DictOf.new h⟩
section
variable {X:Cx} {pos:Pos}
end
noncomputable def oC:List (TE×TE)->St->Hp->(List (V×V)->Hp->Prop)->Prop
 |[],_,H,Q=>Q [] H
 |(tk,tv)::r,σ,H,Q=>tk σ H fun x H1=>tv σ H1 fun y H2=>oC r σ H2 fun ps H3=>Q ((x,y)::ps) H3
noncomputable abbrev VV:List (V×V)->List (Value×Value)->Prop:=Paired fun p q=>RelV p.1 q.1/\RelV p.2 q.2
def C2(X:Cx)(pos:Pos)(keys:List (Option Expr))(values:List Expr)(JF:List (TE×TE)):Prop:=
 ∀(pins:Va) (s:Shared) (σ:St) (H:Hp) (Q:List (V×V)->Hp->Prop),Inv X pins σ H s->oC JF σ H Q->
  wpAny (model X.prog X.w) X.A (evalPairs (pairTrees keys values X.env pos)) (fun vs s'=>∃ps H',Inv X pins σ H' s'/\VV ps vs/\Q ps H') X.xe s
def yx{X:Cx}{pos:Pos}:C2 X pos [] [] []:=fun pins s σ H Q I h=>pairTrees_nil_walk ⟨[],H,I,.nil,h⟩
def vE{X:Cx}{pos:Pos}{k v:Expr}{ks:List (Option Expr)}{vs:List Expr}{tk tv:TE}{JF:List (TE×TE)}(hk:PE X k tk)(hv:PE X v tv)(hr:C2 X pos ks vs JF) :
  C2 X pos (some k::ks) (v::vs) ((tk,tv)::JF):=fun pins s σ H Q I h=>
 pairTrees_cons_walk (F9 (hk pins s σ H _ I h) fun u s1 ⟨x,H1,I1,rx,q1⟩=>F9 (hv pins s1 σ H1 _ I1 q1) fun w2 s2 ⟨y,H2,I2,ry,q2⟩=>
  F9 (hr pins s2 σ H2 _ I2 q2) fun ws s3 ⟨ps,H3,I3,rel,q3⟩=>⟨(x,y)::ps,H3,I3,.cons ⟨rx,ry⟩ rel,q3⟩)
noncomputable def ky(kvs more:List (bI×V)):List (bI×V):=more.foldl (fun acc kv=>gT acc kv.1 kv.2) kvs
def KV.merge:∀{more:List (bI×V)} {rs:List (bI×Value)} {kvs:List (bI×V)} {vs:List (bI×Value)},KV more rs->KV kvs vs->KV (ky kvs more) (merged vs rs):=by
 intro more rs kvs vs r
 unfold KV at r
 induction r generalizing kvs vs with
 |nil=>intro q;exact q
 |@cons p q ps qs h t ih=>
  intro r0
  have e:KV (gT kvs p.1 p.2) (stored vs q.1 q.2):=by
   have:=r0.put p.1 h.2
   rw[<-h.1];exact this
  exact ih e
theorem iV:∀(more kvs:List (bI×V)),(ky kvs more).length<=kvs.length+more.length
 |[],kvs=>by show kvs.length<=kvs.length+0;omega
 |p::r,kvs=>by
  have h1:=iV r (gT kvs p.1 p.2)
  have h2:=gU kvs p.1 p.2
  show(ky (gT kvs p.1 p.2) r).length<=_
  rw[List.length_cons];omega
theorem l0{P:Program}{w:World}:∀{kvs:List (bI×V)} {ws:List (Value×Value)},VV (kvs.map fun kv=>(kV kv.1,kv.2)) ws->∃rs,Carries (bf P w) ws rs/\KV kvs rs
 |[],_,r=>by rw[List.map_nil]at r;cases r;exact⟨[],True.intro,.nil⟩
 |p::kvs,_,r=>by
  rw[List.map_cons]at r
  cases r with
  |@cons a b as bs h t=>
   obtain⟨rs,c,q⟩:=l0 (P:=P) (w:=w) t
   obtain⟨b1,b2⟩:=b
   exact⟨(p.1,b2)::rs,⟨ld h.1,rfl,c⟩,.cons ⟨rfl,h.2⟩ q⟩
def C3(JF:List (TE×TE)):TE:=fun σ H Q=>∀p,H p=none->oC JF σ (upd H p (.dK [])) fun ps H2=>H2 p=some (.dK [])/\∃kvs:List (bI×V),ps=kvs.map (fun kv=>(kV kv.1,kv.2))/\kvs.length<=15/\Q (.ref p) (upd H2 p (.dK (ky [] kvs)))
def yy{X:Cx}{pos:Pos}{keys:List (Option Expr)}{values:List Expr}{JF:List (TE×TE)}(h:C2 X pos keys values JF)(hall:keys.all (·.isSome)=true)(hl:keys.length=values.length)(h0:keys≠[])
  (N_:keys.length<=15):PE X (.Dict keys values pos) (C3 JF):=by
 intro pins s σ H Q I q
 have hn:=I.hok.fresh (Nat.le_refl s.heap.objs.size)
 have I1:=I.laid (a:=s.heap.objs.size) (o:=.dK []) (h':=s.heap.push { cls:=.type "dict",data:=.dict #[] }) (t':=s.toks) (fun _ _ q=>Heap.get?_push_of_some _ q) (Nat.le_refl _) (vD s.heap I.big)
 refine wpAny_Dict_walk (knd:=bf X.prog X.w) hall hl h0 N_ (F9 (h pins _ σ _ _ I1 (q _ hn)) fun ws s2 ⟨ps,H2,I2,rel,e,kvs,ep,lk,q2⟩=>?_)
 subst ep
 obtain⟨rs,c,rk⟩:=l0 (P:=X.prog) (w:=X.w) rel
 obtain⟨z,hd,vs0,r0,dd⟩:=zT I2.hok e
 cases r0
 refine⟨rs,c,dd,fun h' Mz hs=>⟨.ref s.heap.objs.size,_,?_,rfl,q2⟩⟩
 have hz:(ky [] kvs).length<=sizeLine:=by
  have h1:=iV kvs []
  rw[List.length_nil]at h1
  rw[sizeLine_eq];omega
 have he:∃q,h'.get? s.heap.objs.size=some q:=let ⟨q,_,_,hq,_⟩:=Mz;⟨q,hq⟩
 exact oB I2 (by rw[e];exact True.intro) hs he (vC hz hd (rk.merge .nil) Mz)
structure M2 (X:Cx) (o:Expr) (m:Str) (apos:Pos) (e f:Expr) (cpos:Pos):Prop where
 base:attributeBase o m X.env (eval o X.env)=eval o X.env
 few:((backTo cpos (starEach [e,f] X.env)).all (fun x=>!x.1)&&(backToKw cpos (keywordEach [] X.env)).all (fun x=>x.1.isSome)
  && decide (([e,f]:List Expr).length+([]:List Keyword).length+(if ([]:List Keyword).isEmpty then 0 else 1) < 30))=true
 line:(apos.endLine == cpos.line)=true
 trees:backTo cpos (starEach [e,f] X.env)=[(false,eval e X.env),(false,eval f X.env)]
def Fu(H:Hp)(a:Addr):Prop:=(∃kvs,Rd H a (.dK kvs))\/∃kvs,Rd H a (.dT kvs)
def Bl{X:Cx}{pins:Va}{σ:St}{H:Hp}{s:Shared}{a:Addr}(I:Inv X pins σ H s)(d:Fu H a) :
  s.TypeIs (.ref a) "dict"/\(∀b,Value.ref a = .ref b->∃ob,s.heap.get? b=some ob/\ob.dict=none)/\(a == sysModules)=false:=by
 rcases d with⟨kvs,e⟩|⟨kvs,e⟩
 ·obtain⟨_,hd,vs,_,dd⟩:=lg I.hok e
  refine⟨dd.typeIs,fun b q=>?_,hd⟩
  cases q
  obtain⟨ob,_,_,h1,h2,_⟩:=dd
  exact⟨ob,h1,h2.2.1⟩
 ·obtain⟨_,hd,xs,_,dd⟩:=lZ I.hok e
  refine⟨dd.typeIs,fun b q=>?_,hd⟩
  cases q
  obtain⟨ob,_,_,h1,h2,_⟩:=dd
  exact⟨ob,h1,h2.2.1⟩
section
variable {X:Cx} {pins:Va} {σ:St} {H:Hp} {s:Shared} {a:Addr} {y d:V} {u r:Value} {o:Option V} {A:Around} {E:Vq}
def Bm{Q:Vq}(hu:A.units+1 < cLine)(I:Inv X pins σ H s)(g:DGet H a y o)(ry:RelV y u)(rd:RelV d r)(h:∀w' s',Inv X pins σ H s'->RelV (o.getD d) w'->Q w' s') :
  wpAny (model X.prog X.w) A (call (.builtin "dict.get") [.ref a,u,r]) Q E s:=by
 rcases g with⟨kvs,k,e,ey,l⟩|⟨kvs,k,b,e,ey,eb,l⟩
 ·subst ey
  obtain⟨z,hd,vs,rel,dd⟩:=lg I.hok e
  refine call_meetsIn PySem.F.slot_dict_get dd.typeIs PySem.F.entry_dict_get (PySem.F.args_dict_get_3 _ _ _) (meets_dict_get_default (bf X.prog X.w) a (ld ry) hd r) ⟨_,dd.mapOf,h _ _ (I.tok _) ?_⟩
  rw[l]
  exact(rel.val k).getD rd
 ·subst ey
  cases (show u=Value.ref b from ry)
  obtain⟨z,hd,xs,rel,dd⟩:=lZ I.hok e
  refine call_meetsIn PySem.F.slot_dict_get dd.typeIs PySem.F.entry_dict_get (PySem.F.args_dict_get_3 _ _ _) (meetsH_dict_get_default (tupleKind (bf X.prog X.w)) a b hd r) ⟨tupleKind_room_in1 hu,k,xs,dY I.hok eb,dd,h _ _ (I.tok _) ?_⟩
  rw[l]
  exact(rel.val k).getD rd
end
def Bn(td ty tx:TE):TE:=fun σ H Q=>td σ H fun x H1=>∃a,x = .ref a/\Fu H1 a/\ty σ H1 fun y H2=>tx σ H2 fun z H3=>∃o,DGet H3 a y o/\Q (o.getD z) H3
section
variable {X:Cx} {o e f:Expr} {apos cpos:Pos} {td ty tx:TE}
def vF(hu:X.A.units+1 < cLine)(ho:PE X o td)(he:PE X e ty)(hf:PE X f tx)(m:M2 X o "get" apos e f cpos):PE X (.Call (.Attribute o "get" apos) [e,f] [] cpos) (Bn td ty tx):=by
 intro pins s σ H Q I h
 refine wpAny_Call_method m.base m.few m.line PySem.F.plainAttrs_dict PySem.F.slot_dict_get PySem.F.type_dict_get (F9 (ho pins s σ H _ I h) fun u s1 ⟨x,H1,I1,rx,a,ex,d,q1⟩=>?_)
 subst ex
 obtain rfl:u=Value.ref a:=rx
 obtain⟨t1,t2,_⟩:=Bl I1 d
 refine⟨t1,t2,?_⟩
 rw[m.trees]
 refine Calls.callWith_builtin rfl (Calls.evalArgs_plain (Calls.spliced_cons (F9 (he pins s1 σ H1 _ I1 q1) fun iv s2 ⟨y,H2,I2,ry,q2⟩=>
  Calls.spliced_cons (F9 (hf pins s2 σ H2 _ I2 q2) fun fv s3 ⟨z,H3,I3,rz,ov,g,q3⟩=>Calls.spliced_nil ?_))))
 exact Bm hu I3 g ry rz fun w' s4 I4 rw'=>⟨_,H3,I4,rw',q3⟩
end
section
variable {X:Cx} {pins:Va} {σ:St} {H:Hp} {s:Shared} {a:Addr} {kvs:List (bI×V)} {A:Around} {E:Vq}
end
section
variable {X:Cx} {pins:Va} {σ:St} {H:Hp} {s:Shared} {a:Addr} {y:V} {u:Value} {A:Around} {E:Vq}
end
end L2
namespace Att
open PySem PySem.W PySem.Calls PyProof.Rows
def lD{P:Params}{h:Heap}:∀(ns:Vu) (vs:Vv),WellAll P h vs (ns.map WData.int)->IntsAre vs ns:=by
 intro ns
 induction ns with
 |nil=>
  intro vs w
  rw[List.map_nil]at w
  cases w
  exact .nil
 |cons n ns ih=>
  intro vs w
  rw[List.map_cons]at w
  cases w with
  |cons a b=>
   cases a
   exact .cons _ _ (ih _ b)
def uh{l:OpenLaw}{n:Nat}(hn:l.most=some n){P:Params}{h:Heap}{args:List WData}{vals:Vv}
  (hpre:l.row.toRowW.claim.pre args=true) (hwl:WellAll P h vals args) :
  ∃a vs ns,vals=[Value.ref a]/\args=[WData.list (ns.map WData.int)]/\h.get? a=some { cls:=.type "list",data:=.seq vs.toArray }/\IntsAre vs ns/\ns.length<=n:=by
 have hsh:WShape.hasAll [] args [.list .int]=true:=(pre_splitW hpre).1
 have hc:l.pre.holds [] { args:=args }=true:=(pre_splitW hpre).2
 obtain⟨d,r,rfl,h1,h2⟩:=hasAllW_cons hsh
 obtain rfl:=hasAllW_nil h2
 obtain⟨xs,rfl,h3⟩:=hasW_list h1
 obtain⟨ns,rfl⟩:=items_int h3
 have hlen:ns.length<=n:=by
  unfold OpenLaw.pre at hc
  have h4:(WTm.not (.lt (.lit (.int (n:Int))) (.len (.arg 0)))).holds [] { args:=[.list (ns.map .int)] }=true:=by
   have h4:=(holds_andW hc).1
   rw[hn]at h4
   exact h4
  have h5:=condW_of h4 (w_not (w_lt w_lit (w_len_list (w_arg rfl))))
  rw[List.length_map]at h5
  refine Nat.le_of_not_lt fun q=>?_
  have q':(n:Int) < ((ns.length:Nat):Int):=by omega
  first
   |(rw[decide_eq_true q']at h5;exact absurd h5 (by decide))
   |(simp at h5;omega)
 cases hwl with
 |cons w1 w2=>
  cases w2
  cases w1 with
  |list ho hall=>exact⟨_,_,ns,rfl,rfl,ho,lD ns _ hall,hlen⟩
def uk(l:OpenLaw)(args:List WData):l.row.toRowW.claim.post args (.bool true) args=true:=
 postW_of (r:=l.row.toRowW) (X:=(true == true))
  (show WShape.has [] (.bool true) .bool=true by first|rfl|decide|simp[WShape.has,WShape.arms,WShape.armsAll])
  (show(WTm.eq .res (.lit (.bool true))).value [] { args:=args,res:=some (.bool true),after:=args }=some (.bool (true == true))from w_eq_bool (w_res rfl) w_lit) rfl
def qf{l:OpenLaw}{n:Nat}{q:Program}{loose:Vs}{XP:(Vr)->Heap->Prop}{YP:World->Heap->Prop}{d:DefRec}
  (hn:l.most=some n) (hdf:d.params.defaults=[])
  (call:∀(w:World) (s₀ s₁:Shared) (mg mb:Vr) (fa:Addr) (o:Obj) (pm cd doc:Value) (a:Addr) (vs:Vv) (ns:Vu),
   Ground q loose [] XP w s₀ mg mb s₁.heap->YP w s₁.heap->
   s₁.heap.get? fa=some o->o.data = .func (docDef d.name d.params d.body d.scope pm cd doc)->s₁.heap.CodeRec cd d.name->mg d.name=some (.ref fa)->
   s₁.heap.get? a=some { cls:=.type "list",data:=.seq vs.toArray }->IntsAre vs ns->ns.length<=n->s₁.gens=#[]->
   codeAny (model l.prog w) callerA (.call (.ref fa) ⟨[.ref a],[]⟩) (fun r s'=>r = .ok (.ret (.bool true))/\OldK s₁.heap s'.heap/\s'.os=s₁.os/\AllBare s'.gens) s₁) :
  WalkO q loose XP YP l.row.toRowW d [] (fun f vs=>PySem.call f vs):=by
 intro w s₀ s₁ mg mb G Y fa o pm cd doc dV kV ho hd hcd hD hmg hg args vals as hpre hlay hrd hwl hlo
 obtain rfl:dV = .none:=Dflts.none hD hdf
 obtain rfl:kV = .none:=Dflts.noKw hD
 obtain⟨a,vs,ns,rfl,rfl,hobj,hints,hlen⟩:=uh hn hpre hwl
 refine enter_call (codeAny_mono (call w s₀ s₁ mg mb fa o pm cd doc a vs ns G Y ho (fd_plain hd) hcd hmg hobj hints hlen hg) fun r s' hq=>?_)
 obtain⟨rfl,h2,h3,h4⟩:=hq
 exact⟨.inl ⟨.bool true,.bool true,[],rfl,fun _=>rfl,.bool true,uk l _,fun _=>⟨List.Pairwise.nil,fun _ hm=>(nomatch hm)⟩⟩,h2,h3,h4⟩
section
variable {prog:Program} {w:World} {A:Around} {E:Vq} {s:Shared} {K:Frag}
end
end Att
namespace L2
open PySem PySem.Spec PyProof.Rows
theorem nO:∀{vs:Vv} {ns:Vu},IntsAre vs ns->Vals (ns.map V.int) vs
 |_,_,.nil=>.nil
 |_,_,.cons n t h=>.cons ⟨t,rfl⟩ (nO h)
def yz(H:Hp):Prop:=∀b,H b=none\/∃o xs,H b=some (.frz o (.lst xs))
def vG{P:Program}{w:World}{K:Vo}{mg mb:Vr}{CX:vt}{k:Nat}{fa a:Addr}{fd:FuncData}{x:Str}{sp:Sp}{s₁:Shared}{vs:Vv}{ns:Vu}
  (KX:K.In s₁.heap) (hns:s₁.heap.Ns mainGlobals mg) (hb:s₁.heap.Ns builtinsNs mb) (Qf:∀x:Str,x ≠ "__name__"->mb x=bootBuiltins x) (hlim:s₁.heap.NoLimit) (hg:s₁.gens=#[])
  (ha:s₁.heap.get? a=some { cls:=.type "list",data:=.seq vs.toArray }) (hi:IntsAre vs ns) (hl:ns.length<=sizeLine) (hr:Room k callerA)
  (F:∀base:Heap,K.In base->base.Ns mainGlobals mg->m9 P w K mg base CX k fa fd [x] sp) (hbind:∀(s:Shared) (u:Value),BindsTo s fd ⟨[u],[]⟩ [(x,u)])
  (LK:∀H:Hp,yz H->SqL K H a (ns.map V.int)->sp [.ref a] H (fun v _=>v = .bl true) fun _ _ _=>False)
  (Oc:∀H e s',CX [] H s₁ (fun _ _ _=>False) e s'->False) :
  codeAny (model P w) callerA (.call (.ref fa) ⟨[.ref a],[]⟩) (fun r s'=>r = .ok (.ret (.bool true))/\OldK s₁.heap s'.heap/\s'.os=s₁.os/\AllBare s'.gens) s₁:=by
 have rv:=nO hi
 have Od:=hi.length
 -- from an abstract heap in which nothing but the script may be tracked
 have core:∀H:Hp,yz H->SqL K H a (ns.map V.int)->IB P w H s₁.heap->(∀b,H b≠none->b=a)->(H a≠none->K.lookup a=none)->
   codeAny (model P w) callerA (.call (.ref fa) ⟨[.ref a],[]⟩) (fun r s'=>r = .ok (.ret (.bool true))/\OldK s₁.heap s'.heap/\s'.os=s₁.os/\AllBare s'.gens) s₁:=by
  intro H hO hS hok hA hK
  have Lb:∀{b:Addr} {o:Obj},s₁.heap.get? b=some o->H b=none->(ou s₁.heap H).get? b=some o:=fun e n=>vf e n
  have Nc:∀{b:Addr} {o:Obj} {es:Array DictEntry} {ep:Nat},s₁.heap.get? b=some o->o.data = .dict es ep->H b=none:=fun{b o es ep} e d=>by
   cases q:H b with
   |none=>rfl
   |some u=>
    have e':b=a:=hA b (by rw[q];simp)
    subst e'
    rw[ha]at e;cases e
    have d':Data.seq vs.toArray _=Data.dict es ep:=d
    cases d'
  have Nz:∀{b:Addr} {m:Vr},s₁.heap.Ns b m->(ou s₁.heap H).Ns b m:=fun{b m} ⟨o,es,ep,e,d,r⟩=>⟨o,es,ep,Lb e (Nc e d),d,r⟩
  have Pk:K.In (ou s₁.heap H):=fun b o e=>Lb (KX b o e) (by
   cases q:H b with
   |none=>rfl
   |some u=>
    have e':b=a:=hA b (by rw[q];simp)
    subst e'
    rw[hK (by rw[q];simp)]at e;cases e)
  have hM:Mod K mg (ou s₁.heap H):=⟨Pk,Nz hns,⟨mb,Nz hb,Qf⟩,let ⟨mc,h1,h2⟩:=hlim;⟨mc,Nz h1,h2⟩⟩
  have e0:yn P w K mg (ou s₁.heap H) callerA [] s₁ H:=⟨rfl,hM,fun b o e=>xX e,Nat.le_of_eq (t6 _ _),trivial,fun b hb=>absurd (show b∈([]:List Addr)from hb) (by simp),hok,.of_eq hg⟩
  refine codeAny_mono ((F _ Pk (Nz hns)).run callerA [] s₁ H ⟨[.ref a],[]⟩ [.ref a] [.ref a] _ _ hr e0 (hbind s₁ (.ref a)) (.cons rfl .nil) (LK H hO hS)) fun r s' h=>?_
  cases r with
  |error e=>exact(Oc H e s' h).elim
  |ok fl=>
   cases fl with
   |next=>exact False.elim h
   |brk=>exact False.elim h
   |cont=>exact False.elim h
   |ret u=>
    obtain⟨v,H',os,bare,un,Oe,r',q⟩:=h
    have q':v = .bl true:=q
    subst q'
    obtain rfl:u=Value.bool true:=r'
    refine⟨rfl,OldK.of_keep fun b o e=>?_,os,bare⟩
    cases q:H b with
    |none=>exact un.keep b o e q (by intro z;exact absurd (show b∈([]:List Addr)from z) (by simp)) (by simp)
    |some u=>
     rcases hO b with z|⟨ob,xs,z⟩
     ·rw[q]at z;cases z
     ·have z2:=un.J5 b ob _ z
      obtain⟨e1,_⟩:=hok b _ z
      obtain⟨e2,_⟩:=Oe b _ z2
      rw[e]at e1;cases e1
      exact e2
 cases hk:K.lookup a with
 |some o=>
  -- the script is one of the module's own objects
  have e:=KX a o hk
  rw[ha]at e
  cases e
  refine core (fun _=>none) (fun _=>.inl rfl) (.inr ⟨_,vs.toArray,_,hk,rfl,rfl,rfl,by rw[List.size_toArray,Od];exact hl,by simpa using rv⟩) (fun b u z=>by have z':(none:Option HO)=some u:=z;cases z') (fun b z=>absurd rfl z) fun z=>absurd rfl z
 |none=>
  refine core (fun b=>if b=a then some (.frz { cls:=.type "list",data:=.seq vs.toArray } (.lst (ns.map V.int))) else none) (fun b=>?_) (.inl (.inr ⟨{ cls:=.type "list",data:=.seq vs.toArray },if_pos rfl⟩)) (fun b u z=>?_) (fun b z=>?_) fun _=>hk
  ·by_cases hb:b=a
   ·exact .inr ⟨_,_,if_pos hb⟩
   ·exact .inl (if_neg hb)
  ·by_cases hb:b=a
   ·have z':=(if_pos hb).symm.trans z
    cases z'
    subst hb
    exact⟨ha,by rw[List.length_map];exact hl,vs,_,rv,ha⟩
   ·have z':=(if_neg hb).symm.trans z
    cases z'
  ·by_cases hb:b=a
   ·exact hb
   ·exact absurd (if_neg hb) z
def yA{l:PySem.W.OpenLaw}{n k:Nat}{q:Program}{loose:Vs}{XP:(Vr)->Heap->Prop}{YP:World->Heap->Prop}{d:DefRec}{K:Params->PySem.W.Frag}{CX:World->vt}{sp:World->Sp}{x:Str}
  (hn:l.most=some n) (hn2:n<=sizeLine) (hdf:d.params.defaults=[]) (hr:Room k callerA)
  (hY:∀(w:World) (h:Heap),YP w h->(K w.params).In h)
  (F:∀(w:World) (mg:Vr) (fa:Addr) (h:Heap),(K w.params).In h->h.Ns mainGlobals mg->mg d.name=some (.ref fa)->
   ∃fd:FuncData,(∀(s:Shared) (u:Value),BindsTo s fd ⟨[u],[]⟩ [(x,u)])/\
    ∀base:Heap,(K w.params).In base->base.Ns mainGlobals mg->m9 l.prog w (K w.params) mg base (CX w) k fa fd [x] (sp w))
  (LK:∀(w:World) (H:Hp) (a:Addr) (ns:Vu),ns.length<=n->yz H->SqL (K w.params) H a (ns.map V.int)->sp w [.ref a] H (fun v _=>v = .bl true) fun _ _ _=>False)
  (Oc:∀(w:World) (H:Hp) (s:Shared) (e:Value) (s':Shared),CX w [] H s (fun _ _ _=>False) e s'->False) :
  PySem.W.WalkO q loose XP YP l.row.toRowW d [] (fun f vs=>PySem.call f vs):=by
 refine Att.qf hn hdf fun w s₀ s₁ mg mb fa o pm cd doc a vs ns G Y ho hd hcd hmg hobj hints hlen hg=>?_
 have KX:=hY w _ Y
 obtain⟨fd,hb,hF⟩:=F w mg fa _ KX G.T.g hmg
 exact vG KX G.T.g G.T.b G.T.builtins G.T.nolimit hg hobj hints (Nat.le_trans hlen hn2) hr hF hb (fun H hO hS=>LK w H a ns hlen hO hS) fun H e s'=>Oc w H s₁ e s'
noncomputable def b8(s:Stmt):Arguments:=match s with
 | .FunctionDef _ a _ _ _ _ _ _ _ _=>a
 |_=>{ posonlyargs:=[],args:=[],vararg:=none,kwonlyargs:=[],kw_defaults:=[],kwarg:=none,defaults:=[] }
noncomputable def bv(s:Stmt):List Stmt:=match s with
 | .FunctionDef _ _ b _ _ _ _ _ _ _=>b
 |_=>[]
noncomputable def aM(s:Stmt):Scope:=match s with
 | .FunctionDef _ _ _ _ _ _ sc _ _ _=>sc
 |_=>{ kind:=.function,names:=[],isGenerator:=false,isCoroutine:=false }
noncomputable abbrev xT:vt:=fun _ _ _ _ _ _=>False
noncomputable abbrev E0:XK:=fun _ _ _=>False
def zU{X:Cx}:rD xT X E0:=fun _ _ _ _ _ _ _ h=>h.elim
structure Mf (K:Vo) (x qual:Str) (st:Stmt) (f:Addr) (fd:FuncData):Prop where
 ex:∃(oc:Value) (od:Option Addr) (kV doc pm:Value) (an:Option Addr) (cdv ct:Value) (osl:Array (Option Value)),
  fd=PySem.W.fnOf x qual (b8 st) (bv st) (aM st) .none kV doc pm an cdv ct/\K.lookup f=some ⟨oc,od,.func fd,osl⟩/\PySem.W.codeIn K cdv qual=true
 kp:PySem.W.keepIn K (.ref f)=true
section
variable {P:Program} {w:World} {K:Vo} {mg:Vr} {base:Heap}
def Mf.ok{x qual:Str}{st:Stmt}{f:Addr}{fd:FuncData}{N ps:Vs}{k:Nat}{sp:Sp}(F:Mf K x qual st f fd)(S:d_ N ps (aM st))(len:∀vs H Q E,sp vs H Q E->vs.length=ps.length)
  (hbody:∀(cdv:Value) (A:Around) (outer:List Env) (s:Shared) (H:Hp) (vs:List V) (Q:VK) (E:XK),Room k (A.deeper (envOfC qual (aM st) s.heap.objs.size f cdv))->sp vs H Q E->
   ∃t,Kx (p5 xT P w K mg base N qual (aM st) f cdv A outer s H E).Mv (bv st) t/\t { nx:=fun _ H'=>Q .non H',rt:=Q } (gN N vs) H):m9 P w K mg base xT (k+1) f fd ps sp:=by
 obtain⟨oc,od,kV,doc,pm,an,cdv,ct,osl,rfl,lk,hcd⟩:=F.ex
 refine zR lk hcd S len fun A outer s H vs Q E hr LK=>?_
 obtain⟨t,h,q⟩:=hbody cdv A outer s H vs Q E hr LK
 exact⟨t,h.Mv,q⟩
def Mf.binds{x qual:Str}{st:Stmt}{f:Addr}{fd:FuncData}{ps:Vs}(F:Mf K x qual st f fd)
  (h:∀(kV doc pm:Value) (an:Option Addr) (cdv ct:Value) (us:Vv),us.length=ps.length->bindArgs (PySem.W.fnOf x qual (b8 st) (bv st) (aM st) .none kV doc pm an cdv ct) ⟨us,[]⟩=pure (ps.zip us)):Binds K fd ps []:=by
 obtain⟨oc,od,kV,doc,pm,an,cdv,ct,osl,rfl,lk,hcd⟩:=F.ex
 exact .all (h kV doc pm an cdv ct)
def oD{x qual:Str}{st:Stmt}{f:Addr}{oc:Value}{od an:Option Addr}{osl:Array (Option Value)}{kV doc pm cdv ct:Value}(l:K.lookup f=some ⟨oc,od,.func (PySem.W.fnOf x qual (b8 st) (bv st) (aM st) .none kV doc pm an cdv ct),osl⟩)
  (c:PySem.W.codeIn K cdv qual=true) (k:PySem.W.keepIn K (.ref f)=true):Mf K x qual st f (PySem.W.fnOf x qual (b8 st) (bv st) (aM st) .none kV doc pm an cdv ct):=⟨⟨oc,od,kV,doc,pm,an,cdv,ct,osl,rfl,l,c⟩,k⟩
end
def fG{n:Nat}(h:n<=1000):n < sizeLine:=Nat.lt_of_le_of_lt h (by decide)
section
variable {X:Cx}
def ul:gM X (.builtin "len") (fun xs H Q=>∃a kvs,xs=[V.ref a]/\H a=some (.dK kvs)/\Q (.int kvs.length) H):=by
 intro pins s σ H xs us Q I r h
 obtain⟨a,kvs,rfl,ha,q⟩:=h
 obtain⟨u,rfl,ru⟩:=fE r
 cases ru
 exact C1 I (.inl ha) fun t s' I'=>⟨.int kvs.length,H,I',⟨t,rfl⟩,q⟩
end
section
variable {κ:Type} [DecidableEq κ]
end
end L2
set_option maxHeartbeats 4000000
namespace L2
open PySem PySem.Spec PyProof.Rows
def oE{prog:Program}{w:World}{A:Around}{R:Result->Shared->Prop}{s:Shared}{elt target iter:Expr}{ifs:List Expr}{scope:Scope}{pos:Pos}{it acc:Value}{env:Env}(I:Nat->Shared->Prop)
  (turn:∀n s,I n s->wpAny (model prog w) A (pyNext it) (fun r s₁=>match r with
   |none=>R (.ok .next) s₁
   |some v=>wpAny (model prog w) A (letOwnedTupleGo target it v) (fun _ s₁'=>wpAny (model prog w) A (assign target env v) (fun _ s₂=>
     wpAny (model prog w) A (forIn ifs true fun c r=>if r=true then do let ok <-isTrue c env (eval c env);pure (ForInStep.yield ok) else pure (ForInStep.yield r)) (fun ok s₃=>
      if ok=true then wpAny (model prog w) A (eval elt env) (fun x s₄=>
       wpAny (model prog w) A (call (.builtin "list.append") [acc,x]) (fun _ s₅=>∃m,m < n/\I m s₅) (fun _ _=>False) s₄) (fun _ _=>False) s₃
      else ∃m,m < n/\I m s₃) (fun _ _=>False) s₂) (fun _ _=>False) s₁') (fun _ _=>False) s₁) (fun _ _=>False) s)
  (n:Nat) (h:I n s) :
  codeAny (model prog w) A (.compLoop (.ListComp elt [⟨target,iter,ifs,0⟩] scope pos) 0 it acc env) R s:=by
 refine codeAny_loop rfl I (fun n s hI=>?_) n h
 show wpAny _ A ((compTurn (.ListComp elt [⟨target,iter,ifs,0⟩] scope pos) 0 it acc env).onRaise (fun x=>do noteFrame x env;theTreesLotGoes x)) _ _ s
 refine wpAny_noted ?_
 rw[compTurn_list]
 refine wpAny_bind (wpAny_standAt (wpAny_bind (wpAny_mono (turn n s hI) (fun r s₁ h₁=>?_) fun _ _ h'=>h'.elim)))
 cases r with
 |none=>exact wpAny_pure h₁
 |some v=>
  refine wpAny_bind (wpAny_mono h₁ (fun _ s₁' h₁'=>?_) fun _ _ h'=>h'.elim)
  refine wpAny_bind (wpAny_mono h₁' (fun _ s₂ h₂=>wpAny_bind (wpAny_mono h₂ (fun ok s₃ h₃=>?_) fun _ _ h'=>h'.elim)) fun _ _ h'=>h'.elim)
  cases ok with
  |false=>exact wpAny_pure ⟨rfl,h₃⟩
  |true=>
   exact wpAny_bind (wpAny_bind (wpAny_mono h₃ (fun x s₄ h₄=>wpAny_bind (wpAny_mono h₄ (fun _ s₅ h₅=>wpAny_pure (wpAny_pure ⟨rfl,h₅⟩)) fun _ _ h'=>h'.elim)) fun _ _ h'=>h'.elim))
structure Bk where
 C:Addr
 s:Shared
 H:Hp
 fp:List Addr
 pn:Va
noncomputable def df(env:Env)(fs:Vs):List (Str×Addr):=fs.map fun x=>(x,(env.cells.lookup x).getD 0)
noncomputable abbrev Cx.Ix(X:Cx)(N:Vs)(scope:Scope)(fs:Vs)(B:Bk):Cx:=
 { X with N:=N,s₀:=B.s,H₀:=B.H,env:=compEnvC scope (df X.env fs) B.C X.env,outer:=X.stack,ex:=B.fp,fn:=fun _=>false,pn:=B.pn,xe:=fun _ _=>False }
noncomputable def cQ(env:Env):List Str->Prop
 |[]=>True
 |x::r=>(∃c,env.cells.lookup x=some c)/\cQ env r
theorem lh{env:Env}:∀{fs:Vs},cQ env fs->∀{x:Str} {c:Addr},(df env fs).lookup x=some c->env.cells.lookup x=some c
 |[],_,x,c,h=>by cases h
 |y::r,k,x,c,h=>by
  obtain⟨⟨d,hd⟩,k⟩:=k
  have h':List.lookup x ((y,(env.cells.lookup y).getD 0)::df env r)=some c:=h
  rw[List.lookup_cons]at h'
  cases e:x == y with
  |true=>
   rw[e]at h'
   have e':x=y:=by simpa using e
   subst e'
   rw[hd]at h'
   rw[hd]
   exact h'
  |false=>
   rw[e]at h'
   exact lh k h'
noncomputable def oF(names:List (Str×NameKind))(cl:List (Str×Addr)):Bool:=names.all fun y=>(y.2 != .cell&&y.2 != .free) || (cl.lookup y.1).isSome
def vH{names:List (Str×NameKind)}{cl:List (Str×Addr)}{x:Str}{k:NameKind}(h:oF names cl=true)(e:names.lookup x=some k)(hk:k = .cell\/k = .free):∃c,cl.lookup x=some c:=by
 have hm:(x,k)∈names:=PySem.mem_of_lookup e
 have q:=List.all_eq_true.mp h _ hm
 have z:(cl.lookup x).isSome=true:=by
  rcases hk with rfl|rfl
  ·simpa using q
  ·simpa using q
 exact Option.isSome_iff_exists.mp z
noncomputable def G3(env:Env)(scope:Scope)(cl:List (Str×Addr)):List Str->Prop
 |[]=>True
 |x::r=>((env.scope.names.lookup x=some .cell\/env.scope.names.lookup x=some .free)/\((relabel scope env).names.lookup x=some .cell\/(relabel scope env).names.lookup x=some .free)/\cl.lookup x=env.cells.lookup x)/\G3 env scope cl r
theorem G3.mem{env:Env}{scope:Scope}{cl:List (Str×Addr)}:∀{l:Vs},G3 env scope cl l->∀x∈l,
  (env.scope.names.lookup x=some .cell\/env.scope.names.lookup x=some .free)/\((relabel scope env).names.lookup x=some .cell\/(relabel scope env).names.lookup x=some .free)/\cl.lookup x=env.cells.lookup x
 |[],_,x,h=>nomatch h
 |y::r,k,x,h=>by
  rcases List.mem_cons.mp h with rfl|h
  ·exact k.1
  ·exact G3.mem k.2 x h
noncomputable def fH(own:Nat)(fr:List Nat)(σ:St):St:=List.replicate own none++fr.map fun j=>(σ[j]?).getD none
noncomputable abbrev kz(us:Vv):Obj:={ cls:=.type "list",data:=.seq us.toArray us.length }
def um(us:Vv)(u:Value):({ cls:=.type "list",data:=.seq (us.toArray.push u) (us.length+1) }:Obj)=kz (us++[u]):=by
 show({ cls:=.type "list",data:=.seq (us.toArray.push u) (us.length+1) }:Obj)={ cls:=.type "list",data:=.seq (us++[u]).toArray (us++[u]).length }
 rw[List.length_append,List.length_singleton,List.push_toArray]
section
variable {X:Cx} {pins:Va} {σ:St} {H:Hp} {s:Shared}
def Inv.Nf{D:Addr}{us:Vv}{n:Nat}{ys:List V}(I:Inv X pins σ H s)(f:ft X pins H D)(e:s.heap.get? D=some { cls:=.type "list",data:=.seq us.toArray n })(r:Vals ys us)(hz:ys.length<=sizeLine) :
  Inv X pins σ (upd H D (.lst ys)) s:=by
 obtain⟨f0,f1,f2,f3,f4,f5⟩:=f
 have nD:∀b u,H b=some u->b≠D:=fun b u q=>ba q f0
 have hok:IB X.prog X.w (upd H D (.lst ys)) s.heap:=fun b u q=>by
  by_cases hb:b=D
  ·subst hb
   rw[aG]at q
   cases q
   exact⟨hz,us,n,r,e⟩
  ·rw[aI hb]at q
   exact(I.hok b u q).stay (fun _ _ _ z=>z) (fun c z=>by rw[aI (nD c _ z)];exact z) fun c xs z=>by rw[aI (nD c _ z)];exact z
 exact I.step (H':=upd H D (.lst ys)) (h':=s.heap) (g':=s.gens) (t':=s.toks) (d':=s.drawn) (ch:=[D])
  (fun b hb=>by
   have z:b=D:=by simpa using hb
   subst z
   exact⟨f3,f1,f4,f5⟩)
  (fun _ _ _ _ _ q _=>q) (fun _ o _ _ _ q _=>⟨o.slots,q⟩)
  (fun b o hb _ n=>by rw[aI (fun z=>hb (by simp[z]))];exact n)
  (fun _ o _ q=>⟨o,q⟩) (fun b xs q=>by rw[aI (nD b _ q)];exact q) (fun b o u q=>by rw[aI (nD b _ q)];exact q)
  (fun b ps q=>⟨#[],by rw[aI (nD b _ q),q];simp⟩) (fun _ q=>q) hok I.bare
def Bo{N:Vs}{scope:Scope}{fs:Vs}{C:Addr}{fp:List Addr}(I:Inv X pins σ H s)(hkind:scope.kind = .function)(hC:s.heap.objs.size<=C)(hcl:cQ X.env fs)
  (hhas:oF (relabel scope X.env).names (df X.env fs)=true) (hf:∀b∈fp,ft X pins H b) (hlt:∀b∈fp,b < s.heap.objs.size):(X.Ix N scope fs ⟨C,s,H,fp,X.pn++pins⟩).Ok where
 mod:=I.ok.mod
 kind:=hkind
 glob:=I.ok.glob
 blt:=I.ok.blt
 above:=hC
 inj:=fun x y c h1 h2=>I.ok.inj x y c (lh hcl h1) (lh hcl h2)
 has:=fun x hx=>by
  rcases hx with e|e
  ·exact vH hhas e (.inl rfl)
  ·exact vH hhas e (.inr rfl)
 MY:=fun x c h=>by cases h
 hd:=I.ok.hd
 frames:=I.ok.frames
 stk:=.inl rfl
 NX:=fun b hb=>⟨Nat.ne_of_lt (Nat.lt_of_lt_of_le (hlt b hb) hC),fun x c e=>(hf b hb).2.2.2.2.1 x c (lh hcl e)⟩
 bs:=I.bs
 LV:=Nat.le_trans I.ok.LV I.sz
 Lg:=fun b o e hb=>(hf b hb).2.2.2.1.elim (fun z=>I.ok.Lg b o e z) fun z=>absurd (Nat.lt_of_lt_of_le (Heap.lt_size e) (Nat.le_trans I.ok.LV z)) (Nat.lt_irrefl _)
 Lr:=fun b hb z=>(List.mem_cons.mp (I.Jh b z)).elim (hf b hb).2.1 (hf b hb).2.2.1
 JC:=I.stack
 Ms:=I.K8
def yB{N:Vs}{scope:Scope}{fs:Vs}{C D:Addr}{fp:List Addr}{own:Nat}{fr:List Nat}{h₁:Heap}{m0:Vr}{t':Nat}(I:Inv X pins σ H s)
  (ok:(X.Ix N scope fs ⟨C,s,H,fp,X.pn++pins⟩).Ok) (hC:s.heap.objs.size<=C) (hD:s.heap.objs.size<=D) (hDC:D≠C) (hcl:cQ X.env fs)
  (old:∀b o,s.heap.get? b=some o->h₁.get? b=some o) (hns:h₁.Ns C m0) (hacc:h₁.get? D=some (kz [])) (hlen:N.length=own+fr.length) (hN:(N.drop own).map some=fr.map fun j=>X.N[j]?)
  (hF:G3 X.env scope (df X.env fs) (N.drop own)) :
  Inv (X.Ix N scope fs ⟨C,s,H,fp,X.pn++pins⟩) [(D,kz [])] (fH own fr σ) H { s with heap:=h₁,toks:=t' }:=by
 refine⟨ok,rfl,I.bare,Un.kept old,⟨m0,hns,fun i x v e1 e2 e3=>?_⟩,fun x c e=>?_,I.hok.fresh hC,fun x c e=>I.Io x c (lh hcl e),fun p hp=>?_,I.hok.kept old,?_⟩
 ·have e1:N[i]?=some x:=e1
  by_cases hi:i < own
  ·unfold fH at e2
   rw[List.getElem?_append_left (by rw[List.length_replicate];exact hi),List.getElem?_replicate,if_pos hi]at e2
   cases e2
  ·obtain⟨k,rfl⟩:∃k,i=own+k:=⟨i - own,by omega⟩
   have e1':(N.drop own)[k]?=some x:=by rw[List.getElem?_drop];exact e1
   have q:=congrArg (fun l=>l[k]?) hN
   simp only[List.getElem?_map,e1',Option.map_some]at q
   unfold fH at e2
   rw[List.getElem?_append_right (by rw[List.length_replicate];omega),List.length_replicate,Nat.add_sub_cancel_left,List.getElem?_map]at e2
   cases hj:fr[k]? with
   |none=>rw[hj]at e2;cases e2
   |some j=>
    rw[hj]at e2 q
    simp only[Option.map_some,Option.some.injEq]at e2 q
    have hσ:σ[j]?=some (some v):=by
     cases z:σ[j]? with
     |none=>rw[z]at e2;cases e2
     |some w=>rw[z]at e2;simp only[Option.getD_some]at e2;rw[e2]
    obtain⟨k1,k2,k3⟩:=hF.mem x (List.mem_of_getElem? e1')
    obtain⟨m,hn,hl⟩:=I.loc
    have vis:Co X.env.scope x:=by
     rcases k1 with z|z
     ·exact .inr (.inl z)
     ·exact .inr (.inr z)
    obtain⟨u,ru,l⟩:=hl j x v q.symm hσ vis
    rcases l with⟨hk,_⟩|⟨_,c,hc,o,ho,hd⟩
    ·have hk':X.env.scope.names.lookup x=some .local:=hk
     rcases k1 with z|z
     ·rw[z]at hk';cases hk'
     ·rw[z]at hk';cases hk'
    ·exact⟨u,ru,.inr ⟨k2,c,k3.trans hc,o,old _ _ ho,hd⟩⟩
 ·obtain⟨v,o,ho,hd⟩:=I.cell x c (lh hcl e)
  exact⟨v,o,old _ _ ho,hd⟩
 ·rcases List.mem_append.mp hp with z|z
  ·obtain⟨e,n,ne,nf,d⟩:=I.pin p z
   exact⟨old _ _ e,n,Nat.ne_of_lt (Nat.lt_of_lt_of_le (Heap.lt_size e) hC),fun q=>(List.mem_cons.mp (I.Jh _ q)).elim ne nf,d⟩
  ·have z':p=(D,kz []):=by simpa using z
   subst z'
   exact⟨hacc,I.hok.fresh hD,hDC,fun q=>(List.mem_cons.mp (I.Jh _ q)).elim (fun e=>absurd e (Nat.ne_of_gt (Nat.lt_of_lt_of_le I.lt hD))) (I.M8 hD),fun v z=>by cases z⟩
 ·show(fH own fr σ).length=N.length
  unfold fH
  rw[List.length_append,List.length_replicate,List.length_map,hlen]
end
def PF(X:Cx)(ifs:List Expr)(t:TT):Prop:=
 ∀(pins:Va) (s:Shared) (σ:St) (H:Hp) (Q:Bool->Hp->Prop),Inv X pins σ H s->t σ H Q->
  wpAny (model X.prog X.w) X.A (forIn ifs true fun c r=>if r=true then do let ok <-isTrue c X.env (eval c X.env);pure (ForInStep.yield ok) else pure (ForInStep.yield r)) (TP X pins σ Q) X.xe s
def EW:TT:=fun _ H Q=>Q true H
def Bp{X:Cx}:PF X [] EW:=fun _ _ _ H _ I h=>wpAny_tests_nil ⟨H,I,h⟩
def Bq{X:Cx}{c:Expr}{t:TT}(h:PT X c t):PF X [c] t:=fun pins s σ H Q I q=>wpAny_tests_one (h pins s σ H Q I q)
def zV(J:It)(g:TG)(tc:TT)(te:TE)(own:Nat)(σ':St)(fin:List V->Hp->Prop)(H1:Hp):Prop:=
 ∃W:Nat->Nat->List V->Hp->Prop,(∃m,W 0 m [] H1)/\∀i m ys H,W i m ys H->
  (J.stop i H/\ys.length<=sizeLine/\fin ys H) \/
  (J.go i H/\ys.length<=sizeLine/\∃Nx:List V->Hp->Prop,(∀ys' H',Nx ys' H'->∃m',m' < m/\W (i+1) m' ys' H')/\∀x H',J.Ny i H x H'->g x σ' H' fun σ2 H2=>σ2.drop own=σ'.drop own/\tc σ2 H2 fun b H3=>
   if b=true then te σ2 H3 fun y H4=>Nx (ys++[y]) H4 else Nx ys H3)
section
variable {X:Cx} {pins:Va} {σ:St} {H:Hp} {s:Shared}
variable {elt iter tg:Expr} {ifs:List Expr} {scope:Scope} {pos:Pos} {N:Vs} {own:Nat} {fr:List Nat} {fs:Vs} {g:TG} {tc:TT} {te:TE}
def l4{J:It}{fp:List Addr}{it:Addr}{tn:Nat->Heap->Prop}{fin:List V->Hp->Prop}{E:Vq}{RR:Value->Addr->Result->Shared->Prop}
  (hc:X.calm=true) (hcell:∀y∈scope.names,y.2 ≠ .cell) (hkind:scope.kind = .function) (hcl:cQ X.env fs) (hhas:oF (relabel scope X.env).names (df X.env fs)=true)
  (hlen:N.length=own+fr.length) (hN:(N.drop own).map some=fr.map fun j=>X.N[j]?) (hF:G3 X.env scope (df X.env fs) (N.drop own))
  (hg:∀B,PG (X.Ix N scope fs B) tg g) (hf:∀B,PF (X.Ix N scope fs B) ifs tc) (he:∀B,PE (X.Ix N scope fs B) elt te)
  (I:Inv X pins σ H s) (T:m8 X.prog X.w X.K tg J fp it tn) (st:tn 0 s.heap) (f:∀b∈fp,ft X pins H b) (W:zV J g tc te own (fH own fr σ) fin H)
  (hRR:∀D C s' ys H' m',Inv X pins σ (upd H' D (.lst ys)) s'->H' D=none->s'.heap.Ns C m'->ft X pins (upd H' D (.lst ys)) C->fin ys H'->RR (.ref D) C (.ok .next) s') :
  wpAny (model X.prog X.w) X.A (newList []) (fun acc s₃=>wpAny (model X.prog X.w) X.A (newFunctionEnv scope X.env.globals (df X.env fs) [] X.env.qual none .none (some X.env)) (fun cenv s₄=>
   codeAny (model X.prog X.w) X.A (.compStart (.ListComp elt [⟨tg,iter,ifs,0⟩] scope pos) 0 (.ref it) acc { cenv with scope:=relabel scope X.env }) (RR acc cenv.locals) s₄) E s₃) E s:=by
 refine wpAny_newObj_type (wpAny_newFunctionEnv hcell (by intro y hy;simp at hy) (fun h₁ MA LY=>?_) hkind)
 dsimp only at MA LY ⊢
 generalize Of:s.heap.push { cls:=.type "list",dict:=none,data:=.seq ([]:Vv).toArray }=H2 at MA LY ⊢
 have hC:H2.objs.size=s.heap.objs.size+1:=by rw[<-Of,Heap.size_push]
 have MB:s.heap.objs.size<=H2.objs.size:=by rw[hC];exact Nat.le_succ _
 have hDC:s.heap.objs.size≠H2.objs.size:=by rw[hC];exact Nat.ne_of_lt (Nat.lt_succ_self _)
 have below:∀b,b < s.heap.objs.size->b≠H2.objs.size/\b≠s.heap.objs.size:=fun b hb=>⟨by rw[hC];exact Nat.ne_of_lt (Nat.lt_succ_of_lt hb),Nat.ne_of_lt hb⟩
 have old:∀b o,s.heap.get? b=some o->h₁.get? b=some o:=fun b o e=>LY.extBut b o (below b (Heap.lt_size e)).1 (Heap.get?_push_of_some _ (Of▸Heap.get?_push_of_some _ e))
 have hacc:h₁.get? s.heap.objs.size=some (kz []):=LY.extBut _ _ hDC (Heap.get?_push_of_some _ (Of▸Heap.get?_push_size _ rfl))
 have hlt:∀b∈fp,b < s.heap.objs.size:=fun b hb=>by
  obtain⟨o,e,_⟩:=T.obj 0 _ st b hb
  exact Heap.lt_size e
 obtain⟨Wv,⟨m0,w0⟩,turn⟩:=W
 have ok:=Bo (N:=N) I hkind MB hcl hhas f hlt
 have loop:∀s₃:Shared,s₃={ s with heap:=h₁,toks:=s.toks+([]:List (Str×Value)).length }->
   codeAny (model X.prog X.w) X.A (.compLoop (.ListComp elt [⟨tg,iter,ifs,0⟩] scope pos) 0 (.ref it) (.ref s.heap.objs.size) (compEnvC scope (df X.env fs) H2.objs.size X.env))
    (RR (.ref s.heap.objs.size) H2.objs.size) s₃:=by
  rintro s₃ rfl
  have I0:=yB (own:=own) (fr:=fr) (t':=s.toks+([]:List (Str×Value)).length) I ok MB (Nat.le_refl _) hDC hcl old MA hacc hlen hN hF
  have Qg:tn 0 h₁:=T.keep 0 _ _ st fun b _ o e=>old b o e
  have stat:∀{us:Vv} {H':Hp},(∀b∈fp,H' b=none)->∀b∈fp,ft (X.Ix N scope fs ⟨H2.objs.size,s,H,fp,X.pn++pins⟩) [(s.heap.objs.size,kz us)] H' b:=fun{us H'} hn b hb=>by
   obtain⟨f0,f1,f2,f3,f4,f5⟩:=f b hb
   refine⟨hn b hb,(below b (hlt b hb)).1,fun z=>(List.mem_cons.mp (I.Jh b z)).elim f1 f2,.inl hb,fun x c e=>f4 x c (lh hcl e),fun p hp=>?_⟩
   rcases List.mem_append.mp hp with z|z
   ·exact f5 p z
   ·have z':p=(s.heap.objs.size,kz us):=by simpa using z
    subst z'
    exact Ne.symm (below b (hlt b hb)).2
  have Og:∀p∈X.pn++pins,p.1 < s.heap.objs.size:=fun p hp=>Heap.lt_size (I.pin p hp).1
  refine oE (fun k s'=>∃i ys us H',Inv (X.Ix N scope fs ⟨H2.objs.size,s,H,fp,X.pn++pins⟩) [(s.heap.objs.size,kz us)] (fH own fr σ) H' s'/\Vals ys us/\tn i s'.heap/\(∀b∈fp,H' b=none)/\Wv i k ys H') ?_ m0
   ⟨0,[],[],H,I0,.nil,Qg,fun b hb=>(f b hb).1,w0⟩
  rintro n s' ⟨i,ys,us,H',I',rv,st',Pl,w'⟩
  rcases turn i n ys H' w' with⟨stop,hz,Oh⟩|⟨go,hz,Nx,Pm,step⟩
  ·refine F9 (T.done (X.Ix N scope fs ⟨H2.objs.size,s,H,fp,X.pn++pins⟩) rfl rfl rfl hc i _ s' _ H' (fun _ _=>False) I' (stat Pl) st' stop) (fun r s1 ⟨hr,I1⟩=>?_)
   subst hr
   show RR _ _ (.ok .next) s1
   have IX:Inv X pins σ H' s1:=I.Na I1.os I1.base I1.hok I1.bare fun b hb=>by
    obtain⟨f0,f1,f2,f3,f4,f5⟩:=f b hb
    exact⟨f3,f1,f4,f5⟩
   obtain⟨eD,nD,_⟩:=I1.pin (s.heap.objs.size,kz us) (by simp)
   have IT:=IX.Nf (I.IC (H':=H') (Nat.le_refl _) nD) eD rv hz
   obtain⟨m',hn',_⟩:=I1.loc
   exact hRR _ _ s1 ys H' m' IT nD hn' (I.IC MB (by rw[aI (Ne.symm hDC)];exact I1.free)) Oh
  ·refine F9 (T.item (X.Ix N scope fs ⟨H2.objs.size,s,H,fp,X.pn++pins⟩) rfl rfl rfl hc i _ s' _ H' (fun _ _=>False) I' (stat Pl) st' go) (fun r s1 ⟨u,hr,h1⟩=>?_)
   subst hr
   show wpAny _ _ (letOwnedTupleGo tg (.ref it) u) _ _ s1
   refine F9 h1 (fun _ s5 ⟨x,H5,I5,r5,y5,LW,N1⟩=>?_)
   have N4:=I5.pinned (stat N1) (T.obj _ _ LW)
   refine F9 (hg _ _ s5 _ H5 x u _ N4 r5 (step x H5 y5)) (fun _ s6 ⟨σ6,H6,I6,Qh,q6⟩=>?_)
   refine F9 (hf _ _ s6 σ6 H6 _ I6 q6) (fun b s7 ⟨H7,I7,q7⟩=>?_)
   -- MC the turn's own names
   have forget:∀{H8:Hp} {s8:Shared} {pl:Va},Inv (X.Ix N scope fs ⟨H2.objs.size,s,H,fp,X.pn++pins⟩) pl σ6 H8 s8->Inv (X.Ix N scope fs ⟨H2.objs.size,s,H,fp,X.pn++pins⟩) pl (fH own fr σ) H8 s8:=fun{H8 s8 pl} I8=>by
    refine I8.weak (I0.len.trans I8.len.symm) fun j v e=>?_
    by_cases hj:j < own
    ·unfold fH at e
     rw[List.getElem?_append_left (by rw[List.length_replicate];exact hj),List.getElem?_replicate,if_pos hj]at e
     cases e
    ·obtain⟨k,rfl⟩:∃k,j=own+k:=⟨j - own,by omega⟩
     rw[<-List.getElem?_drop]at e ⊢
     rw[Qh]
     exact e
   have NA:∀{H8:Hp} {s8:Shared},Inv (X.Ix N scope fs ⟨H2.objs.size,s,H,fp,X.pn++pins⟩) ([(s.heap.objs.size,kz us)]++lU fp s5.heap) σ6 H8 s8->∀b∈fp,∀o,s5.heap.get? b=some o->s8.heap.get? b=some o/\H8 b=none:=fun I8 b hb o e=>
    let z:=I8.pin (b,o) (List.mem_append_right _ (List.mem_append_right _ (i9 hb e)))
    ⟨z.1,z.2.1⟩
   cases b with
   |false=>
    show ∃m,m < n/\_
    obtain⟨m',hm,w7⟩:=Pm _ _ (show Nx ys H7 from q7)
    refine⟨m',hm,i+1,ys,us,H7,(forget I7).IZ,rv,T.keep _ _ _ LW fun b hb o e=>(NA I7 b hb o e).1,fun b hb=>?_,w7⟩
    obtain⟨o,e,_⟩:=T.obj _ _ LW b hb
    exact(NA I7 b hb o e).2
   |true=>
    show wpAny _ _ (eval elt _) _ _ s7
    have Qi:te σ6 H7 fun y H4=>Nx (ys++[y]) H4:=q7
    refine F9 (he _ _ s7 σ6 H7 _ I7 Qi) (fun v s8 ⟨y,H8,I8,r8,n8⟩=>?_)
    obtain⟨m',hm,w8⟩:=Pm _ _ n8
    obtain⟨eD,nD,Pn,Qj,_⟩:=I8.pin (s.heap.objs.size,kz us) (List.mem_append_right _ (List.mem_append_left _ (by simp)))
    refine append_at (hsz:=by show us.toArray.size<=sizeLine;rw[List.size_toArray,<-rv.length];exact hz) eD fun h9 NB Qk=>?_
    have J0:Inv (X.Ix N scope fs ⟨H2.objs.size,s,H,fp,X.pn++pins⟩) [] σ6 H8 s8:=I8.JE fun p hp=>nomatch hp
    have J1:Inv (X.Ix N scope fs ⟨H2.objs.size,s,H,fp,X.pn++pins⟩) [] σ6 H8 { s8 with heap:=h9 }:=J0.turned (t':=s8.toks) (it:=s.heap.objs.size) (fun b o hb e=>(NB.2 b hb).trans e) nD Pn (.inr (Nat.le_refl _))
     (fun x c e z=>by
      obtain⟨v',q⟩:=I.cell x c (lh hcl e)
      exact absurd (Nat.lt_of_lt_of_le q.lt (by rw[z];exact Nat.le_refl _)) (Nat.lt_irrefl _))
     (fun p hp=>by
      rw[List.append_nil]at hp
      exact Nat.ne_of_lt (Og p hp))
    have J2:Inv (X.Ix N scope fs ⟨H2.objs.size,s,H,fp,X.pn++pins⟩) [(s.heap.objs.size,kz (us++[v]))] σ6 H8 { s8 with heap:=h9 }:=J1.JE fun p hp=>by
     have z':p=(s.heap.objs.size,kz (us++[v])):=by simpa using hp
     subst z'
     exact⟨Qk.trans (congrArg some (um us v)),nD,Pn,Qj,fun v z=>by cases z⟩
    refine⟨m',hm,i+1,ys++[y],us++[v],H8,forget J2,Vals.append rv (.cons r8 .nil),T.keep _ _ _ LW fun b hb o e=>(NB.2 b (below b (hlt b hb)).2).trans (NA I8 b hb o e).1,fun b hb=>?_,w8⟩
    obtain⟨o,e,_⟩:=T.obj _ _ LW b hb
    exact(NA I8 b hb o e).2
 exact codeAny_compStart_list (loop _ rfl) (T.self _ 0 _ _ _ (T.keep 0 _ _ st fun b _ o e=>old b o e) (loop _ rfl))
def vI(wi:TI)(g:TG)(tc:TT)(te:TE)(own:Nat)(fr:List Nat):TE:=fun σ H Q=>wi σ H fun J H1=>
 zV J g tc te own (fH own fr σ) (fun ys H2=>∀D,H2 D=none->Q (.ref D) (upd H2 D (.lst ys))) H1
def yC(fs:Vs)(own:Nat)(fr:List Nat)(N:Vs){wi:TI}(hc:X.calm=true)(hclos:closureFor scope X.env=pure (df X.env fs))(hcell:∀y∈scope.names,y.2 ≠ .cell)(hkind:scope.kind = .function)
  (hnames:∀x∈scope.names,x.2 = .local->scope.names.lookup x.1=some .local) (hcl:cQ X.env fs) (hhas:oF (relabel scope X.env).names (df X.env fs)=true)
  (hlen:N.length=own+fr.length) (hN:(N.drop own).map some=fr.map fun j=>X.N[j]?) (hF:G3 X.env scope (df X.env fs) (N.drop own))
  (hi:PI X tg iter wi) (hg:∀B,PG (X.Ix N scope fs B) tg g) (hf:∀B,PF (X.Ix N scope fs B) ifs tc) (he:∀B,PE (X.Ix N scope fs B) elt te)
  (hs:∀x,foldedSetIterable iter X.env x=pure x:=by intro _;rfl):PE X (.ListComp elt [⟨tg,iter,ifs,0⟩] scope pos) (vI wi g tc te own fr):=by
 intro pins s σ H Q I h
 rw[eval_ListComp]
 refine wpAny_comprehension_free (use:=none) (g:=⟨tg,iter,ifs,0⟩) (gs:=[]) rfl hs hclos hkind hnames (F9 (hi pins s σ H _ I h) fun v s1 h1=>F9 h1 fun itv s2 h2=>?_)
 obtain⟨it,fp,tn,J,H2,e,I2,T,st2,f2,W⟩:=h2
 subst e
 refine l4 (RR:=fun acc C=>compPost (model X.prog X.w) X.A X.xe none (EP X pins σ Q) acc C) hc hcell hkind hcl hhas hlen hN hF hg hf he I2 T st2 f2 W ?_
 intro D C s' ys H' m' I' nD hn fC fin
 exact⟨m',hn,fun h' hs'=>⟨.ref D,_,I'.turned (t':=s'.toks) (fun b o hb e=>(hs'.2 b hb).trans e) fC.1 fC.2.1 fC.2.2.2.1 fC.2.2.2.2.1 fC.2.2.2.2.2,rfl,fin D nD⟩⟩
def yD(fs:Vs)(own:Nat)(fr:List Nat)(N:Vs){wi:TI}{i:Nat}{y:Str}{py spos:Pos}(hX:X.N.Nodup)(hix:X.N[i]?=some y)(hy:X.env.scope.names.lookup y=some .local)
  (hsw:swapsWith (.ListComp elt [⟨tg,iter,ifs,0⟩] scope pos) (some (.Name y py)) spos.line X.env=pure true)
  (hc:X.calm=true) (hclos:closureFor scope X.env=pure (df X.env fs)) (hcell:∀y∈scope.names,y.2 ≠ .cell) (hkind:scope.kind = .function)
  (hnames:∀x∈scope.names,x.2 = .local->scope.names.lookup x.1=some .local) (hcl:cQ X.env fs) (hhas:oF (relabel scope X.env).names (df X.env fs)=true)
  (hlen:N.length=own+fr.length) (hN:(N.drop own).map some=fr.map fun j=>X.N[j]?) (hF:G3 X.env scope (df X.env fs) (N.drop own))
  (hi:PI X tg iter wi) (hg:∀B,PG (X.Ix N scope fs B) tg g) (hf:∀B,PF (X.Ix N scope fs B) ifs tc) (he:∀B,PE (X.Ix N scope fs B) elt te)
  (hs:∀x,foldedSetIterable iter X.env x=pure x:=by intro _;rfl):PS X (.Assign [.Name y py] (.ListComp elt [⟨tg,iter,ifs,0⟩] scope pos) spos) (yf (vI wi g tc te own fr) (pZ i)):=by
 intro pins s σ H D I h
 rw[exec_Assign_Name_used _ _ _ _ hsw]
 refine wpAny_bind (wpAny_standAt (wpAny_bind ?_))
 show wpAny _ X.A (do let _ <-comprehension (.ListComp elt [⟨tg,iter,ifs,0⟩] scope pos) scope X.env _ (newList []) false (eval iter X.env) (some (assign (.Name y py) X.env))) _ _ s
 refine wpAny_bind (wpAny_mono (wpAny_comprehension_free (use:=some (assign (.Name y py) X.env)) (Q:=fun _ s'=>SP X pins D .next s') (g:=⟨tg,iter,ifs,0⟩) (gs:=[]) rfl hs hclos hkind hnames
  (F9 (hi pins s σ H _ I h) fun v s1 h1=>F9 h1 fun itv s2 h2=>?_)) (fun _ s' hq=>wpAny_pure (wpAny_pure hq)) fun _ _ e=>e)
 obtain⟨it,fp,tn,J,H2,e,I2,T,st2,f2,W⟩:=h2
 subst e
 refine l4 (RR:=fun acc C=>compPost (model X.prog X.w) X.A X.xe (some (assign (.Name y py) X.env)) (fun _ s'=>SP X pins D .next s') acc C) hc hcell hkind hcl hhas hlen hN hF hg hf he I2 T st2 f2 W ?_
 intro Da C s' ys H' m' I' nD hn fC fin
 show wpAny _ X.A (assign (.Name y py) X.env (.ref Da)) _ _ s'
 refine wpAny_assign_Name (nG (v:=.ref Da) I' hX hix (.inl hy) rfl (fun s2 I3 ⟨a,sb,ha⟩=>?_) (.inr hy))
 have ca:C≠a:=by
  rcases ha with z|z
  ·rw[z];exact fC.2.1
  ·exact Ne.symm (fC.2.2.2.2.1 _ _ z)
 exact⟨m',hn.sameBut sb ca,fun h' hs'=>⟨_,_,I3.turned (t':=s2.toks) (fun b o hb e=>(hs'.2 b hb).trans e) fC.1 fC.2.1 fC.2.2.2.1 fC.2.2.2.2.1 fC.2.2.2.2.2,fin Da nD⟩⟩
end
end L2
namespace PySem
open Sem (wp)
namespace F
def uo:typeLookup (.type "list_reverseiterator") "__len__" = pure none:=by rw[typeLookup_type,builtinLookup_eq_fast];kernel_rfl
def vJ:typeLookup (.type "list_reverseiterator") "__length_hint__" = pure (some (.builtin "list_reverseiterator.__length_hint__")):=by rw[typeLookup_type,builtinLookup_eq_fast];kernel_rfl
end F
section
variable {prog:Program} {w:World} {A:Around} {s:Shared} {R:Result->Shared->Prop}
variable {I:Addr} {fp wr:List Addr} {G:Array GenState->Array GenState->Prop} {n:Nat} {P:Nat->Value->Prop} {St:Nat->Shared->Prop}
def rK(W:WalksS prog w A.in1 I fp wr G n P St)(hT:∀i s,St i s->s.TypeIs (.ref I) "list_reverseiterator")(S:Addr)(res:Value)(c₀:Nat)(hst:St 0 s)(hSf:S ∉ fp)(hI:I∈fp)
  (hS:s.heap.get? S=some { cls:=.type "list",data:=.seq #[] c₀ })
  (hR:∀s' acc' c',Moved (S::wr) G s s'->s'.heap.get? S=some { cls:=.type "list",dict:=none,data:=.seq acc' c',slots:=#[] }->ItemsOf P acc' n->R (.ok (.ret res)) s') (hn:n<=sizeLine) :
  wpAny (model prog w) A.in1 (Builtin.List.listExtendWith (.ref S) (.ref I) res)
   (fun fin s'=>match fin with | .done f=>R (.ok f) s' | .again c'=>c'.quiet=true/\codeAny (model prog w) A c' R s') (fun e s'=>R (.error e) s') s:=by
 have hSI:S≠I:=fun e=>hSf (e▸hI)
 have h1:Builtin.List.listSameRef (.ref S) (.ref I)=false:=by simp[Builtin.List.listSameRef,hSI]
 unfold Builtin.List.listExtendWith
 refine wpAny_bind (wpAny_typeOf (hT 0 _ hst) ?_)
 rw[if_neg (by rw[h1];decide)]
 refine wpAny_bind (W.self 0 _ _ _ hst ?_)
 refine wpAny_bind (wpAny_holding ?_)
 unfold Builtin.List.listLengthHint
 refine wpAny_bind (wpAny_specialOf (hT 0 _ hst) F.uo ?_)
 show wpAny _ A.in1 (specialOf (Value.ref I) (Str.ofString "__length_hint__") >>= _) _ _ _
 refine wpAny_bind (wpAny_specialOf (hT 0 _ hst) F.vJ ?_)
 (generalize hid:("list_reverseiterator.__length_hint__":String)=Ql;wp_delta;rw[show splitId Ql=some ("list_reverseiterator","__length_hint__")from by subst hid;decide +kernel];subst hid)
 refine wpAny_bind (wpAny_isInstance (b:=true) (hT 0 _ hst) (by rw[isSubtype_type];kernel_rfl) ?_)
 refine wpAny_pure ?_
 rw[if_neg (by decide)]
 exact wpAny_pure ⟨plainId_quiet F.plain_extend_loop _,codeAny_extend_loopS W hn _ hSf _ n 0 _ _ _ rfl (Nat.zero_le _) hst hS (ItemsOf.nil P) fun s' acc' c' hm hS' hacc=>hR s' acc' c' hm hS' hacc⟩
def ng(W:WalksS prog w A.in1 I fp wr G n P St)(hT:∀i s,St i s->s.TypeIs (.ref I) "list_reverseiterator")(S:Addr)(hst:St 0 s)(hSf:S ∉ fp)(hI:I∈fp)
  (hS:s.heap.get? S=some { cls:=.type "list",data:=.seq #[] })
  (hR:∀s' acc' c',Moved (S::wr) G s s'->s'.heap.get? S=some { cls:=.type "list",dict:=none,data:=.seq acc' c',slots:=#[] }->ItemsOf P acc' n->R (.ok (.ret .none)) s') (hn:n<=sizeLine) :
  wpAny (model prog w) A.in1 (Builtin.«list.__init__» ⟨[.ref S,.ref I],[]⟩)
   (fun fin s'=>match fin with | .done f=>R (.ok f) s' | .again c'=>c'.quiet=true/\codeAny (model prog w) A c' R s') (fun e s'=>R (.error e) s') s:=by
 show wpAny _ A.in1 (do let old <-Builtin.List.listItems (.ref S);Builtin.List.listUpdate (.ref S) (fun _=>#[]);letGo old.toList.reverse;Builtin.List.listExtendWith (.ref S) (.ref I) .none) _ _ s
 refine wpAny_bind ?_
 unfold Builtin.List.listItems
 refine wpAny_bind (wpAny_seqItems hS rfl (wpAny_pure ?_))
 show wpAny _ A.in1 (updateSeq S (fun _=>#[]) >>= fun _=>letGo (#[]:Vw).toList.reverse >>= fun _=>Builtin.List.listExtendWith (.ref S) (.ref I) .none) _ _ s
 refine wpAny_bind (wpAny_updateSeq hS rfl ?_)
 have NC:=Heap.get?_update_self (Obj.mapSeq (fun _=>(#[]:Vw))) hS rfl
 have IF:∀b o,b≠S->s.heap.get? b=some o->(s.heap.update S (Obj.mapSeq (fun _=>(#[]:Vw)))).get? b=some o:=
  fun b o hb e=>(Heap.get?_update_other _ _ (Ne.symm hb)).trans e
 refine wpAny_bind (wpAny_letGo ?_)
 refine rK (hn:=hn) W hT S .none _ (W.frame 0 s _ s.toks hst (Nat.le_refl _) fun b hb o e=>IF b o (fun h=>hSf (h▸hb)) e) hSf hI NC fun s' acc' c' hm hS' hacc=>?_
 exact hR s' acc' c' (Moved.trans W.gtrans ((Moved.refl W.grefl).then_heap (Nat.le_refl _) fun b o hb e=>IF b o (fun h=>hb (h▸List.mem_cons_self)) e) hm) hS' hacc
end
section
variable {prog:Program} {w:World} {A:Around} {E:Vq} {s:Shared}
def nh{I l:Addr}{items:Vw}{Q:Vq}(hh:A.handled=none)(hl:s.heap.IsList l items)(hit:s.heap.IsRevIter I l ((items.size:Int) - 1))(hne:l≠I)(hn:items.size<=sizeLine)
  (hQ:∀h' tk acc' c',(∀b o,b≠I->s.heap.get? b=some o->h'.get? b=some o)->h'.get? s.heap.objs.size=some { cls:=.type "list",dict:=none,data:=.seq acc' c',slots:=#[] }->
   acc'.toList=items.toList.reverse->Q (.ref s.heap.objs.size) { s with heap:=h',toks:=tk }) :
  wpAny (model prog w) A (call (.type "list") [.ref I]) Q E s:=by
 have W:=(Walks.listRev (prog:=prog) (w:=w) (A:=A.in1.in1) hh I l hne items).toS
 have Oi:I < s.heap.objs.size:=by obtain⟨o,ho,_⟩:=hit;exact Heap.lt_size ho
 have Oj:l < s.heap.objs.size:=by obtain⟨o,ho,_⟩:=hl;exact Heap.lt_size ho
 have hfp:∀b∈[I,l],b < s.heap.objs.size:=fun b hb=>by
  rcases List.mem_cons.mp hb with rfl|hb
  ·exact Oi
  ·rw[List.mem_singleton.mp hb];exact Oj
 have hSf:s.heap.objs.size ∉ [I,l]:=fun hm=>Nat.lt_irrefl _ (hfp _ hm)
 have hst:(fun i (s:Shared)=>i<=items.size/\s.heap.IsRevIter I l ((items.size:Int) - 1 - (i:Int))/\s.heap.IsList l items) 0 s:=⟨Nat.zero_le _,by simpa using hit,hl⟩
 refine callType_codes (Q₁:=fun obj s₁=>obj = .ref s.heap.objs.size/\s₁={ s with heap:=s.heap.push { cls:=.type "list",data:=.seq #[] } }) F.called_list (F.typeCall_list_1 _) F.entry_list_init
  (code_list_new _ ⟨rfl,rfl⟩) fun obj s₁ h₁=>?_
 obtain⟨rfl,rfl⟩:=h₁
 have hS:(s.heap.push { cls:=.type "list",data:=.seq #[] }).get? s.heap.objs.size=some { cls:=.type "list",data:=.seq #[] }:=Heap.get?_push_size _ rfl
 refine⟨⟨_,hS,rfl⟩,F.args_list_init_2 _ _,ng (hn:=hn) W (fun i s st=>st.2.1.typeIs) _ (W.frame 0 s _ s.toks hst (Nat.le_refl _) fun b _ o e=>Heap.get?_push_of_some _ e) hSf (List.mem_cons_self ..) hS fun s' acc' c' hm hS' hacc=>?_⟩
 refine⟨rfl,?_⟩
 rw[hm.eq_with]
 refine hQ s'.heap s'.toks acc' c' (fun b o hb e=>hm.heap b o (fun z=>?_) (Heap.get?_push_of_some _ e)) hS' ?_
 ·rcases List.mem_cons.mp z with z|z
  ·exact absurd (Heap.lt_size e) (by rw[z];exact Nat.lt_irrefl _)
  ·exact hb (List.mem_singleton.mp z)
 ·obtain⟨hsz,hP⟩:=hacc
  apply List.ext_getElem?
  intro j
  by_cases hj:j < items.size
  ·have hj':j < acc'.size:=by rw[hsz];exact hj
   have q:=hP j acc'[j] (by simp[hj'])
   have e1:acc'.toList[j]?=some acc'[j]:=by simp[hj']
   rw[e1,List.getElem?_reverse (by simpa using hj)]
   simpa using q.symm
  ·rw[List.getElem?_eq_none (by simpa [hsz]using hj),List.getElem?_eq_none (by simpa using hj)]
end
end PySem
namespace L2
open PySem PySem.Spec PyProof.Rows
section
variable {X:Cx}
def vK(K:Vo)(te:TE):TE:=fun σ H Q=>te σ H fun x H1=>∃a xs,x = .ref a/\SqL K H1 a xs/\∀q,H1 q=none->Q (.ref q) (upd H1 q (.lst xs.reverse))
def rL{e:Expr}{te:TE}{p1 p2 q1 q2:Pos}(hc:X.calm=true)(he:PE X e te)(MD:Gl X "list")(hm1:X.mg "list" = none)(LZ:Gl X "reversed")(hm2:X.mg "reversed" = none)
  (hs:starEach [e] X.env=[(false,eval e X.env)]:=by rfl) (hs2:starEach [.Call (.Name "reversed" p2) [e] [] q2] X.env=[(false,eval (.Call (.Name "reversed" p2) [e] [] q2) X.env)]:=by rfl) :
  PE X (.Call (.Name "list" p1) [.Call (.Name "reversed" p2) [e] [] q2] [] q1) (vK X.K te):=by
 intro pins s σ H Q I h
 refine wpAny_Call_Name_kw (eG I MD hm1 (u:=.type "list") (by decide +kernel) ?_)
 refine PyProof.Rows.callWith_type1 ?_ hs2 rfl
 rw[hs2]
 show wpAny _ _ (spliced ((false,eval (.Call (.Name "reversed" p2) [e] [] q2) X.env)::backTo q1 [])) _ _ s
 refine Calls.spliced_cons ?_
 refine wpAny_Call_Name_kw (eG I LZ hm2 (u:=.type "reversed") boot_reversed ?_)
 refine PyProof.Rows.callWith_type1 ?_ hs rfl
 rw[hs]
 show wpAny _ _ (spliced ((false,eval e X.env)::backTo q2 [])) _ _ s
 refine Calls.spliced_cons (F9 (he pins s σ H _ I h) fun u s1 ⟨x,H1,I1,r1,a,xs,ex,hx,q⟩=>?_)
 subst ex
 cases r1
 obtain⟨its,rv,p,hz⟩:=I1.list hx
 have hl:=rv.length
 have hal:a < s1.heap.objs.size:=by obtain⟨o,ho,_⟩:=p.isList;exact Heap.lt_size ho
 refine Calls.spliced_nil (call_reversed_list p.isList ?_)
 refine Calls.spliced_nil ?_
 refine nh (I.ok.hd hc) (p.isList.push _) ⟨_,Heap.get?_push_size _ rfl,rfl,rfl⟩ (Nat.ne_of_lt hal) (by rw[List.size_toArray,<-hl];exact hz) fun h' tk acc c hk hS ha=>?_
 have hsz:(s1.heap.push (revObj a ((its.toArray.size:Int) - 1))).objs.size=s1.heap.objs.size+1:=Heap.size_push _ _
 have hle:s1.heap.objs.size<=(s1.heap.push (revObj a ((its.toArray.size:Int) - 1))).objs.size:=by rw[hsz];exact Nat.le_succ _
 refine⟨.ref _,_,I1.laid (a:=(s1.heap.push (revObj a ((its.toArray.size:Int) - 1))).objs.size) (o:=.lst xs.reverse) (h':=h') (t':=tk) (fun b u e=>hk b u (Nat.ne_of_lt (Heap.lt_size e)) (Heap.get?_push_of_some _ e)) hle ?_,rfl,q _ (I1.hok.fresh hle)⟩
 refine⟨by rw[List.length_reverse];exact hz,its.reverse,c,Vals.reverse rv,?_⟩
 rw[hS]
 have e:acc=its.reverse.toArray:=by
  apply Array.toList_inj.mp
  rw[ha]
 rw[e]
end
section
variable {X:Cx}
end
section
variable {X:Cx}
noncomputable abbrev oG(c:Nat):Str:=⟨#[c]⟩
noncomputable def EX(z:Str):It:=⟨fun i _=>i < z.cps.size,fun i H x H'=>H'=H/\∃c,z.cps[i]?=some c/\x = .str (oG c),fun i _=>z.cps.size<=i⟩
def vL{P:Program}{w:World}{K:Vo}{tg:Expr}{ty:String}(hty:ty = "str_ascii_iterator" \/ ty = "str_iterator")(it:Addr)(z:Str)(t:Tok):m8 P w K tg (EX z) [it] it (fun i h=>i<=z.cps.size/\h.IsStrIter it ty z t i):=by
 have W:∀A':Around,A'.handled=none->Walks P w A' it [it] [it] z.cps.size (SignAt z) (fun i h=>h.IsStrIter it ty z t i):=fun A' hA=>by
  rcases hty with rfl|rfl
  ·exact Walks.strAscii hA it z t
  ·exact Walks.strWide hA it z t
 have nt:(["enumerate","zip","dict_itemiterator","dict_reverseitemiterator","odict_iterator","itertools.zip_longest","itertools.pairwise"].contains ty)=false:=by
  rcases hty with rfl|rfl<;>decide
 refine⟨by simp,fun i h st b hb=>?_,fun i h h' st k=>?_,?_,?_,?_⟩
 ·have e:b=it:=by simpa using hb
  subst e
  obtain⟨_,o,e,c,d⟩:=st
  exact⟨o,e,fun v q=>by rw[d]at q;cases q⟩
 ·obtain⟨hi,o,e,r⟩:=st
  exact⟨hi,o,k it (by simp) o e,r⟩
 ·intro X hP hw hK hc i pins s σ H E I hf st hg
  subst hP hw hK
  obtain⟨f0,f1,f2,f3,f4,f5⟩:=hf it (by simp)
  refine(W X.A (I.ok.hd hc)).item i s _ _ hg st.2 fun v h' tk hv st' kk=>?_
  obtain⟨c,u,hcp,rfl⟩:=hv
  have I1:Inv X pins σ H { s with heap:=h',toks:=tk }:=I.turned (fun b o hb e=>kk b o (by simpa using hb) e) f0 f1 f3 f4 f5
  obtain⟨o,e,co,d⟩:=id st'
  exact⟨_,rfl,k9 (s:={ s with heap:=h',toks:=tk }) e co d nt ⟨.str (oG c),H,I1,⟨u,rfl⟩,⟨rfl,c,hcp,rfl⟩,⟨hg,st'⟩,fun b hb=>(hf b hb).1⟩⟩
 ·intro X hP hw hK hc i pins s σ H E I hf st hg
  subst hP hw hK
  obtain⟨f0,f1,f2,f3,f4,f5⟩:=hf it (by simp)
  have e:i=z.cps.size:=Nat.le_antisymm st.1 hg
  subst e
  exact(W X.A (I.ok.hd hc)).done s _ _ st.2 fun h' tk kk=>⟨rfl,I.turned (fun b o hb e=>kk b o (by simpa using hb) e) f0 f1 f3 f4 f5⟩
 ·intro A i s Q E st h
  rcases hty with rfl|rfl
  ·exact wpAny_pyIter_striter_ascii st.2 h
  ·exact wpAny_pyIter_striter_wide st.2 h
def yE{ys:Vs}:∀{us:Vv},Vals (ys.map V.str) us->StrsAre us ys:=by
 induction ys with
 |nil=>intro us r;rw[List.map_nil]at r;cases r;exact .nil
 |cons n ns ih=>
  intro us r
  rw[List.map_cons]at r
  cases r with
  |cons r1 r2=>
   obtain⟨t,e⟩:=r1
   subst e
   exact .cons n t (ih r2)
noncomputable def C4(K:Vo):V->List V->Hp->VK->Prop:=fun x vs H Q=>∃sep p ys,x = .str sep/\vs=[.ref p]/\SqL K H p (ys.map V.str)/\(ys.map (·.length)).sum+ys.length * sep.length<=1000000/\Q (.str (Txt.join sep ys)) H
def yF:Bb X "str.join" (C4 X.K):=by
 intro pins s σ H x vs v us Q I rx rv h
 obtain⟨sep,p,ys,rfl,rfl,hp,hz,q⟩:=h
 obtain⟨t,rfl⟩:=rx
 obtain⟨u,rfl,ru⟩:=fE rv
 cases ru
 obtain⟨its,r,pl,_⟩:=I.list hp
 exact join_list pl.isList (by simpa using yE r) (by omega) fun t' k=>⟨.str _,H,I.tok k,⟨t',rfl⟩,q⟩
def uq(hc:X.calm=true):gM X (.builtin "all") (fun xs H Q=>∃(p:Addr) (bs:List Bool),xs=[.ref p]/\SqL X.K H p (bs.map V.bl)/\Q (.bl (bs.all id)) H):=by
 intro pins s σ H xs us Q I r h
 obtain⟨p,bs,rfl,hp,q⟩:=h
 obtain⟨u,rfl,rx⟩:=fE r
 cases rx
 obtain⟨its,rv,pl,hz⟩:=I.list hp
 have hl:=rv.length
 rw[List.length_map]at hl
 have hlt:p < s.heap.objs.size:=by obtain⟨o,ho,_⟩:=pl.isList;exact Heap.lt_size ho
 refine call_all_walk (wpAny_pyIter_list pl.isList ?_)
 have up:∀b o,s.heap.get? b=some o->(s.heap.push { cls:=.type "list_iterator",data:=.fields #[.ref p,.int 0 0] }).get? b=some o:=fun b o e=>Heap.get?_push_of_some _ e
 refine⟨s.heap.objs.size,_,_,_,_,_,fun i=>(bs[i]?).getD true,rfl,Walks.list (A:=X.A.in1) (I.ok.hd hc) s.heap.objs.size p (Nat.ne_of_lt hlt) its.toArray,⟨⟨_,Heap.get?_push_size _ rfl,rfl,rfl⟩,pl.isList.push _⟩,?_,fun h' tk hk=>?_⟩
 ·intro i v s' Q' E' hv hq
  have hi:i < its.length:=by
   by_cases z:i < its.length
   ·exact z
   ·rw[Array.getElem?_eq_none (by simpa using z)]at hv;cases hv
  obtain⟨u',e1,r1⟩:=rv.get (i:=i) (x:=.bl bs[i]) (by rw[List.getElem?_map,List.getElem?_eq_getElem (by omega)];rfl)
  have e2:v=u':=by
   have z:its[i]?=some v:=by simpa using hv
   rw[z]at e1;exact Option.some.inj e1
  subst e2
  cases (show v=Value.bool bs[i] from r1)
  refine wpAny_truthy_bool ?_
  have hq':Q' ((bs[i]?).getD true) s':=hq
  rw[List.getElem?_eq_getElem (show i < bs.length by omega)]at hq'
  exact hq'
 ·have e:(List.range its.toArray.size).all (fun i=>(bs[i]?).getD true)=bs.all id:=by
   rw[List.size_toArray,<-hl,Bool.eq_iff_iff,List.all_eq_true,List.all_eq_true]
   constructor
   ·intro h1 x hx
    obtain⟨j,hj,e⟩:=List.getElem_of_mem hx
    have q1:=h1 j (List.mem_range.mpr hj)
    rw[List.getElem?_eq_getElem hj]at q1
    rw[<-e];exact q1
   ·intro h1 j hj
    have hj':=List.mem_range.mp hj
    rw[List.getElem?_eq_getElem hj']
    exact h1 _ (List.getElem_mem hj')
  rw[e]
  exact⟨.bl _,H,(I.kept (t':=tk) (h':=h') fun b o eo=>hk b o (by
   intro hm
   have hb:b=s.heap.objs.size:=by simpa using hm
   exact absurd (Heap.lt_size eo) (by rw[hb];exact Nat.lt_irrefl _)) (up b o eo)),rfl,q⟩
end
section
variable {X:Cx}
noncomputable def EY:V->Option Int->Option Int->Hp->VK->Prop:=fun x lo hi H Q=>∃z,x = .str z/\z.length<=sizeLine/\Q (.str (Txt.slice z lo hi)) H
def Br:Ce X EY:=by
 intro pins s σ H x v vl vu lo hi sl Q I rx hs pl pu h
 obtain⟨z,rfl,hz,q⟩:=h
 obtain⟨t,rfl⟩:=rx
 refine⟨"str",_,F.slot_str_getitem.lookup,typeIs_str _ _ _,?_⟩
 obtain⟨o,e,c,d⟩:=hs
 have fin:∀l u:Option (Int×Tok),(vl=partValue l/\lo=l.map (·.1))->(vu=partValue u/\hi=u.map (·.1))->wpAny (model X.prog X.w) X.A (getItem (.str z t) (.ref sl)) (EP X pins σ Q) X.xe s:=by
  rintro l u ⟨rfl,rfl⟩ ⟨rfl,rfl⟩
  exact wpAny_getItem_str_slice (l:=l) (u:=u) (st:=none) ⟨o,e,c,d⟩ rfl (post_val_or_str ⟨Nat.le_trans (Txt.slice_le z _ _) hz,fun t' k=>⟨.str _,H,I.tok k,⟨t',rfl⟩,q⟩⟩)
 cases pl with
 |none=>
  cases pu with
  |none=>exact fin none none ⟨rfl,rfl⟩ ⟨rfl,rfl⟩
  |int j uj=>exact fin none (some (j,uj)) ⟨rfl,rfl⟩ ⟨rfl,rfl⟩
 |int i ui=>
  cases pu with
  |none=>exact fin (some (i,ui)) none ⟨rfl,rfl⟩ ⟨rfl,rfl⟩
  |int j uj=>exact fin (some (i,ui)) (some (j,uj)) ⟨rfl,rfl⟩ ⟨rfl,rfl⟩
noncomputable def Bs:V->List V->Hp->VK->Prop:=fun x vs H Q=>∃a b i rest,x = .str a/\vs=[.str b]/\Builtin.Str.occurrences a b 0 a.length 1=i::rest/\Q (.int i) H
def vM:Bb X "str.index" Bs:=by
 intro pins s σ H x vs v us Q I rx rv h
 obtain⟨a,b,i,rest,rfl,rfl,ho,q⟩:=h
 obtain⟨t,rfl⟩:=rx
 obtain⟨w,rfl,u,rfl⟩:=fE rv
 exact call_gives F.slot_str_index (typeIs_str _ _ _) F.entry_str_index (F.args_str_index_2 _ _) (gives_str_index a b t u i rest ho) ⟨.int i,H,I.tok _,⟨_,rfl⟩,q⟩
def Bt(K:Vo)(i j k:Nat)(te:TE):TS:=fun D σ H=>te σ H fun x H1=>∃p v w u,x = .ref p/\SqT K H1 p [v,w,u]/\D.nx (((σ.set k (some u)).set j (some w)).set i (some v)) H1
def vN{i j k:Nat}{x y z:Str}{e:Expr}{te:TE}{px py pz pt:Pos}{kt:Nat}{pos:Pos}(hc:X.calm=true)(hN:X.N.Nodup)(hi:X.N[i]?=some x)(hj:X.N[j]?=some y)(hk:X.N[k]?=some z)
  (hx:X.env.scope.names.lookup x=some .local) (hy:X.env.scope.names.lookup y=some .local) (hz:X.env.scope.names.lookup z=some .local) (he:PE X e te)
  (hw:swappedStores [.Tuple [.Name x px,.Name y py,.Name z pz] kt pt] e X.env=pure (some [x,y,z]))
  (hs:swapsWithSole [.Tuple [.Name x px,.Name y py,.Name z pz] kt pt] e pos.line X.env=pure false) :
  PS X (.Assign [.Tuple [.Name x px,.Name y py,.Name z pz] kt pt] e pos) (Bt X.K i j k te):=by
 intro pins s σ H D I h
 refine Assign_Tuple_swapped (names:=[x,y,z]) (F9 (he pins s σ H _ I h) fun r s1 ⟨xr,H1,I1,r1,p,v,w,u,ex,hp,q⟩=>?_) hs hw
 subst ex
 cases r1
 obtain⟨its,rv,tp,_⟩:=I1.tuple hp
 obtain⟨u1,u2,u3,ei,a1,a2,a3⟩:∃u1 u2 u3,its=[u1,u2,u3]/\RelV v u1/\RelV w u2/\RelV u u3:=by
  cases rv with
  |cons a1 rv=>
   cases rv with
   |cons a2 rv=>
    cases rv with
    |cons a3 rv=>
     cases rv
     exact⟨_,_,_,rfl,a1,a2,a3⟩
 subst ei
 refine unpackItems_tuple (items:=#[u1,u2,u3]) (I.ok.hd hc) tp fun h' kp=>?_
 have I2:=I1.kept (h':=h') (t':=s1.toks) fun b o eb=>kp b o (Nat.ne_of_lt (Heap.lt_size eb)) eb
 refine assignInOrder_cons (wpAny_bindName (dP I2 hN hk (.inl hz) a3 (fun s2 I3=>?_) (.inr hz)))
 refine assignInOrder_cons (wpAny_bindName (dP I3 hN hj (.inl hy) a2 (fun s3 I4=>?_) (.inr hy)))
 exact assignInOrder_cons (wpAny_bindName (dP I4 hN hi (.inl hx) a1 (fun s4 I5=>assignInOrder_nil ⟨_,H1,I5,q⟩) (.inr hx)))
end
end L2
namespace Zt
open PySem
open Sem (wp)
def Si(kd:Bool)(h:Heap)(a t:Addr)(i:Nat):Prop:=cond kd (h.IsListIter a t i) (h.IsTupleIter a t i)
def Sq(kd:Bool)(h:Heap)(a:Addr)(xs:Vw):Prop:=cond kd (h.IsList a xs) (h.IsTuple a xs)
theorem Si.at{kd:Bool}{h h':Heap}{a t:Addr}{i:Nat}(x:Si kd h a t i)(e:∀o,h.get? a=some o->h'.get? a=some o):Si kd h' a t i:=match kd,x with|true,x=>Heap.IsListIter.at x e|false,x=>Heap.IsTupleIter.at x e
theorem Sq.at{kd:Bool}{h h':Heap}{a:Addr}{xs:Vw}(x:Sq kd h a xs)(e:∀o,h.get? a=some o->h'.get? a=some o):Sq kd h' a xs:=match kd,x with|true,x=>Heap.IsList.at x e|false,x=>Heap.IsTuple.at x e
def Sq.lt{kd:Bool}{h:Heap}{a:Addr}{xs:Vw}(x:Sq kd h a xs):a < h.objs.size:=match kd,x with|true,⟨_,e,_⟩=>Heap.lt_size e|false,⟨_,e,_⟩=>Heap.lt_size e
def Si.ob{kd:Bool}{h:Heap}{a t:Addr}{i:Nat}(x:Si kd h a t i):∃o f,h.get? a=some o/\o.data = .fields f:=match kd,x with|true,⟨o,e,_,d⟩=>⟨o,_,e,d⟩|false,⟨o,e,_,d⟩=>⟨o,_,e,d⟩
def Si.extBut{kd:Bool}{h h':Heap}{a c t:Addr}{i:Nat}(x:Si kd h a t i)(e:Heap.ExtBut c h h')(n:a≠c):Si kd h' a t i:=x.at fun _ q=>e _ _ n q
def Sq.extBut{kd:Bool}{h h':Heap}{a c:Addr}{xs:Vw}(x:Sq kd h a xs)(e:Heap.ExtBut c h h')(n:a≠c):Sq kd h' a xs:=x.at fun _ q=>e _ _ n q
section
variable {prog:Program} {w:World} {A:Around} {E:Vq} {s:Shared}
def nx{j t:Addr}{i:Nat}{its:Vw}{x:Value}{Q:Vq}(hj:s.heap.IsTupleIter j t i)(ht:s.heap.IsTuple t its)(hx:its[i]?=some x)
  (k:∀g:Heap,g.IsTupleIter j t (i+1)->Heap.SameBut j s.heap g->Q x { s with heap:=g }):wpAny (model prog w) A (Builtin.SmallTypes.nextOf (.ref j)) Q E s:=by
 obtain⟨ob,eb,kb,db⟩:=id hj
 obtain⟨oc,ec,_,nc,dc⟩:=ht
 unfold Builtin.SmallTypes.nextOf
 refine wpAny_bind (wpAny_callSpecial?_slot (name:=Str.ofString "__next__") hj.typeIs F.slot_tuple_iterator_next (wpAny_call_entry F.slot_tuple_iterator_next hj.typeIs F.entry_tuple_iterator_next ?_ (F.args_tuple_iterator_next_1 _)))
 show wpAny _ _ (field (.ref j) 0 >>= _) _ _ s;refine wpAny_bind (wpAny_field eb db (x:=.ref t) rfl ?_)
 show wpAny _ _ (if (Value.ref t == Value.none)=true then _ else _) _ _ s;rw[if_neg (show ¬((Value.ref t == Value.none)=true)from Bool.false_ne_true)]
 show wpAny _ _ (field (.ref j) 1 >>= _) _ _ s;refine wpAny_bind (wpAny_field eb db (x:=.int i 0) rfl ?_)
 show wpAny _ _ (seqItems? (.ref t) >>= _) _ _ s;refine wpAny_bind (wpAny_seqItems ec dc ?_)
 simp only[Int.toNat_natCast,hx];refine wpAny_bind (wpAny_setField eb db (by simp) (wpAny_pure ⟨x,rfl,wpAny_pure (k _ ?_ (Heap.SameBut.update ..))⟩))
 exact⟨_,Heap.get?_update_self _ eb (Obj.isFreed_of_fields (Obj.data_mapFields db _)),(Obj.cls_mapFields ..).trans kb,by rw[Obj.data_mapFields db];simp[rawInt]⟩
def Fv{j t:Addr}{i:Nat}{its:Vw}{Q:Vq}(hh:A.handled=none)(hj:s.heap.IsTupleIter j t i)(ht:s.heap.IsTuple t its)(hx:its[i]?=none)
  (k:∀(g:Heap) (e:Addr),Heap.ExtBut j s.heap g->(∃o,g.get? e=some o/\o.cls = .type "StopIteration")->E (.ref e) { s with heap:=g }):wpAny (model prog w) A (Builtin.SmallTypes.nextOf (.ref j)) Q E s:=by
 obtain⟨ob,eb,kb,db⟩:=id hj
 obtain⟨oc,ec,_,nc,dc⟩:=ht
 unfold Builtin.SmallTypes.nextOf
 refine wpAny_bind (wpAny_callSpecial?_slot (name:=Str.ofString "__next__") hj.typeIs F.slot_tuple_iterator_next (wpAny_call_entry F.slot_tuple_iterator_next hj.typeIs F.entry_tuple_iterator_next ?_ (F.args_tuple_iterator_next_1 _)))
 show wpAny _ _ (field (.ref j) 0 >>= _) _ _ s;refine wpAny_bind (wpAny_field eb db (x:=.ref t) rfl ?_)
 show wpAny _ _ (if (Value.ref t == Value.none)=true then _ else _) _ _ s;rw[if_neg (show ¬((Value.ref t == Value.none)=true)from Bool.false_ne_true)]
 show wpAny _ _ (field (.ref j) 1 >>= _) _ _ s;refine wpAny_bind (wpAny_field eb db (x:=.int i 0) rfl ?_)
 show wpAny _ _ (seqItems? (.ref t) >>= _) _ _ s;refine wpAny_bind (wpAny_seqItems ec dc ?_)
 simp only[Int.toNat_natCast,hx];refine wpAny_bind (wpAny_rule (wpAny_bind (wpAny_setField eb db (by simp) ?_)))
 show wpAny _ _ (newExc (.type "StopIteration") [] >>= _) _ _ _;refine wpAny_bind ?_
 simp only[newExc,newTuple];refine wpAny_bind (wpAny_newObj_type ?_ (by size_fits))
 refine wpAny_bind (m:=firstArgMember _ _) (wpAny_of_eq (a:=Value.none) (by first|rfl|(simp only[firstArgMember];rfl)) ?_);refine wpAny_newObj_type ?_ (by size_fits)
 simp only[raiseNew];refine wpAny_bind (wpAny_handled ?_)
 first|(rw[hh])|(rw[show A.in1.handled=none from hh])
 exact wpAny_bind (wpAny_pure (wpAny_throw (k _ _ (((Heap.SameBut.update ..).extBut.push _).push _) ⟨_,Heap.get?_push_size _ rfl,rfl⟩)))
def Cg{kd:Bool}{j t:Addr}{i:Nat}{its:Vw}{x:Value}{Q:Vq}(hj:Si kd s.heap j t i)(ht:Sq kd s.heap t its)(hx:its[i]?=some x)
  (k:∀g:Heap,Si kd g j t (i+1)->Heap.SameBut j s.heap g->Q x { s with heap:=g }):wpAny (model prog w) A (Builtin.SmallTypes.nextOf (.ref j)) Q E s:=by
 cases kd with
 |true=>exact wpAny_nextOf_list_item hj ht hx k
 |false=>exact nx hj ht hx k
def Bu{kd:Bool}{j t:Addr}{i:Nat}{its:Vw}{Q:Vq}(hh:A.handled=none)(hj:Si kd s.heap j t i)(ht:Sq kd s.heap t its)(hx:its[i]?=none)
  (k:∀(g:Heap) (e:Addr),Heap.ExtBut j s.heap g->(∃o,g.get? e=some o/\o.cls = .type "StopIteration")->E (.ref e) { s with heap:=g }):wpAny (model prog w) A (Builtin.SmallTypes.nextOf (.ref j)) Q E s:=by
 cases kd with
 |true=>exact wpAny_nextOf_list_end hh hj ht hx k
 |false=>exact Fv hh hj ht hx k
variable {ka kb:Bool} {z TI TO i1 i2 l1 l2:Addr} {k1 k2:Nat} {xs ys:Vw} {x y a b:Value}
def oH{Q:Vq}(D:ZipApart z TI TO i1 i2 l1 l2)(gz:IsZip s.heap z TI TO .none)(gI:IsPair s.heap TI (.ref i1) (.ref i2))(gO:IsPair s.heap TO a b)
  (g1:Si ka s.heap i1 l1 k1) (g2:Si kb s.heap i2 l2 k2) (t1:Sq ka s.heap l1 xs) (t2:Sq kb s.heap l2 ys) (hx:xs[k1]?=some x) (hy:ys[k2]?=some y)
  (k:∀g,IsZip g z TI TO (rawInt s.heap.objs.size)->IsPair g TO x y->Si ka g i1 l1 (k1+1)->Si kb g i2 l2 (k2+1)->IsPair g s.heap.objs.size x y->
   (∀c o,c≠z->c≠TO->c≠i1->c≠i2->s.heap.get? c=some o->g.get? c=some o)->Q (.ref s.heap.objs.size) { s with heap:=g }) :
  wpAny (model prog w) A (Builtin.«zip.__next__» ⟨[.ref z],[]⟩) (fun fin s'=>∃v,fin = .done (.ret v)/\Q v s') E s:=by
 show wpAny _ _ (field (.ref z) 2 >>= _) _ _ _;refine wpAny_bind (wpAny_field gz rfl (x:=.bool false) rfl ?_)
 show wpAny _ _ (field (.ref z) 3 >>= _) _ _ _;refine wpAny_bind (wpAny_field gz rfl (x:=.ref TI) rfl (wpAny_bind (wpAny_seqItems gI rfl ?_)))
 show wpAny _ _ (Builtin.SmallTypes.ownedTupleIsFree (.ref z) >>= _) _ _ _;refine wpAny_bind ?_;unfold Builtin.SmallTypes.ownedTupleIsFree
 refine wpAny_bind (wpAny_field gz rfl (x:=.none) rfl (wpAny_pure ?_));simp only[if_true]
 refine wpAny_bind (wpAny_rule (wpAny_bind (wpAny_field gz rfl (x:=.ref TO) rfl (wpAny_bind (wpAny_setField_rec gz (by simp) fun h₁ z1 q1=>?_)))))
 replace z1:IsZip h₁ z TI TO .ellipsis:=z1
 refine wpAny_bind ?_;simp only[List.zipIdx_cons,List.zipIdx_nil,List.forIn_cons,List.forIn_nil]
 refine wpAny_bind (wpAny_bind (wpAny_onRaise ?_));show wpAny _ _ (Builtin.SmallTypes.nextOf (.ref i1) >>= _) _ _ _
 refine wpAny_bind (Cg (g1.extBut q1.extBut D.i1z) (t1.extBut q1.extBut D.l1z) hx fun h₂ n1 q2=>wpAny_pure ?_)
 have o2:IsPair h₂ TO a b:=q2.extBut _ _ D.TOi1 (q1.extBut _ _ D.TOz gO)
 refine wpAny_bind (wpAny_seqItems o2 rfl (wpAny_bind (wpAny_updateSeq_pair o2 fun h₃ o3 q3=>?_)))
 replace o3:IsPair h₃ TO x b:=o3
 refine wpAny_bind (wpAny_letGo (wpAny_pure ?_));refine wpAny_bind (wpAny_bind (wpAny_onRaise ?_));show wpAny _ _ (Builtin.SmallTypes.nextOf (.ref i2) >>= _) _ _ _
 refine wpAny_bind (Cg (((g2.extBut q1.extBut D.i2z).extBut q2.extBut D.i12.symm).extBut q3.extBut D.TOi2.symm) (((t2.extBut q1.extBut D.l2z).extBut q2.extBut D.l2i1).extBut q3.extBut D.l2TO) hy fun h₄ n2 q4=>wpAny_pure ?_)
 have o4:IsPair h₄ TO x b:=q4.extBut _ _ D.TOi2 o3
 refine wpAny_bind (wpAny_seqItems o4 rfl (wpAny_bind (wpAny_updateSeq_pair o4 fun h₅ o5 q5=>?_)))
 replace o5:IsPair h₅ TO x y:=o5
 refine wpAny_bind (wpAny_letGo (wpAny_pure (wpAny_pure ?_)));refine wpAny_bind (wpAny_seqItems o5 rfl (wpAny_bind (wpAny_newTuple ?_)))
 have sz:h₅.objs.size=s.heap.objs.size:=by rw[q5.1,q4.1,q3.1,q2.1,q1.1]
 have z5:IsZip h₅ z TI TO .ellipsis:=q5.extBut _ _ D.TOz.symm (q4.extBut _ _ D.i2z.symm (q3.extBut _ _ D.TOz.symm (q2.extBut _ _ D.i1z.symm z1)))
 have kk:∀c o,c≠z->c≠TO->c≠i1->c≠i2->s.heap.get? c=some o->h₅.get? c=some o:=fun c o c1 c2 c3 c4 e=>q5.extBut _ _ c2 (q4.extBut _ _ c4 (q3.extBut _ _ c2 (q2.extBut _ _ c3 (q1.extBut _ _ c1 e))))
 have m1:Si ka h₅ i1 l1 (k1+1):=((n1.extBut q3.extBut D.TOi1.symm).extBut q4.extBut D.i12).extBut q5.extBut D.TOi1.symm
 have m2:Si kb h₅ i2 l2 (k2+1):=n2.extBut q5.extBut D.TOi2.symm
 have zl:z < h₅.objs.size:=Heap.lt_size z5
 show wpAny _ _ (Builtin.SmallTypes.ownedTupleHandOut (.ref z) (.ref h₅.objs.size) >>= _) _ _ _;refine wpAny_bind ?_;unfold Builtin.SmallTypes.ownedTupleHandOut
 have z6:IsZip (h₅.push { cls:=.type "tuple",data:=.seq #[x,y] }) z TI TO .ellipsis:=Heap.get?_push_of_some _ z5
 refine wpAny_bind (wpAny_setField_rec z6 (by simp) fun h₇ z7 q7=>?_)
 replace z7:IsZip h₇ z TI TO (rawInt h₅.objs.size):=z7
 refine wpAny_setField_rec z7 (by simp) fun h₈ z8 q8=>?_
 replace z8:IsZip h₈ z TI TO (rawInt h₅.objs.size):=z8
 have up:∀c o,c≠z->h₅.get? c=some o->h₈.get? c=some o:=fun c o c1 e=>q8.extBut _ _ c1 (q7.extBut _ _ c1 (Heap.get?_push_of_some _ e))
 have T8:IsPair h₈ h₅.objs.size x y:=q8.extBut _ _ (Nat.ne_of_gt zl) (q7.extBut _ _ (Nat.ne_of_gt zl) (Heap.get?_push_size _ rfl))
 rw[sz]at z8 T8
 refine wpAny_pure ⟨_,rfl,?_⟩
 show Q (.ref h₅.objs.size) _
 rw[sz]
 exact k h₈ z8 (up _ _ D.TOz o5) (m1.at fun o e=>up _ o D.i1z e) (m2.at fun o e=>up _ o D.i2z e) T8 fun c o c1 c2 c3 c4 e=>up c o c1 (kk c o c1 c2 c3 c4 e)
def rM{Q:Fin->Shared->Prop}(hh:A.handled=none)(D:ZipApart z TI TO i1 i2 l1 l2)(gz:IsZip s.heap z TI TO .none)(gI:IsPair s.heap TI (.ref i1) (.ref i2))(gO:IsPair s.heap TO a b)
  (g1:Si ka s.heap i1 l1 k1) (g2:Si kb s.heap i2 l2 k2) (t1:Sq ka s.heap l1 xs) (t2:Sq kb s.heap l2 ys) (he:xs[k1]?=none\/ys[k2]?=none)
  (k:∀(g:Heap) (e:Addr),(∀c o,c≠z->c≠TO->c≠i1->c≠i2->s.heap.get? c=some o->g.get? c=some o)->(∃o,g.get? e=some o/\o.cls = .type "StopIteration")->E (.ref e) { s with heap:=g }) :
  wpAny (model prog w) A (Builtin.«zip.__next__» ⟨[.ref z],[]⟩) Q E s:=by
 show wpAny _ _ (field (.ref z) 2 >>= _) _ _ _;refine wpAny_bind (wpAny_field gz rfl (x:=.bool false) rfl ?_)
 show wpAny _ _ (field (.ref z) 3 >>= _) _ _ _;refine wpAny_bind (wpAny_field gz rfl (x:=.ref TI) rfl (wpAny_bind (wpAny_seqItems gI rfl ?_)))
 show wpAny _ _ (Builtin.SmallTypes.ownedTupleIsFree (.ref z) >>= _) _ _ _;refine wpAny_bind ?_;unfold Builtin.SmallTypes.ownedTupleIsFree
 refine wpAny_bind (wpAny_field gz rfl (x:=.none) rfl (wpAny_pure ?_));simp only[if_true]
 refine wpAny_bind (wpAny_rule (wpAny_bind (wpAny_field gz rfl (x:=.ref TO) rfl (wpAny_bind (wpAny_setField_rec gz (by simp) fun h₁ z1 q1=>?_)))))
 replace z1:IsZip h₁ z TI TO .ellipsis:=z1
 refine wpAny_bind ?_;simp only[List.zipIdx_cons,List.zipIdx_nil,List.forIn_cons,List.forIn_nil]
 refine wpAny_bind (wpAny_bind (wpAny_onRaise ?_));show wpAny _ _ (Builtin.SmallTypes.nextOf (.ref i1) >>= _) _ _ _
 cases hx:xs[k1]? with
 |none=>
  refine wpAny_bind (Bu hh (g1.extBut q1.extBut D.i1z) (t1.extBut q1.extBut D.l1z) hx fun h₂ e q2 ⟨oe,ge,ce⟩=>?_)
  have z2:IsZip h₂ z TI TO .ellipsis:=q2 _ _ D.i1z.symm z1
  have ez:e≠z:=fun u=>by subst u;rw[z2]at ge;cases ge;simp at ce
  exact wpAny_setField_rec z2 (by simp) fun h₃ _ q3=>k h₃ e (fun c o c1 _ c3 _ u=>q3.extBut _ _ c1 (q2 _ _ c3 (q1.extBut _ _ c1 u))) ⟨oe,q3.extBut _ _ ez ge,ce⟩
 |some x=>
  have hy:ys[k2]?=none:=he.elim (fun q=>by rw[hx]at q;cases q) id
  refine wpAny_bind (Cg (g1.extBut q1.extBut D.i1z) (t1.extBut q1.extBut D.l1z) hx fun h₂ n1 q2=>wpAny_pure ?_)
  have o2:IsPair h₂ TO a b:=q2.extBut _ _ D.TOi1 (q1.extBut _ _ D.TOz gO)
  refine wpAny_bind (wpAny_seqItems o2 rfl (wpAny_bind (wpAny_updateSeq_pair o2 fun h₃ o3 q3=>?_)))
  refine wpAny_bind (wpAny_letGo (wpAny_pure ?_));refine wpAny_bind (wpAny_bind (wpAny_onRaise ?_));show wpAny _ _ (Builtin.SmallTypes.nextOf (.ref i2) >>= _) _ _ _
  refine wpAny_bind (Bu hh (((g2.extBut q1.extBut D.i2z).extBut q2.extBut D.i12.symm).extBut q3.extBut D.TOi2.symm) (((t2.extBut q1.extBut D.l2z).extBut q2.extBut D.l2i1).extBut q3.extBut D.l2TO) hy fun h₄ e q4 ⟨oe,ge,ce⟩=>?_)
  have z4:IsZip h₄ z TI TO .ellipsis:=q4 _ _ D.i2z.symm (q3.extBut _ _ D.TOz.symm (q2.extBut _ _ D.i1z.symm z1))
  have ez:e≠z:=fun u=>by subst u;rw[z4]at ge;cases ge;simp at ce
  exact wpAny_setField_rec z4 (by simp) fun h₅ _ q5=>k h₅ e (fun c o c1 c2 c3 c4 u=>q5.extBut _ _ c1 (q4 _ _ c4 (q3.extBut _ _ c2 (q2.extBut _ _ c3 (q1.extBut _ _ c1 u))))) ⟨oe,q5.extBut _ _ ez ge,ce⟩
def kA{Q:Option Value->Shared->Prop}(D:ZipApart z TI TO i1 i2 l1 l2)(gz:IsZip s.heap z TI TO .none)(gI:IsPair s.heap TI (.ref i1) (.ref i2))(gO:IsPair s.heap TO a b)
  (g1:Si ka s.heap i1 l1 k1) (g2:Si kb s.heap i2 l2 k2) (t1:Sq ka s.heap l1 xs) (t2:Sq kb s.heap l2 ys) (hx:xs[k1]?=some x) (hy:ys[k2]?=some y)
  (k:∀g,IsZip g z TI TO (rawInt s.heap.objs.size)->IsPair g TO x y->Si ka g i1 l1 (k1+1)->Si kb g i2 l2 (k2+1)->IsPair g s.heap.objs.size x y->
   (∀c o,c≠z->c≠TO->c≠i1->c≠i2->s.heap.get? c=some o->g.get? c=some o)->Q (some (.ref s.heap.objs.size)) { s with heap:=g }):wpAny (model prog w) A (pyNext (.ref z)) Q E s:=by
 have ty:s.TypeIs (.ref z) "zip":=⟨_,gz,rfl⟩
 unfold pyNext
 exact wpAny_bind (wpAny_attempt (wpAny_callSpecial?_slot (name:=Str.ofString "__next__") ty F.slot_zip_next (wpAny_call_entry F.slot_zip_next ty F.entry_zip_next
  (oH D gz gI gO g1 g2 t1 t2 hx hy fun g a1 a2 a3 a4 a5 a6=>wpAny_pure (k g a1 a2 a3 a4 a5 a6)) (F.args_zip_next_1 _))))
def l5{Q:Option Value->Shared->Prop}(hh:A.handled=none)(D:ZipApart z TI TO i1 i2 l1 l2)(gz:IsZip s.heap z TI TO .none)(gI:IsPair s.heap TI (.ref i1) (.ref i2))(gO:IsPair s.heap TO a b)
  (g1:Si ka s.heap i1 l1 k1) (g2:Si kb s.heap i2 l2 k2) (t1:Sq ka s.heap l1 xs) (t2:Sq kb s.heap l2 ys) (he:xs[k1]?=none\/ys[k2]?=none)
  (k:∀g:Heap,(∀c o,c≠z->c≠TO->c≠i1->c≠i2->s.heap.get? c=some o->g.get? c=some o)->Q none { s with heap:=g }):wpAny (model prog w) A (pyNext (.ref z)) Q E s:=by
 have ty:s.TypeIs (.ref z) "zip":=⟨_,gz,rfl⟩
 unfold pyNext
 refine wpAny_bind (wpAny_attempt (wpAny_callSpecial?_slot (name:=Str.ofString "__next__") ty F.slot_zip_next (wpAny_call_entry F.slot_zip_next ty F.entry_zip_next (rM hh D gz gI gO g1 g2 t1 t2 he fun g e kk ⟨o,ho,hc⟩=>?_) (F.args_zip_next_1 _))))
 exact wpAny_bind (wpAny_isInstance (T:="StopIteration") (b:=true) ⟨o,ho,hc⟩ isSubtype_stop (wpAny_pure (k _ kk)))
end
noncomputable abbrev it(kd:Bool)(l:Addr):Obj:={ cls:=.type (cond kd "list_iterator" "tuple_iterator"),data:=.fields #[.ref l,.int 0 0] }
def Si.mk{kd:Bool}{h:Heap}{a l:Addr}(e:h.get? a=some (it kd l)):Si kd h a l 0:=match kd,e with|true,e=>⟨_,e,rfl,rfl⟩|false,e=>⟨_,e,rfl,rfl⟩
noncomputable abbrev H1(ka:Bool)(h:Heap)(l1:Addr):Heap:=h.push (it ka l1)
noncomputable abbrev H2(ka kb:Bool)(h:Heap)(l1 l2:Addr):Heap:=(H1 ka h l1).push (it kb l2)
noncomputable abbrev H3(ka kb:Bool)(h:Heap)(l1 l2:Addr):Heap:=(H2 ka kb h l1 l2).push { cls:=.type "tuple",data:=.seq #[.ref h.objs.size,.ref (H1 ka h l1).objs.size] }
noncomputable abbrev H4(ka kb:Bool)(h:Heap)(l1 l2:Addr):Heap:=(H3 ka kb h l1 l2).push { cls:=.type "tuple",data:=.seq #[.none,.none] }
noncomputable abbrev H5(ka kb:Bool)(h:Heap)(l1 l2:Addr):Heap:=(H4 ka kb h l1 l2).push { cls:=.type "zip",data:=.fields #[.none,.bool false,.bool false,.ref (H2 ka kb h l1 l2).objs.size,.ref (H3 ka kb h l1 l2).objs.size] }
def fI(ka kb:Bool)(l1 l2:Addr)(xs ys:Vw) :
  Meets (Builtin.«zip.__new__» ⟨[.type "zip",.ref l1,.ref l2],[]⟩) (fun _ R s=>Sq ka s.heap l1 xs/\Sq kb s.heap l2 ys/\R (.ok (.ret (.ref (H4 ka kb s.heap l1 l2).objs.size))) { s with heap:=H5 ka kb s.heap l1 l2 }):=
 .of_wp fun prog w A R s h=>by
  obtain⟨hp,g,d,tk,os⟩:=s;obtain⟨e1,e2,h⟩:=h
  have hsub:=sub_zip
  match ka,kb,e1,e2,h with
  |false,false,e1,e2,h=>
   have L1:Heap.IsTuple (Shared.heap ⟨hp,g,d,tk,os⟩) l1 xs:=e1
   have L2:Heap.IsTuple (Shared.heap ⟨hp.push { cls:=.type "tuple_iterator",data:=.fields #[.ref l1,.int 0 0] },g,d,tk,os⟩) l2 ys:=Heap.IsTuple.push e2 _
   wp_walk using wpAny_pyIter_tuple L1,wpAny_pyIter_tuple L2
   exact⟨_,rfl,h⟩
  |false,true,e1,e2,h=>
   have L1:Heap.IsTuple (Shared.heap ⟨hp,g,d,tk,os⟩) l1 xs:=e1
   have L2:Heap.IsList (Shared.heap ⟨hp.push { cls:=.type "tuple_iterator",data:=.fields #[.ref l1,.int 0 0] },g,d,tk,os⟩) l2 ys:=Heap.IsList.push e2 _
   wp_walk using wpAny_pyIter_tuple L1,wpAny_pyIter_list L2
   exact⟨_,rfl,h⟩
  |true,false,e1,e2,h=>
   have L1:Heap.IsList (Shared.heap ⟨hp,g,d,tk,os⟩) l1 xs:=e1
   have L2:Heap.IsTuple (Shared.heap ⟨hp.push { cls:=.type "list_iterator",data:=.fields #[.ref l1,.int 0 0] },g,d,tk,os⟩) l2 ys:=Heap.IsTuple.push e2 _
   wp_walk using wpAny_pyIter_list L1,wpAny_pyIter_tuple L2
   exact⟨_,rfl,h⟩
  |true,true,e1,e2,h=>
   have L1:Heap.IsList (Shared.heap ⟨hp,g,d,tk,os⟩) l1 xs:=e1
   have L2:Heap.IsList (Shared.heap ⟨hp.push { cls:=.type "list_iterator",data:=.fields #[.ref l1,.int 0 0] },g,d,tk,os⟩) l2 ys:=Heap.IsList.push e2 _
   wp_walk using wpAny_pyIter_list L1,wpAny_pyIter_list L2
   exact⟨_,rfl,h⟩
section
variable {ka kb:Bool} {prog:Program} {w:World} {A:Around} {E:Vq} {s:Shared}
def gW{l1 l2:Addr}{xs ys:Vw}{Q:Vq}(e1:Sq ka s.heap l1 xs)(e2:Sq kb s.heap l2 ys)
  (k:∀g,IsZip g (s.heap.objs.size+4) (s.heap.objs.size+2) (s.heap.objs.size+3) .none->IsPair g (s.heap.objs.size+2) (.ref s.heap.objs.size) (.ref (s.heap.objs.size+1))->
   IsPair g (s.heap.objs.size+3) .none .none->Si ka g s.heap.objs.size l1 0->Si kb g (s.heap.objs.size+1) l2 0->
   (∀c o,s.heap.get? c=some o->g.get? c=some o)->Q (.ref (s.heap.objs.size+4)) { s with heap:=g }) :
  wpAny (model prog w) A (call (.type "zip") [.ref l1,.ref l2]) Q E s:=by
 refine callType_new F.called_zip (by decide) (F.typeCall_zip_2 _ _) (F.newCall_zip_2 _ _) (fun obj=>F.args_object_init_3 obj _ _) F.entry_zip_new (fI ka kb l1 l2 xs ys) ⟨e1,e2,?_⟩
 have z1:(H1 ka s.heap l1).objs.size=s.heap.objs.size+1:=Heap.size_push ..
 have z2:(H2 ka kb s.heap l1 l2).objs.size=s.heap.objs.size+2:=by rw[Heap.size_push,z1]
 have z3:(H3 ka kb s.heap l1 l2).objs.size=s.heap.objs.size+3:=by rw[Heap.size_push,z2]
 have z4:(H4 ka kb s.heap l1 l2).objs.size=s.heap.objs.size+4:=by rw[Heap.size_push,z3]
 have g5:(H5 ka kb s.heap l1 l2).get? (H4 ka kb s.heap l1 l2).objs.size=some _:=Heap.get?_push_size _ rfl
 have g4:(H5 ka kb s.heap l1 l2).get? (H3 ka kb s.heap l1 l2).objs.size=some _:=Heap.get?_push_of_some _ (Heap.get?_push_size _ rfl)
 have g3:(H5 ka kb s.heap l1 l2).get? (H2 ka kb s.heap l1 l2).objs.size=some _:=Heap.get?_push_of_some _ (Heap.get?_push_of_some _ (Heap.get?_push_size _ rfl))
 have g2:(H5 ka kb s.heap l1 l2).get? (H1 ka s.heap l1).objs.size=some _:=Heap.get?_push_of_some _ (Heap.get?_push_of_some _ (Heap.get?_push_of_some _ (Heap.get?_push_size _ rfl)))
 have g1:(H5 ka kb s.heap l1 l2).get? s.heap.objs.size=some _:=Heap.get?_push_of_some _ (Heap.get?_push_of_some _ (Heap.get?_push_of_some _ (Heap.get?_push_of_some _ (Heap.get?_push_size _ rfl))))
 show _/\_
 rw[z2,z3,z4]at g5
 rw[z1,z2]at g3
 rw[z3]at g4
 rw[z1]at g2
 rw[z4]
 exact⟨⟨_,g5,rfl⟩,k _ g5 g3 g4 (.mk g1) (.mk g2) fun c o e=>Heap.get?_push_of_some _ (Heap.get?_push_of_some _ (Heap.get?_push_of_some _ (Heap.get?_push_of_some _ (Heap.get?_push_of_some _ e))))⟩
end
end Zt
namespace L2
open PySem PySem.Spec PyProof.Rows
section
variable {X:Cx} {pins:Va} {σ:St} {H:Hp} {s:Shared} {h':Heap}
def Inv.HB{t':Nat}{fp:List Addr}(I:Inv X pins σ H s)(k:∀b o,b ∉ fp->s.heap.get? b=some o->h'.get? b=some o)(hf:∀b∈fp,ft X pins H b):Inv X pins σ H { s with heap:=h',toks:=t' }:=by
 have M_:∀b u,H b=some u->b ∉ fp:=fun b u e z=>by rw[(hf b z).1]at e;cases e
 refine I.step (g':=s.gens) (d':=s.drawn) (ch:=fp) (fun b hb=>?_) (fun b o _ _ hc e _=>k b o hc e) (fun b o _ _ hc e _=>⟨o.slots,k b o hc e⟩) (fun _ _ _ _ n=>n)
  (fun b o hc e=>⟨o,k b o hc e⟩) (fun _ _ e=>e) (fun _ _ _ e=>e) (fun b ps e=>⟨#[],by rw[e];simp⟩) (fun m hm=>?_) (fun b u e=>?_) I.bare
 ·obtain⟨f0,f1,f2,f3,f4,f5⟩:=hf b hb
  exact⟨f3,f1,f4,f5⟩
 ·obtain⟨o,es,ep,ho,r⟩:=hm
  exact⟨o,es,ep,k _ o (fun z=>(hf _ z).2.1 rfl) ho,r⟩
 ·refine(I.hok b u e).stay (fun c v hc q=>k c v ?_ q) (fun _ q=>q) fun _ _ q=>q
  rcases hc with z|z
  ·rw[z];exact M_ b u e
  ·exact M_ c _ z
def Inv.Jj{D:Addr}{us:Vv}{ys:List V}(I:Inv X pins σ H s)(f:ft X pins H D)(e:Gy s.heap D us.toArray)(r:Vals ys us)(hz:ys.length<=sizeLine) :
  Inv X pins σ (upd H D (.tup ys)) s:=by
 obtain⟨f0,f1,f2,f3,f4,f5⟩:=f
 have nD:∀b u,H b=some u->b≠D:=fun b u q=>ba q f0
 have hok:IB X.prog X.w (upd H D (.tup ys)) s.heap:=fun b u q=>by
  by_cases hb:b=D
  ·subst hb
   rw[aG]at q
   cases q
   exact⟨hz,us,r,e⟩
  ·rw[aI hb]at q
   exact(I.hok b u q).stay (fun _ _ _ z=>z) (fun c z=>by rw[aI (nD c _ z)];exact z) fun c xs z=>by rw[aI (nD c _ z)];exact z
 exact I.step (H':=upd H D (.tup ys)) (h':=s.heap) (g':=s.gens) (t':=s.toks) (d':=s.drawn) (ch:=[D])
  (fun b hb=>by
   have z:b=D:=by simpa using hb
   subst z
   exact⟨f3,f1,f4,f5⟩)
  (fun _ _ _ _ _ q _=>q) (fun _ o _ _ _ q _=>⟨o.slots,q⟩)
  (fun b o hb _ n=>by rw[aI (fun z=>hb (by simp[z]))];exact n)
  (fun _ o _ q=>⟨o,q⟩) (fun b xs q=>by rw[aI (nD b _ q)];exact q) (fun b o u q=>by rw[aI (nD b _ q)];exact q)
  (fun b ps q=>⟨#[],by rw[aI (nD b _ q),q];simp⟩) (fun _ q=>q) hok I.bare
end
def l6(kd:Bool)(K:Vo)(H:Hp)(a:Addr)(xs:List V):Prop:=cond kd (SqL K H a xs) (SqT K H a xs)
def Inv.Jk{X:Cx}{pins:Va}{σ:St}{H:Hp}{s:Shared}{kd:Bool}{a:Addr}{xs:List V}(I:Inv X pins σ H s)(h:l6 kd X.K H a xs):∃its:List Value,Vals xs its/\Zt.Sq kd s.heap a its.toArray:=by
 cases kd with
 |true=>obtain⟨i,r,p,z⟩:=I.list h;exact⟨i,r,p.isList⟩
 |false=>obtain⟨i,r,p,z⟩:=I.tuple h;exact⟨i,r,p⟩
def Inv.Iq{X:Cx}{pins:Va}{σ:St}{H:Hp}{s:Shared}{kd:Bool}{a:Addr}{xs ys:List V}(I:Inv X pins σ H s)(h:l6 kd X.K H a xs)(g:l6 kd X.K H a ys):xs=ys:=by
 cases kd with
 |true=>exact I.JH h g
 |false=>exact I.Ji h g
noncomputable def EZ(ka kb:Bool)(K:Vo)(a b:Addr):It:=
  ⟨fun i H=>∃xs ys x y,l6 ka K H a xs/\l6 kb K H b ys/\xs[i]?=some x/\ys[i]?=some y,
   fun i H v H'=>∃p x y,v = .ref p/\H p=none/\H'=upd H p (.tup [x,y])/\∀xs ys,l6 ka K H a xs->l6 kb K H b ys->xs[i]?=some x/\ys[i]?=some y,
   fun i H=>∃xs ys,l6 ka K H a xs/\l6 kb K H b ys/\(xs.length<=i\/ys.length<=i)⟩
def vO{ka kb:Bool}{P:Program}{w:World}{K:Vo}{elts:List Expr}{k0:Nat}{Hf:Pos}{z TI TO i1 i2 a b:Addr}(D:ZipApart z TI TO i1 i2 a b) :
  m8 P w K (.Tuple elts k0 Hf) (EZ ka kb K a b) [z,TI,TO,i1,i2] z (fun i h=>IsZip h z TI TO .none/\IsPair h TI (.ref i1) (.ref i2)/\(∃x y,IsPair h TO x y)/\Zt.Si ka h i1 a i/\Zt.Si kb h i2 b i) where
 mem:=by simp
 obj:=fun i h st c hc=>by
  obtain⟨gz,gI,⟨x,y,gO⟩,g1,g2⟩:=st
  obtain⟨o1,_,e1,d1⟩:=g1.ob;obtain⟨o2,_,e2,d2⟩:=g2.ob
  simp only[List.mem_cons,List.not_mem_nil,or_false]at hc
  rcases hc with rfl|rfl|rfl|rfl|rfl
  ·exact⟨_,gz,fun v q=>by cases q⟩
  ·exact⟨_,gI,fun v q=>by cases q⟩
  ·exact⟨_,gO,fun v q=>by cases q⟩
  ·exact⟨_,e1,fun v q=>by rw[d1]at q;cases q⟩
  ·exact⟨_,e2,fun v q=>by rw[d2]at q;cases q⟩
 keep:=fun i h h' st k=>by
  obtain⟨gz,gI,⟨x,y,gO⟩,g1,g2⟩:=st
  exact⟨k z (by simp) _ gz,k TI (by simp) _ gI,⟨x,y,k TO (by simp) _ gO⟩,g1.at fun o e=>k i1 (by simp) o e,g2.at fun o e=>k i2 (by simp) o e⟩
 item:=by
  intro X hP hw hK hc i pins s σ H E I hf st hg
  subst hP hw hK
  obtain⟨gz,gI,⟨ta,tb,gO⟩,g1,g2⟩:=st
  obtain⟨xs,ys,x,y,J8,ME,hx,hy⟩:=hg
  obtain⟨ia,ra,pa⟩:=I.Jk J8
  obtain⟨ib,rb,pb⟩:=I.Jk ME
  obtain⟨u,hu,ru⟩:=ra.get hx
  obtain⟨v,hv,rv⟩:=rb.get hy
  refine Zt.kA D gz gI gO g1 g2 pa pb (x:=u) (y:=v) (by simpa using hu) (by simpa using hv) fun g a1 a2 a3 a4 a5 a6=>?_
  refine⟨_,rfl,wpAny_letOwnedTupleGo_zip (s:={ s with heap:=g }) a1 fun g' z' q'=>?_⟩
  have kk:∀c o,c ∉ [z,TI,TO,i1,i2]->s.heap.get? c=some o->g'.get? c=some o:=fun c o hc e=>by
   simp only[List.mem_cons,List.not_mem_nil,or_false,not_or]at hc
   exact q'.extBut _ _ hc.1 (a6 c o hc.1 hc.2.2.1 hc.2.2.2.1 hc.2.2.2.2 e)
  have I1:Inv X pins σ H { s with heap:=g' }:=I.HB (t':=s.toks) kk hf
  have f0:ft X pins H s.heap.objs.size:=I.IC (Nat.le_refl _) (I.hok.fresh (Nat.le_refl _))
  have eT:Gy g' s.heap.objs.size [u,v].toArray:=⟨_,q'.extBut _ _ (Nat.ne_of_gt (Heap.lt_size gz)) a5,rfl,rfl,_,rfl⟩
  have I2:=I1.Jj f0 eT (.cons ru (.cons rv .nil)) (by show 2<=sizeLine;decide)
  refine⟨.ref s.heap.objs.size,_,I2,rfl,⟨s.heap.objs.size,x,y,rfl,f0.1,rfl,fun xs' ys' h1 h2=>by rw[I.Iq h1 J8,I.Iq h2 ME];exact⟨hx,hy⟩⟩,
   ⟨z',q'.extBut _ _ D.TIz (a6 TI _ D.TIz D.TITO D.TIi1 D.TIi2 gI),⟨_,_,q'.extBut _ _ D.TOz a2⟩,a3.extBut q'.extBut D.i1z,a4.extBut q'.extBut D.i2z⟩,fun c hc=>?_⟩
  have hlt:c < s.heap.objs.size:=by
   obtain⟨_,_,e1,_⟩:=g1.ob
   obtain⟨_,_,e2,_⟩:=g2.ob
   simp only[List.mem_cons,List.not_mem_nil,or_false]at hc
   rcases hc with rfl|rfl|rfl|rfl|rfl
   ·exact Heap.lt_size gz
   ·exact Heap.lt_size gI
   ·exact Heap.lt_size gO
   ·exact Heap.lt_size e1
   ·exact Heap.lt_size e2
  rw[aI (Nat.ne_of_lt hlt)]
  exact(hf c hc).1
 done:=by
  intro X hP hw hK hc i pins s σ H E I hf st hg
  subst hP hw hK
  obtain⟨gz,gI,⟨ta,tb,gO⟩,g1,g2⟩:=st
  obtain⟨xs,ys,J8,ME,hl⟩:=hg
  obtain⟨ia,ra,pa⟩:=I.Jk J8
  obtain⟨ib,rb,pb⟩:=I.Jk ME
  have la:=ra.length
  have lb:=rb.length
  refine Zt.l5 (I.ok.hd hc) D gz gI gO g1 g2 pa pb ?_ fun g kk=>⟨rfl,I.HB (t':=s.toks) (fun c o hc e=>?_) hf⟩
  ·rcases hl with q|q
   ·exact .inl (by simp;omega)
   ·exact .inr (by simp;omega)
  ·simp only[List.mem_cons,List.not_mem_nil,or_false,not_or]at hc
   exact kk c o hc.1 hc.2.2.1 hc.2.2.2.1 hc.2.2.2.2 e
 self:=fun _ _ _ _ _ st h=>wpAny_pyIter_zip st.1 h
section
variable {X:Cx}
def E4(K:Vo)(ta:TA):TI:=fun σ H R=>ta σ H fun vs H1=>∃ka kb a b,vs=[.ref a,.ref b]/\(∃xs,l6 ka K H1 a xs)/\(∃ys,l6 kb K H1 b ys)/\R (EZ ka kb K a b) H1
def vP{elts:List Expr}{k0:Nat}{Hf:Pos}{a b:Expr}{ta:TA}{p pos:Pos}(hg:Gl X "zip")(hm:X.mg "zip" = none)(hv:bootBuiltins "zip" = some (.type "zip"))(ha:PA X [a,b] ta)
  (hs:starEach [a,b] X.env=[(false,eval a X.env),(false,eval b X.env)]:=by rfl) (hs2:starEach [b] X.env=[(false,eval b X.env)]:=by rfl):PI X (.Tuple elts k0 Hf) (.Call (.Name "zip" p) [a,b] [] pos) (E4 X.K ta):=by
 intro pins s σ H R I h
 refine Call_ (eG I hg hm hv (PyProof.Rows.callWith_type1 (F9 (ha pos pins s σ H _ I h) fun us s1 ⟨vs,H1,I1,r1,q1⟩=>?_) (by rw[hs,hs2]) (by rw[hs2];rfl)))
 obtain⟨ka,kb,a,b,e,⟨xs,qa⟩,⟨ys,qb⟩,q⟩:=q1
 subst e
 obtain⟨u,v,rfl,ru,rv⟩:=sQ r1
 cases ru
 cases rv
 obtain⟨ia,ra,pa⟩:=I1.Jk qa
 obtain⟨ib,rb,pb⟩:=I1.Jk qb
 have la:a < s1.heap.objs.size:=pa.lt
 have lb:b < s1.heap.objs.size:=pb.lt
 refine Zt.gW pa pb fun g gz gI gO g1 g2 kk=>?_
 refine wpAny_pyIter_zip (s:={ s1 with heap:=g }) gz ?_
 refine⟨_,[s1.heap.objs.size+4,s1.heap.objs.size+2,s1.heap.objs.size+3,s1.heap.objs.size,s1.heap.objs.size+1],_,_,H1,rfl,I1.kept (t':=s1.toks) kk,vO (zipApart_new la lb),⟨gz,gI,⟨_,_,gO⟩,g1,g2⟩,fun c hc=>?_,q⟩
 have hle:s1.heap.objs.size<=c:=by
  simp only[List.mem_cons,List.not_mem_nil,or_false]at hc
  rcases hc with rfl|rfl|rfl|rfl|rfl
  ·exact Nat.le_add_right _ _
  ·exact Nat.le_add_right _ _
  ·exact Nat.le_add_right _ _
  ·exact Nat.le_refl _
  ·exact Nat.le_add_right _ _
 exact I1.IC hle (I1.hok.fresh hle)
def KD(P:Program)(w:World)(K:Vo)(a:Addr)(kvs:List (bI×V)):Prop:=(a == sysModules)=false/\∃o vs,K.lookup a=some o/\KV kvs vs/\Obj.IsDictOf (bf P w) o vs
def C5(a:Addr)(kvs:List (bI×V))(ty tx:TE):TE:=fun σ H Q=>ty σ H fun y H2=>tx σ H2 fun z H3=>∃k,y=kV k/\Q ((iQ kvs k).getD z) H3
def yG{x:Str}{e f:Expr}{px apos cpos:Pos}{ty tx:TE}{a:Addr}{kvs:List (bI×V)}(hu:X.A.units+1 < cLine)(hg:Gl X x)(hm:X.mg x=some (.ref a))(hD:KD X.prog X.w X.K a kvs)(he:PE X e ty)(hf:PE X f tx)(m:M2 X (.Name x px) "get" apos e f cpos)
  (hd:(x == ("__debug__":Str))=false:=by decide):PE X (.Call (.Attribute (.Name x px) "get" apos) [e,f] [] cpos) (C5 a kvs ty tx):=by
 intro pins s σ H Q I h
 obtain⟨hsys,o,vs,hk,rel,ii⟩:=hD
 have dd:∀{s1:Shared} {H1:Hp},Inv X pins σ H1 s1->s1.heap.DictOf (bf X.prog X.w) a vs:=fun I1=>Heap.dictOf_iff.mpr ⟨o,I1.Ls a o hk,ii⟩
 refine wpAny_Call_method m.base m.few m.line PySem.F.plainAttrs_dict PySem.F.slot_dict_get PySem.F.type_dict_get (sM I hg hm ?_ hd)
 refine⟨(dd I).typeIs,fun b q=>?_,?_⟩
 ·cases q
  obtain⟨ob,_,_,h1,h2,_⟩:=dd I
  exact⟨ob,h1,h2.2.1⟩
 rw[m.trees]
 refine Calls.callWith_builtin rfl (Calls.evalArgs_plain (Calls.spliced_cons (F9 (he pins s σ H _ I h) fun iv s2 ⟨y,H2,I2,ry,q2⟩=>
  Calls.spliced_cons (F9 (hf pins s2 σ H2 _ I2 q2) fun fv s3 ⟨z,H3,I3,rz,k,ey,q3⟩=>Calls.spliced_nil ?_))))
 subst ey
 refine call_meetsIn PySem.F.slot_dict_get (dd I3).typeIs PySem.F.entry_dict_get (PySem.F.args_dict_get_3 _ _ _) (meets_dict_get_default (bf X.prog X.w) a (ld ry) hsys fv) ⟨_,(dd I3).mapOf,⟨_,H3,I3.tok _,?_,q3⟩⟩
 exact(rel.val k).getD rz
end
section
variable {env:Env} {rest:List Expr} {pos:Pos}
def ur{a:Expr}{gs:List Comprehension}{sc:Scope}:starEach (.ListComp a gs sc pos::rest) env=(false,eval (.ListComp a gs sc pos) env)::starEach rest env:=rfl
end
section
variable {X:Cx} {pos:Pos} {es:List Expr} {te:TE} {t:TA}
end
section
variable {X:Cx} {pos:Pos} {e:Expr} {es:List Expr} {te:TE} {t:TA}
end
section
variable {X:Cx} {pos:Pos} {a b e tg iter:Expr} {es:List Expr} {ta tb' te:TE} {t:TA} {st:Stmt} {sts:List Stmt} {u v tb:TS}
end
noncomputable def E5(K:Vo)(a:Addr):It:=
  ⟨fun i H=>∃xs x,SqL K H a xs/\xs[i]?=some x,
   fun i H v H'=>∃p x,v = .ref p/\H p=none/\H'=upd H p (.tup [.int (i:Nat),x])/\∀xs,SqL K H a xs->xs[i]?=some x,
   fun i H=>∃xs,SqL K H a xs/\xs.length<=i⟩
def ut{P:Program}{w:World}{K:Vo}{elts:List Expr}{k0:Nat}{Hf:Pos}{e it a:Addr}(hei:e≠it) :
  m8 P w K (.Tuple elts k0 Hf) (E5 K a) [e,it] e (fun i h=>(∃old,IsEnum h e it i old)/\h.IsListIter it a i) where
 mem:=by simp
 obj:=fun i h st c hc=>by
  obtain⟨⟨old,ge⟩,⟨o1,e1,_,d1⟩⟩:=st
  simp only[List.mem_cons,List.not_mem_nil,or_false]at hc
  rcases hc with rfl|rfl
  ·exact⟨_,ge,fun v q=>by cases q⟩
  ·exact⟨_,e1,fun v q=>by rw[d1]at q;cases q⟩
 keep:=fun i h h' st k=>by
  obtain⟨⟨old,ge⟩,g1⟩:=st
  exact⟨⟨old,k e (by simp) _ ge⟩,g1.at fun o q=>k it (by simp) o q⟩
 item:=by
  intro X hP hw hK hc i pins s σ H E I hf st hg
  subst hP hw hK
  obtain⟨⟨old,ge⟩,g1⟩:=st
  obtain⟨xs,x,J8,hx⟩:=hg
  obtain⟨ia,ra,pa,za⟩:=I.list J8
  obtain⟨u,hu,ru⟩:=ra.get hx
  refine wpAny_pyNext_enum_item ge g1 pa.isList (x:=u) (by simpa using hu) hei fun g a1 a2 a3 a4 a5=>?_
  refine⟨_,rfl,wpAny_letOwnedTupleGo_enum (s:={ s with heap:=g,toks:=s.toks+1 }) a1 fun g' z' q'=>?_⟩
  have kk:∀c o,c ∉ [e,it]->s.heap.get? c=some o->g'.get? c=some o:=fun c o hc q=>by
   simp only[List.mem_cons,List.not_mem_nil,or_false,not_or]at hc
   exact(q'.2 c hc.1).trans (a5 c o hc.1 hc.2 q)
  have I1:Inv X pins σ H { s with heap:=g',toks:=s.toks+1 }:=I.HB kk hf
  have f0:ft X pins H s.heap.objs.size:=I.IC (Nat.le_refl _) (I.hok.fresh (Nat.le_refl _))
  have Ol:s.heap.objs.size≠e:=Nat.ne_of_gt (Heap.lt_size ge)
  have eT:Gy g' s.heap.objs.size [Value.int i s.toks,u].toArray:=⟨_,(q'.2 _ Ol).trans a3,rfl,rfl,_,rfl⟩
  have I2:=I1.Jj (ys:=[.int i,x]) f0 eT (.cons ⟨_,rfl⟩ (.cons ru .nil)) (by show 2<=sizeLine;decide)
  refine⟨.ref s.heap.objs.size,_,I2,rfl,⟨s.heap.objs.size,x,rfl,f0.1,rfl,fun xs' h1=>by rw[I.JH h1 J8];exact hx⟩,⟨⟨u,by simpa using z'⟩,a2.at fun o q=>(q'.2 it hei.symm).trans q⟩,fun c hc=>?_⟩
  have hlt:c < s.heap.objs.size:=by
   obtain⟨o1,e1,_⟩:=g1
   simp only[List.mem_cons,List.not_mem_nil,or_false]at hc
   rcases hc with rfl|rfl
   ·exact Heap.lt_size ge
   ·exact Heap.lt_size e1
  rw[aI (Nat.ne_of_lt hlt)]
  exact(hf c hc).1
 done:=by
  intro X hP hw hK hc i pins s σ H E I hf st hg
  subst hP hw hK
  obtain⟨⟨old,ge⟩,g1⟩:=st
  obtain⟨xs,J8,hl⟩:=hg
  obtain⟨ia,ra,pa,za⟩:=I.list J8
  have la:=ra.length
  refine wpAny_pyNext_enum_end (I.ok.hd hc) ge g1 pa.isList (by simp;omega) fun g kk=>⟨rfl,I.HB (t':=s.toks) (fun c o hc q=>?_) hf⟩
  simp only[List.mem_cons,List.not_mem_nil,or_false,not_or]at hc
  exact kk c o hc.2 q
 self:=fun _ _ _ _ _ st h=>by
  obtain⟨⟨old,ge⟩,_⟩:=st
  exact wpAny_pyIter_enum ge h
section
variable {X:Cx}
end
end L2
namespace Et
open PySem
open Sem (wp)
open AutoSeq1 (wpAny_loadPart')
def zW{P:Program}{w:World}{A:Around}(hh:A.handled=none)(it t:Addr)(hne:t≠it)(its:Vw) :
  Draws P w A it [it,t] its.size (fun i v=>its[i]?=some v) (fun i h=>h.IsTupleIter it t i/\h.IsTuple t its) where
 live:=fun i h st=>let ⟨⟨o,e,_⟩,_⟩:=st;⟨o,e⟩
 frame:=fun i h h' st k=>⟨st.1.at fun o e=>k it (by simp) o e,let ⟨o,e,r⟩:=st.2;⟨o,k t (by simp) o e,r⟩⟩
 item:=fun i s Q E hi st hQ=>Zt.nx st.1 st.2 (Array.getElem?_eq_getElem hi) fun g a b=>hQ _ g s.toks (Array.getElem?_eq_getElem hi) ⟨a,st.2.extBut b.extBut hne⟩ b
 done:=fun s Q E st hE=>Zt.Fv hh st.1 st.2 (Array.getElem?_eq_none (Nat.le_refl _)) hE
noncomputable abbrev E1(h:Heap)(l:Addr):Heap:=h.push { cls:=.type "tuple_iterator",data:=.fields #[.ref l,.int 0 0] }
noncomputable abbrev E2(h:Heap)(l:Addr):Heap:=(E1 h l).push { cls:=.type "enumerate",data:=.fields #[.none,.bool false,.ref h.objs.size,rawInt 0,.none,.none] }
def fI(l:Addr)(its:Vw)(n:Nat)(dct:Option Addr)(sl:Array (Option Value)) :
  Meets (Builtin.«enumerate.__new__» ⟨[.type "enumerate",.ref l],[]⟩) (fun _ R s=>s.heap.get? l=some { cls:=.type "tuple",dict:=dct,data:=.seq its n,slots:=sl }/\R (.ok (.ret (.ref (E1 s.heap l).objs.size))) { s with heap:=E2 s.heap l }):=
 .of_wp fun prog w A R s h=>by
  obtain⟨hp,g,d,tk,os⟩:=s;obtain⟨hl,h⟩:=h
  have hsub:=sub_enumerate
  have T:Heap.IsTuple (Shared.heap ⟨hp,g,d,tk,os⟩) l its:=⟨_,hl,rfl,n,rfl⟩
  wp_walk using wpAny_loadPart' hl
  refine wpAny_stack_any fun st=>wpAny_pure ?_
  split
  ·rename_i c _ _ _ _ _
   cases (c == Value.type "enumerate")
   ·wp_walk using wpAny_loadPart' hl,wpAny_pyIter_tuple T
    exact⟨_,rfl,h⟩
   ·wp_walk using wpAny_loadPart' hl,wpAny_pyIter_tuple T
    exact⟨_,rfl,h⟩
  ·wp_walk using wpAny_loadPart' hl,wpAny_pyIter_tuple T
   exact⟨_,rfl,h⟩
def gW{P:Program}{w:World}{A:Around}{E:Vq}{s:Shared}{l:Addr}{its:Vw}{Q:Vq}(hT:s.heap.IsTuple l its)
  (k:∀g,IsEnum g (s.heap.objs.size+1) s.heap.objs.size 0 .none->g.IsTupleIter s.heap.objs.size l 0->(∀b o,s.heap.get? b=some o->g.get? b=some o)->Q (.ref (s.heap.objs.size+1)) { s with heap:=g }) :
  wpAny (model P w) A (call (.type "enumerate") [.ref l]) Q E s:=by
 obtain⟨⟨c,dct,dt,sl⟩,hl,hc,n,hd⟩:=hT
 replace hc:c = .type "tuple":=hc
 replace hd:dt = .seq its n:=hd
 subst hc hd
 refine callType_new F.called_enumerate (by decide) (F.typeCall_enumerate_1 _) (F.newCall_enumerate_1 _) (fun obj=>F.args_object_init_2 obj _) F.entry_enumerate_new (fI l its n dct sl) ⟨hl,?_⟩
 have hz:(E1 s.heap l).objs.size=s.heap.objs.size+1:=Heap.size_push ..
 show _/\_
 rw[hz]
 have he:IsEnum (E2 s.heap l) (s.heap.objs.size+1) s.heap.objs.size 0 .none:=by
  have q:=Heap.get?_push_size (E1 s.heap l) (o:={ cls:=.type "enumerate",data:=.fields #[.none,.bool false,.ref s.heap.objs.size,rawInt 0,.none,.none] }) rfl
  rw[hz]at q
  exact q
 exact⟨⟨_,he,rfl⟩,k _ he ⟨_,Heap.get?_push_of_some _ (Heap.get?_push_size _ rfl),rfl,rfl⟩ fun b o x=>Heap.get?_push_of_some _ (Heap.get?_push_of_some _ x)⟩
end Et
namespace L2
open PySem PySem.Spec PyProof.Rows
noncomputable def E6(K:Vo)(a:Addr):It:=
  ⟨fun i H=>∃xs x,SqT K H a xs/\xs[i]?=some x,
   fun i H v H'=>∃p x,v = .ref p/\H p=none/\H'=upd H p (.tup [.int (i:Nat),x])/\∀xs,SqT K H a xs->xs[i]?=some x,
   fun i H=>∃xs,SqT K H a xs/\xs.length=i⟩
def rN{P:Program}{w:World}{K:Vo}{elts:List Expr}{k0:Nat}{Hf:Pos}{e it a:Addr}(hei:e≠it)(Qm:a≠e)(hai:a≠it) :
  m8 P w K (.Tuple elts k0 Hf) (E6 K a) [e,it] e (fun i h=>(∃old,IsEnum h e it i old)/\h.IsTupleIter it a i) where
 mem:=by simp
 obj:=fun i h st c hc=>by
  obtain⟨⟨old,ge⟩,⟨o1,e1,_,d1⟩⟩:=st
  simp only[List.mem_cons,List.not_mem_nil,or_false]at hc
  rcases hc with rfl|rfl
  ·exact⟨_,ge,fun v q=>by cases q⟩
  ·exact⟨_,e1,fun v q=>by rw[d1]at q;cases q⟩
 keep:=fun i h h' st k=>by
  obtain⟨⟨old,ge⟩,g1⟩:=st
  exact⟨⟨old,k e (by simp) _ ge⟩,g1.at fun o q=>k it (by simp) o q⟩
 item:=by
  intro X hP hw hK hc i pins s σ H E I hf st hg
  subst hP hw hK
  obtain⟨⟨old,ge⟩,g1⟩:=st
  obtain⟨xs,x,J8,hx⟩:=hg
  obtain⟨ia,ra,pa,za⟩:=I.tuple J8
  obtain⟨u,hu,ru⟩:=ra.get hx
  have hil:i < ia.toArray.size:=by
   rcases Nat.lt_or_ge i ia.length with q|q
   ·simpa using q
   ·rw[List.getElem?_eq_none q]at hu;cases hu
  refine wpAny_pyNext_enum_itemD (Et.zW (P:=X.prog) (w:=X.w) (A:=X.A.in1) (I.ok.hd hc) it a hai ia.toArray) ge ⟨g1,(show s.heap.IsTuple a ia.toArray from pa)⟩ hil hei (by simp[hei,Ne.symm Qm]) fun v g tk hv a1 a2 a3 a4 a5=>?_
  have ev:v=u:=by
   have q:ia[i]?=some v:=by simpa using hv
   rw[q]at hu
   exact Option.some.inj hu
  subst ev
  refine⟨_,rfl,wpAny_letOwnedTupleGo_enum (s:={ s with heap:=g,toks:=tk+1 }) a1 fun g' z' q'=>?_⟩
  have kk:∀c o,c ∉ [e,it]->s.heap.get? c=some o->g'.get? c=some o:=fun c o hc q=>by
   simp only[List.mem_cons,List.not_mem_nil,or_false,not_or]at hc
   exact(q'.2 c hc.1).trans (a5 c o hc.1 hc.2 q)
  have I1:Inv X pins σ H { s with heap:=g',toks:=tk+1 }:=I.HB kk hf
  have f0:ft X pins H s.heap.objs.size:=I.IC (Nat.le_refl _) (I.hok.fresh (Nat.le_refl _))
  have Ol:s.heap.objs.size≠e:=Nat.ne_of_gt (Heap.lt_size ge)
  have eT:Gy g' s.heap.objs.size [Value.int i tk,v].toArray:=⟨_,(q'.2 _ Ol).trans a3,rfl,rfl,_,rfl⟩
  have I2:=I1.Jj (ys:=[.int i,x]) f0 eT (.cons ⟨_,rfl⟩ (.cons ru .nil)) (by show 2<=sizeLine;decide)
  refine⟨.ref s.heap.objs.size,_,I2,rfl,⟨s.heap.objs.size,x,rfl,f0.1,rfl,fun xs' h1=>by rw[I.Ji h1 J8];exact hx⟩,⟨⟨v,by simpa using z'⟩,a2.1.at fun o q=>(q'.2 it hei.symm).trans q⟩,fun c hc=>?_⟩
  have hlt:c < s.heap.objs.size:=by
   obtain⟨o1,e1,_⟩:=g1
   simp only[List.mem_cons,List.not_mem_nil,or_false]at hc
   rcases hc with rfl|rfl
   ·exact Heap.lt_size ge
   ·exact Heap.lt_size e1
  rw[aI (Nat.ne_of_lt hlt)]
  exact(hf c hc).1
 done:=by
  intro X hP hw hK hc i pins s σ H E I hf st hg
  subst hP hw hK
  obtain⟨⟨old,ge⟩,g1⟩:=st
  obtain⟨xs,J8,hl⟩:=hg
  obtain⟨ia,ra,pa,za⟩:=I.tuple J8
  have la:=ra.length
  have ei:i=ia.toArray.size:=by simp;omega
  subst ei
  refine wpAny_pyNext_enum_endD (Et.zW (P:=X.prog) (w:=X.w) (A:=X.A.in1) (I.ok.hd hc) it a hai ia.toArray) ge ⟨g1,(show s.heap.IsTuple a ia.toArray from pa)⟩ fun g kk=>⟨rfl,I.HB (t':=s.toks) (fun c o hc q=>?_) hf⟩
  simp only[List.mem_cons,List.not_mem_nil,or_false,not_or]at hc
  exact kk c o hc.2 q
 self:=fun _ _ _ _ _ st h=>by
  obtain⟨⟨old,ge⟩,_⟩:=st
  exact wpAny_pyIter_enum ge h
section
variable {X:Cx}
def uu:jE X (compareOp .IsNot) (fun x y H Q=>x = .bl true/\y = .bl true/\Q (.bl false) H):=by
 intro pins s σ H x y v u Q I rx ry h
 obtain⟨rfl,rfl,q⟩:=h
 cases (show v=Value.bool true from rx)
 cases (show u=Value.bool true from ry)
 exact wpAny_isNot_self rfl ⟨.bl false,H,I,rfl,q⟩
end
def vQ(w:World)(x:Str):PyData.keyHash w.params x=hashStr w x:=rfl
noncomputable abbrev Ef(w:World)(x:Str×Int×Tok×Tok):DictEntry:=⟨PyData.keyHash w.params x.1,.str x.1 x.2.2.1,.int x.2.1 x.2.2.2⟩
def Bv(P:Program)(w:World)(xs:List (Str×Int×Tok×Tok))(ep:Nat)(nd:(xs.map (·.1)).Nodup) :
  ∃vs,KV (xs.map fun x=>((Sum.inr x.1:bI),V.int x.2.1)) vs/\Obj.IsDictOf (bf P w) { cls:=.type "dict",data:=.dict (xs.map (Ef w)).toArray ep } vs:=by
 refine⟨xs.map fun x=>((Sum.inr x.1:bI),Value.int x.2.1 x.2.2.2),?_,(xs.map (Ef w)).toArray,ep,⟨rfl,rfl,rfl⟩,rfl,?_,?_,?_⟩
 ·induction xs with
  |nil=>exact .nil
  |cons x xs ih=>exact .cons ⟨rfl,_,rfl⟩ (ih (by simpa using(List.nodup_cons.mp (by simpa using nd)).2))
 ·intro e he
  have he':e∈xs.map (Ef w):=by simpa using he
  obtain⟨x,_,rfl⟩:=List.mem_map.mp he'
  exact⟨Sum.inr x.1,kq x.1 x.2.2.1,vQ w x.1⟩
 ·have key:∀ys:List (Str×Int×Tok×Tok),Pairs (bf P w) (ys.map (Ef w)) (ys.map fun x=>((Sum.inr x.1:bI),Value.int x.2.1 x.2.2.2)):=by
   intro ys
   induction ys with
   |nil=>exact .nil
   |cons y ys ih=>exact .cons (kq y.1 y.2.2.1) rfl ih
  exact key xs
 ·rw[List.map_map]
  have e:((fun x:bI×Value=>x.1) ∘ fun x:Str×Int×Tok×Tok=>((Sum.inr x.1:bI),Value.int x.2.1 x.2.2.2))=fun x=>Sum.inr x.1:=rfl
  have key:∀ys:List (Str×Int×Tok×Tok),(ys.map (·.1)).Nodup->(ys.map fun x=>(Sum.inr x.1:bI)).Nodup:=by
   intro ys
   induction ys with
   |nil=>intro _;exact List.nodup_nil
   |cons y ys ih=>
    intro h
    rw[List.map_cons,List.nodup_cons]at h ⊢
    refine⟨fun hm=>h.1 ?_,ih h.2⟩
    obtain⟨z,hz,e⟩:=List.mem_map.mp hm
    have e':z.1=y.1:=Sum.inr.inj e
    exact List.mem_map.mpr ⟨z,hz,e'⟩
  exact key xs nd
end L2
namespace Wd
open PySem L2 PyProof.Rows
noncomputable def abc:Str:="abcdefghijklmnopqrstuvwxyz"
noncomputable def Hg:List Str:=["jars","deed","rest","pay","put","then","either","take","often","use"]
def Bw:∀i,i < 26->abc.cps.toList[i]?=some (97+i):=by decide +kernel
def lJ:abc.length<=sizeLine/\abc.cps.toList.length=26:=by decide +kernel
def vR:∀i,i < 26->Builtin.Str.occurrences abc (oG (97+i)) 0 abc.length 1=[i]:=by decide +kernel
theorem s_{α:Type} [BEq α] [LawfulBEq α]:∀{xs ys:List α},xs.Nodup->(∀x∈xs,x∈ys)->xs.length<=ys.length
 |[],ys,_,_=>Nat.zero_le _
 |x::xs,ys,nd,h=>by
  have hx:=h x (List.mem_cons_self ..)
  have q:=s_ (xs:=xs) (ys:=ys.erase x) (List.nodup_cons.mp nd).2 fun y hy=>by
   have ne:y≠x:=fun e=>(List.nodup_cons.mp nd).1 (e▸hy)
   exact(List.mem_erase_of_ne ne).mpr (h y (List.mem_cons_of_mem _ hy))
  rw[List.length_erase_of_mem hx]at q
  have:=List.length_pos_of_mem hx
  rw[List.length_cons]
  omega
noncomputable def cand(r:List Nat)(i:Nat):Str:=⟨((97+i % 26)::r).toArray⟩
def vS{r:List Nat}{i j:Nat}(h:cand r i=cand r j):i % 26=j % 26:=by
 have e:(((97+i % 26)::r).toArray).toList=(((97+j % 26)::r).toArray).toList:=congrArg (fun z:Str=>z.cps.toList) h
 simp only[List.cons.injEq]at e
 omega
def rO(r:List Nat)(c:Nat):((List.range 26).map fun i=>cand r (c+i)).Nodup:=by
 refine List.pairwise_map.mpr (List.Pairwise.imp_of_mem (R:=(·≠·)) ?_ List.nodup_range)
 intro a b ha hb ne e
 have h1:=List.mem_range.mp ha
 have h2:=List.mem_range.mp hb
 have h3:=vS e
 omega
def uv(r:List Nat)(c:Nat)(bad:Vs)(h:bad.length < 26):∃j,j < 26/\cand r (c+j) ∉ bad:=by
 refine Classical.byContradiction fun no=>?_
 have q:=s_ (rO r c) (ys:=bad) fun x hx=>by
  obtain⟨j,hj,rfl⟩:=List.mem_map.mp hx
  exact Classical.byContradiction fun z=>no ⟨j,List.mem_range.mp hj,z⟩
 rw[List.length_map,List.length_range]at q
 omega
structure IsW (z:Str):Prop where
 ne:z.cps.toList≠[]
 le:z.cps.toList.length<=6
 sm:∀c∈z.cps.toList,97<=c/\c<=122
theorem IsW.cand{z:Str}(h:IsW z):∃i r,z=Wd.cand r i/\i < 26/\r.length<=5/\∀c∈r,97<=c/\c<=122:=by
 obtain⟨⟨⟨l⟩⟩,ne,le,sm⟩:∃z',_/\_/\_:=⟨z,h.ne,h.le,h.sm⟩
 obtain⟨⟨l⟩⟩:=z
 cases l with
 |nil=>exact absurd rfl h.ne
 |cons c r=>
  have q:=h.sm c (List.mem_cons_self ..)
  refine⟨c - 97,r,?_,by omega,by have:=h.le;simp at this;omega,fun d hd=>h.sm d (List.mem_cons_of_mem _ hd)⟩
  unfold Wd.cand
  rw[show 97+(c - 97) % 26=c by omega]
def vT{r:List Nat}(h:r.length<=5)(hs:∀c∈r,97<=c/\c<=122)(i:Nat):IsW (cand r i):=by
 refine⟨by simp[cand],by simp[cand];omega,fun c hc=>?_⟩
 have hc':c∈(97+i % 26)::r:=hc
 rcases List.mem_cons.mp hc' with e|e
 ·omega
 ·exact hs c e
def IsW.len{z:Str}(h:IsW z):z.length<=6:=by have q:=h.le;rw[Array.length_toList]at q;exact q
def IsW.line{z:Str}(h:IsW z):z.length<=sizeLine:=Nat.le_trans h.len (by decide)
def nP(r:List Nat)(i:Nat):G2 (cand r i).cps.toList 0=some (97+i % 26):=ed (j:=0) rfl
def iH(r:List Nat)(i:Nat):Txt.slice (cand r i) (some 1) none=⟨r.toArray⟩:=by
 have e:Txt.slice (cand r i) (some 1) none=StrLaws.sliceText (cand r i) (some 1) none:=rfl
 rw[e,StrLaws.sliceText_from ⟨by decide,by simp[cand];omega⟩]
 simp[cand]
def nQ(r:List Nat)(i:Nat):(oG (97+(i+1) % 26):Str)++(⟨r.toArray⟩:Str)=cand r (i+1):=by
 refine Str.ext' ?_
 show #[97+(i+1) % 26]++r.toArray=_
 simp[cand]
def oI(i:Nat):G2 abc.cps.toList ((i % 26:Nat):Int)=some (97+i % 26):=ed (Bw _ (Nat.mod_lt _ (by decide)))
def l8(cs:List Nat):Txt.join "" (cs.map oG)=⟨cs.toArray⟩:=by
 have q:=join_nil_signs ⟨cs.toArray⟩
 have e:Txt.join "" (cs.map oG)=Str.join ⟨#[]⟩ (cs.map oG):=StrLaws.glued_eq_join _ _
 rw[e]
 exact q
def yH(cs:List Nat):((cs.map oG).map (·.length)).sum=cs.length:=by
 induction cs with
 |nil=>rfl
 |cons c r ih=>rw[List.map_cons,List.map_cons,List.sum_cons,ih,List.length_cons];show 1+r.length=_;omega
def yI{cs:List Nat}{a i:Nat}(h:cs.length<=5)(hs:∀c∈cs,97<=c/\c<=122)(ha:a<=cs.length)(hi:i < 26) :
  IsW (Txt.slice ⟨cs.toArray⟩ none (some (a:Int))++(oG (97+i):Str)++Txt.slice ⟨cs.toArray⟩ (some (a:Int)) none)/\(Txt.slice ⟨cs.toArray⟩ none (some (a:Int))).length<=5/\(Txt.slice ⟨cs.toArray⟩ (some (a:Int)) none).length<=5:=by
 have e1:Txt.slice ⟨cs.toArray⟩ none (some (a:Int))=⟨(cs.take a).toArray⟩:=by
  have e:Txt.slice ⟨cs.toArray⟩ none (some (a:Int))=StrLaws.sliceText ⟨cs.toArray⟩ none (some (a:Int)):=rfl
  rw[e,StrLaws.sliceText_to ⟨by omega,by simp;omega⟩]
  simp
 have e2:Txt.slice ⟨cs.toArray⟩ (some (a:Int)) none=⟨(cs.drop a).toArray⟩:=by
  have e:Txt.slice ⟨cs.toArray⟩ (some (a:Int)) none=StrLaws.sliceText ⟨cs.toArray⟩ (some (a:Int)) none:=rfl
  rw[e,StrLaws.sliceText_from ⟨by omega,by simp;omega⟩]
  refine Str.ext' ?_
  show((cs.drop (a:Int).toNat).take ((cs.length:Int) - a).toNat).toArray=(cs.drop a).toArray
  rw[Int.toNat_natCast,List.take_of_length_le (by rw[List.length_drop];omega)]
 rw[e1,e2]
 have e3:((⟨(cs.take a).toArray⟩:Str)++(oG (97+i):Str)++(⟨(cs.drop a).toArray⟩:Str)).cps.toList=cs.take a++[97+i]++cs.drop a:=by
  show((cs.take a).toArray++#[97+i]++(cs.drop a).toArray).toList=_
  simp
 refine⟨⟨by rw[e3];simp,by rw[e3];simp;omega,fun c hc=>?_⟩,?_,?_⟩
 ·rw[e3]at hc
  rcases List.mem_append.mp hc with hc|hc
  ·rcases List.mem_append.mp hc with hc|hc
   ·exact hs c (List.mem_of_mem_take hc)
   ·rw[List.mem_singleton.mp hc];omega
  ·exact hs c (List.mem_of_mem_drop hc)
 ·show(cs.take a).toArray.size<=5
  rw[List.size_toArray,List.length_take];omega
 ·show(cs.drop a).toArray.size<=5
  rw[List.size_toArray,List.length_drop];omega
end Wd
namespace M3
noncomputable def b9(t b:Int):Int:=(if b < 0 then -t else t) / (Int.gcd t b:Int)
noncomputable def bG(t b:Int):Int:=(if b < 0 then -b else b) / (Int.gcd t b:Int)
def iI{t b:Int}(h:b≠0):0 < Int.gcd t b:=Nat.gcd_pos_of_pos_right _ (by omega)
def vU{t b:Int}(h:b≠0):(Int.gcd t b:Int)<=b.natAbs:=by
 have q:Nat.gcd t.natAbs b.natAbs<=b.natAbs:=Nat.gcd_le_right _ (by omega)
 have e:Int.gcd t b=Nat.gcd t.natAbs b.natAbs:=rfl
 omega
def vV(t b:Int):Int.gcd (-t) (-b)=Int.gcd t b:=by rw[Int.gcd_neg,Int.neg_gcd]
def parts(t b:Int):∃x y:Int,t=(Int.gcd t b:Int) * x/\b=(Int.gcd t b:Int) * y:=by
 obtain⟨x,hx⟩:=Int.gcd_dvd_left t b
 obtain⟨y,hy⟩:=Int.gcd_dvd_right t b
 exact⟨x,y,hx,hy⟩
def rP{t b x y g:Int}(hg:g=(Int.gcd t b:Int))(h:b≠0)(ht:t=g * x)(hb:b=g * y):b9 t b=(if y < 0 then -x else x)/\bG t b=(if y < 0 then -y else y):=by
 have gp:0 < g:=by rw[hg];exact Int.natCast_pos.mpr (iI h)
 have hy:b < 0↔y < 0:=by
  rw[hb]
  constructor
  ·intro q
   by_cases z:y < 0
   ·exact z
   ·have:=Int.mul_nonneg (Int.le_of_lt gp) (Int.not_lt.mp z)
    omega
  ·intro q
   exact Int.mul_neg_of_pos_of_neg gp q
 unfold b9 bG
 rw[<-hg]
 by_cases z:y < 0
 ·rw[if_pos (hy.mpr z),if_pos (hy.mpr z),if_pos z,if_pos z]
  constructor
  ·rw[ht,<-Int.mul_neg,Int.mul_ediv_cancel_left _ (by omega)]
  ·rw[hb,<-Int.mul_neg,Int.mul_ediv_cancel_left _ (by omega)]
 ·rw[if_neg (fun q=>z (hy.mp q)),if_neg (fun q=>z (hy.mp q)),if_neg z,if_neg z]
  constructor
  ·rw[ht,Int.mul_ediv_cancel_left _ (by omega)]
  ·rw[hb,Int.mul_ediv_cancel_left _ (by omega)]
def yJ{t b x y:Int}(h:b≠0)(ht:t=(Int.gcd t b:Int) * x)(hb:b=(Int.gcd t b:Int) * y):Int.gcd x y=1:=by
 have gp:=iI (t:=t) h
 have q:Int.gcd ((Int.gcd t b:Int) * x) ((Int.gcd t b:Int) * y)=(Int.gcd t b:Int).natAbs * Int.gcd x y:=Int.gcd_mul_left _ _ _
 rw[<-ht,<-hb,Int.natAbs_natCast]at q
 have q2:Int.gcd t b * 1=Int.gcd t b * Int.gcd x y:=by omega
 exact(Nat.eq_of_mul_eq_mul_left gp q2).symm
structure Eg (a b:Int):Prop where
 pos:0 < b
 one:Int.gcd a b=1
def oJ{t b:Int}(h:b≠0):Eg (b9 t b) (bG t b):=by
 obtain⟨x,y,ht,hb⟩:=parts t b
 have c:=yJ h ht hb
 obtain⟨e1,e2⟩:=rP rfl h ht hb
 have y0:y≠0:=fun z=>h (by rw[hb,z,Int.mul_zero])
 rw[e1,e2]
 by_cases z:y < 0
 ·rw[if_pos z,if_pos z]
  exact⟨by omega,by rw[vV];exact c⟩
 ·rw[if_neg z,if_neg z]
  exact⟨by omega,c⟩
def i_{a b x y:Int}(L:Eg a b)(hy:0 < y)(e:x * b=a * y):b9 x y=a/\bG x y=b:=by
 have b0:=L.pos
 have d1:b.natAbs ∣ a.natAbs * y.natAbs:=by
  rw[<-Int.natAbs_mul,<-e,Int.natAbs_mul]
  exact Nat.dvd_mul_left _ _
 have c:Nat.Coprime b.natAbs a.natAbs:=by
  show Nat.gcd b.natAbs a.natAbs=1
  rw[Nat.gcd_comm]
  exact L.one
 obtain⟨k,hk⟩:=Int.natAbs_dvd_natAbs.mp (c.dvd_of_dvd_mul_left d1)
 have k0:0 < k:=by
  by_cases z:0 < k
  ·exact z
  ·have:=Int.mul_nonneg (Int.le_of_lt b0) (show 0 <= -k by omega)
   rw[Int.mul_neg]at this
   omega
 have hx:x=a * k:=by
  have q:x * b=a * k * b:=by rw[e,hk,Int.mul_assoc,Int.mul_comm k b]
  exact Int.eq_of_mul_eq_mul_right (by omega) q
 have g:(Int.gcd x y:Int)=k:=by
  rw[hx,hk,Int.gcd_mul_right,L.one,Nat.one_mul]
  omega
 have q:=rP (g:=k) (x:=a) (y:=b) (t:=x) (b:=y) g.symm (by omega) (by rw[hx,Int.mul_comm]) (by rw[hk,Int.mul_comm])
 rw[if_neg (by omega),if_neg (by omega)]at q
 exact q
def ux{t b:Int}(h:b≠0):b9 t b * b=t * bG t b:=by
 obtain⟨x,y,ht,hb⟩:=parts t b
 obtain⟨e1,e2⟩:=rP rfl h ht hb
 rw[e1,e2]
 have q:x * b=t * y:=by
  have e3:x * ((Int.gcd t b:Int) * y)=(Int.gcd t b:Int) * x * y:=by rw[<-Int.mul_assoc,Int.mul_comm x]
  rw[<-ht,<-hb]at e3
  exact e3
 by_cases z:y < 0
 ·rw[if_pos z,if_pos z,Int.neg_mul,Int.mul_neg,q]
 ·rw[if_neg z,if_neg z]
  exact q
def qg{t b:Int}(h:b≠0):t.fdiv (if b < 0 then -(Int.gcd t b:Int) else (Int.gcd t b:Int))=b9 t b/\b.fdiv (if b < 0 then -(Int.gcd t b:Int) else (Int.gcd t b:Int))=bG t b:=by
 have gp:(0:Int) < (Int.gcd t b:Int):=Int.natCast_pos.mpr (iI h)
 have d1:=Int.gcd_dvd_left t b
 have d2:=Int.gcd_dvd_right t b
 unfold b9 bG
 by_cases z:b < 0
 ·rw[if_pos z,if_pos z,if_pos z,Int.fdiv_neg (by omega),if_pos d1,Int.fdiv_neg (by omega),if_pos d2,Int.fdiv_eq_ediv_of_dvd d1,Int.fdiv_eq_ediv_of_dvd d2,Int.neg_ediv_of_dvd d1,Int.neg_ediv_of_dvd d2]
  exact⟨rfl,rfl⟩
 ·rw[if_neg z,if_neg z,if_neg z,Int.fdiv_eq_ediv_of_dvd d1,Int.fdiv_eq_ediv_of_dvd d2]
  exact⟨rfl,rfl⟩
def qh(x y:Int):Int.gcd y (x.fmod y)=Int.gcd x y:=by
 have q:=Int.mul_fdiv_add_fmod x y
 have e:Int.gcd y (x.fmod y+x.fdiv y * y)=Int.gcd y (x.fmod y):=Int.gcd_add_mul_right_right _ _ _
 rw[<-e,Int.mul_comm (x.fdiv y) y,Int.add_comm,q,Int.gcd_comm]
def vW{t b T B:Int}(h:b≠0)(h1:-T<=t)(h2:t<=T)(h3:-B<=b)(h4:b<=B)(hT:0<=T)(hB:0<=B):-T<=b9 t b/\b9 t b<=T/\0 < bG t b/\bG t b<=B:=by
 have gp:(0:Int) < (Int.gcd t b:Int):=Int.natCast_pos.mpr (iI h)
 have L:=(oJ (t:=t) h).pos
 have key:∀z M:Int,0<=M->-M<=z->z<=M->-M<=z / (Int.gcd t b:Int)/\z / (Int.gcd t b:Int)<=M:=fun z M hM z1 z2=>by
  generalize (Int.gcd t b:Int)=g at gp
  have m2:M * 1<=M * g:=Int.mul_le_mul_of_nonneg_left (by omega) hM
  have m3:-M * g = -(M * g):=Int.neg_mul M g
  exact⟨Int.le_ediv_of_mul_le gp (by omega),Int.ediv_le_of_le_mul gp (by omega)⟩
 have k1:=key (if b < 0 then -t else t) T hT (by split<;>omega) (by split<;>omega)
 have k2:=key (if b < 0 then -b else b) B hB (by split<;>omega) (by split<;>omega)
 exact⟨k1.1,k1.2,L,k2.2⟩
end M3
namespace Xc
open PySem PySem.W PySem.Calls PyProof.Rows Builtin Builtin.ObjectAttr
section
variable {prog:Program} {w:World} {A:Around} {K:Frag} {C f:Addr} {R:Result->Shared->Prop} {h:Heap} {g:Array GenState} {d:Drawn} {t:Nat} {os:OsState}
end
structure E7 (h:Heap) (e:Addr) (oe:Obj) (vs:Vw):Prop where
 at_:h.get? e=some oe
 dat:oe.data = .fields vs
 tb:vs[1]?=some .none\/∃T oT ts,vs[1]?=some (.ref T)/\T≠e/\h.get? T=some oT/\oT.data = .fields ts/\ts[3]?=some .none
section
variable {M:Model} {A:Around} {E:Vq} {s:Shared}
end
section
variable {M:Model} {A:Around} {E:Vq} {env:Env} {K:Frag} {C:Addr}
end
section
variable {prog:Program} {w:World} {A:Around} {E:Vq} {s:Shared} {K:Frag} {x C:Addr} {ox:Obj} {od:Option Obj} {name:Str} {expr:Bool} {Q:Vq}
end
section
variable {prog:Program} {w:World} {A:Around} {E:Vq} {s:Shared} {K:Frag} {x C:Addr} {ox:Obj} {od:Option Obj} {name:Str} {v:Value} {R:Result->Shared->Prop}
end
end Xc
namespace L2
open PySem PySem.Spec PyProof.Rows Xc
def FJ(X:Cx)(pins:Va)(H:Hp)(h:Heap)(a C dx:Addr):Prop:=
 ∃oe vs,E7 h a oe vs/\oe.cls = .ref C/\oe.dict=some dx/\ft X pins H a/\∀T,vs[1]?=some (.ref T)->ft X pins H T
section
variable {X:Cx} {pins:Va} {σ:St} {H H':Hp} {s s':Shared} {a C dx:Addr}
end
section
variable {X:Cx} {k:Nat} {f C:Addr} {fd:FuncData} {ps:Vs} {sp:Sp} {x m:Str} {p pos apos:Pos} {e o:Expr} {es:List Expr} {ta:TE} {t:TA}
end
def XD(dx:Addr)(fs:List (Str×V))(h:Heap):Prop:=∃mA,h.Ns1 dx mA/\(∀f,RelO (fs.lookup f) (mA f))/\PySem.Within mA (fs.map (·.1))
section
variable {X:Cx} {pins:Va} {σ:St} {H:Hp} {s:Shared}
end
section
variable {X:Cx} {o value:Expr} {f:Str} {pos pos':Pos} {ta tv:TE}
end
section
variable {P:Program} {w:World} {K:Vo} {mg:Vr} {base:Heap}
end
section
variable {X:Cx} {f C:Addr} {fd:FuncData} {ps ks:Vs} {x:Str} {p cpos pos:Pos} {e:Expr} {es:List Expr} {t:TA}
end
section
variable {X:Cx} {pins K_:Va} {σ:St} {H H':Hp} {s s':Shared} {E:Vq}
end
section
variable {X:Cx} {pins K_:Va} {σ:St} {H:Hp} {s':Shared} {E:Vq} {a C dx Dc:Addr} {i:Nat} {n x:Str} {np hpos:Pos} {b₀:Stmt} {suite:List Stmt} {th:Addr->TS} {D:rq}
end
end L2
namespace L3
open PySem L2
inductive PV where
 |non|bl (b:Bool)|int (i:Int)|str (x:Str)|tup (xs:List PV)|cl (xs:List PV)|ref (a:Addr)|ty (n:String)|exc (c:Str) (ks:Vs) (ps:List PV)|cls (c:Str)
def MZ(K:Vo)(H:Hp)(a:Addr)(xs:List V):Prop:=
 (∃o,H a=some (.frz o (.lst xs))) \/
  ∃(o:Obj) (its:Vw) (n:Nat),K.lookup a=some o/\o.cls = .type "list"/\o.dict=none/\o.data = .seq its n/\its.size<=sizeLine/\Vals xs its.toList
def MZ.sq{K:Vo}{H:Hp}{a:Addr}{xs:List V}(h:MZ K H a xs):SqL K H a xs:=h.elim (fun z=>.inl (.inr z)) .inr
def ND(H:Hp)(a C:Addr)(ks:Vs)(vs:List V):Prop:=
 ∃oe dx od,H a=some (.frz oe (.ext fun _=>True))/\oe.cls = .ref C/\oe.dict=some dx/\(∀c,oe.data ≠ .cls c)/\H dx=some (.frz od (.ext (XD dx (ks.zip vs))))
def yK(K:Vo)(c:Str)(C:Addr):Prop:=PySem.W.nsIn K mainGlobals c=some (some (.ref C))
mutual
inductive Rep (K:Vo) (H:Hp):V->PV->Prop
 |non:Rep K H .non .non
 |bl (b:Bool):Rep K H (.bl b) (.bl b)
 |int (i:Int):Rep K H (.int i) (.int i)
 |str (x:Str):Rep K H (.str x) (.str x)
 |ty (n:String):Rep K H (.ty n) (.ty n)
 |ref (a:Addr):Rep K H (.ref a) (.ref a)
 |tup {a:Addr} {vs:List V} {ps:List PV}:SqT K H a vs->Reps K H vs ps->Rep K H (.ref a) (.tup ps)
 |cl {a:Addr} {vs:List V} {ps:List PV}:MZ K H a vs->Reps K H vs ps->Rep K H (.ref a) (.cl ps)
 |exc {a C:Addr} {c:Str} {ks:Vs} {vs:List V} {ps:List PV}:yK K c C->ND H a C ks vs->Reps K H vs ps->Rep K H (.ref a) (.exc c ks ps)
 |cls {C:Addr} {c:Str}:yK K c C->Rep K H (.ref C) (.cls c)
inductive Reps (K:Vo) (H:Hp):List V->List PV->Prop
 |nil:Reps K H [] []
 |cons {v:V} {p:PV} {vs:List V} {ps:List PV}:Rep K H v p->Reps K H vs ps->Reps K H (v::vs) (p::ps)
end
structure Grow (K:Vo) (H H':Hp):Prop where
 t:∀a vs,SqT K H a vs->SqT K H' a vs
 c:∀a vs,MZ K H a vs->MZ K H' a vs
 x:∀a o u,H a=some (.frz o u)->H' a=some (.frz o u)
def Grow.refl{K:Vo}{H:Hp}:Grow K H H:=⟨fun _ _ h=>h,fun _ _ h=>h,fun _ _ _ h=>h⟩
def Grow.trans{K:Vo}{H H1 H2:Hp}(a:Grow K H H1)(b:Grow K H1 H2):Grow K H H2:=⟨fun x vs h=>b.t x vs (a.t x vs h),fun x vs h=>b.c x vs (a.c x vs h),fun x o u h=>b.x x o u (a.x x o u h)⟩
def ND.mono{K:Vo}{H H':Hp}(g:Grow K H H'){a C:Addr}{ks:Vs}{vs:List V}(h:ND H a C ks vs):ND H' a C ks vs:=let ⟨oe,dx,od,h1,h2,h3,h4,h5⟩:=h;⟨oe,dx,od,g.x _ _ _ h1,h2,h3,h4,g.x _ _ _ h5⟩
def Grow.of{K:Vo}{H H':Hp}(h:∀a xs,H a=some (.tup xs)->H' a=some (.tup xs))(h2:∀a o u,H a=some (.frz o u)->H' a=some (.frz o u)):Grow K H H':=by
 refine⟨fun a vs q=>?_,fun a vs q=>?_,h2⟩
 ·rcases q with(q|⟨o,q⟩)|q
  ·exact .inl (.inl (h a vs q))
  ·exact .inl (.inr ⟨o,h2 a o _ q⟩)
  ·exact .inr q
 ·rcases q with⟨o,q⟩|q
  ·exact .inl ⟨o,h2 a o _ q⟩
  ·exact .inr q
def Grow.same{K:Vo}{H H':Hp}(h:∀c o,H c=some o->H' c=some o):Grow K H H':=.of (fun a _ q=>h a _ q) (fun a _ _ q=>h a _ q)
def Grow.new{K:Vo}{H:Hp}{p:Addr}{o:HO}(h:H p=none):Grow K H (upd H p o):=.same fun c u q=>by rw[aI (ba q h)];exact q
noncomputable def Mu:HO->Prop
 | .tup _=>False
 | .frz _ _=>False
 |_=>True
def Grow.mut{K:Vo}{H:Hp}{p:Addr}{o u:HO}(h:H p=some u)(m:Mu u):Grow K H (upd H p o):=
 .of (fun a xs q=>by rw[aI (fun e=>by subst e;rw[h]at q;cases q;exact m)];exact q) (fun a _ _ q=>by rw[aI (fun e=>by subst e;rw[h]at q;cases q;exact m)];exact q)
mutual
theorem Rep.mono{K:Vo}{H H':Hp}(g:Grow K H H'):∀{v:V} {p:PV},Rep K H v p->Rep K H' v p
 |_,_,.non=>.non
 |_,_,.bl b=>.bl b
 |_,_,.int i=>.int i
 |_,_,.str x=>.str x
 |_,_,.ty n=>.ty n
 |_,_,.ref a=>.ref a
 |_,_,.tup h r=>.tup (g.t _ _ h) (Reps.mono g r)
 |_,_,.cl h r=>.cl (g.c _ _ h) (Reps.mono g r)
 |_,_,.exc n h r=>.exc n (h.mono g) (Reps.mono g r)
 |_,_,.cls n=>.cls n
theorem Reps.mono{K:Vo}{H H':Hp}(g:Grow K H H'):∀{vs:List V} {ps:List PV},Reps K H vs ps->Reps K H' vs ps
 |_,_,.nil=>.nil
 |_,_,.cons a r=>.cons (Rep.mono g a) (Reps.mono g r)
end
theorem Reps.length{K:Vo}{H:Hp}:∀{vs:List V} {ps:List PV},Reps K H vs ps->vs.length=ps.length
 |_,_,.nil=>rfl
 |_,_,.cons _ r=>by rw[List.length_cons,List.length_cons,Reps.length r]
theorem Reps.append{K:Vo}{H:Hp}:∀{vs us:List V} {ps qs:List PV},Reps K H vs ps->Reps K H us qs->Reps K H (vs++us) (ps++qs)
 |_,_,_,_,.nil,s=>s
 |_,_,_,_,.cons a r,s=>.cons a (Reps.append r s)
theorem Reps.get{K:Vo}{H:Hp}:∀{vs:List V} {ps:List PV} {i:Nat} {p:PV},Reps K H vs ps->ps[i]?=some p->∃v,vs[i]?=some v/\Rep K H v p
 |_,_,_,_,.nil,e=>by simp at e
 |_,_,0,_,.cons a r,e=>by simp at e;subst e;exact⟨_,rfl,a⟩
 |_,_,i+1,p,.cons a r,e=>by
  obtain⟨v,h1,h2⟩:=Reps.get (i:=i) (p:=p) r (by simpa using e)
  exact⟨v,by simpa using h1,h2⟩
theorem Reps.take{K:Vo}{H:Hp}:∀{vs:List V} {ps:List PV} (n:Nat),Reps K H vs ps->Reps K H (vs.take n) (ps.take n)
 |_,_,0,_=>.nil
 |_,_,_+1,.nil=>.nil
 |_,_,n+1,.cons a r=>.cons a (Reps.take n r)
theorem Reps.drop{K:Vo}{H:Hp}:∀{vs:List V} {ps:List PV} (n:Nat),Reps K H vs ps->Reps K H (vs.drop n) (ps.drop n)
 |_,_,0,r=>r
 |_,_,_+1,.nil=>.nil
 |_,_,n+1,.cons _ r=>Reps.drop n r
theorem Reps.set{K:Vo}{H:Hp}{v:V}{p:PV}(q:Rep K H v p):∀{vs:List V} {ps:List PV} (n:Nat),Reps K H vs ps->Reps K H (vs.set n v) (ps.set n p)
 |_,_,_,.nil=>.nil
 |_,_,0,.cons _ r=>.cons q r
 |_,_,n+1,.cons a r=>.cons a (Reps.set q n r)
theorem Reps.eraseIdx{K:Vo}{H:Hp}:∀{vs:List V} {ps:List PV} (n:Nat),Reps K H vs ps->Reps K H (vs.eraseIdx n) (ps.eraseIdx n)
 |_,_,_,.nil=>.nil
 |_,_,0,.cons _ r=>r
 |_,_,n+1,.cons a r=>.cons a (Reps.eraseIdx n r)
theorem Reps.reverse{K:Vo}{H:Hp}:∀{vs:List V} {ps:List PV},Reps K H vs ps->Reps K H vs.reverse ps.reverse
 |_,_,.nil=>.nil
 |_,_,.cons a r=>by rw[List.reverse_cons,List.reverse_cons];exact(Reps.reverse r).append (.cons a .nil)
theorem Reps.dropLast{K:Vo}{H:Hp}{vs:List V}{ps:List PV}(r:Reps K H vs ps):Reps K H vs.dropLast ps.dropLast:=by
 rw[List.dropLast_eq_take,List.dropLast_eq_take,r.length]
 exact r.take _
inductive SO where
 |lst (xs:List PV)
 |dct (kvs:List (bI×PV))
 |ins (c:Str) (fs:List (Str×PV))
abbrev aC:=Addr->Option SO
noncomputable def F3(S:aC)(a:Addr)(o:SO):aC:=fun b=>if b=a then some o else S b
def aa{S:aC}{a:Addr}{o:SO}:F3 S a o a=some o:=by unfold F3;rw[if_pos rfl]
def al{S:aC}{a b:Addr}{o:SO}(h:b≠a):F3 S a o b=S b:=by unfold F3;rw[if_neg h]
inductive Gq (K:Vo) (H:Hp) {κ:Type}:List (κ×V)->List (κ×PV)->Prop
 |nil:Gq K H [] []
 |cons {k:κ} {v:V} {p:PV} {vs:List (κ×V)} {ps:List (κ×PV)}:Rep K H v p->Gq K H vs ps->Gq K H ((k,v)::vs) ((k,p)::ps)
theorem Gq.mono{K:Vo}{H H':Hp}(g:Grow K H H'){κ:Type}:∀{vs:List (κ×V)} {ps:List (κ×PV)},Gq K H vs ps->Gq K H' vs ps
 |_,_,.nil=>.nil
 |_,_,.cons a r=>.cons (a.mono g) (Gq.mono g r)
theorem Gq.length{K:Vo}{H:Hp}{κ:Type}:∀{vs:List (κ×V)} {ps:List (κ×PV)},Gq K H vs ps->vs.length=ps.length
 |_,_,.nil=>rfl
 |_,_,.cons _ r=>by rw[List.length_cons,List.length_cons,Gq.length r]
noncomputable def Ky(K:Vo)(H:Hp)(a:Addr):SO->Prop
 | .lst xs=>∃vs,H a=some (.lst vs)/\Reps K H vs xs
 | .dct kvs=>∃kv,H a=some (.dK kv)/\Gq K H kv kvs
 | .ins c fs=>∃C dx f',yK K c C/\H a=some (.ins C dx f')/\Gq K H f' fs
theorem Ky.stay{K:Vo}{H H':Hp}(g:Grow K H H'){a:Addr}(e:H' a=H a):∀{o:SO},Ky K H a o->Ky K H' a o
 | .lst _,⟨vs,h,r⟩=>⟨vs,e.trans h,r.mono g⟩
 | .dct _,⟨vs,h,r⟩=>⟨vs,e.trans h,r.mono g⟩
 | .ins _ _,⟨C,dx,vs,n,h,r⟩=>⟨C,dx,vs,n,e.trans h,r.mono g⟩
theorem Ky.some{K:Vo}{H:Hp}{a:Addr}:∀{o:SO},Ky K H a o->∃u,H a=Option.some u/\Mu u
 | .lst _,⟨_,h,_⟩=>⟨_,h,trivial⟩
 | .dct _,⟨_,h,_⟩=>⟨_,h,trivial⟩
 | .ins _ _,⟨_,_,_,_,h,_⟩=>⟨_,h,trivial⟩
def Ga(K:Vo)(H:Hp)(S:aC):Prop:=∀a o,S a=some o->Ky K H a o
def Ga.free{K:Vo}{H:Hp}{S:aC}(r:Ga K H S){p:Addr}(h:H p=none):S p=none:=by
 cases e:S p with
 |none=>rfl
 |some o=>
  obtain⟨u,q,_⟩:=(r p o e).some
  rw[h]at q;cases q
def Ga.grow{K:Vo}{H H':Hp}{S:aC}(r:Ga K H S)(h:∀c o,H c=some o->H' c=some o):Ga K H' S:=fun a o e=>by
 obtain⟨u,q,_⟩:=(r a o e).some
 exact(r a o e).stay (.same h) ((h a u q).trans q.symm)
def Ga.other{K:Vo}{H:Hp}{S:aC}(r:Ga K H S){p:Addr}{o:HO}(h:H p=none):Ga K (upd H p o) S:=r.grow fun c u q=>by rw[aI (ba q h)];exact q
theorem Ga.new{K:Vo}{H:Hp}{S:aC}(r:Ga K H S){p:Addr}{u:HO}{o:SO}(h:H p=none)(q:Ky K (upd H p u) p o):Ga K (upd H p u) (F3 S p o):=fun a x e=>by
 by_cases z:a=p
 ·subst z;rw[aa]at e;cases e;exact q
 ·rw[al z]at e;exact(r a x e).stay (.new h) (aI z)
def Ga.put{K:Vo}{H:Hp}{S:aC}(r:Ga K H S){p:Addr}{u0 u:HO}{o:SO}(h:H p=some u0)(m:Mu u0)(q:Ky K (upd H p u) p o):Ga K (upd H p u) (F3 S p o):=fun a x e=>by
 by_cases z:a=p
 ·subst z;rw[aa]at e;cases e;exact q
 ·rw[al z]at e;exact(r a x e).stay (.mut h m) (aI z)
abbrev cM:=List (Option PV)
noncomputable def lk:cM->Nat->Option PV
 |[],_=>none
 |x::_,0=>x
 |_::r,i+1=>lk r i
def rQ{σ:cM}{i:Nat}{p:PV}(h:lk σ i=some p):σ[i]?=some (some p):=by
 induction σ generalizing i with
 |nil=>cases h
 |cons x r ih=>
  cases i with
  |zero=>exact congrArg some h
  |succ i=>exact ih h
structure Gi (K:Vo) (H:Hp) (σ:St) (σ3:cM):Prop where
 len:σ.length=σ3.length
 at':∀(i:Nat) (p:PV),σ3[i]?=some (some p)->∃v,σ[i]?=some (some v)/\Rep K H v p
theorem Gi.mono{K:Vo}{H H':Hp}{σ:St}{σ3:cM}(r:Gi K H σ σ3)(g:Grow K H H'):Gi K H' σ σ3:=⟨r.len,fun i p e=>let ⟨v,h,q⟩:=r.at' i p e;⟨v,h,q.mono g⟩⟩
theorem Gi.set{K:Vo}{H:Hp}{σ:St}{σ3:cM}(r:Gi K H σ σ3){v:V}{p:PV}(q:Rep K H v p)(i:Nat):Gi K H (σ.set i (some v)) (σ3.set i (some p)):=by
 refine⟨by rw[List.length_set,List.length_set,r.len],fun j x e=>?_⟩
 rw[List.getElem?_set]at e ⊢
 split at e
 ·rename_i hij
  rw[if_pos hij]
  subst hij
  split at e
  ·rename_i hl
   cases e
   rw[if_pos (by rw[r.len];exact hl)]
   exact⟨v,rfl,q⟩
  ·cases e
 ·rename_i hij
  rw[if_neg hij]
  exact r.at' j x e
abbrev bJ:=PV->aC->Prop
abbrev b6:=PV->cM->aC->Prop
abbrev aY:=cM->aC->bJ->b6->Prop
abbrev li:=cM->aC->(Bool->aC->Prop)->b6->Prop
abbrev FK:=cM->aC->(List PV->aC->Prop)->b6->Prop
structure qi where
 nx:cM->aC->Prop
 rt:bJ
 ex:b6
 bk:cM->aC->Prop:=fun _ _=>False
 ct:cM->aC->Prop:=fun _ _=>False
abbrev bF:=qi->cM->aC->Prop
def Lo(X:Cx)(H:Hp)(E:b6):Prop:=∀(c:Str) (ks:Vs) (ps:List PV) (σ3:cM) (S':aC) (H':Hp) (pins:Va) (σ:St) (s':Shared) (a C dx:Addr) (od:Obj) (vs:List V),E (.exc c ks ps) σ3 S'->yK X.K c C->vs.length=ks.length->
 H' dx=some (.frz od (.ext (XD dx (ks.zip vs))))->Reps X.K H' vs ps->Ga X.K H' S'->Gi X.K H' σ σ3->Grow X.K H H'->Inv X pins σ H' s'->FJ X pins H' s'.heap a C dx->X.xe (.ref a) s'
def Lo.mono{X:Cx}{H H':Hp}{E:b6}(x:Lo X H E)(g:Grow X.K H H'):Lo X H' E:=fun c ks ps σ3 S' H2 pins σ s' a C dx od vs h1 h2 h3 h4 h5 h6 h7 h8 h9 Qn=>x c ks ps σ3 S' H2 pins σ s' a C dx od vs h1 h2 h3 h4 h5 h6 h7 (g.trans h8) h9 Qn
def Lp(K:Vo)(H:Hp)(Q3:bJ)(Q:VK):Prop:=∀p S' v H',Q3 p S'->Rep K H' v p->Ga K H' S'->Grow K H H'->Q v H'
def Lp.mono{K:Vo}{H H':Hp}{Q3:bJ}{Q:VK}(r:Lp K H Q3 Q)(g:Grow K H H'):Lp K H' Q3 Q:=fun p S' v H2 h1 h2 h3 h4=>r p S' v H2 h1 h2 h3 (g.trans h4)
def M0(K:Vo)(H:Hp)(N3:cM->aC->Prop)(N:St->Hp->Prop):Prop:=∀σ3 S' σ H',N3 σ3 S'->Gi K H' σ σ3->Ga K H' S'->Grow K H H'->N σ H'
def M0.mono{K:Vo}{H H':Hp}{Q3:cM->aC->Prop}{Q:St->Hp->Prop}(r:M0 K H Q3 Q)(g:Grow K H H'):M0 K H' Q3 Q:=fun p S' v H2 h1 h2 h3 h4=>r p S' v H2 h1 h2 h3 (g.trans h4)
def LE(X:Cx)(t:aY):TE:=fun σ H Q=>∃σ3 S Q3 E3,Gi X.K H σ σ3/\Ga X.K H S/\t σ3 S Q3 E3/\Lo X H E3/\Lp X.K H Q3 Q
def LT(X:Cx)(t:li):TT:=fun σ H Q=>∃σ3 S Q3 E3,Gi X.K H σ σ3/\Ga X.K H S/\t σ3 S Q3 E3/\Lo X H E3/\∀b S' H',Q3 b S'->Ga X.K H' S'->Grow X.K H H'->Q b H'
def LS(X:Cx)(t:bF):TS:=fun D σ H=>∃σ3 S D3,Gi X.K H σ σ3/\Ga X.K H S/\t D3 σ3 S/\Lo X H D3.ex/\M0 X.K H D3.nx D.nx/\Lp X.K H D3.rt D.rt/\M0 X.K H D3.bk D.bk/\M0 X.K H D3.ct D.ct
structure bB (X:Cx) (e:Expr) (t:aY):Prop where
 ok:PE X e (LE X t)
structure rR (X:Cx) (e:Expr) (t:li):Prop where
 ok:PT X e (LT X t)
structure Bx (X:Cx) (e:Expr) (t:li):Prop where
 ok:PW X e (LT X t)
structure rf (X:Cx) (st:Stmt) (t:bF):Prop where
 ok:PS X st (LS X t)
structure kB (X:Cx) (st:List Stmt) (t:bF):Prop where
 ok:Kx X st (LS X t)
def aW{X:Cx}{e:Expr}{t t':TE}(h:PE X e t)(k:∀σ H Q,t' σ H Q->t σ H Q):PE X e t':=fun pins s σ H Q I q=>h pins s σ H Q I (k σ H Q q)
def rT{X:Cx}{e:Expr}{t t':TT}(h:PT X e t)(k:∀σ H Q,t' σ H Q->t σ H Q):PT X e t':=fun pins s σ H Q I q=>h pins s σ H Q I (k σ H Q q)
def vX{X:Cx}{e:Expr}{t t':TT}(h:PW X e t)(k:∀σ H Q,t' σ H Q->t σ H Q):PW X e t':=fun wh pins s σ H Q I q=>h wh pins s σ H Q I (k σ H Q q)
def dZ{X:Cx}{e:Stmt}{t t':TS}(h:PS X e t)(k:∀D σ H,t' D σ H->t D σ H):PS X e t':=fun pins s σ H D I q=>h pins s σ H D I (k D σ H q)
def tj{X:Cx}{e:List Stmt}{t t':TS}(h:Kx X e t)(k:∀D σ H,t' D σ H->t D σ H):Kx X e t':=fun pins s σ H D I q=>h pins s σ H D I (k D σ H q)
section
variable {X:Cx} {a b c e o:Expr} {es:List Expr} {ta tb tc te:aY} {pos:Pos}
def v3(i:Nat):aY:=fun σ S Q _=>match lk σ i with|some p=>Q p S|none=>False
def ad(i:Nat){x:Str}(hN:X.N[i]?=some x:=by rfl)(hv:Co X.env.scope x:=by first|exact Or.inl rfl|exact Or.inr (Or.inl rfl)|exact Or.inr (Or.inr rfl))(hd:(x == ("__debug__":Str))=false:=by decide)
  (hcd:(x == ("__classdict__":Str))=false:=by decide):bB X (.Name x pos) (v3 i):=
 ⟨aW (AE hN hv hd hcd) fun σ H Q ⟨σ3,S,Q3,E3,rσ,rS,h,xo,k⟩=>by
  unfold v3 at h
  split at h
  ·rename_i p e
   obtain⟨v,ev,rv⟩:=rσ.at' i p (rQ e)
   exact⟨v,ev,k p S v H h rv rS .refl⟩
  ·exact h.elim⟩
def c3(p:PV):aY:=fun _ S Q _=>Q p S
def ai{i:Int}{j:Nat}:bB X (.Constant (.int i) j pos) (c3 (.int i)):=⟨aW AF fun σ H Q ⟨σ3,S,Q3,E3,rσ,rS,h,xo,k⟩=>k _ S _ H h (.int i) rS .refl⟩
def vY{i:Bool}{j:Nat}:bB X (.Constant (.bool i) j pos) (c3 (.bl i)):=⟨aW Cp fun σ H Q ⟨σ3,S,Q3,E3,rσ,rS,h,xo,k⟩=>k _ S _ H h (.bl i) rS .refl⟩
def ar{i:Str}{j:Nat}:bB X (.Constant (.str i) j pos) (c3 (.str i)):=⟨aW AH fun σ H Q ⟨σ3,S,Q3,E3,rσ,rS,h,xo,k⟩=>k _ S _ H h (.str i) rS .refl⟩
def l9{j:Nat}:bB X (.Constant .none j pos) (c3 .non):=⟨aW AG fun σ H Q ⟨σ3,S,Q3,E3,rσ,rS,h,xo,k⟩=>k _ S _ H h .non rS .refl⟩
def E8{x:Str}{n:String}(hg:Gl X x)(hm:X.mg x=none)(hv:bootBuiltins x=some (.type n))(hn:x ≠ "__name__":=by decide)(hd:(x == ("__debug__":Str))=false:=by decide):bB X (.Name x pos) (c3 (.ty n)):=
 ⟨aW (xY (v:=.ty n) hg hm hv rfl hn hd) fun σ H Q ⟨σ3,S,Q3,E3,rσ,rS,h,xo,k⟩=>k _ S _ H h (.ty n) rS .refl⟩
noncomputable def aq:List aY->FK
 |[],_,S,Q,_=>Q [] S
 |t::ts,σ,S,Q,E=>t σ S (fun x S1=>aq ts σ S1 (fun xs S2=>Q (x::xs) S2) E) E
noncomputable def Eh:List TE->TA
 |[]=>CO
 |t::ts=>zQ t (Eh ts)
structure kn (X:Cx) (es:List Expr) (ts:List aY):Prop where
 ok:PA X es (Eh (ts.map (LE X)))
def cv:kn X [] []:=⟨A6⟩
def vZ{ts:List aY}(hs:starEach (e::es) X.env=(false,eval e X.env)::starEach es X.env)(ha:bB X e te)(hr:kn X es ts):kn X (e::es) (te::ts):=⟨ym ha.ok hr.ok hs⟩
theorem cK:∀{ts:List aY} {σ:L2.St} {H:Hp} {Q:List V->Hp->Prop} {σ3:cM} {S:aC} {Q3:List PV->aC->Prop} {E3:b6},Gi X.K H σ σ3->Ga X.K H S->aq ts σ3 S Q3 E3->Lo X H E3->
  (∀ps S' vs H',ps.length=ts.length->Q3 ps S'->Reps X.K H' vs ps->Ga X.K H' S'->Grow X.K H H'->Q vs H')->Eh (ts.map (LE X)) σ H Q
 |[],σ,H,Q,σ3,S,Q3,E3,rσ,rS,h,xo,k=>k [] S [] H rfl h .nil rS .refl
 |t::ts,σ,H,Q,σ3,S,Q3,E3,rσ,rS,h,xo,k=>
  ⟨σ3,S,_,E3,rσ,rS,h,xo,fun p S1 v H1 h1 rv Gd g1=>cK (rσ.mono g1) Gd h1 (xo.mono g1) fun ps S2 vs H2 hl h2 Om HD g2=>k (p::ps) S2 (v::vs) H2 (by rw[List.length_cons,List.length_cons,hl]) h2 (.cons (rv.mono g2) Om) HD (g1.trans g2)⟩
def ay(ts:List aY):aY:=fun σ S Q E=>aq ts σ S (fun xs S1=>Q (.tup xs) S1) E
def az{ts:List aY}{x1:Nat}(h:kn X es ts)(hn:ts.length<=1000:=by exact Nat.le_of_ble_eq_true rfl):bB X (.Tuple es x1 pos) (ay ts):=
 ⟨aW (A7 h.ok) fun σ H Q ⟨σ3,S,Q3,E3,rσ,rS,hq,xo,k⟩=>cK rσ rS hq xo fun ps S' vs H' hl q rv ID g=>
  ⟨Nat.le_of_lt (fG (by rw[rv.length,hl];exact hn)),fun p hp=>k _ S' _ _ q (.tup (SqT.of aG) (rv.mono (.new hp))) (ID.other hp) (g.trans (.new hp))⟩⟩
def bC(ts:List aY):aY:=fun σ S Q E=>aq ts σ S (fun xs S1=>∀p,S1 p=none->Q (.ref p) (F3 S1 p (.lst xs))) E
def bw{ts:List aY}(h:kn X es ts)(hn:ts.length<=1000:=by exact Nat.le_of_ble_eq_true rfl):bB X (.List es pos) (bC ts):=
 ⟨aW (A8 h.ok) fun σ H Q ⟨σ3,S,Q3,E3,rσ,rS,hq,xo,k⟩=>cK rσ rS hq xo fun ps S' vs H' hl q rv ID g=>
  ⟨Nat.le_of_lt (fG (by rw[rv.length,hl];exact hn)),fun p hp=>k _ _ _ _ (q p (ID.free hp)) (.ref p) (ID.new hp ⟨vs,aG,rv.mono (.new hp)⟩) (g.trans (.new hp))⟩⟩
abbrev R3:=PV->PV->aC->bJ->Prop
def LR(X:Cx)(r:R3):R2:=fun x y H Q=>∃px py S Q3,Rep X.K H x px/\Rep X.K H y py/\Ga X.K H S/\r px py S Q3/\Lp X.K H Q3 Q
structure ko (X:Cx) (f:Value->Value->Sem Value) (r:R3):Prop where
 ok:jE X f (LR X r)
def af(r:R3)(ta tb:aY):aY:=fun σ S Q E=>ta σ S (fun x S1=>tb σ S1 (fun y S2=>r x y S2 Q) E) E
def lK{r:R3}{σ:L2.St}{H:Hp}{Q:VK}:LE X (af r ta tb) σ H Q->CD (LR X r) (LE X ta) (LE X tb) σ H Q:=fun⟨σ3,S,Q3,E3,rσ,rS,h,xo,k⟩=>
 ⟨σ3,S,_,E3,rσ,rS,h,xo,fun x S1 v H1 h1 rx Gd g1=>⟨σ3,S1,_,E3,rσ.mono g1,Gd,h1,xo.mono g1,fun y S2 u H2 h2 ry HD g2=>⟨x,y,S2,Q3,rx.mono g2,ry,HD,h2,k.mono (g1.trans g2)⟩⟩⟩
def aE{op:Operator}{r:R3}(ho:ko X (binaryOp op) r)(ha:bB X a ta)(hb:bB X b tb):bB X (.BinOp a op b pos) (af r ta tb):=⟨aW (CF ho.ok ha.ok hb.ok) fun _ _ _=>lK⟩
def fJ{op:CmpOp}{r:R3}(ho:ko X (compareOp op) r)(ha:bB X a ta)(hb:bB X b tb)(hm:behindInMarks op b=false):bB X (.Compare a [op] [b] pos) (af r ta tb):=⟨aW (yj ho.ok ha.ok hb.ok hm) fun _ _ _=>lK⟩
def aO(t:aY):li:=fun σ S Q E=>t σ S (fun v S'=>match v with | .bl k=>Q k S'|_=>False) E
def v5{σ:L2.St}{H:Hp}{Q:Bool->Hp->Prop}:LT X (aO te) σ H Q->LE X te σ H (fun x H'=>∃k,x = .bl k/\Q k H'):=fun⟨σ3,S,Q3,E3,rσ,rS,h,xo,k⟩=>
 ⟨σ3,S,_,E3,rσ,rS,h,xo,fun p S' v H' h1 rv ID g=>by
  cases p with
  |bl z=>cases rv;exact⟨z,rfl,k z S' H' h1 ID g⟩
  |_=>exact h1.elim⟩
def bq{op:CmpOp}{r:R3}(ho:ko X (compareOp op) r)(ha:bB X a ta)(hb:bB X b tb)(hm:behindInMarks op b=false):rR X (.Compare a [op] [b] pos) (aO (af r ta tb)):=
 ⟨rT (yk ho.ok ha.ok hb.ok hm) fun σ H Q ⟨σ3,S,Q3,E3,rσ,rS,h,xo,k⟩=>lK ⟨σ3,S,_,E3,rσ,rS,h,xo,fun p S' v H' h1 rv ID g=>by
  cases p with
  |bl z=>cases rv;exact⟨z,rfl,k z S' H' h1 ID g⟩
  |_=>exact h1.elim⟩⟩
def qj(h:bB X e te)(he:∀whole,isTrue e X.env whole=(do let v <-whole;standAt e.pos;holding [v] (truthy v)):=by intro _;rfl):rR X e (aO te):=
 ⟨rT (AI h.ok he) fun σ H Q q=>v5 q⟩
end
section
variable {X:Cx} {a b c:Expr} {rest:List Expr} {ta tb te:aY} {tA tB:li} {pos:Pos}
def jJ(t u:li):li:=fun σ S Q E=>t σ S (fun c S1=>if c=true then u σ S1 Q E else Q false S1) E
def ll(t u:li):li:=fun σ S Q E=>t σ S (fun c S1=>if c=true then Q true S1 else u σ S1 Q E) E
def rV(t:li):li:=fun σ S Q E=>t σ S (fun c S1=>Q (!c) S1) E
def kC(ha:rR X a tA):Bx X (.BoolOp .And [a] pos) tA:=⟨xZ ha.ok⟩
def gX(ha:rR X a tA):Bx X (.BoolOp .Or [a] pos) tA:=⟨AJ ha.ok⟩
def l_(ha:rR X a tA)(hb:Bx X (.BoolOp .And (b::rest) pos) tB):Bx X (.BoolOp .And (a::b::rest) pos) (jJ tA tB):=
 ⟨vX (AK ha.ok hb.ok) fun σ H Q ⟨σ3,S,Q3,E3,rσ,rS,h,xo,k⟩=>⟨σ3,S,_,E3,rσ,rS,h,xo,fun c S1 H1 h1 Gd g1=>by
  cases c with
  |true=>rw[if_pos rfl]at h1 ⊢;exact⟨σ3,S1,Q3,E3,rσ.mono g1,Gd,h1,xo.mono g1,fun b S2 H2 h2 HD g2=>k b S2 H2 h2 HD (g1.trans g2)⟩
  |false=>rw[if_neg (by decide)]at h1 ⊢;exact k false S1 H1 h1 Gd g1⟩⟩
def lE(ha:rR X a tA)(hb:Bx X (.BoolOp .Or (b::rest) pos) tB):Bx X (.BoolOp .Or (a::b::rest) pos) (ll tA tB):=
 ⟨vX (Cq ha.ok hb.ok) fun σ H Q ⟨σ3,S,Q3,E3,rσ,rS,h,xo,k⟩=>⟨σ3,S,_,E3,rσ,rS,h,xo,fun c S1 H1 h1 Gd g1=>by
  cases c with
  |true=>rw[if_pos rfl]at h1 ⊢;exact k true S1 H1 h1 Gd g1
  |false=>rw[if_neg (by decide)]at h1 ⊢;exact⟨σ3,S1,Q3,E3,rσ.mono g1,Gd,h1,xo.mono g1,fun b S2 H2 h2 HD g2=>k b S2 H2 h2 HD (g1.trans g2)⟩⟩⟩
def qk(h:Bx X a tA):rR X a tA:=⟨h.ok.pt⟩
def zX(ha:rR X a tA):rR X (.UnaryOp .Not a pos) (rV tA):=
 ⟨rT (AL ha.ok) fun σ H Q ⟨σ3,S,Q3,E3,rσ,rS,h,xo,k⟩=>⟨σ3,S,_,E3,rσ,rS,h,xo,fun c S1 H1 h1 Gd g1=>k (!c) S1 H1 h1 Gd g1⟩⟩
def bX(t u:aY):aY:=fun σ S Q E=>t σ S (fun v S1=>match v with | .bl c=>if c=true then u σ S1 Q E else Q (.bl false) S1|_=>False) E
def ma(t u:aY):aY:=fun σ S Q E=>t σ S (fun v S1=>match v with | .bl c=>if c=true then Q (.bl true) S1 else u σ S1 Q E|_=>False) E
def nR(t:aY):aY:=fun σ S Q E=>t σ S (fun v S1=>match v with | .bl c=>Q (.bl (!c)) S1|_=>False) E
def jK{op:BoolOp}(h:bB X a ta):bB X (.BoolOp op [a] pos) ta:=⟨AM h.ok⟩
def lm(ha:bB X a ta)(hb:bB X (.BoolOp .And (b::rest) pos) tb):bB X (.BoolOp .And (a::b::rest) pos) (bX ta tb):=
 ⟨aW (AN ha.ok hb.ok) fun σ H Q ⟨σ3,S,Q3,E3,rσ,rS,h,xo,k⟩=>⟨σ3,S,_,E3,rσ,rS,h,xo,fun p S1 v H1 h1 rv Gd g1=>by
  cases p with
  |bl z=>
   cases rv
   refine⟨z,rfl,?_⟩
   cases z with
   |true=>rw[if_pos rfl];exact⟨σ3,S1,Q3,E3,rσ.mono g1,Gd,h1,xo.mono g1,k.mono g1⟩
   |false=>rw[if_neg (by decide)];exact k _ S1 _ H1 h1 (.bl false) Gd g1
  |_=>exact h1.elim⟩⟩
def C6(ha:bB X a ta)(hb:bB X (.BoolOp .Or (b::rest) pos) tb):bB X (.BoolOp .Or (a::b::rest) pos) (ma ta tb):=
 ⟨aW (Ct ha.ok hb.ok) fun σ H Q ⟨σ3,S,Q3,E3,rσ,rS,h,xo,k⟩=>⟨σ3,S,_,E3,rσ,rS,h,xo,fun p S1 v H1 h1 rv Gd g1=>by
  cases p with
  |bl z=>
   cases rv
   refine⟨z,rfl,?_⟩
   cases z with
   |true=>rw[if_pos rfl];exact k _ S1 _ H1 h1 (.bl true) Gd g1
   |false=>rw[if_neg (by decide)];exact⟨σ3,S1,Q3,E3,rσ.mono g1,Gd,h1,xo.mono g1,k.mono g1⟩
  |_=>exact h1.elim⟩⟩
def C7(ha:bB X a ta):bB X (.UnaryOp .Not a pos) (nR ta):=
 ⟨aW (AO ha.ok) fun σ H Q ⟨σ3,S,Q3,E3,rσ,rS,h,xo,k⟩=>⟨σ3,S,_,E3,rσ,rS,h,xo,fun p S1 v H1 h1 rv Gd g1=>by
  cases p with
  |bl z=>cases rv;exact⟨z,rfl,k _ S1 _ H1 h1 (.bl _) Gd g1⟩
  |_=>exact h1.elim⟩⟩
def rW(t:li)(ta tb:aY):aY:=fun σ S Q E=>t σ S (fun c S1=>if c=true then ta σ S1 Q E else tb σ S1 Q E) E
def v6(hc:rR X c tA)(ha:bB X a ta)(hb:bB X b tb):bB X (.IfExp c a b pos) (rW tA ta tb):=
 ⟨aW (vg hc.ok ha.ok hb.ok) fun σ H Q ⟨σ3,S,Q3,E3,rσ,rS,h,xo,k⟩=>⟨σ3,S,_,E3,rσ,rS,h,xo,fun c S1 H1 h1 Gd g1=>by
  cases c with
  |true=>rw[if_pos rfl]at h1 ⊢;exact⟨σ3,S1,Q3,E3,rσ.mono g1,Gd,h1,xo.mono g1,k.mono g1⟩
  |false=>rw[if_neg (by decide)]at h1 ⊢;exact⟨σ3,S1,Q3,E3,rσ.mono g1,Gd,h1,xo.mono g1,k.mono g1⟩⟩⟩
abbrev C8:=PV->aC->bJ->Prop
noncomputable def FL(X:Cx)(r:C8):V->Hp->VK->Prop:=fun x H Q=>∃px S Q3,Rep X.K H x px/\Ga X.K H S/\r px S Q3/\Lp X.K H Q3 Q
structure Fw (X:Cx) (f:Value->Sem Value) (r:C8):Prop where
 ok:Ec X f (FL X r)
def d0(r:C8)(ta:aY):aY:=fun σ S Q E=>ta σ S (fun x S1=>r x S1 Q) E
def dg{op:UnaryOp}{r:C8}(ho:Fw X (unaryOp op) r)(ha:bB X a ta):bB X (.UnaryOp op a pos) (d0 r ta):=
 ⟨aW (CG ho.ok ha.ok) fun σ H Q ⟨σ3,S,Q3,E3,rσ,rS,h,xo,k⟩=>⟨σ3,S,_,E3,rσ,rS,h,xo,fun p S1 v H1 h1 rv Gd g1=>⟨p,S1,Q3,rv,Gd,h1,k.mono g1⟩⟩⟩
noncomputable def bD:C8:=fun x S Q=>match x with | .int i=>Q (.int (-i)) S|_=>False
def bn:Fw X (unaryOp .USub) bD:=⟨fun pins s σ H x v Q I rx ⟨px,S,Q3,r1,rS,h,k⟩=>by
 cases px with
 |int i=>cases r1;exact A5 pins s σ H _ v Q I rx ⟨i,rfl,k _ S _ H h (.int _) rS .refl⟩
 |_=>exact h.elim⟩
end
section
variable {X:Cx}
def fT(g:Int->Int->PV):R3:=fun x y S Q=>match x,y with | .int i,.int j=>Q (g i j) S|_,_=>False
def iW(C:Int->Int->Prop)(g:Int->Int->PV):R3:=fun x y S Q=>match x,y with | .int i,.int j=>C i j/\Q (g i j) S|_,_=>False
def By{f:Value->Value->Sem Value}{g:Int->Int->Int}(h:jE X f (yg fun i j=>.int (g i j))):ko X f (fT fun i j=>.int (g i j)):=⟨fun pins s σ H x y v u Q I rx ry ⟨px,py,S,Q3,r1,r2,rS,q,k⟩=>by
 cases px with
 |int i=>
  cases py with
  |int j=>cases r1;cases r2;exact h pins s σ H _ _ v u Q I rx ry ⟨i,j,rfl,rfl,k _ S _ H q (.int _) rS .refl⟩
  |_=>exact q.elim
 |_=>exact q.elim⟩
def oK{f:Value->Value->Sem Value}{g:Int->Int->Bool}(h:jE X f (yg fun i j=>.bl (g i j))):ko X f (fT fun i j=>.bl (g i j)):=⟨fun pins s σ H x y v u Q I rx ry ⟨px,py,S,Q3,r1,r2,rS,q,k⟩=>by
 cases px with
 |int i=>
  cases py with
  |int j=>cases r1;cases r2;exact h pins s σ H _ _ v u Q I rx ry ⟨i,j,rfl,rfl,k _ S _ H q (.bl _) rS .refl⟩
  |_=>exact q.elim
 |_=>exact q.elim⟩
def oM{f:Value->Value->Sem Value}{C:Int->Int->Prop}{g:Int->Int->Int}(h:jE X f (rI C fun i j=>.int (g i j))):ko X f (iW C fun i j=>.int (g i j)):=⟨fun pins s σ H x y v u Q I rx ry ⟨px,py,S,Q3,r1,r2,rS,q,k⟩=>by
 cases px with
 |int i=>
  cases py with
  |int j=>cases r1;cases r2;exact h pins s σ H _ _ v u Q I rx ry ⟨i,j,rfl,rfl,q.1,k _ S _ H q.2 (.int _) rS .refl⟩
  |_=>exact q.elim
 |_=>exact q.elim⟩
def nS(i j:Int):Prop:=j≠0/\j.natAbs < 2 ^ 8000
def rX{n:Nat}(h:n < 2 ^ 8000):n.log2 < 9000:=by
 by_cases z:n=0
 ·rw[z];decide +kernel
 ·exact Nat.lt_trans ((Nat.log2_lt z).mpr h) (by decide)
def Bz:ko X (binaryOp .Sub) (fT fun i j=>.int (i - j)):=By A3
def BA:ko X (binaryOp .Mod) (iW (fun _ j=>j≠0) fun i j=>.int (i.fmod j)):=oM yh
def yL:ko X (binaryOp .FloorDiv) (iW nS fun i j=>.int (i.fdiv j)):=oM (Ed fun _ _ _ _ _ _ _ hc q=>PyProof.Rows.floordiv_int hc.1 q (.inl (PyProof.noPylong_of_log2 (rX hc.2))))
def BB:ko X (binaryOp .Pow) (iW A1 fun i j=>.int (i ^ j.toNat)):=oM A4
def C9:ko X (compareOp .Lt) (fT fun i j=>.bl (decide (i < j))):=oK CK
def C_:ko X (compareOp .Gt) (fT fun i j=>.bl (decide (j < i))):=oK CL
def Dd:ko X (compareOp .GtE) (fT fun i j=>.bl (decide (j<=i))):=oK CM
end
end L3
namespace L2
open PySem PySem.Spec PyProof.Rows
section
variable {X:Cx}
def De(K:Vo):R2:=fun x y H Q=>∃a b xs ys,x = .ref a/\y = .ref b/\SqT K H a xs/\SqT K H b ys/\xs.length+ys.length<=sizeLine/\∀r H',(∀c o,H c=some o->H' c=some o)->SqT K H' r (xs++ys)->Q (.ref r) H'
def yM:jE X (binaryOp .Add) (De X.K):=by
 intro pins s σ H x y v u Q I rx ry h
 obtain⟨a,b,xs,ys,rfl,rfl,ha,hb,hz,q⟩:=h
 by_cases hx:xs=[]
 ·subst hx
  cases rx
  cases ry
  obtain⟨its,r1,p1,_⟩:=I.tuple ha
  obtain⟨its2,r2,p2,_⟩:=I.tuple hb
  cases r1
  obtain⟨⟨cls,dd,data,sl⟩,ho,hc,n,hd⟩:=id p1
  obtain⟨⟨N6,dd2,data2,sl2⟩,ho2,hc2,n2,hd2⟩:=id p2
  simp only at hc hd hc2 hd2
  subst hc hd hc2 hd2
  exact concat_meets ⟨_,ho,rfl⟩ ⟨_,ho2,rfl⟩ noFill_tuple_add seq_tuple_add PySem.F.slot_tuple_add PySem.F.entry_tuple_add (PySem.F.args_tuple_add_2 _ _)
   (tuple_addW0 a b _ its2.toArray n n2 dd dd2 sl sl2 rfl) ⟨ho,ho2,⟨.ref b,H,I,rfl,q b H (fun _ _ e=>e) hb⟩⟩
 ·exact yt pins s σ H _ _ v u Q I rx ry ⟨a,b,xs,ys,rfl,rfl,ha,hb,hx,hz,fun e=>q a H (fun _ _ e=>e) (by rw[e,List.append_nil];exact ha),
   fun _ p hp=>q p _ (fun c o e=>by rw[aI (ba e hp)];exact e) (SqT.of aG)⟩
end
end L2
namespace L3
open PySem L2
section
variable {X:Cx}
def aS:R3:=fun x y S Q=>match x,y with
 | .int i,.int j=>Q (.int (i+j)) S
 | .str i,.str j=>i.length+j.length<=sizeLine/\Q (.str (i++j)) S
 | .tup i,.tup j=>i.length+j.length<=sizeLine/\Q (.tup (i++j)) S
 | .ref i,.ref j=>match S i,S j with
  |some (.lst xs),some (.lst ys)=>xs.length+ys.length<=sizeLine/\∀p,S p=none->Q (.ref p) (F3 S p (.lst (xs++ys)))
  |_,_=>False
 |_,_=>False
def aK:ko X (binaryOp .Add) aS:=⟨fun pins s σ H x y v u Q I rx ry ⟨px,py,S,Q3,r1,r2,rS,q,k⟩=>by
 unfold aS at q
 split at q
 ·cases r1;cases r2
  exact A2 pins s σ H _ _ v u Q I rx ry ⟨_,_,rfl,rfl,k _ S _ H q (.int _) rS .refl⟩
 ·cases r1;cases r2
  exact rC pins s σ H _ _ v u Q I rx ry ⟨_,_,rfl,rfl,q.1,k _ S _ H q.2 (.str _) rS .refl⟩
 ·cases r1 with
  |tup h1 s1=>
   cases r2 with
   |tup h2 s2=>
    refine yM pins s σ H _ _ v u Q I rx ry ⟨_,_,_,_,rfl,rfl,h1,h2,by rw[s1.length,s2.length];exact q.1,fun r H' hs hr=>?_⟩
    exact k _ S _ H' q.2 (.tup hr ((s1.mono (.same hs)).append (s2.mono (.same hs)))) (rS.grow hs) (.same hs)
 ·cases r1;cases r2
  split at q
  ·rename_i i j xs ys e1 e2
   obtain⟨vs,h1,s1⟩:=rS _ _ e1
   obtain⟨us,h2,s2⟩:=rS _ _ e2
   exact Bi pins s σ H _ _ v u Q I rx ry ⟨_,_,_,_,rfl,rfl,h1,h2,by rw[s1.length,s2.length];exact q.1,fun p hp=>k _ _ _ _ (q.2 p (rS.free hp)) (.ref p) (rS.new hp ⟨_,aG,(s1.append s2).mono (.new hp)⟩) (.new hp)⟩
  ·exact q.elim
 ·exact q.elim⟩
end
mutual
inductive Dat (S:aC):PV->PyData->Prop
 |non:Dat S .non .none
 |bl (b:Bool):Dat S (.bl b) (.bool b)
 |int (i:Int):Dat S (.int i) (.int i)
 |str (x:Str):Dat S (.str x) (.str x)
 |tup {ps:List PV} {ds:List PyData}:IG S ps ds->Dat S (.tup ps) (.tuple ds)
 |cl {ps:List PV} {ds:List PyData}:IG S ps ds->Dat S (.cl ps) (.list ds)
 |ref {a:Addr} {ps:List PV} {ds:List PyData}:S a=some (.lst ps)->IG S ps ds->Dat S (.ref a) (.list ds)
inductive IG (S:aC):List PV->List PyData->Prop
 |nil:IG S [] []
 |cons {p:PV} {d:PyData} {ps:List PV} {ds:List PyData}:Dat S p d->IG S ps ds->IG S (p::ps) (d::ds)
end
section
variable {X:Cx} {pins:Va} {σ:L2.St} {H:Hp} {s:Shared} {S:aC}
def rY(I:Inv X pins σ H s)(rS:Ga X.K H S):(∀{p:PV} {d:PyData},Dat S p d->∀{v:V} {u:Value},Rep X.K H v p->RelV v u->∃as,Reads s.heap u d as)/\∀{ps:List PV} {ds:List PyData},IG S ps ds->∀{vs:List V} {us:Vv},Reps X.K H vs ps->Vals vs us->∃as,ReadsAll s.heap us ds as:=by
 have one:=@Dat.rec S (motive_1:=fun p d _=>∀{v:V} {u:Value},Rep X.K H v p->RelV v u->∃as,Reads s.heap u d as) (motive_2:=fun ps ds _=>∀{vs:List V} {us:Vv},Reps X.K H vs ps->Vals vs us->∃as,ReadsAll s.heap us ds as)
 have two:=@IG.rec S (motive_1:=fun p d _=>∀{v:V} {u:Value},Rep X.K H v p->RelV v u->∃as,Reads s.heap u d as) (motive_2:=fun ps ds _=>∀{vs:List V} {us:Vv},Reps X.K H vs ps->Vals vs us->∃as,ReadsAll s.heap us ds as)
 have c1:∀{v:V} {u:Value},Rep X.K H v .non->RelV v u->∃as,Reads s.heap u .none as:=fun h r=>by cases h;cases r;exact⟨_,.none⟩
 have c2:∀(b:Bool) {v:V} {u:Value},Rep X.K H v (.bl b)->RelV v u->∃as,Reads s.heap u (.bool b) as:=fun b _ _ h r=>by cases h;cases r;exact⟨_,.bool b⟩
 have c3:∀(i:Int) {v:V} {u:Value},Rep X.K H v (.int i)->RelV v u->∃as,Reads s.heap u (.int i) as:=fun i _ _ h r=>by cases h;obtain⟨t,rfl⟩:=r;exact⟨_,.int i t⟩
 have c4:∀(x:Str) {v:V} {u:Value},Rep X.K H v (.str x)->RelV v u->∃as,Reads s.heap u (.str x) as:=fun x _ _ h r=>by cases h;obtain⟨t,rfl⟩:=r;exact⟨_,.str x t⟩
 have c5:∀{ps:List PV} {ds:List PyData},IG S ps ds->(∀{vs:List V} {us:Vv},Reps X.K H vs ps->Vals vs us->∃as,ReadsAll s.heap us ds as)->∀{v:V} {u:Value},Rep X.K H v (.tup ps)->RelV v u->∃as,Reads s.heap u (.tuple ds) as:=fun _ ih _ _ h r=>by
  cases h with
  |tup h rs=>
   cases r
   obtain⟨its,rv,⟨o,ho,hc,n,hd⟩,hz⟩:=I.tuple h
   obtain⟨as,q⟩:=ih rs rv
   exact⟨as,.tuple ho hc hd (by simpa using q)⟩
 have c6:∀{ps:List PV} {ds:List PyData},IG S ps ds->(∀{vs:List V} {us:Vv},Reps X.K H vs ps->Vals vs us->∃as,ReadsAll s.heap us ds as)->∀{v:V} {u:Value},Rep X.K H v (.cl ps)->RelV v u->∃as,Reads s.heap u (.list ds) as:=fun _ ih _ _ h r=>by
  cases h with
  |cl h rs=>
   cases r
   obtain⟨its,rv,⟨o,n,ho,hc,_,hd⟩,hz⟩:=I.list h.sq
   obtain⟨as,q⟩:=ih rs rv
   exact⟨_,.list ho hc hd (by simpa using q)⟩
 have c7:∀{a:Addr} {ps:List PV} {ds:List PyData},S a=some (.lst ps)->IG S ps ds->(∀{vs:List V} {us:Vv},Reps X.K H vs ps->Vals vs us->∃as,ReadsAll s.heap us ds as)->∀{v:V} {u:Value},Rep X.K H v (.ref a)->RelV v u->∃as,Reads s.heap u (.list ds) as:=fun e _ ih _ _ h r=>by
  cases h
  cases r
  obtain⟨vs,hv,rs⟩:=rS _ _ e
  obtain⟨its,rv,⟨o,n,ho,hc,_,hd⟩,hz⟩:=I.list (SqL.of hv)
  obtain⟨as,q⟩:=ih rs rv
  exact⟨_,.list ho hc hd (by simpa using q)⟩
 have c8:∀{vs:List V} {us:Vv},Reps X.K H vs []->Vals vs us->∃as,ReadsAll s.heap us [] as:=fun h r=>by cases h;cases r;exact⟨_,.nil⟩
 have c9:∀{p:PV} {d:PyData} {ps:List PV} {ds:List PyData},Dat S p d->IG S ps ds->(∀{v:V} {u:Value},Rep X.K H v p->RelV v u->∃as,Reads s.heap u d as)->(∀{vs:List V} {us:Vv},Reps X.K H vs ps->Vals vs us->∃as,ReadsAll s.heap us ds as)->∀{vs:List V} {us:Vv},Reps X.K H vs (p::ps)->Vals vs us->∃as,ReadsAll s.heap us (d::ds) as:=fun _ _ i1 i2 _ _ h r=>by
  cases h with
  |cons a rs=>
   cases r with
   |cons r1 r2=>
    obtain⟨as,q⟩:=i1 a r1
    obtain⟨bs,q2⟩:=i2 rs r2
    exact⟨_,.cons q q2⟩
 exact⟨fun h=>one c1 c2 c3 c4 c5 c6 c7 c8 c9 h,fun h=>two c1 c2 c3 c4 c5 c6 c7 c8 c9 h⟩
def Dat.reads(I:Inv X pins σ H s)(rS:Ga X.K H S){p:PV}{d:PyData}{v:V}{u:Value}(h:Dat S p d)(r:Rep X.K H v p)(r2:RelV v u):∃as,Reads s.heap u d as:=(rY I rS).1 h r r2
end
section
variable {X:Cx}
def a_(neg:Bool):R3:=fun x y S Q=>match x,y with
 | .int i,.int j=>Q (.bl (neg != decide (i=j))) S
 | .str i,.str j=>Q (.bl (neg != decide (i=j))) S
 | .bl i,.bl j=>Q (.bl (neg != decide (i=j))) S
 |x,y=>∃d d',Dat S x d/\Dat S y d'/\d.canLay0=true/\d'.canLay0=true/\min d.depth d'.depth<=150/\Q (.bl (neg != PyData.eqv d d')) S
def iX(hu:X.A.units+150 < cLine):ko X (compareOp .Eq) (a_ false):=⟨fun pins s σ H x y v u Q I rx ry ⟨px,py,S,Q3,r1,r2,rS,q,k⟩=>by
 unfold a_ at q
 split at q
 ·cases r1;cases r2
  exact vo pins s σ H _ _ v u Q I rx ry ⟨rfl,k _ S _ H (by simpa using q) (.bl _) rS .refl⟩
 ·cases r1;cases r2
  exact vo pins s σ H _ _ v u Q I rx ry ⟨rfl,k _ S _ H (by simpa using q) (.bl _) rS .refl⟩
 ·cases r1;cases r2
  exact vo pins s σ H _ _ v u Q I rx ry ⟨rfl,k _ S _ H (by simpa using q) (.bl _) rS .refl⟩
 ·obtain⟨d,d',h1,h2,c1,c2,hd,q⟩:=q
  obtain⟨as,a1⟩:=h1.reads I rS r1 rx
  obtain⟨bs,a2⟩:=h2.reads I rS r2 ry
  exact SeqAt.compareEq_reads a1 a2 c1 c2 (by omega) ⟨.bl _,H,I,rfl,k _ S _ H (by simpa using q) (.bl _) rS .refl⟩⟩
def zY(hu:X.A.units+150 < cLine):ko X (compareOp .NotEq) (a_ true):=⟨fun pins s σ H x y v u Q I rx ry ⟨px,py,S,Q3,r1,r2,rS,q,k⟩=>by
 unfold a_ at q
 split at q
 ·cases r1;cases r2
  exact vp pins s σ H _ _ v u Q I rx ry ⟨rfl,k _ S _ H (by simpa using q) (.bl _) rS .refl⟩
 ·cases r1;cases r2
  exact vp pins s σ H _ _ v u Q I rx ry ⟨rfl,k _ S _ H (by simpa using q) (.bl _) rS .refl⟩
 ·cases r1;cases r2
  exact vp pins s σ H _ _ v u Q I rx ry ⟨rfl,k _ S _ H (by simpa using q) (.bl _) rS .refl⟩
 ·obtain⟨d,d',h1,h2,c1,c2,hd,q⟩:=q
  obtain⟨as,a1⟩:=h1.reads I rS r1 rx
  obtain⟨bs,a2⟩:=h2.reads I rS r2 ry
  exact SeqAt.compareNe_reads a1 a2 c1 c2 (by omega) ⟨.bl _,H,I,rfl,k _ S _ H (by simpa using q) (.bl _) rS .refl⟩⟩
def vb(neg:Bool):R3:=fun x y S Q=>match y with
 | .non=>Q (.bl (neg != match x with | .non=>true|_=>false)) S
 | .bl true=>match x with | .bl true=>Q (.bl (neg != true)) S|_=>False
 |_=>False
def md:ko X (compareOp .IsNot) (vb true):=⟨fun pins s σ H x y v u Q I rx ry ⟨px,py,S,Q3,r1,r2,rS,q,k⟩=>by
 unfold vb at q
 split at q
 ·cases r2
  refine yi pins s σ H _ _ v u Q I rx ry ⟨rfl,?_⟩
  cases r1<;>exact k _ S _ H (by simpa using q) (.bl _) rS .refl
 ·cases r2
  split at q
  ·cases r1
   exact uu pins s σ H _ _ v u Q I rx ry ⟨rfl,rfl,k _ S _ H (by simpa using q) (.bl _) rS .refl⟩
  ·exact q.elim
 ·exact q.elim⟩
noncomputable def oN(S:aC):PV->Option (List PV)
 | .tup xs=>some xs
 | .cl xs=>some xs
 | .ref a=>match S a with|some (.lst xs)=>some xs|_=>none
 |_=>none
def BC{H:Hp}{S:aC}{v:V}{p:PV}{xs:List PV}(rS:Ga X.K H S)(r:Rep X.K H v p)(h:oN S p=some xs):∃a vs,v = .ref a/\(SqL X.K H a vs\/SqT X.K H a vs)/\Reps X.K H vs xs:=by
 unfold oN at h
 split at h
 ·cases h;cases r with|tup h1 rs=>exact⟨_,_,rfl,.inr h1,rs⟩
 ·cases h;cases r with|cl h1 rs=>exact⟨_,_,rfl,.inl h1.sq,rs⟩
 ·cases r
  split at h
  ·rename_i e
   cases h
   obtain⟨vs,hv,rs⟩:=rS _ _ e
   exact⟨_,vs,rfl,.inl (SqL.of hv),rs⟩
  ·cases h
 ·cases h
noncomputable def lp(x:PyData)(xs:List PyData):Bool:=xs.any fun y=>PyData.eqv y x
def jF(neg:Bool):R3:=fun x y S Q=>match x,y with
 | .str i,.str j=>Q (.bl (neg != !(Builtin.Str.occurrences j i 0 j.length 1).isEmpty)) S
 |x,y=>match y with
  | .ref a=>match S a with
   |some (.lst xs)=>∃d ds,Dat S x d/\IG S xs ds/\d.canLay0=true/\PyData.canLayAll0 ds=true/\d.depth<=150/\Q (.bl (neg != lp d ds)) S
   |some (.dct kvs)=>match x with
    | .str z=>Q (.bl (neg != (kvs.any fun kv=>decide (kv.1=Sum.inr z)))) S
    | .int z=>Q (.bl (neg != (kvs.any fun kv=>decide (kv.1=Sum.inl z)))) S
    |_=>False
   |_=>False
  | .tup xs=>∃d ds,Dat S x d/\IG S xs ds/\d.canLay0=true/\PyData.canLayAll0 ds=true/\d.depth<=150/\Q (.bl (neg != lp d ds)) S
  |_=>False
theorem Gq.any{K:Vo}{H:Hp}{κ:Type} [DecidableEq κ](k:κ):∀{vs:List (κ×V)} {ps:List (κ×PV)},Gq K H vs ps->(iQ vs k).isSome=ps.any fun kv=>decide (kv.1=k)
 |_,_,.nil=>rfl
 |_,_,.cons (k:=k') a r=>by
  rw[List.any_cons,<-Gq.any k r]
  by_cases e:k'=k
  ·rw[HU e];simp[e]
  ·rw[He e];simp[e]
def iY(hu:X.A.units+160 < cLine):ko X (compareOp .In) (jF false):=⟨fun pins s σ H x y v u Q I rx ry ⟨px,py,S,Q3,r1,r2,rS,q,k⟩=>by
 unfold jF at q
 split at q
 ·cases r1;cases r2
  exact t_ pins s σ H _ _ v u Q I rx ry ⟨_,_,rfl,rfl,k _ S _ H (by simpa using q) (.bl _) rS .refl⟩
 ·split at q
  ·cases r2
   cases ry
   split at q
   ·rename_i xs e
    obtain⟨d,ds,h1,h2,c1,c2,hd,q⟩:=q
    obtain⟨as,a1⟩:=h1.reads I rS r1 rx
    obtain⟨bs,a2⟩:=(Dat.ref e h2).reads I rS (.ref _) (rfl:RelV (.ref _) (.ref _))
    exact SeqAt.in_list_reads a2 a1 c2 c1 (by omega) ⟨.bl _,H,I,rfl,k _ S _ H (by simpa [lp]using q) (.bl _) rS .refl⟩
   ·rename_i kvs e
    obtain⟨kv,hv,rk⟩:=rS _ _ e
    split at q
    ·cases r1
     exact C0 (by omega) I (DGet.k (k:=Sum.inr _) hv) rx fun s3 I3=>⟨.bl _,H,I3,rfl,k _ S _ H (by rw[rk.any];simpa using q) (.bl _) rS .refl⟩
    ·cases r1
     exact C0 (by omega) I (DGet.k (k:=Sum.inl _) hv) rx fun s3 I3=>⟨.bl _,H,I3,rfl,k _ S _ H (by rw[rk.any];simpa using q) (.bl _) rS .refl⟩
    ·exact q.elim
   ·exact q.elim
  ·rename_i xs
   obtain⟨d,ds,h1,h2,c1,c2,hd,q⟩:=q
   obtain⟨as,a1⟩:=h1.reads I rS r1 rx
   obtain⟨bs,a2⟩:=(Dat.tup h2).reads I rS r2 ry
   exact SeqAt.in_tuple_reads a2 a1 c2 c1 (by omega) ⟨.bl _,H,I,rfl,k _ S _ H (by simpa [lp]using q) (.bl _) rS .refl⟩
  ·exact q.elim⟩
def eI(hu:X.A.units+160 < cLine):ko X (compareOp .NotIn) (jF true):=⟨fun pins s σ H x y v u Q I rx ry ⟨px,py,S,Q3,r1,r2,rS,q,k⟩=>by
 unfold jF at q
 split at q
 ·cases r1;cases r2
  exact oz pins s σ H _ _ v u Q I rx ry ⟨_,_,rfl,rfl,k _ S _ H (by simpa using q) (.bl _) rS .refl⟩
 ·split at q
  ·cases r2
   cases ry
   split at q
   ·rename_i xs e
    obtain⟨d,ds,h1,h2,c1,c2,hd,q⟩:=q
    obtain⟨as,a1⟩:=h1.reads I rS r1 rx
    obtain⟨bs,a2⟩:=(Dat.ref e h2).reads I rS (.ref _) (rfl:RelV (.ref _) (.ref _))
    exact SeqAt.notIn_list_reads a2 a1 c2 c1 (by omega) ⟨.bl _,H,I,rfl,k _ S _ H (by simpa [lp]using q) (.bl _) rS .refl⟩
   ·rename_i kvs e
    obtain⟨kv,hv,rk⟩:=rS _ _ e
    split at q
    ·cases r1
     exact s9 (by omega) I (DGet.k (k:=Sum.inr _) hv) rx fun s3 I3=>⟨.bl _,H,I3,rfl,k _ S _ H (by rw[rk.any];simpa using q) (.bl _) rS .refl⟩
    ·cases r1
     exact s9 (by omega) I (DGet.k (k:=Sum.inl _) hv) rx fun s3 I3=>⟨.bl _,H,I3,rfl,k _ S _ H (by rw[rk.any];simpa using q) (.bl _) rS .refl⟩
    ·exact q.elim
   ·exact q.elim
  ·rename_i xs
   obtain⟨d,ds,h1,h2,c1,c2,hd,q⟩:=q
   obtain⟨as,a1⟩:=h1.reads I rS r1 rx
   obtain⟨bs,a2⟩:=(Dat.tup h2).reads I rS r2 ry
   exact SeqAt.notIn_tuple_reads a2 a1 c2 c1 (by omega) ⟨.bl _,H,I,rfl,k _ S _ H (by simpa [lp]using q) (.bl _) rS .refl⟩
  ·exact q.elim⟩
end
end L3
namespace HT
open PySem PySem.Spec PyProof.Rows
section
variable {prog:Program} {w:World} {A:Around} {E:Vq} {s:Shared}
def jL{t sl:Addr}{items:Vw}{vl vu:Value}{lo hi:Option Int}{Q:Vq}(ht:IsTup s.heap t items)(hs:s.heap.IsSliceOf sl vl vu .none)(pl:IsPart vl lo)(pu:IsPart vu hi)
  (hw:Gz items.size 0 lo=0/\Gz items.size items.size hi=items.size)
  (h:Q (.ref t) s):wpAny (model prog w) A (getItem (.ref t) (.ref sl)) Q E s:=by
 obtain⟨os,hos,hcs,hds⟩:=id hs
 have N8:s.TypeIs (.ref sl) "slice":=⟨os,hos,hcs⟩
 unfold getItem
 try with_reducible refine wpAny_holding ?_
 first|refine wpAny_bind (wpAny_pure ?_)|skip
 refine wpAny_bind (wpAny_sequenceKey ht.typeIs (by decide) ?_)
 refine wpAny_bind (wpAny_callSpecial?_slot (name:=Str.ofString "__getitem__") ht.typeIs PyProof.Rows.slot_tuple_getitem
  (wpAny_call_entry PyProof.Rows.slot_tuple_getitem ht.typeIs entry_tuple_getitem ?_ (args_tuple_getitem _ _)))
 show wpAny _ _ (Builtin.Tuple.tupleItemsOf (.ref t) >>= _) _ _ s
 refine wpAny_bind (tupleItemsOf_ ht ?_)
 refine wpAny_bind (wpAny_typeOf N8 ?_)
 rw[if_pos (by decide)]
 refine wpAny_bind (fF hs pl pu ?_)
 have hyes:(((Gz items.size 0 lo:Nat):Int) == 0&&(1:Int) == 1&&(Gz items.size items.size hi - Gz items.size 0 lo) == items.size)=true:=by
  rw[hw.1,hw.2];simp
 show wpAny _ _ (if (((Gz items.size 0 lo:Nat):Int) == 0&&(1:Int) == 1&&(Gz items.size items.size hi - Gz items.size 0 lo) == items.size)=true then _ else _) _ _ s
 rw[if_pos hyes]
 unfold Builtin.Tuple.tupleIsExact
 refine wpAny_bind (wpAny_bind (wpAny_typeOf ht.typeIs (wpAny_pure ?_)))
 rw[if_pos (by decide)]
 first
  |exact wpAny_bind (wpAny_rule (wpAny_pure ⟨_,rfl,wpAny_pure h⟩))
  |exact wpAny_bind (wpAny_rule (wpAny_bind (wpAny_pure (wpAny_pure ⟨_,rfl,wpAny_pure h⟩))))
  |exact wpAny_bind (wpAny_rule (wpAny_bind (wpAny_pure ⟨_,rfl,wpAny_pure h⟩)))
end
end HT
namespace L2
open PySem PySem.Spec PyProof.Rows
section
variable {X:Cx}
noncomputable def Df(K:Vo):V->Option Int->Option Int->Hp->VK->Prop:=fun x lo hi H Q=>∃a xs,x = .ref a/\SqT K H a xs/\∀r H',(∀c o,H c=some o->H' c=some o)->SqT K H' r (lX xs lo hi)->Q (.ref r) H'
def yN:Ce X (Df X.K):=by
 intro pins s σ H x v vl vu lo hi sl Q I rx hs pl pu h
 obtain⟨a,xs,rfl,hx,q⟩:=h
 by_cases hw:HT.Gz xs.length 0 lo=0/\HT.Gz xs.length xs.length hi=xs.length
 ·cases rx
  obtain⟨its,r,ht,hz⟩:=I.tuple hx
  have hlen:its.toArray.size=xs.length:=by rw[List.size_toArray];exact r.length.symm
  refine⟨"tuple",_,PyProof.Rows.slot_tuple_getitem.lookup,ht.typeIs,HT.jL ht hs pl pu (by rw[hlen];exact hw) ⟨.ref a,H,I,rfl,q a H (fun _ _ e=>e) ?_⟩⟩
  have e:lX xs lo hi=xs:=by unfold lX;rw[hw.1,hw.2];simp
  rw[e];exact hx
 ·exact Ba pins s σ H _ v vl vu lo hi sl Q I rx hs pl pu ⟨a,xs,rfl,hx,hw,fun p hp=>q p _ (fun c o e=>by rw[aI (ba e hp)];exact e) (SqT.of aG)⟩
def yO(hu:X.A.units+1 < cLine):Cf X (fun x y H Q=>∃a v,x = .ref a/\DGet H a y (some v)/\Q v H):=by
 intro value slice pins s σ H x y v u Q I rx ry h hs
 obtain⟨a,z,rfl,g,q⟩:=h
 cases rx
 exact tail_any (p_ I g) PySem.F.slot_dict_getitem.lookup (uf hu I g ry fun w' s3 I3 rw'=>⟨z,H,I3,rw',q⟩) hs
def v7(hu:X.A.units+1 < cLine):yc X (fun o i v H Q=>∃a H',o = .ref a/\Lw H a i v H'/\Q H'):=by
 intro pins s σ H o i v ov iv u Q I ro ri rv h
 obtain⟨a,H',rfl,g,q⟩:=h
 cases ro
 exact ug hu I g ri rv fun s' I'=>⟨H',I',q⟩
end
end L2
namespace L3
open PySem L2
theorem Reps.G2{K:Vo}{H:Hp}{vs:List V}{ps:List PV}{i:Int}{p:PV}(r:Reps K H vs ps)(h:L2.G2 ps i=some p):∃v,L2.G2 vs i=some v/\Rep K H v p:=by
 unfold L2.G2 at h ⊢
 rw[r.length]
 cases e:sW ps.length i with
 |none=>rw[e]at h;cases h
 |some j=>
  rw[e]at h
  obtain⟨v,h1,h2⟩:=r.get h
  exact⟨v,h1,h2⟩
noncomputable def kD:PV->Option bI
 | .int i=>some (.inl i)
 | .str x=>some (.inr x)
 |_=>none
def dY{K:Vo}{H:Hp}{v:V}{p:PV}{k:bI}(r:Rep K H v p)(h:kD p=some k):v=kV k:=by
 cases p with
 |int i=>cases h;cases r;rfl
 |str i=>cases h;cases r;rfl
 |_=>cases h
noncomputable def fK{κ:Type} [DecidableEq κ]:List (κ×PV)->κ->Option PV
 |[],_=>none
 |(k',v)::r,k=>if k'=k then some v else fK r k
theorem Gq.val{K:Vo}{H:Hp}{κ:Type} [DecidableEq κ]{k:κ}{p:PV}:∀{vs:List (κ×V)} {ps:List (κ×PV)},Gq K H vs ps->fK ps k=some p->∃v,iQ vs k=some v/\Rep K H v p
 |_,_,.nil,h=>by cases h
 |_,_,.cons (k:=k') a r,h=>by
  unfold fK at h
  split at h
  ·rename_i e;cases h;exact⟨_,HU e,a⟩
  ·rename_i e;rw[He e];exact Gq.val r h
theorem Gq.valN{K:Vo}{H:Hp}{κ:Type} [DecidableEq κ]{k:κ}:∀{vs:List (κ×V)} {ps:List (κ×PV)},Gq K H vs ps->fK ps k=none->iQ vs k=none
 |_,_,.nil,_=>rfl
 |_,_,.cons (k:=k') a r,h=>by
  unfold fK at h
  split at h
  ·cases h
  ·rename_i e;rw[He e];exact Gq.valN r h
section
variable {X:Cx} {a b e lo hi:Expr} {ta tb te:aY} {pos p2:Pos}
structure Fx (X:Cx) (r:R3):Prop where
 ok:Cf X (LR X r)
def Dg{r:R3}(hr:Fx X r)(ha:bB X a ta)(hb:bB X b tb)(hs:lI b):bB X (.Subscript a b pos) (af r ta tb):=⟨aW (CT hr.ok ha.ok hb.ok hs) fun _ _ _=>lK⟩
def ae:R3:=fun x y S Q=>match x with
 | .tup xs=>match y with | .int i=>(match G2 xs i with|some v=>Q v S|none=>False)|_=>False
 | .cl xs=>match y with | .int i=>(match G2 xs i with|some v=>Q v S|none=>False)|_=>False
 | .str z=>match y with | .int i=>z.length<=sizeLine/\(match G2 z.cps.toList i with|some c=>Q (.str ⟨#[c]⟩) S|none=>False)|_=>False
 | .ref a=>match S a with
  |some (.lst xs)=>(match y with | .int i=>(match G2 xs i with|some v=>Q v S|none=>False)|_=>False)
  |some (.dct kvs)=>(match kD y with|some k=>(match fK kvs k with|some v=>Q v S|none=>False)|none=>False)
  |_=>False
 |_=>False
def Fy(hu:X.A.units+1 < cLine):Fx X ae:=⟨fun value slice pins s σ H x y v u Q I rx ry ⟨px,py,S,Q3,r1,r2,rS,q,k⟩ hs=>by
 unfold ae at q
 split at q
 ·split at q
  ·split at q
   ·rename_i e
    cases r2
    cases r1 with
    |tup h1 rs=>
     obtain⟨w,hw,rw'⟩:=rs.G2 e
     exact Bc value slice pins s σ H _ _ v u Q I rx ry ⟨_,_,_,w,rfl,rfl,h1,hw,k _ S _ H q rw' rS .refl⟩ hs
   ·exact q.elim
  ·exact q.elim
 ·split at q
  ·split at q
   ·rename_i e
    cases r2
    cases r1 with
    |cl h1 rs=>
     obtain⟨w,hw,rw'⟩:=rs.G2 e
     exact sY value slice pins s σ H _ _ v u Q I rx ry ⟨_,_,_,w,rfl,rfl,h1.sq,hw,k _ S _ H q rw' rS .refl⟩ hs
   ·exact q.elim
  ·exact q.elim
 ·split at q
  ·obtain⟨hz,q⟩:=q
   split at q
   ·rename_i e
    cases r1;cases r2
    exact Be value slice pins s σ H _ _ v u Q I rx ry ⟨_,_,_,rfl,rfl,hz,e,k _ S _ H q (.str _) rS .refl⟩ hs
   ·exact q.elim
  ·exact q.elim
 ·split at q
  ·rename_i e0
   split at q
   ·split at q
    ·rename_i e
     cases r1;cases r2
     obtain⟨vs,hv,rs⟩:=rS _ _ e0
     obtain⟨w,hw,rw'⟩:=rs.G2 e
     exact sY value slice pins s σ H _ _ v u Q I rx ry ⟨_,_,_,w,rfl,rfl,SqL.of hv,hw,k _ S _ H q rw' rS .refl⟩ hs
    ·exact q.elim
   ·exact q.elim
  ·rename_i e0
   split at q
   ·rename_i ek
    split at q
    ·rename_i ev
     cases r1
     have e1:=dY r2 ek
     subst e1
     obtain⟨kv,hv,rk⟩:=rS _ _ e0
     obtain⟨w,hw,rw'⟩:=rk.val ev
     refine yO hu value slice pins s σ H _ _ v u Q I rx ry ⟨_,w,rfl,?_,k _ S _ H q rw' rS .refl⟩ hs
     rw[<-hw]
     exact DGet.k hv
    ·exact q.elim
   ·exact q.elim
  ·exact q.elim
 ·exact q.elim⟩
abbrev Ch:=cM->aC->(Option Int->aC->Prop)->b6->Prop
noncomputable def LO(X:Cx)(t:Ch):TO:=fun σ H Q=>∃σ3 S Q3 E3,Gi X.K H σ σ3/\Ga X.K H S/\t σ3 S Q3 E3/\Lo X H E3/\∀o S' H',Q3 o S'->Ga X.K H' S'->Grow X.K H H'->Q o H'
structure Ei (X:Cx) (e:Option Expr) (t:Ch):Prop where
 ok:PO X e (LO X t)
noncomputable def oO:Ch:=fun _ S Q _=>Q none S
noncomputable def ni(t:aY):Ch:=fun σ S Q E=>t σ S (fun v S'=>match v with | .int i=>Q (some i) S'|_=>False) E
def v8{e:Option Expr}{t t':TO}(h:PO X e t)(k:∀σ H Q,t' σ H Q->t σ H Q):PO X e t':=fun pins s σ H Q I q=>h pins s σ H Q I (k σ H Q q)
def eJ:Ei X none oO:=⟨v8 yq fun σ H Q ⟨σ3,S,Q3,E3,rσ,rS,h,xo,k⟩=>k none S H h rS .refl⟩
def dh(h:bB X e te):Ei X (some e) (ni te):=⟨v8 (yr h.ok) fun σ H Q ⟨σ3,S,Q3,E3,rσ,rS,h,xo,k⟩=>⟨σ3,S,_,E3,rσ,rS,h,xo,fun p S' v H' h1 rv ID g=>by
 cases p with
 |int i=>cases rv;exact⟨i,rfl,k _ S' H' h1 ID g⟩
 |_=>exact h1.elim⟩⟩
noncomputable def Hh{α:Type}(xs:List α)(lo hi:Option Int):List α:=(xs.drop (HT.Gz xs.length 0 lo)).take (HT.Gz xs.length xs.length hi - HT.Gz xs.length 0 lo)
def Reps.cut{K:Vo}{H:Hp}{vs:List V}{ps:List PV}(r:Reps K H vs ps)(lo hi:Option Int):Reps K H (lX vs lo hi) (Hh ps lo hi):=by
 unfold lX Hh
 rw[r.length]
 exact(r.drop _).take _
def oP(x:PV)(lo hi:Option Int)(S:aC)(Q:bJ):Prop:=match x with
 | .tup xs=>Q (.tup (Hh xs lo hi)) S
 | .cl xs=>∀p,S p=none->Q (.ref p) (F3 S p (.lst (Hh xs lo hi)))
 | .str z=>z.length<=sizeLine/\Q (.str (Txt.slice z lo hi)) S
 | .ref a=>match S a with|some (.lst xs)=>∀p,S p=none->Q (.ref p) (F3 S p (.lst (Hh xs lo hi)))|_=>False
 |_=>False
noncomputable def FM(X:Cx):V->Option Int->Option Int->Hp->VK->Prop:=fun x lo hi H Q=>∃px S Q3,Rep X.K H x px/\Ga X.K H S/\oP px lo hi S Q3/\Lp X.K H Q3 Q
def FN:Ce X (FM X):=by
 intro pins s σ H x v vl vu lo hi sl Q I rx hs pl pu ⟨px,S,Q3,r1,rS,q,k⟩
 unfold oP at q
 split at q
 ·cases r1 with
  |tup h1 rs=>exact yN pins s σ H _ v vl vu lo hi sl Q I rx hs pl pu ⟨_,_,rfl,h1,fun r H' hh hr=>k _ S _ H' q (.tup hr ((rs.cut lo hi).mono (.same hh))) (rS.grow hh) (.same hh)⟩
 ·cases r1 with
  |cl h1 rs=>exact sZ pins s σ H _ v vl vu lo hi sl Q I rx hs pl pu ⟨_,_,rfl,h1.sq,fun p hp=>k _ _ _ _ (q p (rS.free hp)) (.ref p) (rS.new hp ⟨_,aG,(rs.cut lo hi).mono (.new hp)⟩) (.new hp)⟩
 ·cases r1
  exact Br pins s σ H _ v vl vu lo hi sl Q I rx hs pl pu ⟨_,rfl,q.1,k _ S _ H q.2 (.str _) rS .refl⟩
 ·split at q
  ·rename_i e
   cases r1
   obtain⟨vs,hv,rs⟩:=rS _ _ e
   exact sZ pins s σ H _ v vl vu lo hi sl Q I rx hs pl pu ⟨_,_,rfl,SqL.of hv,fun p hp=>k _ _ _ _ (q p (rS.free hp)) (.ref p) (rS.new hp ⟨_,aG,(rs.cut lo hi).mono (.new hp)⟩) (.new hp)⟩
  ·exact q.elim
 ·exact q.elim
def bN(te:aY)(tl th:Ch):aY:=fun σ S Q E=>te σ S (fun x S1=>tl σ S1 (fun l S2=>th σ S2 (fun u S3=>oP x l u S3 Q) E) E) E
def cz{lo hi:Option Expr}{tl th:Ch}(he:bB X e te)(hl:Ei X lo tl)(hu:Ei X hi th):bB X (.Subscript e (.Slice lo hi none p2) pos) (bN te tl th):=
 ⟨aW (vy FN he.ok hl.ok hu.ok) fun σ H Q ⟨σ3,S,Q3,E3,rσ,rS,h,xo,k⟩=>⟨σ3,S,_,E3,rσ,rS,h,xo,fun x S1 v H1 h1 rx Gd g1=>⟨σ3,S1,_,E3,rσ.mono g1,Gd,h1,xo.mono g1,fun l S2 H2 h2 HD g2=>
  ⟨σ3,S2,_,E3,rσ.mono (g1.trans g2),HD,h2,xo.mono (g1.trans g2),fun u S3 H3 h3 Kz g3=>⟨x,S3,Q3,rx.mono (g2.trans g3),Kz,h3,k.mono (g1.trans (g2.trans g3))⟩⟩⟩⟩⟩
def yP:jE X (binaryOp .Mult) (rI IntMulOk fun i j=>.int (i * j)):=Ed fun _ _ _ _ _ _ _ hc q=>PyProof.Rows.mul_int q hc
def cF:R3:=fun x y S Q=>match x,y with
 | .int i,.int j=>IntMulOk i j/\Q (.int (i * j)) S
 | .ref a,.int j=>(match S a with|some (.lst xs)=>-(2 ^ 63)<=j/\j < 2 ^ 63/\xs.length * j.toNat<=sizeLine/\∀p,S p=none->Q (.ref p) (F3 S p (.lst (List.replicate j.toNat xs).flatten))|_=>False)
 |_,_=>False
theorem Reps.rep{K:Vo}{H:Hp}{vs:List V}{ps:List PV}(r:Reps K H vs ps):∀n:Nat,Reps K H (List.replicate n vs).flatten (List.replicate n ps).flatten
 |0=>.nil
 |n+1=>by
  rw[List.replicate_succ,List.replicate_succ,List.flatten_cons,List.flatten_cons]
  exact r.append (Reps.rep r n)
def br:ko X (binaryOp .Mult) cF:=⟨fun pins s σ H x y v u Q I rx ry ⟨px,py,S,Q3,r1,r2,rS,q,k⟩=>by
 unfold cF at q
 split at q
 ·cases r1;cases r2
  exact yP pins s σ H _ _ v u Q I rx ry ⟨_,_,rfl,rfl,q.1,k _ S _ H q.2 (.int _) rS .refl⟩
 ·split at q
  ·rename_i e
   cases r1;cases r2
   obtain⟨vs,hv,rs⟩:=rS _ _ e
   exact Bj pins s σ H _ _ v u Q I rx ry ⟨_,_,_,rfl,rfl,hv,q.1,q.2.1,by rw[rs.length];exact q.2.2.1,fun p hp=>k _ _ _ _ (q.2.2.2 p (rS.free hp)) (.ref p) (rS.new hp ⟨_,aG,(rs.rep _).mono (.new hp)⟩) (.new hp)⟩
  ·exact q.elim
 ·exact q.elim⟩
end
end L3
namespace L2
open PySem PySem.Spec PyProof.Rows
section
variable {X:Cx}
def rZ{pins:Va}{σ:St}{H:Hp}{s:Shared}{x:Value}{t:Value}{p:Heap->Prop}{vs:List V}{tp:Addr}{b:Bool}{Q:Vq}{E:Vq}(I:Inv X pins σ H s)(Z:PySem.W.KitX X.K x t p)(hp:p s.heap)(hx:x ≠ .builtin "__main__.__loader__#opaque")
  (ht:SqT X.K H tp vs) (e:∀its,Vals vs its->PySem.W.kitAny X.K t its=some b) (h:∀tk,Q (.bool b) { s with toks:=tk }):wpAny (model X.prog X.w) X.A (call (.builtin "isinstance") [x,.ref tp]) Q E s:=by
 obtain⟨its,rv,⟨⟨cls,dd,data,sl⟩,ho,hc,n,hd⟩,hz⟩:=I.tuple ht
 simp only at hc hd
 subst hc hd
 exact PySem.W.kia_tup Z I.Ls hp ho (e its rv) hx h
end
end L2
namespace L3
open PySem L2
abbrev rg:=List PV->aC->bJ->Prop
section
variable {X:Cx} {e o:Expr} {es:List Expr} {te to:aY} {ts:List aY} {x:Str} {p pos apos cpos:Pos}
noncomputable def LC(X:Cx)(r:rg):List V->Hp->VK->Prop:=fun xs H Q=>∃ps S Q3,Reps X.K H xs ps/\Ga X.K H S/\r ps S Q3/\Lp X.K H Q3 Q
structure gP (X:Cx) (f:Value) (r:rg):Prop where
 ok:gM X f (LC X r)
def ao(r:rg)(ts:List aY):aY:=fun σ S Q E=>aq ts σ S (fun ps S1=>r ps S1 Q) E
def tm{r:rg}{σ:L2.St}{H:Hp}{Q:VK}:LE X (ao r ts) σ H Q->Eh (ts.map (LE X)) σ H fun vs H1=>LC X r vs H1 Q:=fun⟨σ3,S,Q3,E3,rσ,rS,h,xo,k⟩=>
 cK rσ rS h xo fun ps S' vs H' hl q rv ID g=>⟨ps,S',Q3,rv,ID,q,k.mono g⟩
def yQ{id:String}{r:rg}(hc:gP X (.builtin id) r)(hg:Gl X x)(hm:X.mg x=none)(hv:bootBuiltins x=some (.builtin id))(he:starEach (e::es) X.env=(false,eval e X.env)::starEach es X.env)(ha:kn X (e::es) ts)
  (hn:x ≠ "__name__":=by decide) (hdb:(x == ("__debug__":Str))=false:=by decide) (hpl:(backTo pos (starEach es X.env)).any (·.1)=false:=by rfl):bB X (.Call (.Name x p) (e::es) [] pos) (ao r ts):=
 ⟨aW (vv hc.ok hg hm hv ha.ok hn hdb he hpl) fun _ _ _=>tm⟩
def yR{id:String}{r:rg}(hc:gP X (.type id) r)(hg:Gl X x)(hm:X.mg x=none)(hv:bootBuiltins x=some (.type id))(he:starEach (e::es) X.env=(false,eval e X.env)::starEach es X.env)(ha:kn X (e::es) ts)
  (hn:x ≠ "__name__":=by decide) (hdb:(x == ("__debug__":Str))=false:=by decide) (hpl:(backTo pos (starEach es X.env)).any (·.1)=false:=by rfl):bB X (.Call (.Name x p) (e::es) [] pos) (ao r ts):=
 ⟨aW (uc hc.ok hg hm hv ha.ok hn hdb he hpl) fun _ _ _=>tm⟩
def cr:rg:=fun ps S Q=>match ps with
 |[.tup xs]=>Q (.int xs.length) S
 |[.cl xs]=>Q (.int xs.length) S
 |[.str z]=>z.length<=sizeLine/\Q (.int z.length) S
 |[.ref a]=>(match S a with|some (.lst xs)=>Q (.int xs.length) S|some (.dct kvs)=>Q (.int kvs.length) S|_=>False)
 |_=>False
def c_:gP X (.builtin "len") cr:=⟨fun pins s σ H xs us Q I r ⟨ps,S,Q3,rp,rS,q,k⟩=>by
 unfold cr at q
 split at q
 ·cases rp with|cons a rr=>cases rr;cases a with|tup h rs=>exact fS pins s σ H _ us Q I r ⟨_,_,rfl,.inr h,by rw[rs.length];exact k _ S _ H q (.int _) rS .refl⟩
 ·cases rp with|cons a rr=>cases rr;cases a with|cl h rs=>exact fS pins s σ H _ us Q I r ⟨_,_,rfl,.inl h.sq,by rw[rs.length];exact k _ S _ H q (.int _) rS .refl⟩
 ·cases rp with|cons a rr=>cases rr;cases a;exact oA pins s σ H _ us Q I r ⟨_,rfl,q.1,k _ S _ H q.2 (.int _) rS .refl⟩
 ·cases rp with
  |cons a rr=>
   cases rr;cases a
   split at q
   ·rename_i e
    obtain⟨vs,hv,rs⟩:=rS _ _ e
    exact fS pins s σ H _ us Q I r ⟨_,_,rfl,.inl (SqL.of hv),by rw[rs.length];exact k _ S _ H q (.int _) rS .refl⟩
   ·rename_i e
    obtain⟨vs,hv,rs⟩:=rS _ _ e
    exact ul pins s σ H _ us Q I r ⟨_,_,rfl,hv,by rw[rs.length];exact k _ S _ H q (.int _) rS .refl⟩
   ·exact q.elim
 ·exact q.elim⟩
def uy:rg:=fun ps S Q=>match ps with|[.int i]=>Q (.int (if i < 0 then -i else i)) S|_=>False
def Dh:gP X (.builtin "abs") uy:=⟨fun pins s σ H xs us Q I r ⟨ps,S,Q3,rp,rS,q,k⟩=>by
 unfold uy at q
 split at q
 ·cases rp with|cons a rr=>cases rr;cases a;exact vq pins s σ H _ us Q I r ⟨_,rfl,k _ S _ H q (.int _) rS .refl⟩
 ·exact q.elim⟩
def gY:rg:=fun ps S Q=>match ps with|[.int i,.int j]=>Q (.int (if j > i then j else i)) S|_=>False
def kE(hc:X.calm=true):gP X (.builtin "max") gY:=⟨fun pins s σ H xs us Q I r ⟨ps,S,Q3,rp,rS,q,k⟩=>by
 unfold gY at q
 split at q
 ·cases rp with|cons a rr=>cases rr with|cons b r3=>cases r3;cases a;cases b;exact ua hc pins s σ H _ us Q I r ⟨_,_,rfl,k _ S _ H q (.int _) rS .refl⟩
 ·exact q.elim⟩
def iZ:rg:=fun ps S Q=>match ps with|[.int i]=>Q (.int i) S|[.bl b]=>Q (.int (if b then 1 else 0)) S|_=>False
def tq:gP X (.type "int") iZ:=⟨fun pins s σ H xs us Q I r ⟨ps,S,Q3,rp,rS,q,k⟩=>by
 unfold iZ at q
 split at q
 ·cases rp with|cons a rr=>cases rr;cases a;exact nH pins s σ H _ us Q I r (.inl ⟨_,rfl,k _ S _ H q (.int _) rS .refl⟩)
 ·cases rp with|cons a rr=>cases rr;cases a;exact nH pins s σ H _ us Q I r (.inr ⟨_,rfl,k _ S _ H q (.int _) rS .refl⟩)
 ·exact q.elim⟩
def bh:rg:=fun ps S Q=>match ps with
 |[v]=>(match oN S v with|some xs=>Q (.tup xs) S|none=>False)
 |_=>False
def bS:gP X (.type "tuple") bh:=⟨fun pins s σ H xs us Q I r ⟨ps,S,Q3,rp,rS,q,k⟩=>by
 unfold bh at q
 split at q
 ·cases rp with
  |cons a rr=>
   cases rr
   split at q
   ·rename_i e
    obtain⟨b,vs,rfl,hs,rs⟩:=BC rS a e
    rcases hs with hs|hs
    ·exact iU pins s σ H _ us Q I r ⟨_,_,rfl,.inl ⟨hs,fun p hp=>k _ S _ _ q (.tup (SqT.of aG) (rs.mono (.new hp))) (rS.other hp) (.new hp)⟩⟩
    ·exact iU pins s σ H _ us Q I r ⟨_,_,rfl,.inr ⟨hs,k _ S _ _ q (.tup hs rs) rS .refl⟩⟩
   ·exact q.elim
 ·exact q.elim⟩
noncomputable def me:List PV->Option (List Bool)
 |[]=>some []
 | .bl b::r=>(me r).map (b::·)
 |_::_=>none
theorem mf{K:Vo}{H:Hp}:∀{vs:List V} {ps:List PV} {bs:List Bool},Reps K H vs ps->me ps=some bs->vs=bs.map V.bl
 |_,_,_,.nil,h=>by cases h;rfl
 |_,_,bs,.cons (p:=p) a r,h=>by
  cases p with
  |bl b=>
   cases a
   unfold me at h
   cases e:me _ with
   |none=>rw[e]at h;cases h
   |some l=>rw[e]at h;cases h;rw[mf r e];rfl
  |_=>cases h
def r9:rg:=fun ps S Q=>match ps with
 |[.ref a]=>(match S a with|some (.lst xs)=>(match me xs with|some bs=>Q (.bl (bs.all id)) S|none=>False)|_=>False)
 |_=>False
def zZ(hc:X.calm=true):gP X (.builtin "all") r9:=⟨fun pins s σ H xs us Q I r ⟨ps,S,Q3,rp,rS,q,k⟩=>by
 unfold r9 at q
 split at q
 ·cases rp with
  |cons a rr=>
   cases rr;cases a
   split at q
   ·rename_i e
    split at q
    ·rename_i eb
     obtain⟨vs,hv,rs⟩:=rS _ _ e
     have e2:=mf rs eb
     subst e2
     exact uq hc pins s σ H _ us Q I r ⟨_,_,rfl,SqL.of hv,k _ S _ H q (.bl _) rS .refl⟩
    ·exact q.elim
   ·exact q.elim
 ·exact q.elim⟩
end
noncomputable def iR(t c:String):Bool:=t == c || (t == "bool" && c == "int")
noncomputable def r_(S:aC):PV->Option String
 | .non=>some "NoneType"
 | .bl _=>some "bool"
 | .int _=>some "int"
 | .str _=>some "str"
 | .tup _=>some "tuple"
 | .cl _=>some "list"
 | .ref a=>(match S a with|some (.lst _)=>some "list" | some (.dct _)=>some "dict" | _=>none)
 | .ty _=>none
 | .exc _ _ _=>none
 | .cls _=>none
noncomputable def cN(c:String):Bool:=["int","str","bool","tuple","list","dict"].contains c
def v9(K:Vo)(t c:String):PySem.W.kitCls K (.type t) (.type c)=(if PySem.W.kitMeta c=true then (PySem.fastBuiltinMro t).map (·.contains (Value.type c)) else none):=rfl
def tt{K:Vo}{t c:String}(ht:t∈["NoneType","bool","int","str","tuple","list","dict"])(hc:cN c=true):PySem.W.kitOne K (.type t) (.type c)=some (iR t c):=by
 have hc':c∈["int","str","bool","tuple","list","dict"]:=by
  have:=hc
  unfold cN at this
  simpa using this
 simp only[List.mem_cons,List.not_mem_nil,or_false]at ht hc'
 rcases ht with rfl|rfl|rfl|rfl|rfl|rfl|rfl<;>rcases hc' with rfl|rfl|rfl|rfl|rfl|rfl <;>
  first
   |(unfold PySem.W.kitOne;rw[if_pos (by decide)];rfl)
   |(unfold PySem.W.kitOne;rw[if_neg (by decide),v9];decide +kernel)
def v_{S:aC}{p:PV}{t:String}(h:r_ S p=some t):t∈["NoneType","bool","int","str","tuple","list","dict"]:=by
 unfold r_ at h
 split at h<;>first|(cases h;decide)|(split at h<;>first|(cases h;decide)|cases h)|cases h
section
variable {X:Cx}
noncomputable def BD:List PV->Option (List String)
 |[]=>some []
 | .ty c::r=>if cN c then (BD r).map (c::·) else none
 |_::_=>none
def mh:rg:=fun ps S Q=>match ps with
 |[x,.ty c]=>(match r_ S x with|some t=>cN c=true/\Q (.bl (iR t c)) S|none=>False)
 |[x,.tup cs]=>(match r_ S x,BD cs with|some t,some l=>Q (.bl (l.any (iR t))) S|_,_=>False)
 |_=>False
def yS{K:Vo}{H:Hp}{t:String}(ht:t∈["NoneType","bool","int","str","tuple","list","dict"]):∀(cs:List PV) {l:List String} {vs:List V} {its:Vv},BD cs=some l->Reps K H vs cs->Vals vs its->PySem.W.kitAny K (.type t) its=some (l.any (iR t)):=by
 intro cs
 induction cs with
 |nil=>intro l vs its h rs r;cases h;cases rs;cases r;rfl
 |cons p cs ih=>
  intro l vs its h rs r
  cases p with
  |ty c=>
   unfold BD at h
   split at h
   ·rename_i hc
    cases e:BD cs with
    |none=>rw[e]at h;cases h
    |some l'=>
     rw[e]at h
     cases h
     cases rs with
     |cons a rs=>
      cases a
      cases r with
      |@cons _ u _ us r1 r2=>
       cases (show u=Value.type c from r1)
       show(match PySem.W.kitOne K (.type t) (.type c)with|some true=>some true|some false=>PySem.W.kitAny K (.type t) us|none=>none)=_
       rw[tt ht hc,List.any_cons]
       cases iR t c with
       |true=>rfl
       |false=>exact ih e rs r2
   ·cases h
  |_=>cases h
def mi:gP X (.builtin "isinstance") mh:=⟨fun pins s σ H xs us Q I r ⟨ps,S,Q3,rp,rS,q,k⟩=>by
 have main:∀{v:PV} {x:V} {u:Value} {t:String},Rep X.K H x v->RelV x u->r_ S v=some t->∃(h:Heap->Prop),PySem.W.KitX X.K u (.type t) h/\h s.heap/\u ≠ .builtin "__main__.__loader__#opaque":=by
  intro v x u t rv rx ht
  cases rv with
  |non=>cases ht;cases rx;exact⟨_,PySem.W.kitx_none,True.intro,fun z=>nomatch z⟩
  |bl b=>cases ht;cases rx;exact⟨_,PySem.W.kitx_bool,True.intro,fun z=>nomatch z⟩
  |int b=>cases ht;obtain⟨t,rfl⟩:=rx;exact⟨_,PySem.W.kitx_int,True.intro,fun z=>nomatch z⟩
  |str b=>cases ht;obtain⟨t,rfl⟩:=rx;exact⟨_,PySem.W.kitx_str,True.intro,fun z=>nomatch z⟩
  |ty b=>cases ht
  |exc _ _ _=>cases ht
  |cls _=>cases ht
  |tup h rs=>
   cases ht;cases rx
   obtain⟨its,_,⟨o,ho,hc,_⟩,_⟩:=I.tuple h
   exact⟨_,PySem.W.kitx_tuple,⟨o,ho,hc⟩,fun z=>nomatch z⟩
  |cl h rs=>
   cases ht;cases rx
   obtain⟨its,_,⟨o,n,ho,hc,_⟩,_⟩:=I.list h.sq
   exact⟨_,PySem.W.kitx_list,⟨o,ho,hc⟩,fun z=>nomatch z⟩
  |ref a=>
   cases rx
   unfold r_ at ht
   simp only at ht
   split at ht
   ·rename_i e
    cases ht
    obtain⟨vs,hv,_⟩:=rS _ _ e
    obtain⟨its,_,⟨o,n,ho,hc,_⟩,_⟩:=I.list (SqL.of hv)
    exact⟨_,PySem.W.kitx_list,⟨o,ho,hc⟩,fun z=>nomatch z⟩
   ·rename_i e
    cases ht
    obtain⟨vs,hv,_⟩:=rS _ _ e
    obtain⟨_,_,vs',_,p⟩:=(show ObjOk X.prog X.w H s.heap _ (.dK vs)from I.hok _ _ hv)
    obtain⟨o,es,ep,h1,h2,_⟩:=p
    exact⟨_,PySem.W.kitx_dict,⟨o,h1,h2.1⟩,fun z=>nomatch z⟩
   ·cases ht
 unfold mh at q
 split at q
 ·split at q
  ·rename_i ht
   cases rp with
   |cons a rr=>
    cases rr with
    |cons b r3=>
     cases r3;cases b
     cases r with
     |cons r1 r2=>
      cases r2 with
      |cons r4 r5=>
       cases r5
       cases (show _=Value.type _ from r4)
       obtain⟨h,Z,hp,hx⟩:=main a r1 ht
       exact PySem.W.kia_one Z I.Ls hp (tt (v_ ht) q.1) hx fun tk=>⟨.bl _,H,I.tok _,rfl,k _ S _ H q.2 (.bl _) rS .refl⟩
  ·exact q.elim
 ·split at q
  ·rename_i ht hl
   cases rp with
   |cons a rr=>
    cases rr with
    |cons b r3=>
     cases r3
     cases b with
     |tup h1 rs=>
      cases r with
      |cons r1 r2=>
       cases r2 with
       |cons r4 r5=>
        cases r5
        cases r4
        obtain⟨h,Z,hp,hx⟩:=main a r1 ht
        exact rZ I Z hp hx h1 (fun its rv=>yS (v_ ht) _ hl rs rv) fun tk=>⟨.bl _,H,I.tok _,rfl,k _ S _ H q (.bl _) rS .refl⟩
  ·exact q.elim
 ·exact q.elim⟩
end
abbrev sd:=PV->List PV->aC->bJ->Prop
section
variable {X:Cx} {e o:Expr} {es:List Expr} {te to:aY} {ts:List aY} {name:Str} {p pos apos cpos:Pos} {T id:String}
noncomputable def LM(X:Cx)(r:sd):V->List V->Hp->VK->Prop:=fun x xs H Q=>∃px ps S Q3,Rep X.K H x px/\Reps X.K H xs ps/\Ga X.K H S/\r px ps S Q3/\Lp X.K H Q3 Q
structure vc (X:Cx) (id:String) (r:sd):Prop where
 ok:Bb X id (LM X r)
def mj(T:String)(x:PV)(S:aC):Prop:=match x with
 | .str _=>T = "str"
 | .ref a=>(match S a with|some (.lst _)=>T = "list" | some (.dct _)=>T = "dict" | _=>False)
 | .cl _=>T = "list"
 |_=>False
def wa{H:Hp}{S:aC}{v:V}{p:PV}(rS:Ga X.K H S)(r:Rep X.K H v p)(h:mj T p S):Ee X.K T v H:=by
 cases r with
 |str x=>exact h
 |ref a=>
  unfold mj at h
  simp only at h
  split at h
  ·rename_i e
   obtain⟨vs,hv,_⟩:=rS _ _ e
   exact .inl ⟨h,_,SqL.of hv⟩
  ·rename_i e
   obtain⟨vs,hv,_⟩:=rS _ _ e
   exact .inr (.inr (.inl ⟨h,.inl ⟨_,hv⟩⟩))
  ·exact h.elim
 |cl h1 _=>exact .inl ⟨h,_,h1.sq⟩
 |_=>exact h.elim
def dj(T:String)(r:sd)(to:aY)(ts:List aY):aY:=fun σ S Q E=>to σ S (fun x S1=>mj T x S1/\aq ts σ S1 (fun ps S2=>r x ps S2 Q) E) E
def E9{r:sd}(pa:PlainAttrs T)(slot:Slot T name id)(hty:typeOf (.builtin id)=pure (.type "method_descriptor"))(hm:vc X id r)(hs:starEach (e::es) X.env=(false,eval e X.env)::starEach es X.env)(ho:bB X o to)(ha:kn X (e::es) ts)
  (hbase:attributeBase o name X.env (eval o X.env)=eval o X.env:=by rfl)
  (hfew:((backTo cpos (starEach (e::es) X.env)).all (fun x=>!x.1)&&(backToKw cpos (keywordEach [] X.env)).all (fun x=>x.1.isSome)
   && decide ((e::es).length+([]:List Keyword).length+(if ([]:List Keyword).isEmpty then 0 else 1) < 30))=true:=by rfl)
  (hline:(apos.endLine == cpos.line)=true:=by rfl) (hplain:(backTo cpos (starEach es X.env)).any (·.1)=false:=by rfl):bB X (.Call (.Attribute o name apos) (e::es) [] cpos) (dj T r to ts):=
 ⟨aW (CV pa slot hty hm.ok ho.ok ha.ok hbase hfew hline hs hplain) fun σ H Q ⟨σ3,S,Q3,E3,rσ,rS,h,xo,k⟩=>⟨σ3,S,_,E3,rσ,rS,h,xo,fun x S1 v H1 h1 rx Gd g1=>
  ⟨wa Gd rx h1.1,cK (rσ.mono g1) Gd h1.2 (xo.mono g1) fun ps S2 vs H2 hl q rv HD g2=>⟨x,ps,S2,Q3,rx.mono g2,rv,HD,q,k.mono (g1.trans g2)⟩⟩⟩⟩
def Di{r:sd}(pa:PlainAttrs T)(slot:Slot T name id)(hty:typeOf (.builtin id)=pure (.type "method_descriptor"))(hm:vc X id r)(ho:bB X o to)
  (hbase:attributeBase o name X.env (eval o X.env)=eval o X.env:=by rfl) (hline:(apos.endLine == cpos.line)=true:=by rfl):bB X (.Call (.Attribute o name apos) [] [] cpos) (dj T r to []):=
 ⟨aW (Bf pa slot hty hm.ok ho.ok hbase hline) fun σ H Q ⟨σ3,S,Q3,E3,rσ,rS,h,xo,k⟩=>⟨σ3,S,_,E3,rσ,rS,h,xo,fun x S1 v H1 h1 rx Gd g1=>
  ⟨wa Gd rx h1.1,⟨x,[],S1,Q3,rx,.nil,Gd,h1.2,k.mono g1⟩⟩⟩⟩
def bp:sd:=fun x ps S Q=>match x,ps with
 | .ref a,[y]=>(match S a with|some (.lst xs)=>xs.length < sizeLine/\Q .non (F3 S a (.lst (xs++[y])))|_=>False)
 |_,_=>False
def cR:vc X "list.append" bp:=⟨fun pins s σ H x xs v us Q I rx rs ⟨px,ps,S,Q3,r1,rp,rS,q,k⟩=>by
 unfold bp at q
 split at q
 ·split at q
  ·rename_i e
   cases r1
   cases rp with
   |cons b rr=>
    cases rr
    obtain⟨vs,hv,rl⟩:=rS _ _ e
    exact ud pins s σ H _ _ v us Q I rx rs ⟨_,_,_,rfl,rfl,hv,by rw[rl.length];exact q.1,k _ _ _ _ q.2 .non (rS.put hv trivial ⟨_,aG,(rl.append (.cons b .nil)).mono (.mut hv trivial)⟩) (.mut hv trivial)⟩
  ·exact q.elim
 ·exact q.elim⟩
def aQ:sd:=fun x ps S Q=>match x,ps with
 | .ref a,[.ref b]=>(match S a,S b with|some (.lst xs),some (.lst ys)=>xs.length+ys.length<=sizeLine/\Q .non (F3 S a (.lst (xs++ys)))|_,_=>False)
 |_,_=>False
def b7:vc X "list.extend" aQ:=⟨fun pins s σ H x xs v us Q I rx rs ⟨px,ps,S,Q3,r1,rp,rS,q,k⟩=>by
 unfold aQ at q
 split at q
 ·split at q
  ·rename_i e e2
   cases r1
   cases rp with
   |cons b rr=>
    cases rr
    cases b
    obtain⟨vs,hv,rl⟩:=rS _ _ e
    obtain⟨us',hu,ru⟩:=rS _ _ e2
    exact ue pins s σ H _ _ v us Q I rx rs ⟨_,_,_,_,rfl,rfl,hv,hu,by rw[rl.length,ru.length];exact q.1,k _ _ _ _ q.2 .non (rS.put hv trivial ⟨_,aG,(rl.append ru).mono (.mut hv trivial)⟩) (.mut hv trivial)⟩
  ·exact q.elim
 ·exact q.elim⟩
def qm:sd:=fun x ps S Q=>match x,ps with
 | .ref a,[]=>(match S a with|some (.lst xs)=>(match xs[xs.length - 1]? with|some y=>Q y (F3 S a (.lst xs.dropLast))|none=>False)|_=>False)
 | .ref a,[.int i]=>(match S a with|some (.lst xs)=>-(2 ^ 63)<=i/\i < 2 ^ 63/\(match seqIndex? i xs.length with|some j=>(match xs[j]? with|some y=>Q y (F3 S a (.lst (xs.eraseIdx j)))|none=>False)|none=>False)|_=>False)
 |_,_=>False
def z_:vc X "list.pop" qm:=⟨fun pins s σ H x xs v us Q I rx rs ⟨px,ps,S,Q3,r1,rp,rS,q,k⟩=>by
 unfold qm at q
 split at q
 ·split at q
  ·rename_i e
   split at q
   ·rename_i ey
    cases r1
    cases rp
    obtain⟨vs,hv,rl⟩:=rS _ _ e
    rw[<-rl.length]at ey
    obtain⟨y',On,ry⟩:=rl.get ey
    exact Bg pins s σ H _ _ v us Q I rx rs ⟨_,_,_,rfl,rfl,hv,On,k _ _ _ _ q (ry.mono (.mut hv trivial)) (rS.put hv trivial ⟨_,aG,rl.dropLast.mono (.mut hv trivial)⟩) (.mut hv trivial)⟩
   ·exact q.elim
  ·exact q.elim
 ·split at q
  ·rename_i e
   obtain⟨h1,h2,q⟩:=q
   split at q
   ·rename_i ej
    split at q
    ·rename_i ey
     cases r1
     cases rp with
     |cons b rr=>
      cases rr;cases b
      obtain⟨vs,hv,rl⟩:=rS _ _ e
      obtain⟨y',On,ry⟩:=rl.get ey
      rw[<-rl.length]at ej
      exact vB pins s σ H _ _ v us Q I rx rs ⟨_,_,_,_,_,rfl,rfl,hv,h1,h2,ej,On,k _ _ _ _ q (ry.mono (.mut hv trivial)) (rS.put hv trivial ⟨_,aG,(rl.eraseIdx _).mono (.mut hv trivial)⟩) (.mut hv trivial)⟩
    ·exact q.elim
   ·exact q.elim
  ·exact q.elim
 ·exact q.elim⟩
noncomputable def texts:List PV->Option (List Str)
 |[]=>some []
 | .str b::r=>(texts r).map (b::·)
 |_::_=>none
theorem ml{K:Vo}{H:Hp}:∀{vs:List V} {ps:List PV} {bs:Vs},Reps K H vs ps->texts ps=some bs->vs=bs.map V.str
 |_,_,_,.nil,h=>by cases h;rfl
 |_,_,bs,.cons (p:=p) a r,h=>by
  cases p with
  |str b=>
   cases a
   unfold texts at h
   cases e:texts _ with
   |none=>rw[e]at h;cases h
   |some l=>rw[e]at h;cases h;rw[ml r e];rfl
  |_=>cases h
def nU:sd:=fun x ps S Q=>match x,ps with
 | .str z,[.ref a]=>(match S a with|some (.lst xs)=>(match texts xs with|some ys=>(ys.map (·.length)).sum+ys.length * z.length<=1000000/\Q (.str (Txt.join z ys)) S|none=>False)|_=>False)
 |_,_=>False
def wb:vc X "str.join" nU:=⟨fun pins s σ H x xs v us Q I rx rs ⟨px,ps,S,Q3,r1,rp,rS,q,k⟩=>by
 unfold nU at q
 split at q
 ·split at q
  ·rename_i e
   split at q
   ·rename_i et
    cases r1
    cases rp with
    |cons b rr=>
     cases rr;cases b
     obtain⟨vs,hv,rl⟩:=rS _ _ e
     have e2:=ml rl et
     subst e2
     exact yF pins s σ H _ _ v us Q I rx rs ⟨_,_,_,rfl,rfl,SqL.of hv,q.1,k _ S _ H q.2 (.str _) rS .refl⟩
   ·exact q.elim
  ·exact q.elim
 ·exact q.elim⟩
def kF:sd:=fun x ps S Q=>match x,ps with
 | .str a,[.str b]=>(match Builtin.Str.occurrences a b 0 a.length 1 with|i::_=>Q (.int i) S|[]=>False)
 |_,_=>False
def yT:vc X "str.index" kF:=⟨fun pins s σ H x xs v us Q I rx rs ⟨px,ps,S,Q3,r1,rp,rS,q,k⟩=>by
 unfold kF at q
 split at q
 ·split at q
  ·rename_i e
   cases r1
   cases rp with
   |cons b rr=>
    cases rr;cases b
    exact vM pins s σ H _ _ v us Q I rx rs ⟨_,_,_,_,rfl,rfl,e,k _ S _ H q (.int _) rS .refl⟩
  ·exact q.elim
 ·exact q.elim⟩
end
section
variable {X:Cx} {e c:Expr} {te:aY} {st:Stmt} {rest a b:List Stmt} {t u:bF} {tc:li} {pos:Pos}
def aN:bF:=fun D σ S=>D.nx σ S
def ah(t u:bF):bF:=fun D σ S=>t { D with nx:=u D } σ S
def aH:kB X [] aN:=⟨tj x_ fun D σ H ⟨σ3,S,D3,rσ,rS,h,xo,n,r,bk,ct⟩=>n σ3 S σ H h rσ rS .refl⟩
def ac(h1:rf X st t)(h2:kB X rest u):kB X (st::rest) (ah t u):=
 ⟨tj (vh h1.ok h2.ok) fun D σ H ⟨σ3,S,D3,rσ,rS,h,xo,n,r,bk,ct⟩=>⟨σ3,S,{ D3 with nx:=u D3 },rσ,rS,h,xo,fun σ4 S' σ' H' h' LL ID g=>⟨σ4,S',D3,LL,ID,h',xo.mono g,n.mono g,r.mono g,bk.mono g,ct.mono g⟩,r,bk,ct⟩⟩
def aj(h1:rf X st t):kB X [st] t:=⟨ya h1.ok⟩
def aP(te:aY):bF:=fun D σ S=>te σ S (fun _ S1=>D.nx σ S1) D.ex
def bE(he:bB X e te)(hs:swapsWith e none pos.line X.env=pure false:=by rfl):rf X (.Expr e pos) (aP te):=
 ⟨dZ (yb he.ok hs) fun D σ H ⟨σ3,S,D3,rσ,rS,h,xo,n,r,bk,ct⟩=>⟨σ3,S,_,D3.ex,rσ,rS,h,xo,fun p S1 v H1 h1 rv Gd g1=>n σ3 S1 σ H1 h1 (rσ.mono g1) Gd g1⟩⟩
def aw(te:aY):bF:=fun D σ S=>te σ S D.rt D.ex
def am(he:bB X e te):rf X (.Return (some e) pos) (aw te):=
 ⟨dZ (AQ he.ok) fun D σ H ⟨σ3,S,D3,rσ,rS,h,xo,n,r,bk,ct⟩=>⟨σ3,S,D3.rt,D3.ex,rσ,rS,h,xo,r⟩⟩
def bg(c:li)(t u:bF):bF:=fun D σ S=>c σ S (fun b S1=>if b=true then t D σ S1 else u D σ S1) D.ex
def aX(hc:rR X c tc)(ha:kB X a t)(hb:kB X b u):rf X (.If c a b pos) (bg tc t u):=
 ⟨dZ (Cw hc.ok ha.ok hb.ok) fun D σ H ⟨σ3,S,D3,rσ,rS,h,xo,n,r,bk,ct⟩=>⟨σ3,S,_,D3.ex,rσ,rS,h,xo,fun z S1 H1 h1 Gd g1=>by
  cases z with
  |true=>rw[if_pos rfl]at h1 ⊢;exact⟨σ3,S1,D3,rσ.mono g1,Gd,h1,xo.mono g1,n.mono g1,r.mono g1,bk.mono g1,ct.mono g1⟩
  |false=>rw[if_neg (by decide)]at h1 ⊢;exact⟨σ3,S1,D3,rσ.mono g1,Gd,h1,xo.mono g1,n.mono g1,r.mono g1,bk.mono g1,ct.mono g1⟩⟩⟩
def au(i:Nat)(te:aY):bF:=fun D σ S=>te σ S (fun v S1=>D.nx (σ.set i (some v)) S1) D.ex
def we{i:Nat}{D:rq}{σ:L2.St}{H:Hp}:LS X (au i te) D σ H->yf (LE X te) (pZ i) D σ H:=fun⟨σ3,S,D3,rσ,rS,h,xo,n,r,bk,ct⟩=>
 ⟨σ3,S,_,D3.ex,rσ,rS,h,xo,fun p S1 v H1 h1 rv Gd g1=>n _ S1 _ H1 h1 ((rσ.mono g1).set rv i) Gd g1⟩
def Dj{i:Nat}{x:Str}{pos':Pos}(hN:X.N.Nodup)(hi:X.N[i]?=some x)(hx:xS X.env.scope x)(he:bB X e te)(hs:swapsWith e (some (.Name x pos')) pos.line X.env=pure false:=by rfl)
  (hf:X.fn x=true\/X.env.scope.names.lookup x=some .local:=by first|exact .inl rfl|exact .inr rfl|assumption):rf X (.Assign [.Name x pos'] e pos) (au i te):=⟨dZ (AU hN hi hx he.ok hs hf) fun _ _ _=>we⟩
def uz(i j:Nat)(ta tb:aY):bF:=fun D σ S=>ta σ S (fun v S1=>tb σ S1 (fun w S2=>D.nx ((σ.set i (some v)).set j (some w)) S2) D.ex) D.ex
def Aa{i j:Nat}{x y:Str}{a b:Expr}{ta tb:aY}{px py pt:Pos}{kt k2 Mw}(hc:X.calm=true)(hN:X.N.Nodup)(hi:X.N[i]?=some x)(hj:X.N[j]?=some y)(hij:i≠j)
  (hx:X.env.scope.names.lookup x=some .local) (hy:X.env.scope.names.lookup y=some .local) (ha:kn X [a,b] [ta,tb])
  (hw:swappedStores [.Tuple [.Name x px,.Name y py] kt pt] (.Tuple [a,b] k2 Mw) X.env=pure (some [x,y]):=by rfl)
  (hs:swapsWithSole [.Tuple [.Name x px,.Name y py] kt pt] (.Tuple [a,b] k2 Mw) pos.line X.env=pure false:=by rfl) :
  rf X (.Assign [.Tuple [.Name x px,.Name y py] kt pt] (.Tuple [a,b] k2 Mw) pos) (uz i j ta tb):=
 ⟨dZ (AV hc hN hi hj hij hx hy ha.ok hw hs) fun D σ H ⟨σ3,S,D3,rσ,rS,h,xo,n,r,bk,ct⟩=>
  ⟨σ3,S,_,D3.ex,rσ,rS,h,xo,fun v S1 v' H1 h1 rv Gd g1=>⟨σ3,S1,_,D3.ex,rσ.mono g1,Gd,h1,xo.mono g1,fun w S2 w' H2 h2 rw' HD g2=>
   ⟨v',w',rfl,n _ S2 _ H2 h2 (((rσ.mono (g1.trans g2)).set (rv.mono g2) i).set rw' j) HD (g1.trans g2)⟩⟩⟩⟩
def mn(i j k:Nat)(te:aY):bF:=fun D σ S=>te σ S (fun p S1=>match p with | .tup [v,w,u]=>D.nx (((σ.set k (some u)).set j (some w)).set i (some v)) S1|_=>False) D.ex
def yU{i j k:Nat}{x y z:Str}{px py pz pt:Pos}{kt:Nat}(hc:X.calm=true)(hN:X.N.Nodup)(hi:X.N[i]?=some x)(hj:X.N[j]?=some y)(hk:X.N[k]?=some z)
  (hx:X.env.scope.names.lookup x=some .local) (hy:X.env.scope.names.lookup y=some .local) (hz:X.env.scope.names.lookup z=some .local) (he:bB X e te)
  (hw:swappedStores [.Tuple [.Name x px,.Name y py,.Name z pz] kt pt] e X.env=pure (some [x,y,z]):=by rfl)
  (hs:swapsWithSole [.Tuple [.Name x px,.Name y py,.Name z pz] kt pt] e pos.line X.env=pure false:=by rfl):rf X (.Assign [.Tuple [.Name x px,.Name y py,.Name z pz] kt pt] e pos) (mn i j k te):=
 ⟨dZ (vN hc hN hi hj hk hx hy hz he.ok hw hs) fun D σ H ⟨σ3,S,D3,rσ,rS,h,xo,n,r,bk,ct⟩=>⟨σ3,S,_,D3.ex,rσ,rS,h,xo,fun p S1 v H1 h1 rv Gd g1=>by
  dsimp only at h1
  split at h1
  ·cases rv with
   |tup hq rs=>
    cases rs with
    |cons r1 rs=>
     cases rs with
     |cons r2 rs=>
      cases rs with
      |cons r3 rs=>
       cases rs
       exact⟨_,_,_,_,rfl,hq,n _ S1 _ H1 h1 ((((rσ.mono g1).set r3 k).set r2 j).set r1 i) Gd g1⟩
  ·exact h1.elim⟩⟩
inductive Tg where
 |n (i:Nat)|tp (l:Tg)|nil|cons (a r:Tg)
mutual
noncomputable def Tg.put:Tg->PV->cM->Option cM
 | .n i,p,σ=>some (σ.set i (some p))
 | .tp l,.tup xs,σ=>l.F8 xs σ
 |_,_,_=>none
noncomputable def Tg.F8:Tg->List PV->cM->Option cM
 | .nil,[],σ=>some σ
 | .cons a r,x::xs,σ=>(match a.put x σ with|some σ'=>r.F8 xs σ'|none=>none)
 |_,_,_=>none
end
noncomputable def Tg.len:Tg->Nat
 | .cons _ r=>r.len+1
 |_=>0
mutual
noncomputable def Tg.g2(K:Vo):Tg->TG
 | .n i=>pZ i
 | .tp l=>CA K l.len (l.Mg K)
 |_=>fun _ _ _ _=>False
noncomputable def Tg.Mg(K:Vo):Tg->zO
 | .nil=>Cz
 | .cons a r=>zP (a.g2 K) (r.Mg K)
 |_=>fun _ _ _ _=>False
end
noncomputable def Tg.under(own:Nat):Tg->Bool
 | .n i=>decide (i < own)
 | .tp l=>l.under own
 | .nil=>true
 | .cons a r=>a.under own&&r.under own
theorem Tg.Go:∀(g:Tg) {ps:List PV} {σ3 σ4:cM},g.F8 ps σ3=some σ4->ps.length=g.len
 | .nil,ps,σ3,σ4,h=>by
  cases ps with
  |nil=>rfl
  |cons _ _=>unfold Tg.F8 at h;cases h
 | .cons a r,ps,σ3,σ4,h=>by
  cases ps with
  |nil=>unfold Tg.F8 at h;cases h
  |cons x xs=>
   unfold Tg.F8 at h
   split at h
   ·rw[List.length_cons,Tg.Go r h];rfl
   ·cases h
 | .n _,ps,σ3,σ4,h=>by unfold Tg.F8 at h;cases h
 | .tp _,ps,σ3,σ4,h=>by unfold Tg.F8 at h;cases h
mutual
theorem Tg.J9{K:Vo}{H:Hp}{own:Nat}:∀(g:Tg) {v:V} {p:PV} {σ:L2.St} {σ3 σ4:cM} {Q:L2.St->Hp->Prop},Rep K H v p->Gi K H σ σ3->g.put p σ3=some σ4->(∀σ',Gi K H σ' σ4->(g.under own=true->σ'.drop own=σ.drop own)->Q σ' H)->g.g2 K v σ H Q
 | .n i,v,p,σ,σ3,σ4,Q,r,rσ,h,k=>by
  unfold Tg.put at h
  cases h
  unfold Tg.g2
  refine k _ (rσ.set r i) fun hb=>?_
  have hi:i < own:=of_decide_eq_true hb
  rw[List.drop_set]
  rw[if_pos hi]
 | .tp l,v,p,σ,σ3,σ4,Q,r,rσ,h,k=>by
  cases p with
  |tup xs=>
   unfold Tg.put at h
   cases r with
   |tup hq rs=>
    have hg:=Tg.Lc (own:=own) l rs rσ h k
    unfold Tg.g2
    exact⟨_,_,rfl,hq,rs.length.trans (Tg.Go l h),hg⟩
  |_=>unfold Tg.put at h;cases h
 | .nil,v,p,σ,σ3,σ4,Q,r,rσ,h,k=>by unfold Tg.put at h;cases h
 | .cons _ _,v,p,σ,σ3,σ4,Q,r,rσ,h,k=>by unfold Tg.put at h;cases h
theorem Tg.Lc{K:Vo}{H:Hp}{own:Nat}:∀(g:Tg) {vs:List V} {ps:List PV} {σ:L2.St} {σ3 σ4:cM} {Q:L2.St->Hp->Prop},Reps K H vs ps->Gi K H σ σ3->g.F8 ps σ3=some σ4->(∀σ',Gi K H σ' σ4->(g.under own=true->σ'.drop own=σ.drop own)->Q σ' H)->g.Mg K vs σ H Q
 | .nil,vs,ps,σ,σ3,σ4,Q,r,rσ,h,k=>by
  cases ps with
  |nil=>
   unfold Tg.F8 at h
   cases h
   cases r
   unfold Tg.Mg
   exact⟨rfl,k _ rσ fun _=>rfl⟩
  |cons _ _=>unfold Tg.F8 at h;cases h
 | .cons a r',vs,ps,σ,σ3,σ4,Q,r,rσ,h,k=>by
  cases ps with
  |nil=>unfold Tg.F8 at h;cases h
  |cons x xs=>
   unfold Tg.F8 at h
   split at h
   ·rename_i σ5 e5
    cases r with
    |cons r1 r2=>
     unfold Tg.Mg
     refine⟨_,_,rfl,Tg.J9 (own:=own) a r1 rσ e5 fun σ' LL d1=>Tg.Lc (own:=own) r' r2 LL h fun Qo Oo d2=>k Qo Oo fun hb=>?_⟩
     have hb':a.under own=true/\r'.under own=true:=by simpa [Tg.under]using hb
     rw[d2 hb'.2,d1 hb'.1]
   ·cases h
 | .n _,vs,ps,σ,σ3,σ4,Q,r,rσ,h,k=>by unfold Tg.F8 at h;cases h
 | .tp _,vs,ps,σ,σ3,σ4,Q,r,rσ,h,k=>by unfold Tg.F8 at h;cases h
end
structure xU (X:Cx) (e:Expr) (g:Tg):Prop where
 ok:PG X e (g.g2 X.K)
structure yV (X:Cx) (es:List Expr) (g:Tg):Prop where
 ok:Cy X es (g.Mg X.K)
 len:(assignEach es X.env).length=g.len
def FO(i:Nat){x:Str}(hN:X.N.Nodup)(hi:X.N[i]?=some x)(hx:xS X.env.scope x)(hf:X.fn x=true\/X.env.scope.names.lookup x=some .local:=by first|exact .inl rfl|exact .inr rfl|assumption):xU X (.Name x pos) (.n i):=⟨by
 have h:=yd (pos:=pos) hN hi hx hf
 unfold Tg.g2
 exact h⟩
def bL:yV X [] .nil:=⟨by unfold Tg.Mg;exact ye,rfl⟩
def aB{es:List Expr}{a r:Tg}(h1:xU X e a)(h2:yV X es r)(hs:(assignEach (e::es) X.env).map (·.2)=assign e X.env::(assignEach es X.env).map (·.2):=by rfl)(hl:(assignEach (e::es) X.env).length=(assignEach es X.env).length+1:=by rfl):yV X (e::es) (.cons a r):=
 ⟨by unfold Tg.Mg;exact vi h1.ok h2.ok hs,by rw[hl,h2.len];rfl⟩
def jM{es:List Expr}{k:Nat}{l:Tg}(hc:X.calm=true)(h:yV X es l)(hst:(assignEach es X.env).findIdx? (·.1)=none:=by rfl):xU X (.Tuple es k pos) (.tp l):=⟨by
 have h:=AS (pos:=pos) (k:=k) hc h.ok h.len hst
 unfold Tg.g2
 exact h⟩
def se(te:aY)(g:Tg):bF:=fun D σ S=>te σ S (fun v S1=>match g.put v σ with|some σ'=>D.nx σ' S1|none=>False) D.ex
def Ab{tg:Expr}{g:Tg}(he:bB X e te)(hg:xU X tg g)(hs:swapsWithSole [tg] e pos.line X.env=pure false:=by rfl)(hw:swappedStores [tg] e X.env=pure none:=by rfl)
  (h1:(assignEach [tg] X.env).map (·.2)=[assign tg X.env]:=by rfl):rf X (.Assign [tg] e pos) (se te g):=
 ⟨dZ (vj he.ok hg.ok hs hw h1) fun D σ H ⟨σ3,S,D3,rσ,rS,h,xo,n,r,bk,ct⟩=>⟨σ3,S,_,D3.ex,rσ,rS,h,xo,fun p S1 v H1 h1 rv Gd g1=>by
  dsimp only at h1
  split at h1
  ·rename_i σ' e'
   exact Tg.J9 (own:=0) g rv (rσ.mono g1) e' fun σ2 Qp _=>n _ S1 _ H1 h1 Qp Gd g1
  ·exact h1.elim⟩⟩
end
noncomputable def kG{κ:Type} [DecidableEq κ](kvs:List (κ×PV))(k:κ)(v:PV):List (κ×PV):=
 if (kvs.any fun kv=>decide (kv.1=k))=true then kvs.map (fun kv=>if kv.1=k then (kv.1,v) else kv) else kvs++[(k,v)]
theorem Gq.append{K:Vo}{H:Hp}{κ:Type}:∀{vs us:List (κ×V)} {ps qs:List (κ×PV)},Gq K H vs ps->Gq K H us qs->Gq K H (vs++us) (ps++qs)
 |_,_,_,_,.nil,s=>s
 |_,_,_,_,.cons a r,s=>.cons a (Gq.append r s)
def Gq.put{K:Vo}{H:Hp}{κ:Type} [DecidableEq κ]{k:κ}{v:V}{p:PV}(q:Rep K H v p){vs:List (κ×V)}{ps:List (κ×PV)}(r:Gq K H vs ps):Gq K H (gT vs k v) (kG ps k p):=by
 have e:(vs.any fun kv=>decide (kv.1=k))=(ps.any fun kv=>decide (kv.1=k)):=by rw[lY,r.any]
 unfold gT kG
 rw[e]
 split
 ·clear e
  rename_i h
  clear h
  induction r with
  |nil=>exact .nil
  |@cons k' v' p' vs' ps' a r ih=>
   rw[List.map_cons,List.map_cons]
   by_cases z:k'=k
   ·rw[if_pos z,if_pos z];exact .cons q ih
   ·rw[if_neg z,if_neg z];exact .cons a ih
 ·exact r.append (.cons q .nil)
def kH(o i v:PV)(S:aC)(Q:aC->Prop):Prop:=match o with
 | .ref a=>(match S a with
  |some (.lst xs)=>(match i with | .int k=>(match sW xs.length k with|some j=>Q (F3 S a (.lst (xs.set j v)))|none=>False)|_=>False)
  |some (.dct kvs)=>(match kD i with|some k=>kvs.length < sizeLine/\Q (F3 S a (.dct (kG kvs k v)))|none=>False)
  |_=>False)
 |_=>False
section
variable {X:Cx} {e o i:Expr} {te to ti:aY} {pos pos':Pos}
noncomputable def E_(X:Cx):V->V->V->Hp->(Hp->Prop)->Prop:=fun o i v H Q=>∃po pi pv S Q3,Rep X.K H o po/\Rep X.K H i pi/\Rep X.K H v pv/\Ga X.K H S/\kH po pi pv S Q3/\∀S' H',Q3 S'->Ga X.K H' S'->Grow X.K H H'->Q H'
def BE(hu:X.A.units+1 < cLine):yc X (E_ X):=by
 intro pins s σ H o i v ov iv u Q I ro ri rv ⟨po,pi,pv,S,Q3,r1,r2,r3,rS,q,k⟩
 unfold kH at q
 split at q
 ·split at q
  ·rename_i e
   split at q
   ·split at q
    ·rename_i ej
     cases r1;cases r2
     obtain⟨vs,hv,rl⟩:=rS _ _ e
     rw[<-rl.length]at ej
     exact vz pins s σ H _ _ _ ov iv u Q I ro ri rv ⟨_,_,_,_,rfl,rfl,hv,ej,k _ _ q (rS.put hv trivial ⟨_,aG,((rl.set r3 _).mono (.mut hv trivial))⟩) (.mut hv trivial)⟩
    ·exact q.elim
   ·exact q.elim
  ·rename_i e
   split at q
   ·rename_i ek
    cases r1
    have e1:=dY r2 ek
    subst e1
    obtain⟨kv,hv,rk⟩:=rS _ _ e
    exact v7 hu pins s σ H _ _ _ ov iv u Q I ro ri rv ⟨_,_,rfl,Lw.k hv (by rw[rk.length];exact q.1),k _ _ q.2 (rS.put hv trivial ⟨_,aG,(rk.put r3).mono (.mut hv trivial)⟩) (.mut hv trivial)⟩
   ·exact q.elim
  ·exact q.elim
 ·exact q.elim
def oQ(te to ti:aY):bF:=fun D σ S=>te σ S (fun v S1=>to σ S1 (fun o S2=>ti σ S2 (fun i S3=>kH o i v S3 (fun S4=>D.nx σ S4)) D.ex) D.ex) D.ex
def qo(hu:X.A.units+1 < cLine)(he:bB X e te)(ho:bB X o to)(hi:bB X i ti)
  (ha:∀v,assign (.Subscript o i pos') X.env v=(do
   let ov <-holding [v] (eval o X.env)
   let iv <-holding [v,ov] (eval i X.env)
   standAt pos'
   holding [v,ov,iv] (setItem ov iv v)
   release [v,ov,iv] []):=by intro _;rfl)
  (hs:swapsWithSole [.Subscript o i pos'] e pos.line X.env=pure false:=by rfl) (hw:swappedStores [.Subscript o i pos'] e X.env=pure none:=by rfl)
  (h1:(assignEach [.Subscript o i pos'] X.env).map (·.2)=[assign (.Subscript o i pos') X.env]:=by rfl):rf X (.Assign [.Subscript o i pos'] e pos) (oQ te to ti):=
 ⟨dZ (vj he.ok (AT ho.ok hi.ok (BE hu) ha) hs hw h1) fun D σ H ⟨σ3,S,D3,rσ,rS,h,xo,n,r,bk,ct⟩=>⟨σ3,S,_,D3.ex,rσ,rS,h,xo,fun v S1 v' H1 h1 rv Gd g1=>
  ⟨σ3,S1,_,D3.ex,rσ.mono g1,Gd,h1,xo.mono g1,fun o S2 o' H2 h2 ro HD g2=>⟨σ3,S2,_,D3.ex,rσ.mono (g1.trans g2),HD,h2,xo.mono (g1.trans g2),fun i S3 i' H3 h3 ri Kz g3=>
   ⟨o,i,v,S3,_,ro.mono g3,ri,rv.mono (g2.trans g3),Kz,h3,fun S4 H4 h4 Qq g4=>n _ S4 _ H4 h4 (rσ.mono (g1.trans (g2.trans (g3.trans g4)))) Qq (g1.trans (g2.trans (g3.trans g4)))⟩⟩⟩⟩⟩
end
end L3
namespace L2
open PySem PySem.Spec PyProof.Rows
section
variable {X:Cx} {tg:Expr}
def Fa(K:Vo)(tl:TE):TI:=fun σ H R=>tl σ H fun x H1=>(∃a,x = .ref a/\(∃xs,SqL K H1 a xs)/\R (Ea K a) H1)\/(∃a,x = .ref a/\(∃xs,SqT K H1 a xs)/\R (EG K a) H1)\/∃z,x = .str z/\R (EX z) H1
def BF{l:Expr}{tl:TE}(hl:PE X l tl):PI X tg l (Fa X.K tl):=by
 intro pins s σ H R I h
 refine F9 (hl pins s σ H _ I h) fun v s1 ⟨x,H1,I1,r1,q1⟩=>?_
 rcases q1 with⟨a,e,⟨xs,hq⟩,q⟩|⟨a,e,⟨xs,hq⟩,q⟩|⟨z,e,q⟩
 ·subst e
  cases r1
  obtain⟨its,rv,p,hz⟩:=I1.list hq
  refine wpAny_pyIter_list p.isList ?_
  refine⟨s1.heap.objs.size,[s1.heap.objs.size],_,_,H1,rfl,I1.kept (t':=s1.toks) fun b o e=>Heap.get?_push_of_some _ e,t7 a _,⟨_,Heap.get?_push_size _ rfl,rfl,rfl⟩,fun b hb=>?_,q⟩
  have e:b=s1.heap.objs.size:=by simpa using hb
  subst e
  exact I1.IC (Nat.le_refl _) (I1.hok.fresh (Nat.le_refl _))
 ·subst e
  cases r1
  obtain⟨its,rv,p,hz⟩:=I1.tuple hq
  refine wpAny_pyIter_tuple (show s1.heap.IsTuple a its.toArray from p) ?_
  refine⟨s1.heap.objs.size,[s1.heap.objs.size],_,_,H1,rfl,I1.kept (t':=s1.toks) fun b o e=>Heap.get?_push_of_some _ e,rA a _,⟨_,Heap.get?_push_size _ rfl,rfl,rfl⟩,fun b hb=>?_,q⟩
  have e:b=s1.heap.objs.size:=by simpa using hb
  subst e
  exact I1.IC (Nat.le_refl _) (I1.hok.fresh (Nat.le_refl _))
 ·subst e
  obtain⟨t,rfl⟩:=r1
  have fin:∀ty,(ty = "str_ascii_iterator" \/ ty = "str_iterator")->EF X pins σ tg R (.ref s1.heap.objs.size) { s1 with heap:=s1.heap.push { cls:=.type ty,data:=.fields #[.str z t,.int 0 0] } }:=fun ty hty=>by
   refine⟨s1.heap.objs.size,[s1.heap.objs.size],_,_,H1,rfl,I1.kept (t':=s1.toks) fun b o e=>Heap.get?_push_of_some _ e,vL hty _ z t,⟨Nat.zero_le _,_,Heap.get?_push_size _ rfl,rfl,rfl⟩,fun b hb=>?_,q⟩
   have e:b=s1.heap.objs.size:=by simpa using hb
   subst e
   exact I1.IC (Nat.le_refl _) (I1.hok.fresh (Nat.le_refl _))
  cases ha:z.cps.all (· < 128)
  ·exact wpAny_pyIter_wide ha (fin _ (.inr rfl))
  ·exact wpAny_pyIter_ascii ha (fin _ (.inl rfl))
def BG(K:Vo)(ta:TA):TI:=fun σ H R=>ta σ H fun vs H1=>∃a,vs=[.ref a]/\(((∃xs,SqL K H1 a xs)/\R (E5 K a) H1)\/((∃xs,SqT K H1 a xs)/\R (E6 K a) H1))
def wf{elts:List Expr}{k0:Nat}{Hf:Pos}{a:Expr}{ta:TA}{p pos:Pos}(hg:Gl X "enumerate")(hm:X.mg "enumerate" = none)(hv:bootBuiltins "enumerate" = some (.type "enumerate"))(ha:PA X [a] ta)
  (hs:starEach [a] X.env=[(false,eval a X.env)]:=by rfl):PI X (.Tuple elts k0 Hf) (.Call (.Name "enumerate" p) [a] [] pos) (BG X.K ta):=by
 intro pins s σ H R I h
 refine Call_ (eG I hg hm hv (PyProof.Rows.callWith_type1 (F9 (ha pos pins s σ H _ I h) fun us s1 ⟨vs,H1,I1,r1,q1⟩=>?_) hs rfl))
 obtain⟨a,e,q⟩:=q1
 subst e
 obtain⟨u,rfl,ru⟩:=fE r1
 cases ru
 rcases q with⟨⟨xs,qa⟩,q⟩|⟨⟨xs,qa⟩,q⟩
 ·obtain⟨ia,ra,pa,za⟩:=I1.list qa
  refine call_enumerate_list pa.isList fun g ge g1 gz kk=>?_
  refine wpAny_pyIter_enum (s:={ s1 with heap:=g }) ge ?_
  refine⟨_,[s1.heap.objs.size+1,s1.heap.objs.size],_,_,H1,rfl,I1.kept (t':=s1.toks) kk,ut (Nat.succ_ne_self _),⟨⟨_,ge⟩,g1⟩,fun c hc=>?_,q⟩
  have hle:s1.heap.objs.size<=c:=by
   simp only[List.mem_cons,List.not_mem_nil,or_false]at hc
   rcases hc with rfl|rfl
   ·exact Nat.le_add_right _ _
   ·exact Nat.le_refl _
  exact I1.IC hle (I1.hok.fresh hle)
 ·obtain⟨ia,ra,pa,za⟩:=I1.tuple qa
  have la:a < s1.heap.objs.size:=by obtain⟨o,e,_⟩:=pa;exact Heap.lt_size e
  refine Et.gW (show s1.heap.IsTuple a ia.toArray from pa) fun g ge g1 kk=>?_
  refine wpAny_pyIter_enum (s:={ s1 with heap:=g }) ge ?_
  refine⟨_,[s1.heap.objs.size+1,s1.heap.objs.size],_,_,H1,rfl,I1.kept (t':=s1.toks) kk,rN (Nat.succ_ne_self _) (Nat.ne_of_lt (Nat.lt_succ_of_lt la)) (Nat.ne_of_lt la),⟨⟨_,ge⟩,g1⟩,fun c hc=>?_,q⟩
  have hle:s1.heap.objs.size<=c:=by
   simp only[List.mem_cons,List.not_mem_nil,or_false]at hc
   rcases hc with rfl|rfl
   ·exact Nat.le_add_right _ _
   ·exact Nat.le_refl _
  exact I1.IC hle (I1.hok.fresh hle)
end
end L2
namespace L3
open PySem L2
structure Ej where
 items:List PV
 keep:aC->Prop
def gZ(K:Vo)(H0:Hp)(J:It)(src:Ej):Prop:=∀(i:Nat) (S:aC) (H:Hp),Grow K H0 H->Ga K H S->src.keep S->
 (∀p,src.items[i]?=some p->J.go i H/\∀x H',J.Ny i H x H'->Rep K H' x p/\Ga K H' S/\Grow K H H')/\(i=src.items.length->J.stop i H)
abbrev tw:=cM->aC->(Ej->aC->Prop)->b6->Prop
def LI(X:Cx)(t:tw):TI:=fun σ H R=>∃σ3 S R3 E3,Gi X.K H σ σ3/\Ga X.K H S/\t σ3 S R3 E3/\Lo X H E3/\∀src S' J H',R3 src S'->gZ X.K H' J src->Ga X.K H' S'->Grow X.K H H'->R J H'
structure vd (X:Cx) (tg iter:Expr) (t:tw):Prop where
 ok:PI X tg iter (LI X t)
def jc{X:Cx}{tg iter:Expr}{t t':TI}(h:PI X tg iter t)(k:∀σ H R,t' σ H R->t σ H R):PI X tg iter t':=fun pins s σ H R I q=>h pins s σ H R I (k σ H R q)
section
variable {X:Cx} {e tg:Expr} {es:List Expr} {te:aY} {ts:List aY} {p pos:Pos}
noncomputable def bt(S:aC):PV->Option Ej
 | .tup xs=>some ⟨xs,fun _=>True⟩
 | .cl xs=>some ⟨xs,fun _=>True⟩
 | .str z=>some ⟨z.cps.toList.map fun c=>.str (oG c),fun _=>True⟩
 | .ref a=>(match S a with|some (.lst xs)=>some ⟨xs,fun S'=>S' a=some (.lst xs)⟩|_=>none)
 |_=>none
def aD(te:aY):tw:=fun σ S R E=>te σ S (fun v S1=>match bt S1 v with|some src=>R src S1|none=>False) E
end
section
variable {X:Cx} {e tg a b:Expr} {es:List Expr} {te ta tb:aY} {ts:List aY} {p pos:Pos}
def wg{K:Vo}{H0:Hp}{a:Addr}{xs:List PV}:gZ K H0 (Ea K a) ⟨xs,fun S'=>S' a=some (.lst xs)⟩:=by
 intro i S H g rS hk
 obtain⟨vs,hv,rs⟩:=rS a _ hk
 refine⟨fun p hp=>?_,fun hi=>⟨vs,SqL.of hv,by rw[rs.length,hi];exact Nat.le_refl _⟩⟩
 obtain⟨v,hx,rv⟩:=rs.get hp
 refine⟨⟨vs,v,SqL.of hv,hx⟩,fun x H' ⟨e,h⟩=>?_⟩
 subst e
 have:=h vs (SqL.of hv)
 rw[hx]at this
 cases this
 exact⟨rv,rS,.refl⟩
def yW{K:Vo}{H0:Hp}{a:Addr}{vs:List V}{xs:List PV}(h:SqT K H0 a vs)(rs:Reps K H0 vs xs):gZ K H0 (EG K a) ⟨xs,fun _=>True⟩:=by
 intro i S H g rS _
 have hv:=g.t _ _ h
 refine⟨fun p hp=>?_,fun hi=>⟨vs,hv,by rw[rs.length,hi];exact Nat.le_refl _⟩⟩
 obtain⟨v,hx,rv⟩:=rs.get hp
 refine⟨⟨vs,v,hv,hx⟩,fun x H' ⟨e,h⟩=>?_⟩
 subst e
 have:=h vs hv
 rw[hx]at this
 cases this
 exact⟨rv.mono g,rS,.refl⟩
def BH{K:Vo}{H0:Hp}{a:Addr}{vs:List V}{xs:List PV}(h:MZ K H0 a vs)(rs:Reps K H0 vs xs):gZ K H0 (Ea K a) ⟨xs,fun _=>True⟩:=by
 intro i S H g rS _
 have hv:=(g.c _ _ h).sq
 refine⟨fun p hp=>?_,fun hi=>⟨vs,hv,by rw[rs.length,hi];exact Nat.le_refl _⟩⟩
 obtain⟨v,hx,rv⟩:=rs.get hp
 refine⟨⟨vs,v,hv,hx⟩,fun x H' ⟨e,h⟩=>?_⟩
 subst e
 have:=h vs hv
 rw[hx]at this
 cases this
 exact⟨rv.mono g,rS,.refl⟩
def yX{K:Vo}{H0:Hp}{z:Str}:gZ K H0 (EX z) ⟨z.cps.toList.map fun c=>.str (oG c),fun _=>True⟩:=by
 intro i S H g rS _
 refine⟨fun p hp=>?_,fun hi=>by show z.cps.size<=i;rw[hi,List.length_map,Array.length_toList];exact Nat.le_refl _⟩
 rw[List.getElem?_map]at hp
 cases hc:z.cps.toList[i]? with
 |none=>rw[hc]at hp;cases hp
 |some c=>
  rw[hc]at hp
  cases hp
  have hc':z.cps[i]?=some c:=by simpa using hc
  refine⟨?_,fun x H' ⟨e,c',h1,h2⟩=>?_⟩
  ·show i < z.cps.size
   by_cases hi:i < z.cps.size
   ·exact hi
   ·rw[Array.getElem?_eq_none (by omega)]at hc';cases hc'
  ·subst e
   rw[hc']at h1
   cases h1
   subst h2
   exact⟨.str _,rS,.refl⟩
def bi(he:bB X e te):vd X tg e (aD te):=⟨jc (BF he.ok) fun σ H R ⟨σ3,S,R3,E3,rσ,rS,h,xo,k⟩=>⟨σ3,S,_,E3,rσ,rS,h,xo,fun v S1 v' H1 h1 rv Gd g1=>by
 dsimp only at h1
 split at h1
 ·rename_i src hs
  unfold bt at hs
  split at hs
  ·cases hs
   cases rv with
   |tup hq rs=>exact .inr (.inl ⟨_,rfl,⟨_,hq⟩,k _ S1 _ H1 h1 (yW hq rs) Gd g1⟩)
  ·cases hs
   cases rv with
   |cl hq rs=>exact .inl ⟨_,rfl,⟨_,hq.sq⟩,k _ S1 _ H1 h1 (BH hq rs) Gd g1⟩
  ·cases hs
   cases rv
   exact .inr (.inr ⟨_,rfl,k _ S1 _ H1 h1 yX Gd g1⟩)
  ·cases rv
   split at hs
   ·rename_i ea
    cases hs
    obtain⟨vs,hv,rs⟩:=Gd _ _ ea
    exact .inl ⟨_,rfl,⟨_,SqL.of hv⟩,k _ S1 _ H1 h1 wg Gd g1⟩
   ·cases hs
  ·cases hs
 ·exact h1.elim⟩⟩
noncomputable def bO(lo:Int)(n:Nat):List PV:=(List.range n).map fun(i:Nat)=>PV.int (lo+i)
def uA{K:Vo}{H0:Hp}{lo:Int}{n:Nat}:gZ K H0 (Eb lo n) ⟨bO lo n,fun _=>True⟩:=by
 intro i S H g rS _
 refine⟨fun p hp=>?_,fun hi=>by show n<=i;rw[hi];simp[bO]⟩
 unfold bO at hp
 rw[List.getElem?_map]at hp
 by_cases hi:i < n
 ·rw[List.getElem?_range hi]at hp
  cases hp
  refine⟨hi,fun x H' ⟨e,h⟩=>?_⟩
  subst e h
  exact⟨.int _,rS,.refl⟩
 ·rw[List.getElem?_eq_none (by simpa using hi)]at hp
  cases hp
def nj(ta:aY):tw:=fun σ S R E=>ta σ S (fun v S1=>match v with | .int j=>-(2 ^ 62)<=j/\j < 2 ^ 62/\R ⟨bO 0 j.toNat,fun _=>True⟩ S1|_=>False) E
def g_(hs:starEach [a] X.env=[(false,eval a X.env)])(hg:Gl X "range")(hm:X.mg "range" = none)(ha:kn X [a] [ta]):vd X tg (.Call (.Name "range" p) [a] [] pos) (nj ta):=
 ⟨jc (t8 hg hm ha.ok hs) fun σ H R ⟨σ3,S,R3,E3,rσ,rS,h,xo,k⟩=>⟨σ3,S,_,E3,rσ,rS,h,xo,fun v S1 v' H1 h1 rv Gd g1=>by
  dsimp only at h1
  split at h1
  ·cases rv
   exact⟨_,rfl,h1.1,h1.2.1,k _ S1 _ H1 h1.2.2 uA Gd g1⟩
  ·exact h1.elim⟩⟩
noncomputable def aR(xs:List PV):List PV:=xs.mapIdx fun i x=>.tup [.int i,x]
def uB{K:Vo}{H0:Hp}{a:Addr}{xs:List PV}:gZ K H0 (E5 K a) ⟨aR xs,fun S'=>S' a=some (.lst xs)⟩:=by
 intro i S H g rS hk
 obtain⟨vs,hv,rs⟩:=rS a _ hk
 refine⟨fun p hp=>?_,fun hi=>⟨vs,SqL.of hv,by rw[rs.length,hi];simp[aR]⟩⟩
 unfold aR at hp
 rw[List.getElem?_mapIdx]at hp
 cases hx:xs[i]? with
 |none=>rw[hx]at hp;cases hp
 |some y=>
  rw[hx]at hp
  cases hp
  obtain⟨v,hx',rv⟩:=rs.get hx
  refine⟨⟨vs,v,SqL.of hv,hx'⟩,fun x H' ⟨q,x2,e1,hq,e2,h⟩=>?_⟩
  subst e1 e2
  have:=h vs (SqL.of hv)
  rw[hx']at this
  cases this
  exact⟨.tup (SqT.of aG) (.cons (.int _) (.cons (rv.mono (.new hq)) .nil)),rS.other hq,.new hq⟩
def uC{K:Vo}{H0:Hp}{a:Addr}{vs:List V}{xs:List PV}(h0:SqT K H0 a vs)(rs:Reps K H0 vs xs):gZ K H0 (E6 K a) ⟨aR xs,fun _=>True⟩:=by
 intro i S H g rS _
 have hv:=g.t _ _ h0
 refine⟨fun p hp=>?_,fun hi=>⟨vs,hv,by rw[rs.length,hi];simp[aR]⟩⟩
 unfold aR at hp
 rw[List.getElem?_mapIdx]at hp
 cases hx:xs[i]? with
 |none=>rw[hx]at hp;cases hp
 |some y=>
  rw[hx]at hp
  cases hp
  obtain⟨v,hx',rv⟩:=rs.get hx
  refine⟨⟨vs,v,hv,hx'⟩,fun x H' ⟨q,x2,e1,hq,e2,h⟩=>?_⟩
  subst e1 e2
  have:=h vs hv
  rw[hx']at this
  cases this
  exact⟨.tup (SqT.of aG) (.cons (.int _) (.cons ((rv.mono g).mono (.new hq)) .nil)),rS.other hq,.new hq⟩
def cw(ta:aY):tw:=fun σ S R E=>ta σ S (fun v S1=>match v with
 | .tup xs=>R ⟨aR xs,fun _=>True⟩ S1
 | .ref a=>(match S1 a with|some (.lst xs)=>R ⟨aR xs,fun S'=>S' a=some (.lst xs)⟩ S1|_=>False)
 |_=>False) E
def fU{elts:List Expr}{k0:Nat}{Hf:Pos}(hs:starEach [a] X.env=[(false,eval a X.env)])(hg:Gl X "enumerate")(hm:X.mg "enumerate" = none)(hv:bootBuiltins "enumerate" = some (.type "enumerate"))(ha:kn X [a] [ta]):vd X (.Tuple elts k0 Hf) (.Call (.Name "enumerate" p) [a] [] pos) (cw ta):=
 ⟨jc (wf hg hm hv ha.ok hs) fun σ H R ⟨σ3,S,R3,E3,rσ,rS,h,xo,k⟩=>⟨σ3,S,_,E3,rσ,rS,h,xo,fun v S1 v' H1 h1 rv Gd g1=>by
  dsimp only at h1
  split at h1
  ·cases rv with
   |tup hq rs=>exact⟨_,rfl,.inr ⟨⟨_,hq⟩,k _ S1 _ H1 h1 (uC hq rs) Gd g1⟩⟩
  ·cases rv
   split at h1
   ·rename_i ea
    obtain⟨vs,hv,rs⟩:=Gd _ _ ea
    exact⟨_,rfl,.inl ⟨⟨_,SqL.of hv⟩,k _ S1 _ H1 h1 uB Gd g1⟩⟩
   ·exact h1.elim
  ·exact h1.elim⟩⟩
noncomputable def bj(xs ys:List PV):List PV:=(xs.zip ys).map fun z=>.tup [z.1,z.2]
def Lh(K:Vo)(H0:Hp)(ka:Bool)(a:Addr)(xs:List PV)(keep:aC->Prop):Prop:=∀S H,Grow K H0 H->Ga K H S->keep S->∃vs,l6 ka K H a vs/\Reps K H vs xs
def Lh.tup{K:Vo}{H0:Hp}{a:Addr}{vs:List V}{xs:List PV}{keep:aC->Prop}(h:SqT K H0 a vs)(r:Reps K H0 vs xs):Lh K H0 false a xs keep:=fun _ _ g _ _=>⟨vs,g.t _ _ h,r.mono g⟩
theorem Lh.lst{K:Vo}{H0:Hp}{a:Addr}{xs:List PV}{keep:aC->Prop}(h:∀S,keep S->S a=some (.lst xs)):Lh K H0 true a xs keep:=fun S _ _ rS k=>let ⟨vs,hv,r⟩:=rS _ _ (h S k);⟨vs,SqL.of hv,r⟩
def jN{K:Vo}{H0:Hp}{ka kb:Bool}{a b:Addr}{xs ys:List PV}{keep:aC->Prop}(h1:Lh K H0 ka a xs keep)(h2:Lh K H0 kb b ys keep):gZ K H0 (EZ ka kb K a b) ⟨bj xs ys,keep⟩:=by
 intro i S H g rS kp
 obtain⟨vs,hv,r1⟩:=h1 S H g rS kp
 obtain⟨us,hu,r2⟩:=h2 S H g rS kp
 have l1:=r1.length
 have l2:=r2.length
 refine⟨fun p hp=>?_,fun hi=>⟨vs,us,hv,hu,?_⟩⟩
 ·unfold bj at hp
  rw[List.getElem?_map]at hp
  cases hz:(xs.zip ys)[i]? with
  |none=>rw[hz]at hp;cases hp
  |some z=>
   rw[hz]at hp
   cases hp
   obtain⟨e1,e2⟩:=List.getElem?_zip_eq_some.mp hz
   obtain⟨v,hx',rv⟩:=r1.get e1
   obtain⟨u,hy',ru⟩:=r2.get e2
   refine⟨⟨vs,us,v,u,hv,hu,hx',hy'⟩,fun x H' ⟨q,x2,y2,e3,hq,e4,h⟩=>?_⟩
   subst e3 e4
   obtain⟨k1,k2⟩:=h vs us hv hu
   rw[hx']at k1
   rw[hy']at k2
   cases k1;cases k2
   exact⟨.tup (SqT.of aG) (.cons (rv.mono (.new hq)) (.cons (ru.mono (.new hq)) .nil)),rS.other hq,.new hq⟩
 ·have e:(bj xs ys).length=min xs.length ys.length:=by simp[bj]
  rw[e]at hi
  by_cases hle:xs.length<=ys.length
  ·exact .inl (by omega)
  ·exact .inr (by omega)
def uD(ta tb:aY):tw:=fun σ S R E=>ta σ S (fun v S1=>tb σ S1 (fun w S2=>match v,w with
 | .tup xs,.tup ys=>R ⟨bj xs ys,fun _=>True⟩ S2
 |_,_=>False) E) E
def Ac{elts:List Expr}{k0:Nat}{Hf:Pos}(hs:starEach [a,b] X.env=[(false,eval a X.env),(false,eval b X.env)])(hs2:starEach [b] X.env=[(false,eval b X.env)])(hg:Gl X "zip")(hm:X.mg "zip" = none)(hv:bootBuiltins "zip" = some (.type "zip"))(ha:kn X [a,b] [ta,tb]) :
  vd X (.Tuple elts k0 Hf) (.Call (.Name "zip" p) [a,b] [] pos) (uD ta tb):=
 ⟨jc (vP hg hm hv ha.ok hs hs2) fun σ H R ⟨σ3,S,R3,E3,rσ,rS,h,xo,k⟩=>⟨σ3,S,_,E3,rσ,rS,h,xo,fun v S1 v' H1 h1 rv Gd g1=>⟨σ3,S1,_,E3,rσ.mono g1,Gd,h1,xo.mono g1,fun w S2 w' H2 h2 rw' HD g2=>by
  dsimp only at h2
  split at h2
  ·cases rv with
   |tup hq rs=>
    cases rw' with
    |tup hq2 MF=>exact⟨false,false,_,_,rfl,⟨_,g2.t _ _ hq⟩,⟨_,hq2⟩,k _ S2 _ H2 h2 (jN (.tup (g2.t _ _ hq) (rs.mono g2)) (.tup hq2 MF)) HD (g1.trans g2)⟩
  ·exact h2.elim⟩⟩⟩
end
section
variable {X:Cx} {iter tg c:Expr} {body:List Stmt} {ti:tw} {g:Tg} {tb:bF} {tc:li} {pos:Pos}
noncomputable def oR(g:Tg)(tb:bF)(D:qi)(keep:aC->Prop):List PV->cM->aC->Prop
 |[],σ,S=>keep S/\D.nx σ S
 |x::r,σ,S=>keep S/\match g.put x σ with|some σ'=>tb { D with nx:=oR g tb D keep r,ct:=oR g tb D keep r,bk:=D.nx } σ' S|none=>False
def bM(ti:tw)(g:Tg)(tb:bF):bF:=fun D σ S=>ti σ S (fun src S1=>oR g tb D src.keep src.items σ S1) D.ex
def cx(hp:PassesOwn (model X.prog X.w) X.A X.env X.xe)(hc:X.calm=true)(hi:vd X tg iter ti)(hg:xU X tg g)(hb:kB X body tb)(hs:∀x,foldedSetIterable iter X.env x=pure x:=by intro _;rfl):rf X (.For tg iter body [] pos) (bM ti g tb):=
 ⟨dZ (AY hp hc hi.ok hg.ok hb.ok hs) fun D σ H ⟨σ3,S,D3,rσ,rS,h,xo,n,r,bk,ct⟩=>⟨σ3,S,_,D3.ex,rσ,rS,h,xo,fun src S1 J H1 h1 sim Gd g1=>by
  refine⟨fun i m σ' H'=>i+m=src.items.length/\∃σ4 S',Gi X.K H' σ' σ4/\Ga X.K H' S'/\Grow X.K H1 H'/\oR g tb D3 src.keep (src.items.drop i) σ4 S',⟨src.items.length,Nat.zero_add _,σ3,S1,rσ.mono g1,Gd,.refl,by simpa using h1⟩,?_⟩
  rintro i m σ' H' ⟨hm,σ4,S',LL,ID,g',hw⟩
  cases hd:src.items.drop i with
  |nil=>
   rw[hd]at hw
   have hi:i=src.items.length:=by
    have:=congrArg List.length hd
    rw[List.length_drop,List.length_nil]at this
    omega
   exact .inl ⟨(sim i S' H' g' ID hw.1).2 hi,n _ S' _ H' hw.2 LL ID (g1.trans g')⟩
  |cons x rest=>
   rw[hd]at hw
   have hx:src.items[i]?=some x:=by
    have:=congrArg (fun l=>l[0]?) hd
    simpa using this
   have hrest:src.items.drop (i+1)=rest:=by
    have:=congrArg List.tail hd
    simpa [List.tail_drop]using this
   have hlt:i < src.items.length:=by
    by_cases z:i < src.items.length
    ·exact z
    ·rw[List.getElem?_eq_none (by omega)]at hx;cases hx
   obtain⟨go,yl⟩:=(sim i S' H' g' ID hw.1).1 x hx
   refine .inr ⟨go,fun σ5 H5=>∃σ6 S6,Gi X.K H5 σ5 σ6/\Ga X.K H5 S6/\Grow X.K H1 H5/\oR g tb D3 src.keep rest σ6 S6,?_,fun v H5 hv=>?_⟩
   ·rintro σ5 H5 ⟨σ6,S6,q1,q2,q3,q4⟩
    exact⟨m - 1,by omega,by omega,σ6,S6,q1,q2,q3,by rw[hrest];exact q4⟩
   ·obtain⟨rv,Op,g5⟩:=yl v H5 hv
    obtain⟨_,hw⟩:=hw
    split at hw
    ·rename_i σ6 e6
     refine Tg.J9 (own:=0) g rv (LL.mono g5) e6 fun σ7 NE _=>?_
     exact⟨σ6,S',_,NE,Op,hw,xo.mono (g1.trans (g'.trans g5)),fun σ8 S8 σ9 H9 q1 q2 q3 q4=>⟨σ8,S8,q2,q3,g'.trans (g5.trans q4),q1⟩,r.mono (g1.trans (g'.trans g5)),n.mono (g1.trans (g'.trans g5)),
      fun σ8 S8 σ9 H9 q1 q2 q3 q4=>⟨σ8,S8,q2,q3,g'.trans (g5.trans q4),q1⟩⟩
    ·exact hw.elim⟩⟩
def jd(tc:li)(tb:bF):bF:=fun D σ S=>∃W:Nat->cM->aC->Prop,(∃m,W m σ S)/\∀m σ S,W m σ S->
 tc σ S (fun b S1=>if b=true then ∃N:cM->aC->Prop,(∀σ' S',N σ' S'->∃m',m' < m/\W m' σ' S')/\tb { D with nx:=N,ct:=N,bk:=D.nx } σ S1 else D.nx σ S1) D.ex
def jO(hp:PassesOwn (model X.prog X.w) X.A X.env X.xe)(hc:rR X c tc)(hb:kB X body tb):rf X (.While c body [] pos) (jd tc tb):=
 ⟨dZ (vk hp hc.ok hb.ok) fun D σ H ⟨σ3,S,D3,rσ,rS,⟨W,⟨m0,w0⟩,turn⟩,xo,n,r,bk,ct⟩=>by
  refine⟨fun m σ' H'=>∃σ4 S',Gi X.K H' σ' σ4/\Ga X.K H' S'/\Grow X.K H H'/\W m σ4 S',⟨m0,σ3,S,rσ,rS,.refl,w0⟩,?_⟩
  rintro m σ' H' ⟨σ4,S',LL,ID,g',w'⟩
  refine⟨σ4,S',_,D3.ex,LL,ID,turn m σ4 S' w',xo.mono g',fun b S1 H1 h1 Gd g1=>?_⟩
  cases b with
  |true=>
   rw[if_pos rfl]at h1 ⊢
   obtain⟨N,hN,h1⟩:=h1
   refine⟨fun σ5 H5=>∃σ6 S6,Gi X.K H5 σ5 σ6/\Ga X.K H5 S6/\Grow X.K H H5/\N σ6 S6,?_,?_⟩
   ·rintro σ5 H5 ⟨σ6,S6,q1,q2,q3,q4⟩
    obtain⟨m',hm,w6⟩:=hN σ6 S6 q4
    exact⟨m',hm,σ6,S6,q1,q2,q3,w6⟩
   ·exact⟨σ4,S1,_,LL.mono g1,Gd,h1,xo.mono (g'.trans g1),fun σ8 S8 σ9 H9 q1 q2 q3 q4=>⟨σ8,S8,q2,q3,g'.trans (g1.trans q4),q1⟩,r.mono (g'.trans g1),n.mono (g'.trans g1),
     fun σ8 S8 σ9 H9 q1 q2 q3 q4=>⟨σ8,S8,q2,q3,g'.trans (g1.trans q4),q1⟩⟩
  |false=>
   rw[if_neg (by decide)]at h1 ⊢
   exact n _ S1 _ H1 h1 (LL.mono g1) Gd (g'.trans g1)⟩
end
noncomputable def d4:b6:=fun _ _ _=>False
def Lo.no{X:Cx}{H:Hp}:Lo X H d4:=fun _ _ _ _ _ _ _ _ _ _ _ _ _ _ h=>h.elim
section
variable {X:Cx} {elt iter tg c:Expr} {ifs:List Expr} {scope:Scope} {pos:Pos} {ti:tw} {g:Tg} {tc:li} {te:aY} {fs N:Vs} {own:Nat} {fr:List Nat}
noncomputable def de(g:Tg)(tc:li)(te:aY)(σ':cM)(keep:aC->Prop)(fin:List PV->aC->Prop):List PV->List PV->aC->Prop
 |[],ys,S=>keep S/\ys.length<=sizeLine/\fin ys S
 |x::r,ys,S=>keep S/\ys.length<=sizeLine/\match g.put x σ' with
  |some σ2=>tc σ2 S (fun b S3=>if b=true then te σ2 S3 (fun y S4=>de g tc te σ' keep fin r (ys++[y]) S4) d4 else de g tc te σ' keep fin r ys S3) d4
  |none=>False
def bm:li:=fun _ S Q _=>Q true S
structure Ci (X:Cx) (ifs:List Expr) (t:li):Prop where
 ok:PF X ifs (LT X t)
def sf{t t':TT}(h:PF X ifs t)(k:∀σ H Q,t' σ H Q->t σ H Q):PF X ifs t':=fun pins s σ H Q I q=>h pins s σ H Q I (k σ H Q q)
def bu:Ci X [] bm:=⟨sf Bp fun σ H Q ⟨σ3,S,Q3,E3,rσ,rS,h,xo,k⟩=>k true S H h rS .refl⟩
def tD(h:rR X c tc):Ci X [c] tc:=⟨Bq h.ok⟩
noncomputable def eg(own:Nat)(fr:List Nat)(σ:cM):cM:=List.replicate own none++fr.map fun j=>lk σ j
def yY{K:Vo}{H:Hp}{σ:L2.St}{σ3:cM}(r:Gi K H σ σ3)(own:Nat)(fr:List Nat):Gi K H (fH own fr σ) (eg own fr σ3):=by
 refine⟨by unfold fH eg;simp,fun i p e=>?_⟩
 unfold eg at e
 unfold fH
 by_cases hi:i < own
 ·rw[List.getElem?_append_left (by simpa using hi),List.getElem?_replicate,if_pos hi]at e
  cases e
 ·rw[List.getElem?_append_right (by simpa using hi),List.length_replicate,List.getElem?_map]at e ⊢
  cases hj:fr[i - own]? with
  |none=>rw[hj]at e;cases e
  |some j=>
   rw[hj]at e
   simp only[Option.map_some,Option.some.injEq]at e ⊢
   obtain⟨v,hv,rv⟩:=r.at' j p (rQ e)
   exact⟨v,by rw[hv];rfl,rv⟩
def aF(ti:tw)(g:Tg)(tc:li)(te:aY)(own:Nat)(fr:List Nat):aY:=fun σ S Q E=>ti σ S (fun src S1=>de g tc te (eg own fr σ) src.keep (fun ys S2=>∀p,S2 p=none->Q (.ref p) (F3 S2 p (.lst ys))) src.items [] S1) E
def nV{σ:L2.St}{H:Hp}{Q:VK}(LN:g.under own=true)(B0:Bk):LE X (aF ti g tc te own fr) σ H Q->vI (LI X ti) (g.g2 X.K) (fun σ H Q=>∃σ3 S Q3,Gi X.K H σ σ3/\Ga X.K H S/\tc σ3 S Q3 d4/\∀b S' H',Q3 b S'->Ga X.K H' S'->Grow X.K H H'->Q b H')
  (fun σ H Q=>∃σ3 S Q3,Gi X.K H σ σ3/\Ga X.K H S/\te σ3 S Q3 d4/\Lp X.K H Q3 Q) own fr σ H Q:=fun⟨σ3,S,Q3,E3,rσ,rS,h,xo,k⟩=>by
 refine⟨σ3,S,_,E3,rσ,rS,h,xo,fun src S1 J H1 h1 sim Gd g1=>?_⟩
 refine⟨fun i m ys H'=>i+m=src.items.length/\∃zs S',Reps X.K H' ys zs/\Ga X.K H' S'/\Grow X.K H1 H'/\de g tc te (eg own fr σ3) src.keep (fun ys S2=>∀p,S2 p=none->Q3 (.ref p) (F3 S2 p (.lst ys))) (src.items.drop i) zs S',⟨src.items.length,Nat.zero_add _,[],S1,.nil,Gd,.refl,by simpa using h1⟩,?_⟩
 rintro i m ys H' ⟨hm,zs,S',rz,ID,g',hw⟩
 cases hd:src.items.drop i with
 |nil=>
  rw[hd]at hw
  have hi:i=src.items.length:=by
   have:=congrArg List.length hd
   rw[List.length_drop,List.length_nil]at this
   omega
  refine .inl ⟨(sim i S' H' g' ID hw.1).2 hi,by rw[rz.length];exact hw.2.1,fun D hD=>?_⟩
  exact k _ _ _ _ (hw.2.2 D (ID.free hD)) (.ref D) (ID.new hD ⟨_,aG,rz.mono (.new hD)⟩) (g1.trans (g'.trans (.new hD)))
 |cons x rest=>
  rw[hd]at hw
  have hx:src.items[i]?=some x:=by
   have:=congrArg (fun l=>l[0]?) hd
   simpa using this
  have hrest:src.items.drop (i+1)=rest:=by
   have:=congrArg List.tail hd
   simpa [List.tail_drop]using this
  have hlt:i < src.items.length:=by
   by_cases z:i < src.items.length
   ·exact z
   ·rw[List.getElem?_eq_none (by omega)]at hx;cases hx
  obtain⟨go,yl⟩:=(sim i S' H' g' ID hw.1).1 x hx
  refine .inr ⟨go,by rw[rz.length];exact hw.2.1,fun ys' H5=>∃zs' S6,Reps X.K H5 ys' zs'/\Ga X.K H5 S6/\Grow X.K H1 H5/\de g tc te (eg own fr σ3) src.keep (fun ys S2=>∀p,S2 p=none->Q3 (.ref p) (F3 S2 p (.lst ys))) rest zs' S6,?_,fun v H5 hv=>?_⟩
  ·rintro ys' H5 ⟨zs',S6,q1,q2,q3,q4⟩
   exact⟨m - 1,by omega,by omega,zs',S6,q1,q2,q3,by rw[hrest];exact q4⟩
  ·obtain⟨rv,Op,g5⟩:=yl v H5 hv
   obtain⟨_,_,hw⟩:=hw
   split at hw
   ·rename_i σ6 e6
    refine Tg.J9 (own:=own) g rv ((yY rσ own fr).mono (g1.trans (g'.trans g5))) e6 fun σ7 NE d7=>⟨d7 LN,?_⟩
    refine⟨σ6,S',_,NE,Op,hw,fun b S8 H8 h8 Po g8=>?_⟩
    cases b with
    |true=>
     rw[if_pos rfl]at h8 ⊢
     exact⟨σ6,S8,_,NE.mono g8,Po,h8,fun y S9 y' H9 h9 ry Qr g9=>⟨zs++[y],S9,(rz.mono (g5.trans (g8.trans g9))).append (.cons ry .nil),Qr,g'.trans (g5.trans (g8.trans g9)),h9⟩⟩
    |false=>
     rw[if_neg (by decide)]at h8 ⊢
     exact⟨zs,S8,rz.mono (g5.trans g8),Po,g'.trans (g5.trans g8),h8⟩
   ·exact hw.elim
def BI(fs:Vs)(own:Nat)(fr:List Nat)(N:Vs)(LN:g.under own=true)(hc:X.calm=true)(hclos:closureFor scope X.env=pure (df X.env fs))(hcell:∀y∈scope.names,y.2 ≠ .cell)(hkind:scope.kind = .function)
  (hnames:∀x∈scope.names,x.2 = .local->scope.names.lookup x.1=some .local) (hcl:cQ X.env fs) (hhas:oF (relabel scope X.env).names (df X.env fs)=true)
  (hlen:N.length=own+fr.length) (hN:(N.drop own).map some=fr.map fun j=>X.N[j]?) (hF:G3 X.env scope (df X.env fs) (N.drop own))
  (hi:vd X tg iter ti) (hg:∀B,xU (X.Ix N scope fs B) tg g) (hf:∀B,Ci (X.Ix N scope fs B) ifs tc) (he:∀B,bB (X.Ix N scope fs B) elt te)
  (hs:∀x,foldedSetIterable iter X.env x=pure x:=by intro _;rfl):bB X (.ListComp elt [⟨tg,iter,ifs,0⟩] scope pos) (aF ti g tc te own fr):=
 ⟨aW (yC fs own fr N hc hclos hcell hkind hnames hcl hhas hlen hN hF hi.ok (fun B=>(hg B).ok)
  (fun B=>sf (hf B).ok fun σ H Q ⟨σ3,S,Q3,rσ,rS,h,k⟩=>⟨σ3,S,Q3,d4,rσ,rS,h,.no,k⟩) (fun B=>aW (he B).ok fun σ H Q ⟨σ3,S,Q3,rσ,rS,h,k⟩=>⟨σ3,S,Q3,d4,rσ,rS,h,.no,k⟩) hs) fun _ _ _=>nV LN ⟨0,X.s₀,X.H₀,[],[]⟩⟩
def BJ(fs:Vs)(own:Nat)(fr:List Nat)(N:Vs){i:Nat}{y:Str}{py spos:Pos}(hX:X.N.Nodup)(hix:X.N[i]?=some y)(hy:X.env.scope.names.lookup y=some .local)
  (hsw:swapsWith (.ListComp elt [⟨tg,iter,ifs,0⟩] scope pos) (some (.Name y py)) spos.line X.env=pure true)
  (LN:g.under own=true) (hc:X.calm=true) (hclos:closureFor scope X.env=pure (df X.env fs)) (hcell:∀y∈scope.names,y.2 ≠ .cell) (hkind:scope.kind = .function)
  (hnames:∀x∈scope.names,x.2 = .local->scope.names.lookup x.1=some .local) (hcl:cQ X.env fs) (hhas:oF (relabel scope X.env).names (df X.env fs)=true)
  (hlen:N.length=own+fr.length) (hN:(N.drop own).map some=fr.map fun j=>X.N[j]?) (hF:G3 X.env scope (df X.env fs) (N.drop own))
  (hi:vd X tg iter ti) (hg:∀B,xU (X.Ix N scope fs B) tg g) (hf:∀B,Ci (X.Ix N scope fs B) ifs tc) (he:∀B,bB (X.Ix N scope fs B) elt te)
  (hs:∀x,foldedSetIterable iter X.env x=pure x:=by intro _;rfl):rf X (.Assign [.Name y py] (.ListComp elt [⟨tg,iter,ifs,0⟩] scope pos) spos) (au i (aF ti g tc te own fr)):=
 ⟨dZ (yD fs own fr N hX hix hy hsw hc hclos hcell hkind hnames hcl hhas hlen hN hF hi.ok (fun B=>(hg B).ok)
  (fun B=>sf (hf B).ok fun σ H Q ⟨σ3,S,Q3,rσ,rS,h,k⟩=>⟨σ3,S,Q3,d4,rσ,rS,h,.no,k⟩) (fun B=>aW (he B).ok fun σ H Q ⟨σ3,S,Q3,rσ,rS,h,k⟩=>⟨σ3,S,Q3,d4,rσ,rS,h,.no,k⟩) hs)
  fun D σ H ⟨σ3,S,D3,rσ,rS,h,xo,n,r,bk,ct⟩=>nV LN ⟨0,X.s₀,X.H₀,[],[]⟩ ⟨σ3,S,_,D3.ex,rσ,rS,h,xo,fun p S1 v H1 h1 rv Gd g1=>n _ S1 _ H1 h1 ((rσ.mono g1).set rv i) Gd g1⟩⟩
end
abbrev ax:=List PV->aC->bJ->b6->Prop
noncomputable def Dk(K:Vo)(n:Nat)(sp:ax):Sp:=fun vs H Q _=>vs.length=n/\∃ps S Q3 E3,Reps K H vs ps/\Ga K H S/\sp ps S Q3 E3/\Lp K H Q3 Q
structure LP (P:Program) (w:World) (K:Vo) (mg:Vr) (base:Heap) (k:Nat) (f:Addr) (fd:FuncData) (ps:Vs) (sp:ax):Prop where
 ok:m9 P w K mg base xT k f fd ps (Dk K ps.length sp)
section
variable {X:Cx} {e o:Expr} {es:List Expr} {te to:aY} {ts:List aY} {x:Str} {p pos apos cpos:Pos} {k:Nat} {f:Addr} {fd:FuncData} {ps:Vs} {sp:ax}
def ab(sp:ax)(ts:List aY):aY:=fun σ S Q E=>aq ts σ S (fun ps S1=>sp ps S1 Q E) E
def wj(F:LP X.prog X.w X.K X.mg X.base k f fd ps sp)(hr:Room k X.A)(hg:Gl X x)(hm:X.mg x=some (.ref f))(hk:PySem.W.keepIn X.K (.ref f)=true)(hb:Binds X.K fd ps [])(he:starEach (e::es) X.env=(false,eval e X.env)::starEach es X.env)(ha:kn X (e::es) ts)
  (hl:ts.length=ps.length:=by rfl) (hdb:(x == ("__debug__":Str))=false:=by decide) (hpl:(backTo pos (starEach es X.env)).any (·.1)=false:=by rfl):bB X (.Call (.Name x p) (e::es) [] pos) (ab sp ts):=
 ⟨aW (sR F.ok hr hg hm hk hb .nil zU ha.ok hdb he hpl) fun σ H Q ⟨σ3,S,Q3,E3,rσ,rS,h,xo,k⟩=>cK rσ rS h xo fun ps' S' vs H' hl' q rv ID g=>by
  rw[List.append_nil]
  exact⟨by rw[rv.length,hl',hl],ps',S',Q3,E3,rv,ID,q,k.mono g⟩⟩
end
noncomputable def av(n:Nat)(args:List PV):cM:=args.map some++List.replicate (n - args.length) none
def F_(n:Nat)(t:bF):ax:=fun args S Q _=>t { nx:=fun _ S'=>Q .non S',rt:=Q,ex:=d4 } (av n args) S
def nW{K:Vo}{H:Hp}{N:Vs}{vs:List V}{ps:List PV}(r:Reps K H vs ps):Gi K H (L2.gN N vs) (av N.length ps):=by
 refine⟨by unfold L2.gN av;simp[r.length],fun i p e=>?_⟩
 unfold av at e
 unfold L2.gN
 by_cases hi:i < ps.length
 ·rw[List.getElem?_append_left (by simpa using hi),List.getElem?_map]at e
  cases hp:ps[i]? with
  |none=>rw[hp]at e;cases e
  |some q=>
   rw[hp]at e
   cases e
   obtain⟨v,hv,rv⟩:=r.get hp
   rw[List.getElem?_append_left (by rw[List.length_map,r.length];exact hi),List.getElem?_map,hv]
   exact⟨v,rfl,rv⟩
 ·rw[List.getElem?_append_right (by simpa using hi),List.getElem?_replicate]at e
  split at e
  ·cases e
  ·cases e
section
variable {P:Program} {w:World} {K:Vo} {mg:Vr} {base:Heap}
noncomputable abbrev Dl(P:Program)(w:World)(K:Vo)(mg:Vr)(base:Heap)(N:Vs)(qual:Str)(st:Stmt)(f:Addr)(cdv:Value)(A:Around)(outer:List Env)(s:Shared)(H:Hp)(E:XK):Cx:=(p5 xT P w K mg base N qual (aM st) f cdv A outer s H E).Mv
def Fz{x qual:Str}{st:Stmt}{f:Addr}{fd:FuncData}{N ps:Vs}{k:Nat}{t:bF}(F:Mf K x qual st f fd)(S:d_ N ps (aM st))
  (hbody:∀(cdv:Value) (A:Around) (outer:List Env) (s:Shared) (H:Hp) (E:XK),Room k (A.deeper (PyProof.Rows.envOfC qual (aM st) s.heap.objs.size f cdv))->kB (Dl P w K mg base N qual st f cdv A outer s H E) (bv st) t) :
  LP P w K mg base (k+1) f fd ps (F_ N.length t):=
 ⟨F.ok S (fun vs H Q E h=>h.1) fun cdv A outer s H vs Q E hr ⟨hl,ps',S',Q3,E3,rv,rS,q,kk⟩=>⟨_,(hbody cdv A outer s H E hr).ok,av N.length ps',S',_,nW rv,rS,q,.no,fun σ3 S2 σ2 H2 h2 _ HD g2=>kk _ S2 _ H2 h2 .non HD g2,kk,fun _ _ _ _ h2=>h2.elim,fun _ _ _ _ h2=>h2.elim⟩⟩
end
section
variable {X:Cx} {o e f:Expr} {to te tf:aY} {pos apos cpos:Pos}
noncomputable def je:List (aY×aY)->cM->aC->(List (PV×PV)->aC->Prop)->b6->Prop
 |[],_,S,Q,_=>Q [] S
 |(tk,tv)::r,σ,S,Q,E=>tk σ S (fun x S1=>tv σ S1 (fun y S2=>je r σ S2 (fun ps S3=>Q ((x,y)::ps) S3) E) E) E
noncomputable def nX:List (PV×PV)->Option (List (bI×PV))
 |[]=>some []
 |(x,y)::r=>match kD x,nX r with|some k,some l=>some ((k,y)::l)|_,_=>none
noncomputable def eL(kvs more:List (bI×PV)):List (bI×PV):=more.foldl (fun acc kv=>kG acc kv.1 kv.2) kvs
structure Ek (X:Cx) (pos:Pos) (keys:List (Option Expr)) (values:List Expr) (JF:List (aY×aY)):Prop where
 ok:C2 X pos keys values (JF.map fun t=>(LE X t.1,LE X t.2))
def wk:Ek X pos [] [] []:=⟨yx⟩
def jP{k v:Expr}{ks:List (Option Expr)}{vs:List Expr}{tk tv:aY}{JF:List (aY×aY)}(hk:bB X k tk)(hv:bB X v tv)(hr:Ek X pos ks vs JF):Ek X pos (some k::ks) (v::vs) ((tk,tv)::JF):=⟨vE hk.ok hv.ok hr.ok⟩
inductive nY (K:Vo) (H:Hp):List (V×V)->List (PV×PV)->Prop
 |nil:nY K H [] []
 |cons {a b:V} {p q:PV} {vs:List (V×V)} {ps:List (PV×PV)}:Rep K H a p->Rep K H b q->nY K H vs ps->nY K H ((a,b)::vs) ((p,q)::ps)
theorem mo:∀{JF:List (aY×aY)} {σ:L2.St} {H:Hp} {Q:List (V×V)->Hp->Prop} {σ3:cM} {S:aC} {Q3:List (PV×PV)->aC->Prop} {E3:b6},Gi X.K H σ σ3->Ga X.K H S->je JF σ3 S Q3 E3->Lo X H E3->
  (∀ps S' vs H',ps.length=JF.length->Q3 ps S'->nY X.K H' vs ps->Ga X.K H' S'->Grow X.K H H'->Q vs H')->oC (JF.map fun t=>(LE X t.1,LE X t.2)) σ H Q
 |[],σ,H,Q,σ3,S,Q3,E3,rσ,rS,h,xo,k=>k [] S [] H rfl h .nil rS .refl
 |(tk,tv)::ts,σ,H,Q,σ3,S,Q3,E3,rσ,rS,h,xo,k=>
  ⟨σ3,S,_,E3,rσ,rS,h,xo,fun p S1 v H1 h1 rv Gd g1=>⟨σ3,S1,_,E3,rσ.mono g1,Gd,h1,xo.mono g1,fun p2 S2 v2 H2 h2 Qt HD g2=>mo (rσ.mono (g1.trans g2)) HD h2 (xo.mono (g1.trans g2)) fun ps S3 vs H3 hl h3 Om Kz g3=>
   k ((p,p2)::ps) S3 ((v,v2)::vs) H3 (by rw[List.length_cons,List.length_cons,hl]) h3 (.cons (rv.mono (g2.trans g3)) (Qt.mono g3) Om) Kz (g1.trans (g2.trans g3))⟩⟩
theorem nZ{K:Vo}{H:Hp}:∀{vs:List (V×V)} {ps:List (PV×PV)} {l:List (bI×PV)},nY K H vs ps->nX ps=some l->∃kvs:List (bI×V),vs=kvs.map (fun kv=>(kV kv.1,kv.2))/\Gq K H kvs l
 |_,_,_,.nil,h=>by cases h;exact⟨[],rfl,.nil⟩
 |_,_,l,.cons a b r,h=>by
  unfold nX at h
  split at h
  ·rename_i k l' ek el
   cases h
   obtain⟨kvs,e,q⟩:=nZ r el
   refine⟨(k,_)::kvs,?_,.cons b q⟩
   rw[List.map_cons,<-e,dY a ek]
  ·cases h
def Gq.merge{K:Vo}{H:Hp}{more:List (bI×V)}{m3:List (bI×PV)}(r:Gq K H more m3):∀{kvs:List (bI×V)} {k3:List (bI×PV)},Gq K H kvs k3->Gq K H (ky kvs more) (eL k3 m3):=by
 induction r with
 |nil=>intro kvs k3 q;exact q
 |cons a r ih=>intro kvs k3 q;exact ih (q.put a)
def mr(JF:List (aY×aY)):aY:=fun σ S Q E=>∀p,S p=none->je JF σ (F3 S p (.dct [])) (fun ps S2=>S2 p=some (.dct [])/\match nX ps with|some kvs=>Q (.ref p) (F3 S2 p (.dct (eL [] kvs)))|none=>False) E
def wm{keys:List (Option Expr)}{values:List Expr}{JF:List (aY×aY)}(h:Ek X pos keys values JF)(hall:keys.all (·.isSome)=true:=by rfl)(hl:keys.length=values.length:=by rfl)(h0:keys≠[]:=by exact List.cons_ne_nil _ _)(N_:keys.length<=15:=by decide)
  (ht:JF.length<=15:=by exact Nat.le_of_ble_eq_true rfl):bB X (.Dict keys values pos) (mr JF):=
 ⟨aW (yy h.ok hall hl h0 N_) fun σ H Q ⟨σ3,S,Q3,E3,rσ,rS,hq,xo,k⟩=>fun p hp=>by
  have g0:Grow X.K H (upd H p (.dK [])):=.new hp
  refine mo (rσ.mono g0) (rS.new hp (o:=.dct []) ⟨[],aG,.nil⟩) (hq p (rS.free hp)) (xo.mono g0) fun ps S' vs H' hl' q rv ID g=>?_
  obtain⟨e,q⟩:=q
  obtain⟨kv,hv,rk⟩:=ID _ _ e
  cases rk
  refine⟨hv,?_⟩
  split at q
  ·rename_i kvs ek
   obtain⟨l,el,rl⟩:=nZ rv ek
   refine⟨l,el,?_,k _ _ _ _ q (.ref p) (ID.put hv trivial ⟨_,aG,(Gq.merge rl .nil).mono (.mut hv trivial)⟩) (g0.trans (g.trans (.mut hv trivial)))⟩
   have z1:∀{vs:List (V×V)} {ps:List (PV×PV)},nY X.K H' vs ps->vs.length=ps.length:=by
    intro vs ps r
    induction r with
    |nil=>rfl
    |cons _ _ _ ih=>rw[List.length_cons,List.length_cons,ih]
   have z2:=congrArg List.length el
   rw[List.length_map,z1 rv,hl']at z2
   omega
  ·exact q.elim⟩
def qp(to te tf:aY):aY:=fun σ S Q E=>to σ S (fun x S1=>match x with
 | .ref a=>(match S1 a with
  |some (.dct _)=>te σ S1 (fun y S2=>tf σ S2 (fun z S3=>match S3 a,kD y with|some (.dct kvs),some k=>Q ((fK kvs k).getD z) S3|_,_=>False) E) E
  |_=>False)
 |_=>False) E
def wn(hu:X.A.units+1 < cLine)(ho:bB X o to)(he:bB X e te)(hf:bB X f tf)(m:M2 X o "get" apos e f cpos):bB X (.Call (.Attribute o "get" apos) [e,f] [] cpos) (qp to te tf):=
 ⟨aW (vF hu ho.ok he.ok hf.ok m) fun σ H Q ⟨σ3,S,Q3,E3,rσ,rS,h,xo,k⟩=>⟨σ3,S,_,E3,rσ,rS,h,xo,fun x S1 v H1 h1 rx Gd g1=>by
  dsimp only at h1
  split at h1
  ·cases rx
   split at h1
   ·rename_i ea
    obtain⟨kv,hv,rk⟩:=Gd _ _ ea
    refine⟨_,rfl,.inl ⟨_,.inl hv⟩,σ3,S1,_,E3,rσ.mono g1,Gd,h1,xo.mono g1,fun y S2 y' H2 h2 ry HD g2=>⟨σ3,S2,_,E3,rσ.mono (g1.trans g2),HD,h2,xo.mono (g1.trans g2),fun z S3 z' H3 h3 rz Kz g3=>?_⟩⟩
    dsimp only at h3
    split at h3
    ·rename_i kvs k' eb ek
     obtain⟨kv3,Qu,Pp⟩:=Kz _ _ eb
     have e1:=dY (ry.mono g3) ek
     subst e1
     refine⟨_,DGet.k Qu,k _ S3 _ H3 h3 ?_ Kz (g1.trans (g2.trans g3))⟩
     cases ev:fK kvs k' with
     |none=>rw[Pp.valN ev];exact rz
     |some w=>
      obtain⟨w',hw,rw'⟩:=Pp.val ev
      rw[hw];exact rw'
    ·exact h3.elim
   ·exact h1.elim
  ·exact h1.elim⟩⟩
def tE(kvs:List (bI×Int))(te tf:aY):aY:=fun σ S Q E=>te σ S (fun y S2=>tf σ S2 (fun z S3=>match kD y with|some k=>Q (((kvs.find? fun kv=>decide (kv.1=k)).map fun kv=>PV.int kv.2).getD z) S3|none=>False) E) E
def BK{x:Str}{px:Pos}{a:Addr}{kvs:List (bI×Int)}(hu:X.A.units+1 < cLine)(hg:Gl X x)(hm:X.mg x=some (.ref a))(hD:KD X.prog X.w X.K a (kvs.map fun kv=>(kv.1,V.int kv.2)))(he:bB X e te)(hf:bB X f tf)(m:M2 X (.Name x px) "get" apos e f cpos)
  (hd:(x == ("__debug__":Str))=false:=by decide):bB X (.Call (.Attribute (.Name x px) "get" apos) [e,f] [] cpos) (tE kvs te tf):=
 ⟨aW (yG hu hg hm hD he.ok hf.ok m hd) fun σ H Q ⟨σ3,S,Q3,E3,rσ,rS,h,xo,k⟩=>⟨σ3,S,_,E3,rσ,rS,h,xo,fun y S2 y' H2 h2 ry HD g2=>⟨σ3,S2,_,E3,rσ.mono g2,HD,h2,xo.mono g2,fun z S3 z' H3 h3 rz Kz g3=>by
  dsimp only at h3
  split at h3
  ·rename_i k' ek
   have e1:=dY (ry.mono g3) ek
   subst e1
   refine⟨_,rfl,k _ S3 _ H3 h3 ?_ Kz (g2.trans g3)⟩
   have:∀l:List (bI×Int),Rep X.K H3 ((iQ (l.map fun kv=>(kv.1,V.int kv.2)) k').getD z') (((l.find? fun kv=>decide (kv.1=k')).map fun kv=>PV.int kv.2).getD z):=by
    intro l
    induction l with
    |nil=>exact rz
    |cons q r ih=>
     rw[List.map_cons,List.find?_cons]
     by_cases e:q.1=k'
     ·rw[HU e,decide_eq_true e];exact .int _
     ·rw[He e,decide_eq_false e];exact ih
   exact this kvs
  ·exact h3.elim⟩⟩⟩
def qq(te:aY):aY:=fun σ S Q E=>te σ S (fun x S1=>match x with
 | .ref a=>(match S1 a with|some (.lst xs)=>∀p,S1 p=none->Q (.ref p) (F3 S1 p (.lst xs.reverse))|_=>False)
 |_=>False) E
def BL{p1 p2 q1 q2:Pos}(hs:starEach [e] X.env=[(false,eval e X.env)])(hc:X.calm=true)(he:bB X e te)(MD:Gl X "list")(hm1:X.mg "list" = none)(LZ:Gl X "reversed")(hm2:X.mg "reversed" = none):bB X (.Call (.Name "list" p1) [.Call (.Name "reversed" p2) [e] [] q2] [] q1) (qq te):=
 ⟨aW (rL hc he.ok MD hm1 LZ hm2 hs rfl) fun σ H Q ⟨σ3,S,Q3,E3,rσ,rS,h,xo,k⟩=>⟨σ3,S,_,E3,rσ,rS,h,xo,fun x S1 v H1 h1 rx Gd g1=>by
  dsimp only at h1
  split at h1
  ·cases rx
   split at h1
   ·rename_i ea
    obtain⟨vs,hv,rs⟩:=Gd _ _ ea
    exact⟨_,_,rfl,SqL.of hv,fun q hq=>k _ _ _ _ (h1 q (Gd.free hq)) (.ref q) (Gd.new hq ⟨_,aG,rs.reverse.mono (.new hq)⟩) (g1.trans (.new hq))⟩
   ·exact h1.elim
  ·exact h1.elim⟩⟩
def Dm{i:Nat}{x:Str}{pos':Pos}(hN:X.N.Nodup)(hi:X.N[i]?=some x)(hx:xS X.env.scope x)(he:bB X e te)(hf:X.fn x=true\/X.env.scope.names.lookup x=some .local:=by first|exact .inl rfl|exact .inr rfl|assumption) :
  rf X (.AugAssign (.Name x pos') .Add e pos) (fun D σ S=>match lk σ i with|some (.int a)=>te σ S (fun y S1=>match y with | .int b=>D.nx (σ.set i (some (.int (a+b)))) S1|_=>False) D.ex|_=>False):=
 ⟨dZ (AW (ti:=EI) hN hi hx he.ok (fun pins s σ H a b v u Q I rx ry ⟨i,j,e1,e2,q⟩=>by
   subst e1 e2
   obtain⟨t,rfl⟩:=rx
   obtain⟨t',rfl⟩:=ry
   exact PyProof.Rows.iadd_int ⟨.int (i+j),H,I.tok _,⟨_,rfl⟩,q⟩) hf) fun D σ H ⟨σ3,S,D3,rσ,rS,h,xo,n,r,bk,ct⟩=>by
  dsimp only at h
  split at h
  ·rename_i a ea
   obtain⟨v,hv,rv⟩:=rσ.at' _ _ (rQ ea)
   cases rv
   refine⟨_,hv,σ3,S,_,D3.ex,rσ,rS,h,xo,fun y S1 y' H1 h1 ry Gd g1=>?_⟩
   dsimp only at h1
   split at h1
   ·cases ry
    exact⟨_,_,rfl,rfl,n _ S1 _ H1 h1 ((rσ.mono g1).set (.int _) i) Gd g1⟩
   ·exact h1.elim
  ·exact h.elim⟩
end
def bR:R3:=fT fun i j=>.int (i - j)
def hU:R3:=iW (fun _ j=>j≠0) fun i j=>.int (i.fmod j)
def i0:R3:=iW nS fun i j=>.int (i.fdiv j)
def wo:R3:=iW A1 fun i j=>.int (i ^ j.toNat)
def uE:R3:=fT fun i j=>.bl (decide (i < j))
def sg:R3:=fT fun i j=>.bl (decide (j < i))
def Dn:R3:=fT fun i j=>.bl (decide (j<=i))
section
variable {X:Cx}
def cS:ko X (binaryOp .Sub) bR:=Bz
def gQ:ko X (binaryOp .Mod) hU:=BA
def kI:ko X (binaryOp .FloorDiv) i0:=yL
def Do:ko X (binaryOp .Pow) wo:=BB
def qr:ko X (compareOp .Lt) uE:=C9
def sh:ko X (compareOp .Gt) sg:=C_
def Fb:ko X (compareOp .GtE) Dn:=Dd
end
def xV{A:Around}{k:Nat}(hr:Room k A):A.units+1 < cLine:=by have:=hr.un;omega
def gR{A:Around}{k:Nat}(hr:Room k A):A.units+150 < cLine:=by have:=hr.un;omega
def dQ{A:Around}{k:Nat}(hr:Room k A):A.units+160 < cLine:=by have:=hr.un;omega
structure El (K:Vo) (mg:Vr) (x:Str) (st:Stmt) (ps:Vs) (f:Addr) (fd:FuncData):Prop where
 F:Mf K x x st f fd
 b:Binds K fd ps []
 k:PySem.W.keepIn K (.ref f)=true
 m:mg x=some (.ref f)
def LP.zero{P:Program}{w:World}{K:Vo}{mg:Vr}{base:Heap}{k:Nat}{f:Addr}{fd:FuncData}{ps:Vs}{sp:ax}(h:sp=fun _ _ _ _=>False):LP P w K mg base k f fd ps sp:=by
 subst h
 exact⟨⟨fun vs H Q E q=>q.1,fun A outer s H args us vs Q E _ _ _ _ ⟨_,_,_,_,_,_,_,q,_⟩=>q.elim⟩⟩
def Dp(i:Nat)(te:aY):bF:=fun D σ S=>match lk σ i with|some (.int a)=>te σ S (fun y S1=>match y with | .int b=>D.nx (σ.set i (some (.int (a+b)))) S1|_=>False) D.ex|_=>False
def Fc{K:Vo}{H:Hp}{a:Addr}{ns:Vu}{sp:ax}(hO:yz H)(hS:SqL K H a (ns.map V.int))(h:sp [.cl (ns.map PV.int)] (fun _=>none) (fun v _=>v = .bl true) d4):Dk K 1 sp [.ref a] H (fun v _=>v = .bl true) fun _ _ _=>False:=by
 have hr:∀l:List Int,Reps K H (l.map V.int) (l.map PV.int):=by
  intro l
  induction l with
  |nil=>exact .nil
  |cons x r ih=>exact .cons (.int x) ih
 refine⟨rfl,[.cl (ns.map PV.int)],fun _=>none,_,d4,.cons (.cl (vs:=ns.map V.int) ?_ (hr ns)) .nil,(fun b o e=>by simp at e),h,fun p S' v H' q rv rS g=>?_⟩
 ·rcases hS with(q|q)|q
  ·rcases hO a with z|⟨o,xs,z⟩
   ·rw[z]at q;cases q
   ·rw[z]at q;cases q
  ·exact .inl q
  ·exact .inr q
 ·subst q
  cases rv
  rfl
end L3
namespace L2
open PySem PySem.Spec PyProof.Rows
section
variable {X:Cx}
def uF(hc:X.calm=true):gM X (.builtin "sum") (fun xs H Q=>∃(p:Addr) (ns:Vu),xs=[.ref p]/\SqL X.K H p (ns.map V.int)/\Q (.int ns.sum) H):=by
 intro pins s σ H xs us Q I r h
 obtain⟨p,ns,rfl,hp,q⟩:=h
 obtain⟨u,rfl,rx⟩:=fE r
 cases rx
 obtain⟨its,rv,pl,hz⟩:=I.list hp
 have hi:IntsAre its ns:=rG rv
 obtain⟨ys,ey⟩:=hi.allInts.items
 have hl:=pl.isList
 rw[ey]at hl
 refine sum_intListG (I.ok.hd hc) hl fun h' tk t' hk=>?_
 have e1:preSum (numAt ys) ys.size=ns.sum:=by
  have e2:=nums_intItems ys
  rw[<-ey]at e2
  have e3:numsOf its=ns:=hi.numsOf
  rw[preSum_eq,List.take_of_length_le (by simp),<-e2]
  rw[show its.toArray.toList=its from rfl,e3]
 rw[e1]
 exact⟨.int _,H,(I.kept (t':=tk) (h':=h') hk),⟨_,rfl⟩,q⟩
end
end L2
namespace HT
open PySem PySem.Spec PyProof.Rows
section
variable {prog:Program} {w:World} {A:Around} {E:Vq} {s:Shared}
end
end HT
namespace L2
open PySem PySem.Spec PyProof.Rows
section
variable {X:Cx} {e st:Expr} {te ts:TE} {p2 pos:Pos}
end
end L2
namespace L3
open PySem L2
section
variable {X:Cx} {e st:Expr} {te ts:aY} {p2 pos:Pos}
noncomputable def jf:List PV->Option (List Int)
 |[]=>some []
 | .int i::r=>(jf r).map (i::·)
 |_::_=>none
theorem n5{K:Vo}{H:Hp}:∀{vs:List V} {ps:List PV} {ns:Vu},Reps K H vs ps->jf ps=some ns->vs=ns.map V.int
 |_,_,_,.nil,h=>by cases h;rfl
 |_,_,ns,.cons (p:=p) a r,h=>by
  cases p with
  |int b=>
   cases a
   unfold jf at h
   cases e:jf _ with
   |none=>rw[e]at h;cases h
   |some l=>rw[e]at h;cases h;rw[n5 r e];rfl
  |_=>cases h
def uG:rg:=fun ps S Q=>match ps with
 |[.ref a]=>(match S a with|some (.lst xs)=>(match jf xs with|some ns=>Q (.int ns.sum) S|none=>False)|_=>False)
 |_=>False
def Ad(hc:X.calm=true):gP X (.builtin "sum") uG:=⟨fun pins s σ H xs us Q I r ⟨ps,S,Q3,rp,rS,q,k⟩=>by
 unfold uG at q
 split at q
 ·cases rp with
  |cons a rr=>
   cases rr;cases a
   split at q
   ·rename_i e
    split at q
    ·rename_i eb
     obtain⟨vs,hv,rs⟩:=rS _ _ e
     have e2:=n5 rs eb
     subst e2
     exact uF hc pins s σ H _ us Q I r ⟨_,_,rfl,SqL.of hv,k _ S _ H q (.int _) rS .refl⟩
    ·exact q.elim
   ·exact q.elim
 ·exact q.elim⟩
end
end L3
namespace L2
open PySem PySem.Spec PyProof.Rows
section
variable {X:Cx}
noncomputable def yZ:V->List V->Hp->VK->Prop:=fun x vs H Q=>∃(l:Addr) (xs:List V) (j:Nat) (y:V),x = .ref l/\vs=[.int j,y]/\H l=some (.lst xs)/\j<=xs.length/\xs.length < sizeLine/\Q .non (upd H l (.lst (xs.take j++y::xs.drop j)))
def uH:CW X "list.insert" yZ:=by
 intro pins s σ H x vs v us Q I rx rv h
 obtain⟨l,xs,j,y,rfl,rfl,hH,hj,hz,q⟩:=h
 cases rx
 cases rv with
 |@cons _ u0 _ Qv r1 rr=>
  obtain⟨u,rfl,ru⟩:∃u,Qv=[u]/\RelV y u:=by
   cases rr with
   |@cons _ u _ us r2 r3=>cases r3;exact⟨u,rfl,r2⟩
  obtain⟨tk,rfl⟩:∃tk,u0 = .int (j:Int) tk:=r1
  obtain⟨z,its,n,r,hl,e⟩:=I.J7 hH
  have hfit:¬(!Builtin.List.listFitsIndex (j:Int))=true:=by
   have:j < 2 ^ 62:=Nat.lt_of_le_of_lt hj (Nat.lt_of_lt_of_le hz (by decide))
   simp[Builtin.List.listFitsIndex]
   omega
  have hs1:its.toArray.size<=sizeLine:=by rw[List.size_toArray];omega
  generalize hx:(j:Int)=x at hfit
  refine call_meets F.slot_list_insert ⟨_,e,rfl⟩ F.entry_list_insert (F.args_list_insert_3 _ _ _) (PySem.AutoSeq1.list_insert_list_int_val_1 l its.toArray n x tk u hfit hs1) ⟨e,?_⟩
  refine⟨.non,_,I.Lu (its':=its.take j++u::its.drop j) hH e ?_ ((r.take j).append (.cons ru (r.drop j))) ?_,rfl,q⟩
  ·show((its.toArray.extract 0 (if x < 0 then (x+(its.toArray.size:Int)).toNat else min x.toNat its.toArray.size)).push u++its.toArray.extract (if x < 0 then (x+(its.toArray.size:Int)).toNat else min x.toNat its.toArray.size))=_
   have hl2:its.length=xs.length:=r.length.symm
   have ek:(if x < 0 then (x+(its.toArray.size:Int)).toNat else min x.toNat its.toArray.size)=j:=by
    rw[if_neg (by omega),<-hx,Int.toNat_natCast,List.size_toArray]
    omega
   rw[ek]
   apply Array.toList_inj.mp
   simp[List.extract_eq_take_drop]
   exact List.take_of_length_le (by rw[List.length_drop];exact Nat.le_refl _)
  ·rw[List.length_append,List.length_cons,List.length_take,List.length_drop]
   omega
end
end L2
namespace L3
open PySem L2
section
variable {X:Cx} {a b c:Expr} {ta tb tc:aY} {pos:Pos}
def lL:sd:=fun x ps S Q=>match x,ps with
 | .ref a,[.int i,y]=>(match S a with|some (.lst xs)=>0<=i/\i<=xs.length/\xs.length < sizeLine/\Q .non (F3 S a (.lst (xs.take i.toNat++y::xs.drop i.toNat)))|_=>False)
 |_,_=>False
def wq:vc X "list.insert" lL:=⟨fun pins s σ H x xs v us Q I rx rs ⟨px,ps,S,Q3,r1,rp,rS,q,k⟩=>by
 unfold lL at q
 split at q
 ·rename_i i y
  split at q
  ·rename_i e
   cases r1
   cases rp with
   |cons b rr=>
    cases b
    cases rr with
    |cons b2 rr=>
     cases rr
     obtain⟨vs,hv,rl⟩:=rS _ _ e
     obtain⟨j,rfl⟩:=Int.eq_ofNat_of_zero_le q.1
     exact uH pins s σ H _ _ v us Q I rx rs ⟨_,_,j,_,rfl,rfl,hv,by rw[rl.length];have:=q.2.1;omega,by rw[rl.length];exact q.2.2.1,k _ _ _ _ q.2.2.2 .non (rS.put hv trivial ⟨_,aG,((rl.take j).append (.cons b2 (rl.drop j))).mono (.mut hv trivial)⟩) (.mut hv trivial)⟩
  ·exact q.elim
 ·exact q.elim⟩
end
end L3
namespace L2
open PySem PySem.Spec PyProof.Rows PySem.AutoSeq1
section
variable {X:Cx}
end
end L2
namespace L3
open PySem L2
section
variable {X:Cx}
end
end L3
namespace C
open PySem L2 L3
noncomputable def k_SIDES_FROM:List (bI×Int):=[(Sum.inr "then",1),(Sum.inr "either",1),(Sum.inr "take",3),(Sum.inr "often",1)]
def hV:bF:=(ah (au 3 (aF (aD (bN (v3 0) (ni (v3 1)) (ni (c3 (.int 63))))) (.n 0) bm (ao gY [(v3 0),(af bR (c3 (.int 0)) (v3 0))]) 1 []))
  (ah (au 4 (af aS (c3 (.int 7919)) (v3 1)))
  (ah (bM (aD (v3 3)) (.n 2) (au 4 (af hU (af aS (af cF (v3 4) (c3 (.int 48271))) (af hU (v3 2) (c3 (.int 2147483629)))) (c3 (.int 2147483647)))))
  (aw (mr [((c3 (.str "seed")),(v3 4)),((c3 (.str "number")),(c3 (.int 0))),((c3 (.str "left")),(qq (aF (aD (v3 3)) (.n 0) (aO (af Dn (v3 0) (af wo (c3 (.int 10)) (c3 (.int 18))))) (v3 0) 1 [])))])))))
def hW:bF:=(ah (jd (jJ (aO (af (a_ false) (af ae (v3 0) (c3 (.str "number"))) (c3 (.int 0)))) (aO (af sg (ao cr [(af ae (v3 0) (c3 (.str "left")))]) (c3 (.int 0))))) (oQ (dj "list" qm (af ae (v3 0) (c3 (.str "left"))) []) (v3 0) (c3 (.str "number"))))
  (ah (au 2 (af ae (v3 0) (c3 (.str "number"))))
  (ah (bg (aO (af sg (v3 2) (c3 (.int 0)))) (ah (oQ (af i0 (v3 2) (v3 1)) (v3 0) (c3 (.str "number")))
  (aw (af hU (v3 2) (v3 1)))) aN)
  (ah (au 3 (af hU (af aS (af cF (af ae (v3 0) (c3 (.str "seed"))) (c3 (.int 48271))) (c3 (.int 7919))) (c3 (.int 2147483647))))
  (ah (oQ (af hU (af aS (af cF (v3 3) (c3 (.int 40692))) (c3 (.int 104729))) (c3 (.int 2147483399))) (v3 0) (c3 (.str "seed")))
  (ah (au 4 (af hU (af cF (af ae (v3 0) (c3 (.str "seed"))) (af ae (v3 0) (c3 (.str "seed")))) (c3 (.int 2147483563))))
  (aw (af hU (af aS (af cF (af hU (af cF (v3 3) (v3 3)) (c3 (.int 2147483629))) (c3 (.int 2147483563))) (v3 4)) (v3 1)))))))))
def jg:bF:=(ah (uz 2 3 (ao gY [(v3 0),(af bR (c3 (.int 0)) (v3 0))]) (v3 1))
  (ah (jd (aO (af sg (v3 3) (c3 (.int 0)))) (uz 2 3 (v3 3) (af hU (v3 2) (v3 3))))
  (aw (ay [(af i0 (v3 0) (v3 2)),(af i0 (v3 1) (v3 2))]))))
def fV(F4:ax):bF:=(ah (au 2 (c3 (.str "abcdefghijklmnopqrstuvwxyz")))
  (ah (au 3 (bC [(c3 (.str "jars")),(c3 (.str "deed")),(c3 (.str "rest")),(c3 (.str "pay")),(c3 (.str "put")),(c3 (.str "then")),(c3 (.str "either")),(c3 (.str "take")),(c3 (.str "often")),(c3 (.str "use"))]))
  (ah (au 5 (dj "str" nU (c3 (.str "")) [(aF (nj (ab F4 [(v3 0),(c3 (.int 6))])) (.n 0) bm (af ae (v3 2) (ab F4 [(v3 1),(c3 (.int 26))])) 1 [0,2])]))
  (ah (mn 6 7 8 (ay [(ab F4 [(v3 0),(af aS (ao cr [(v3 5)]) (c3 (.int 1)))]),(ab F4 [(v3 0),(c3 (.int 26))]),(af (a_ false) (ab F4 [(v3 0),(c3 (.int 2))]) (c3 (.int 0)))]))
  (ah (au 9 (bC []))
  (ah (bM (nj (v3 1)) (.n 4) (ah (au 10 (af aS (af aS (bN (v3 5) oO (ni (v3 6))) (af ae (v3 2) (af hU (af aS (v3 7) (v3 4)) (c3 (.int 26))))) (bN (v3 5) (ni (v3 6)) oO)))
  (ah (bg (rV (aO (v3 8))) (au 10 (dj "str" nU (c3 (.str "")) [(aF (nj (af aS (c3 (.int 1)) (ab F4 [(v3 0),(c3 (.int 6))]))) (.n 0) bm (af ae (v3 2) (ab F4 [(v3 1),(c3 (.int 26))])) 1 [0,2])])) aN)
  (ah (jd (ll (aO (af (jF false) (v3 10) (v3 3))) (aO (af (jF false) (v3 10) (v3 9)))) (au 10 (af aS (af ae (v3 2) (af hU (af aS (dj "str" kF (v3 2) [(af ae (v3 10) (c3 (.int 0)))]) (c3 (.int 1))) (c3 (.int 26)))) (bN (v3 10) (ni (c3 (.int 1))) oO))))
  (aP (dj "list" bp (v3 9) [(v3 10)]))))))
  (aw (v3 9))))))))
def hZ(F4 Hi:ax):bF:=(ah (au 1 (ab F4 [(v3 0),(c3 (.int 4))]))
  (ah (bg (aO (af (a_ false) (v3 1) (c3 (.int 0)))) (aw (ay [(c3 (.int 0)),(c3 (.int 1))])) aN)
  (ah (bg (aO (af uE (v3 1) (c3 (.int 3)))) (aw (ay [(af aS (c3 (.int 1)) (ab F4 [(v3 0),(c3 (.int 5))])),(c3 (.int 1))])) aN)
  (aw (ab Hi [(ab F4 [(v3 0),(c3 (.int 1000))]),(af aS (c3 (.int 1)) (ab F4 [(v3 0),(c3 (.int 9))]))])))))
def dR(F4 KA:ax):bF:=(ah (au 2 (ab F4 [(v3 0),(c3 (.int 7))]))
  (ah (bg (aO (af (a_ false) (v3 2) (c3 (.int 0)))) (aw (ay [(c3 (.str "rest"))])) aN)
  (ah (bg (ll (aO (af uE (v3 2) (c3 (.int 4)))) (aO (af (a_ false) (ao cr [(v3 1)]) (c3 (.int 0))))) (aw (ay [(c3 (.str "pay")),(ab KA [(v3 0)])])) aN)
  (ah (au 3 (af ae (bC [(c3 (.int 1)),(c3 (.int 2)),(af aS (c3 (.int 1)) (ab F4 [(v3 0),(c3 (.int 9))]))]) (ab F4 [(v3 0),(c3 (.int 3))])))
  (aw (ay [(c3 (.str "put")),(af ae (v3 1) (ab F4 [(v3 0),(ao cr [(v3 1)])])),(v3 3)]))))))
def h_(F4 Gk s0:ax):bF:=(ah (au 4 (ab F4 [(v3 0),(c3 (.int 12))]))
  (ah (bg (ll (aO (af (a_ false) (v3 3) (c3 (.int 0)))) (ll (aO (af uE (af ae (v3 2) (c3 (.int 0))) (c3 (.int 2)))) (aO (af uE (v3 4) (c3 (.int 3)))))) (aw (ab Gk [(v3 0),(v3 1)])) aN)
  (ah (bg (aO (af uE (v3 4) (c3 (.int 5)))) (ah (oQ (af bR (af ae (v3 2) (c3 (.int 0))) (c3 (.int 1))) (v3 2) (c3 (.int 0)))
  (aw (ay [(c3 (.str "often")),(ab s0 [(v3 0),(v3 1),(v3 2),(af bR (v3 3) (c3 (.int 1)))])]))) aN)
  (ah (oQ (af bR (af ae (v3 2) (c3 (.int 0))) (c3 (.int 2))) (v3 2) (c3 (.int 0)))
  (ah (au 5 (ab s0 [(v3 0),(v3 1),(v3 2),(af bR (v3 3) (c3 (.int 1)))]))
  (ah (au 6 (ab s0 [(v3 0),(v3 1),(v3 2),(af bR (v3 3) (c3 (.int 1)))]))
  (ah (bg (aO (af uE (v3 4) (c3 (.int 8)))) (aw (ay [(c3 (.str "then")),(v3 5),(v3 6)])) aN)
  (ah (bg (ll (aO (af (a_ false) (v3 4) (c3 (.int 8)))) (aO (af (a_ false) (ao cr [(v3 1)]) (c3 (.int 0))))) (aw (ay [(c3 (.str "either")),(v3 5),(v3 6)])) aN)
  (ah (au 7 (af ae (bC [(c3 (.int 1)),(c3 (.int 1)),(c3 (.int 2)),(af aS (c3 (.int 1)) (ab F4 [(v3 0),(c3 (.int 9))]))]) (ab F4 [(v3 0),(c3 (.int 4))])))
  (aw (ay [(c3 (.str "take")),(af ae (v3 1) (ab F4 [(v3 0),(ao cr [(v3 1)])])),(v3 7),(v3 5),(v3 6)])))))))))))
def cU(s0:ax):bF:=(ah (bg (aO (af (a_ false) (af ae (v3 0) (c3 (.int 0))) (c3 (.str "then")))) (aw (af cF (ab s0 [(af ae (v3 0) (c3 (.int 1)))]) (ab s0 [(af ae (v3 0) (c3 (.int 2)))]))) aN)
  (ah (bg (ll (aO (af (a_ false) (af ae (v3 0) (c3 (.int 0))) (c3 (.str "either")))) (aO (af (a_ false) (af ae (v3 0) (c3 (.int 0))) (c3 (.str "take"))))) (aw (af aS (ab s0 [(af ae (v3 0) (d0 bD (c3 (.int 2))))]) (ab s0 [(af ae (v3 0) (d0 bD (c3 (.int 1))))]))) aN)
  (aw (c3 (.int 1)))))
def cG(GO s0:ax):bF:=(ah (bg (aO (af (a_ false) (af ae (v3 0) (c3 (.int 0))) (c3 (.str "often")))) (aw (af aS (ab GO [(af ae (v3 0) (c3 (.int 1)))]) (ab s0 [(af ae (v3 0) (c3 (.int 1)))]))) aN)
  (ah (bg (aO (af (jF false) (af ae (v3 0) (c3 (.int 0))) (ay [(c3 (.str "then")),(c3 (.str "either")),(c3 (.str "take"))]))) (aw (af aS (ab s0 [(af ae (v3 0) (d0 bD (c3 (.int 2))))]) (ab s0 [(af ae (v3 0) (d0 bD (c3 (.int 1))))]))) aN)
  (aw (c3 (.int 0)))))
def dk(Ir GO IH Gk:ax):bF:=(ah (au 4 (ab Ir [(v3 0),(v3 1),(bC [(af bR (v3 2) (c3 (.int 1)))]),(c3 (.int 5))]))
  (ah (bg (aO (af sg (af aS (ab GO [(v3 4)]) (ab IH [(v3 4)])) (v3 3))) (au 4 (ay [(c3 (.str "then")),(ay [(c3 (.str "often")),(ab Gk [(v3 0),(v3 1)])]),(ab Gk [(v3 0),(v3 1)])])) aN)
  (aw (v3 4))))
def fW(GP F4 Jl:ax):bF:=(ah (au 4 (ab GP [(v3 0),(c3 (.int 8))]))
  (ah (au 5 (ao bh [(bN (v3 4) oO (ni (ab F4 [(v3 0),(af aS (v3 1) (c3 (.int 1)))])))]))
  (ah (au 6 (af ae (bC [(c3 (.int 0)),(c3 (.int 4))]) (ab F4 [(v3 0),(c3 (.int 2))])))
  (ah (au 7 (af aS (c3 (.int 1)) (ab F4 [(v3 0),(v3 2)])))
  (ah (au 8 (aF (nj (v3 7)) (.n 0) bm (ay [(af ae (v3 6) (af aS (v3 2) (v3 0))),(ab Jl [(v3 1),(v3 3),(v3 5),(af i0 (c3 (.int 24)) (v3 4))])]) 1 [0,6,5,7,3,4]))
  (aw (ay [(v3 5),(ao bh [(v3 8)])])))))))
def jh:bF:=(aw (bN (v3 0) (ni (tE C.k_SIDES_FROM (af ae (v3 0) (c3 (.int 0))) (ao cr [(v3 0)]))) oO))
def ji(II s0:ax):bF:=(ah (au 1 (bC [(v3 0)]))
  (ah (bM (aD (ab II [(v3 0)])) (.n 2) (aP (dj "list" aQ (v3 1) [(ab s0 [(v3 2)])])))
  (aw (v3 1))))
def ms:bF:=(ah (jd (aO (af (a_ true) (v3 1) (c3 (.int 0)))) (ah (au 2 (af hU (v3 0) (v3 1)))
  (ah (au 0 (v3 1))
  (au 1 (v3 2)))))
  (aw (ao uy [(v3 0)])))
def jj(Lx:ax):bF:=(ah (au 2 (ab Lx [(v3 0),(v3 1)]))
  (ah (bg (aO (af uE (v3 1) (c3 (.int 0)))) (au 2 (d0 bD (v3 2))) aN)
  (aw (ay [(af i0 (v3 0) (v3 2)),(af i0 (v3 1) (v3 2))]))))
def si(IJ:ax):bF:=(aw (ab IJ [(af aS (af cF (af ae (v3 0) (c3 (.int 0))) (af ae (v3 1) (c3 (.int 1)))) (af cF (af ae (v3 1) (c3 (.int 0))) (af ae (v3 0) (c3 (.int 1))))),(af cF (af ae (v3 0) (c3 (.int 1))) (af ae (v3 1) (c3 (.int 1))))]))
def oS(IJ:ax):bF:=(aw (ab IJ [(af cF (af ae (v3 0) (c3 (.int 0))) (af ae (v3 1) (c3 (.int 0)))),(af cF (af ae (v3 0) (c3 (.int 1))) (af ae (v3 1) (c3 (.int 1))))]))
def mv:bF:=(aw (af ae (v3 0) (af aS (d0 bD (c3 (.int 2))) (af ae (v3 1) (c3 (.int 0))))))
def ie:bF:=(aw (ao bh [(aF (aD (v3 0)) (.n 0) bm (rW (aO (af (a_ false) (v3 0) (v3 1))) (v3 2) (c3 (.int 0))) 1 [1,2])]))
def oU:bF:=(aw (ao bh [(aF (uD (v3 0) (v3 1)) (.tp (.cons (.n 0) (.cons (.n 1) .nil))) bm (af aS (v3 0) (v3 1)) 2 [])]))
def fX:bF:=(aw (ao bh [(aF (aD (v3 0)) (.n 0) bm (af cF (v3 0) (v3 1)) 1 [1])]))
def oV(J_ L0:ax):bF:=(ah (au 2 (aF (uD (af ae (v3 0) (c3 (.int 1))) (af ae (v3 0) (c3 (.int 2)))) (.tp (.cons (.n 0) (.cons (.n 1) .nil))) bm (af aS (v3 1) (ao gY [(c3 (.int 0)),(af cF (d0 bD (v3 0)) (af bR (v3 2) (c3 (.int 1))))])) 2 [1]))
  (aw (ay [(ab L0 [(af ae (v3 0) (c3 (.int 0))),(ay [(v3 1),(c3 (.int 1))])]),(ab J_ [(af ae (v3 0) (c3 (.int 1))),(v3 1)]),(ao bh [(v3 2)])])))
def d5(HC:ax):bF:=(aw (ay [(ay [(c3 (.int 0)),(c3 (.int 1))]),(ab HC [(v3 0),(af ae (v3 1) (c3 (.int 1))),(d0 bD (af ae (v3 1) (c3 (.int 2))))]),(ab HC [(v3 0),(af ae (v3 1) (c3 (.int 1))),(af ae (v3 1) (c3 (.int 2)))])]))
def ig(Hi:ax):bF:=(aw (ab Hi [(af aS (af cF (af ae (v3 0) (c3 (.int 0))) (af ae (v3 1) (c3 (.int 1)))) (af cF (af ae (v3 1) (c3 (.int 0))) (af ae (v3 0) (c3 (.int 1))))),(af cF (af ae (v3 0) (c3 (.int 1))) (af ae (v3 1) (c3 (.int 1))))]))
def oW(KO:ax):bF:=(aw (ao cr [(ab KO [(v3 0)])]))
def fu(s0:ax):bF:=(ah (bg (aO (af (a_ false) (af ae (v3 0) (c3 (.int 0))) (c3 (.str "then")))) (aw (ay [(ab s0 [(af ae (v3 0) (c3 (.int 1)))]),(ab s0 [(af ae (v3 0) (c3 (.int 2)))])])) aN)
  (ah (bg (aO (af (a_ false) (af ae (v3 0) (c3 (.int 0))) (c3 (.str "either")))) (aw (ay [(c3 (.int 0)),(ab s0 [(af ae (v3 0) (c3 (.int 1)))])])) aN)
  (ah (bg (aO (af (a_ false) (af ae (v3 0) (c3 (.int 0))) (c3 (.str "take")))) (aw (ay [(c3 (.int 1)),(ab s0 [(af ae (v3 0) (c3 (.int 4)))])])) aN)
  (aw (ay [])))))
def fw(L5 IE s0:ax):bF:=(ah (bg (aO (af (a_ false) (v3 1) (c3 (.int 0)))) (aw (v3 2)) aN)
  (ah (bg (aO (af (a_ false) (af ae (v3 0) (c3 (.int 0))) (c3 (.str "often")))) (aw (ay [(ay [(c3 (.int 1)),(ab s0 [(af ae (v3 0) (c3 (.int 1))),(af bR (v3 1) (c3 (.int 1))),(v3 2)])])])) aN)
  (ah (au 3 (af ae (v3 0) (d0 bD (c3 (.int 2)))))
  (ah (au 4 (af ae (v3 0) (d0 bD (c3 (.int 1)))))
  (ah (au 5 (af aS (c3 (.int 1)) (ab L5 [(v3 3)])))
  (ah (au 6 (rW (aO (af uE (v3 1) (v3 5))) (c3 (.int 0)) (c3 (.int 1))))
  (ah (au 7 (rW (aO (af (a_ false) (v3 6) (c3 (.int 0)))) (ab s0 [(v3 3),(af bR (v3 1) (c3 (.int 1))),(v3 2)]) (ab s0 [(v3 4),(af bR (v3 1) (v3 5)),(v3 2)])))
  (ah (bg (aO (af (a_ true) (af ae (v3 0) (c3 (.int 0))) (c3 (.str "then")))) (aw (ay [(v3 6),(v3 7)])) aN)
  (ah (bg (aO (af (a_ false) (v3 6) (c3 (.int 0)))) (aw (ay [(v3 7),(ab IE [(v3 4)])])) aN)
  (aw (ay [(ab IE [(v3 3)]),(v3 7)])))))))))))
def ij(s0:ax):bF:=(ah (bg (aO (af (a_ false) (af ae (v3 0) (c3 (.int 0))) (c3 (.str "put")))) (aP (dj "list" bp (v3 2) [(af ae (v3 0) (c3 (.int 1)))])) aN)
  (ah (bg (aO (af (a_ false) (af ae (v3 0) (c3 (.int 0))) (c3 (.str "often")))) (aP (ab s0 [(af ae (v3 0) (c3 (.int 1))),(v3 1),(v3 2)])) aN)
  (bg (aO (af (jF false) (af ae (v3 0) (c3 (.int 0))) (ay [(c3 (.str "then")),(c3 (.str "either")),(c3 (.str "take"))]))) (ah (bg (ll (aO (af (a_ true) (af ae (v3 0) (c3 (.int 0))) (c3 (.str "take")))) (aO (af (jF false) (af ae (v3 0) (c3 (.int 1))) (v3 1)))) (aP (ab s0 [(af ae (v3 0) (d0 bD (c3 (.int 2)))),(v3 1),(v3 2)])) aN)
  (aP (ab s0 [(af ae (v3 0) (d0 bD (c3 (.int 1)))),(v3 1),(v3 2)]))) aN)))
def d6(KB:ax):bF:=(ah (au 1 (bC []))
  (ah (bM (aD (af ae (v3 0) (c3 (.int 0)))) (.n 2) (ah (au 3 (bC []))
  (ah (bM (aD (af ae (v3 0) (c3 (.int 1)))) (.tp (.cons (.n 4) (.cons (.n 5) .nil))) (aP (ab KB [(v3 5),(v3 1),(v3 3)])))
  (au 1 (v3 3)))))
  (aw (v3 1))))
def eM(s0:ax):bF:=(ah (bg (aO (af (a_ false) (af ae (v3 0) (c3 (.int 0))) (c3 (.str "put")))) (aw (ay [(c3 (.str "put")),(qp (v3 1) (af ae (v3 0) (c3 (.int 1))) (af ae (v3 0) (c3 (.int 1)))),(af ae (v3 0) (c3 (.int 2)))])) aN)
  (ah (bg (aO (af (a_ false) (af ae (v3 0) (c3 (.int 0))) (c3 (.str "often")))) (aw (ay [(c3 (.str "often")),(ab s0 [(af ae (v3 0) (c3 (.int 1))),(v3 1)])])) aN)
  (ah (bg (aO (af (jF false) (af ae (v3 0) (c3 (.int 0))) (ay [(c3 (.str "then")),(c3 (.str "either")),(c3 (.str "take"))]))) (ah (au 2 (ay [(ab s0 [(af ae (v3 0) (d0 bD (c3 (.int 2)))),(v3 1)]),(ab s0 [(af ae (v3 0) (d0 bD (c3 (.int 1)))),(v3 1)])]))
  (ah (bg (aO (af (a_ false) (af ae (v3 0) (c3 (.int 0))) (c3 (.str "take")))) (aw (af aS (ay [(c3 (.str "take")),(qp (v3 1) (af ae (v3 0) (c3 (.int 1))) (af ae (v3 0) (c3 (.int 1)))),(af ae (v3 0) (c3 (.int 2)))]) (v3 2))) aN)
  (aw (af aS (bN (v3 0) oO (ni (c3 (.int 1)))) (v3 2))))) aN)
  (aw (v3 0)))))
end C
namespace Zu
open PySem Zt
open Sem (wp)
def nn{a b:Nat}(h:a≠b):@Ne Addr a b:=h
abbrev cp(h:Heap)(T:Nat)(a b c:Value):Prop:=h.get? T=some { cls:=.type "tuple",data:=.seq #[a,b,c] }
section
variable {kd:Bool} {prog:Program} {w:World} {A:Around} {E:Vq} {s:Shared}
def oX{T:Addr}{a b c x:Value}{k:Nat}{Q:Unit->Shared->Prop}(hT:cp s.heap T a b c)
  (h:∀h',h'.get? T=some { cls:=.type "tuple",data:=.seq ((#[a,b,c]:Vw).setIfInBounds k x) }->Heap.SameBut T s.heap h'->Q () { s with heap:=h' }) :
  wpAny (model prog w) A (updateSeq T (·.setIfInBounds k x)) Q E s:=by
 refine wpAny_updateSeq hT rfl (h _ ?_ (Heap.SameBut.update ..))
 rw[Heap.get?_update_self _ hT rfl]
 simp[Obj.mapSeq]
variable {n l1 l2 l3:Nat} {i:Nat} {xs ys zs:Vw} {x y z a b c:Value}
def oH{Q:Vq}(d1:l1 < n)(d2:l2 < n)(d3:l3 < n)(gz:IsZip s.heap (n+5) (n+3) (n+4) .none)(gI:cp s.heap (n+3) (.ref n) (.ref (n+1)) (.ref (n+2)))(gO:cp s.heap (n+4) a b c)
  (g1:Si kd s.heap n l1 i) (g2:Si kd s.heap (n+1) l2 i) (g3:Si kd s.heap (n+2) l3 i) (t1:Sq kd s.heap l1 xs) (t2:Sq kd s.heap l2 ys) (t3:Sq kd s.heap l3 zs) (hx:xs[i]?=some x) (hy:ys[i]?=some y) (hz:zs[i]?=some z)
  (k:∀g,IsZip g (n+5) (n+3) (n+4) (rawInt s.heap.objs.size)->cp g (n+4) x y z->Si kd g n l1 (i+1)->Si kd g (n+1) l2 (i+1)->Si kd g (n+2) l3 (i+1)->cp g s.heap.objs.size x y z->
   (∀c o,c≠n+5->c≠n+4->c≠n->c≠n+1->c≠n+2->s.heap.get? c=some o->g.get? c=some o)->Q (.ref s.heap.objs.size) { s with heap:=g }) :
  wpAny (model prog w) A (Builtin.«zip.__next__» ⟨[.ref (n+5)],[]⟩) (fun fin s'=>∃v,fin = .done (.ret v)/\Q v s') E s:=by
 show wpAny _ _ (field (.ref (n+5)) 2 >>= _) _ _ _;refine wpAny_bind (wpAny_field gz rfl (x:=.bool false) rfl ?_)
 show wpAny _ _ (field (.ref (n+5)) 3 >>= _) _ _ _;refine wpAny_bind (wpAny_field gz rfl (x:=.ref (n+3)) rfl (wpAny_bind (wpAny_seqItems gI rfl ?_)))
 show wpAny _ _ (Builtin.SmallTypes.ownedTupleIsFree (.ref (n+5)) >>= _) _ _ _;refine wpAny_bind ?_;unfold Builtin.SmallTypes.ownedTupleIsFree
 refine wpAny_bind (wpAny_field gz rfl (x:=.none) rfl (wpAny_pure ?_));simp only[if_true]
 refine wpAny_bind (wpAny_rule (wpAny_bind (wpAny_field gz rfl (x:=.ref (n+4)) rfl (wpAny_bind (wpAny_setField_rec gz (by simp) fun h₁ z1 q1=>?_)))))
 replace z1:IsZip h₁ (n+5) (n+3) (n+4) .ellipsis:=z1
 refine wpAny_bind ?_;simp only[List.zipIdx_cons,List.zipIdx_nil,List.forIn_cons,List.forIn_nil]
 refine wpAny_bind (wpAny_bind (wpAny_onRaise ?_));show wpAny _ _ (Builtin.SmallTypes.nextOf (.ref n) >>= _) _ _ _
 refine wpAny_bind (Cg (g1.extBut q1.extBut (nn (by omega))) (t1.extBut q1.extBut (nn (by omega))) hx fun h₂ n1 q2=>wpAny_pure ?_)
 have o2:cp h₂ (n+4) a b c:=q2.extBut _ _ (nn (by omega)) (q1.extBut _ _ (nn (by omega)) gO)
 refine wpAny_bind (wpAny_seqItems o2 rfl (wpAny_bind (oX o2 fun h₃ o3 q3=>?_)))
 replace o3:cp h₃ (n+4) x b c:=o3
 refine wpAny_bind (wpAny_letGo (wpAny_pure ?_));refine wpAny_bind (wpAny_bind (wpAny_onRaise ?_));show wpAny _ _ (Builtin.SmallTypes.nextOf (.ref (n+1)) >>= _) _ _ _
 refine wpAny_bind (Cg (((g2.extBut q1.extBut (nn (by omega))).extBut q2.extBut (nn (by omega))).extBut q3.extBut (nn (by omega))) (((t2.extBut q1.extBut (nn (by omega))).extBut q2.extBut (nn (by omega))).extBut q3.extBut (nn (by omega))) hy fun h₄ n2 q4=>wpAny_pure ?_)
 have o4:cp h₄ (n+4) x b c:=q4.extBut _ _ (nn (by omega)) o3
 refine wpAny_bind (wpAny_seqItems o4 rfl (wpAny_bind (oX o4 fun h₅ o5 q5=>?_)))
 replace o5:cp h₅ (n+4) x y c:=o5
 refine wpAny_bind (wpAny_letGo (wpAny_pure ?_));refine wpAny_bind (wpAny_bind (wpAny_onRaise ?_));show wpAny _ _ (Builtin.SmallTypes.nextOf (.ref (n+2)) >>= _) _ _ _
 refine wpAny_bind (Cg (((((g3.extBut q1.extBut (nn (by omega))).extBut q2.extBut (nn (by omega))).extBut q3.extBut (nn (by omega))).extBut q4.extBut (nn (by omega))).extBut q5.extBut (nn (by omega))) (((((t3.extBut q1.extBut (nn (by omega))).extBut q2.extBut (nn (by omega))).extBut q3.extBut (nn (by omega))).extBut q4.extBut (nn (by omega))).extBut q5.extBut (nn (by omega))) hz fun h₆ n3 q6=>wpAny_pure ?_)
 have o6:cp h₆ (n+4) x y c:=q6.extBut _ _ (nn (by omega)) o5
 refine wpAny_bind (wpAny_seqItems o6 rfl (wpAny_bind (oX o6 fun h₇ o7 q7=>?_)))
 replace o7:cp h₇ (n+4) x y z:=o7
 refine wpAny_bind (wpAny_letGo (wpAny_pure (wpAny_pure ?_)));refine wpAny_bind (wpAny_seqItems o7 rfl (wpAny_bind (wpAny_newTuple ?_)))
 have sz:h₇.objs.size=s.heap.objs.size:=by rw[q7.1,q6.1,q5.1,q4.1,q3.1,q2.1,q1.1]
 have kk:∀c o,c≠n+5->c≠n+4->c≠n->c≠n+1->c≠n+2->s.heap.get? c=some o->h₇.get? c=some o:=fun c o c1 c2 c3 c4 c5 e=>q7.extBut _ _ c2 (q6.extBut _ _ c5 (q5.extBut _ _ c2 (q4.extBut _ _ c4 (q3.extBut _ _ c2 (q2.extBut _ _ c3 (q1.extBut _ _ c1 e))))))
 have z7:IsZip h₇ (n+5) (n+3) (n+4) .ellipsis:=q7.extBut _ _ (nn (by omega)) (q6.extBut _ _ (nn (by omega)) (q5.extBut _ _ (nn (by omega)) (q4.extBut _ _ (nn (by omega)) (q3.extBut _ _ (nn (by omega)) (q2.extBut _ _ (nn (by omega)) z1)))))
 have m1:Si kd h₇ n l1 (i+1):=((((n1.extBut q3.extBut (nn (by omega))).extBut q4.extBut (nn (by omega))).extBut q5.extBut (nn (by omega))).extBut q6.extBut (nn (by omega))).extBut q7.extBut (nn (by omega))
 have m2:Si kd h₇ (n+1) l2 (i+1):=((n2.extBut q5.extBut (nn (by omega))).extBut q6.extBut (nn (by omega))).extBut q7.extBut (nn (by omega))
 have m3:Si kd h₇ (n+2) l3 (i+1):=n3.extBut q7.extBut (nn (by omega))
 have zl:n+5 < h₇.objs.size:=Heap.lt_size z7
 show wpAny _ _ (Builtin.SmallTypes.ownedTupleHandOut (.ref (n+5)) (.ref h₇.objs.size) >>= _) _ _ _;refine wpAny_bind ?_;unfold Builtin.SmallTypes.ownedTupleHandOut
 have z8:IsZip (h₇.push { cls:=.type "tuple",data:=.seq #[x,y,z] }) (n+5) (n+3) (n+4) .ellipsis:=Heap.get?_push_of_some _ z7
 refine wpAny_bind (wpAny_setField_rec z8 (by simp) fun h₉ z9 q9=>?_)
 replace z9:IsZip h₉ (n+5) (n+3) (n+4) (rawInt h₇.objs.size):=z9
 refine wpAny_setField_rec z9 (by simp) fun g za qa=>?_
 replace za:IsZip g (n+5) (n+3) (n+4) (rawInt h₇.objs.size):=za
 have up:∀c o,c≠n+5->h₇.get? c=some o->g.get? c=some o:=fun c o c1 e=>qa.extBut _ _ c1 (q9.extBut _ _ c1 (Heap.get?_push_of_some _ e))
 have T8:cp g h₇.objs.size x y z:=qa.extBut _ _ (Nat.ne_of_gt zl) (q9.extBut _ _ (Nat.ne_of_gt zl) (Heap.get?_push_size _ rfl))
 rw[sz]at za T8
 refine wpAny_pure ⟨_,rfl,?_⟩
 show Q (.ref h₇.objs.size) _
 rw[sz]
 exact k g za (up _ _ (nn (by omega)) o7) (m1.at fun o e=>up _ o (nn (by omega)) e) (m2.at fun o e=>up _ o (nn (by omega)) e) (m3.at fun o e=>up _ o (nn (by omega)) e) T8 fun c o c1 c2 c3 c4 c5 e=>up c o c1 (kk c o c1 c2 c3 c4 c5 e)
def rM{Q:Fin->Shared->Prop}(hh:A.handled=none)(d1:l1 < n)(gz:IsZip s.heap (n+5) (n+3) (n+4) .none)(gI:cp s.heap (n+3) (.ref n) (.ref (n+1)) (.ref (n+2)))
  (g1:Si kd s.heap n l1 i) (t1:Sq kd s.heap l1 xs) (hx:xs[i]?=none)
  (k:∀(g:Heap) (e:Addr),(∀c o,c≠n+5->c≠n+4->c≠n->c≠n+1->c≠n+2->s.heap.get? c=some o->g.get? c=some o)->(∃o,g.get? e=some o/\o.cls = .type "StopIteration")->E (.ref e) { s with heap:=g }) :
  wpAny (model prog w) A (Builtin.«zip.__next__» ⟨[.ref (n+5)],[]⟩) Q E s:=by
 show wpAny _ _ (field (.ref (n+5)) 2 >>= _) _ _ _;refine wpAny_bind (wpAny_field gz rfl (x:=.bool false) rfl ?_)
 show wpAny _ _ (field (.ref (n+5)) 3 >>= _) _ _ _;refine wpAny_bind (wpAny_field gz rfl (x:=.ref (n+3)) rfl (wpAny_bind (wpAny_seqItems gI rfl ?_)))
 show wpAny _ _ (Builtin.SmallTypes.ownedTupleIsFree (.ref (n+5)) >>= _) _ _ _;refine wpAny_bind ?_;unfold Builtin.SmallTypes.ownedTupleIsFree
 refine wpAny_bind (wpAny_field gz rfl (x:=.none) rfl (wpAny_pure ?_));simp only[if_true]
 refine wpAny_bind (wpAny_rule (wpAny_bind (wpAny_field gz rfl (x:=.ref (n+4)) rfl (wpAny_bind (wpAny_setField_rec gz (by simp) fun h₁ z1 q1=>?_)))))
 replace z1:IsZip h₁ (n+5) (n+3) (n+4) .ellipsis:=z1
 refine wpAny_bind ?_;simp only[List.zipIdx_cons,List.zipIdx_nil,List.forIn_cons,List.forIn_nil]
 refine wpAny_bind (wpAny_bind (wpAny_onRaise ?_));show wpAny _ _ (Builtin.SmallTypes.nextOf (.ref n) >>= _) _ _ _
 refine wpAny_bind (Bu hh (g1.extBut q1.extBut (nn (by omega))) (t1.extBut q1.extBut (nn (by omega))) hx fun h₂ e q2 ⟨oe,ge,ce⟩=>?_)
 have z2:IsZip h₂ (n+5) (n+3) (n+4) .ellipsis:=q2 _ _ (nn (by omega)) z1
 have ez:e≠n+5:=fun u=>by subst u;rw[z2]at ge;cases ge;simp at ce
 exact wpAny_setField_rec z2 (by simp) fun h₃ _ q3=>k h₃ e (fun c o c1 _ c3 _ _ u=>q3.extBut _ _ c1 (q2 _ _ c3 (q1.extBut _ _ c1 u))) ⟨oe,q3.extBut _ _ ez ge,ce⟩
def kA{Q:Option Value->Shared->Prop}(d1:l1 < n)(d2:l2 < n)(d3:l3 < n)(gz:IsZip s.heap (n+5) (n+3) (n+4) .none)(gI:cp s.heap (n+3) (.ref n) (.ref (n+1)) (.ref (n+2)))(gO:cp s.heap (n+4) a b c)
  (g1:Si kd s.heap n l1 i) (g2:Si kd s.heap (n+1) l2 i) (g3:Si kd s.heap (n+2) l3 i) (t1:Sq kd s.heap l1 xs) (t2:Sq kd s.heap l2 ys) (t3:Sq kd s.heap l3 zs) (hx:xs[i]?=some x) (hy:ys[i]?=some y) (hz:zs[i]?=some z)
  (k:∀g,IsZip g (n+5) (n+3) (n+4) (rawInt s.heap.objs.size)->cp g (n+4) x y z->Si kd g n l1 (i+1)->Si kd g (n+1) l2 (i+1)->Si kd g (n+2) l3 (i+1)->cp g s.heap.objs.size x y z->
   (∀c o,c≠n+5->c≠n+4->c≠n->c≠n+1->c≠n+2->s.heap.get? c=some o->g.get? c=some o)->Q (some (.ref s.heap.objs.size)) { s with heap:=g }):wpAny (model prog w) A (pyNext (.ref (n+5))) Q E s:=by
 have ty:s.TypeIs (.ref (n+5)) "zip":=⟨_,gz,rfl⟩
 unfold pyNext
 exact wpAny_bind (wpAny_attempt (wpAny_callSpecial?_slot (name:=Str.ofString "__next__") ty F.slot_zip_next (wpAny_call_entry F.slot_zip_next ty F.entry_zip_next
  (oH d1 d2 d3 gz gI gO g1 g2 g3 t1 t2 t3 hx hy hz fun g a1 a2 a3 a4 a5 a6 a7=>wpAny_pure (k g a1 a2 a3 a4 a5 a6 a7)) (F.args_zip_next_1 _))))
def l5{Q:Option Value->Shared->Prop}(hh:A.handled=none)(d1:l1 < n)(gz:IsZip s.heap (n+5) (n+3) (n+4) .none)(gI:cp s.heap (n+3) (.ref n) (.ref (n+1)) (.ref (n+2)))
  (g1:Si kd s.heap n l1 i) (t1:Sq kd s.heap l1 xs) (hx:xs[i]?=none)
  (k:∀g:Heap,(∀c o,c≠n+5->c≠n+4->c≠n->c≠n+1->c≠n+2->s.heap.get? c=some o->g.get? c=some o)->Q none { s with heap:=g }):wpAny (model prog w) A (pyNext (.ref (n+5))) Q E s:=by
 have ty:s.TypeIs (.ref (n+5)) "zip":=⟨_,gz,rfl⟩
 unfold pyNext
 refine wpAny_bind (wpAny_attempt (wpAny_callSpecial?_slot (name:=Str.ofString "__next__") ty F.slot_zip_next (wpAny_call_entry F.slot_zip_next ty F.entry_zip_next (rM hh d1 gz gI g1 t1 hx fun g e kk ⟨o,ho,hc⟩=>?_) (F.args_zip_next_1 _))))
 exact wpAny_bind (wpAny_isInstance (T:="StopIteration") (b:=true) ⟨o,ho,hc⟩ isSubtype_stop (wpAny_pure (k _ kk)))
end
def FP(a b c:Value):checkTypeCall "zip" ⟨[a,b,c],[]⟩=pure ():=by kernel_rfl
def FQ(a b c:Value):checkBuiltinCall "zip.__new__" ⟨[.type "zip",a,b,c],[]⟩=pure ():=by kernel_rfl
def FR(a b c d:Value):argsOk "object.__init__" ⟨[a,b,c,d],[]⟩:=by
 unfold argsOk;rw[signature?_of (id:="object.__init__") (n:="__init__".toList.reverse) (o:="object".toList.reverse) (by kernel_rfl) F.owner_object];kernel_rfl
noncomputable abbrev K3(kd:Bool)(h:Heap)(l1 l2 l3:Addr):Heap:=((h.push (it kd l1)).push (it kd l2)).push (it kd l3)
noncomputable abbrev K4(kd:Bool)(h:Heap)(l1 l2 l3:Addr):Heap:=(K3 kd h l1 l2 l3).push { cls:=.type "tuple",data:=.seq #[.ref h.objs.size,.ref (h.push (it kd l1)).objs.size,.ref ((h.push (it kd l1)).push (it kd l2)).objs.size] }
noncomputable abbrev K5(kd:Bool)(h:Heap)(l1 l2 l3:Addr):Heap:=(K4 kd h l1 l2 l3).push { cls:=.type "tuple",data:=.seq #[.none,.none,.none] }
noncomputable abbrev K6(kd:Bool)(h:Heap)(l1 l2 l3:Addr):Heap:=(K5 kd h l1 l2 l3).push { cls:=.type "zip",data:=.fields #[.none,.bool false,.bool false,.ref (K3 kd h l1 l2 l3).objs.size,.ref (K4 kd h l1 l2 l3).objs.size] }
def fI(kd:Bool)(l1 l2 l3:Addr)(xs ys zs:Vw) :
  Meets (Builtin.«zip.__new__» ⟨[.type "zip",.ref l1,.ref l2,.ref l3],[]⟩) (fun _ R s=>Sq kd s.heap l1 xs/\Sq kd s.heap l2 ys/\Sq kd s.heap l3 zs/\R (.ok (.ret (.ref (K5 kd s.heap l1 l2 l3).objs.size))) { s with heap:=K6 kd s.heap l1 l2 l3 }):=
 .of_wp fun prog w A R s h=>by
  obtain⟨hp,g,d,tk,os⟩:=s;obtain⟨e1,e2,e3,h⟩:=h
  have hsub:=sub_zip
  cases kd with
  |false=>
   have L1:Heap.IsTuple (Shared.heap ⟨hp,g,d,tk,os⟩) l1 xs:=e1
   have L2:Heap.IsTuple (Shared.heap ⟨hp.push { cls:=.type "tuple_iterator",data:=.fields #[.ref l1,.int 0 0] },g,d,tk,os⟩) l2 ys:=Heap.IsTuple.push e2 _
   have L3:Heap.IsTuple (Shared.heap ⟨(hp.push { cls:=.type "tuple_iterator",data:=.fields #[.ref l1,.int 0 0] }).push { cls:=.type "tuple_iterator",data:=.fields #[.ref l2,.int 0 0] },g,d,tk,os⟩) l3 zs:=Heap.IsTuple.push (Heap.IsTuple.push e3 _) _
   wp_walk using wpAny_pyIter_tuple L1,wpAny_pyIter_tuple L2,wpAny_pyIter_tuple L3
   exact⟨_,rfl,h⟩
  |true=>
   have L1:Heap.IsList (Shared.heap ⟨hp,g,d,tk,os⟩) l1 xs:=e1
   have L2:Heap.IsList (Shared.heap ⟨hp.push { cls:=.type "list_iterator",data:=.fields #[.ref l1,.int 0 0] },g,d,tk,os⟩) l2 ys:=Heap.IsList.push e2 _
   have L3:Heap.IsList (Shared.heap ⟨(hp.push { cls:=.type "list_iterator",data:=.fields #[.ref l1,.int 0 0] }).push { cls:=.type "list_iterator",data:=.fields #[.ref l2,.int 0 0] },g,d,tk,os⟩) l3 zs:=Heap.IsList.push (Heap.IsList.push e3 _) _
   wp_walk using wpAny_pyIter_list L1,wpAny_pyIter_list L2,wpAny_pyIter_list L3
   exact⟨_,rfl,h⟩
section
variable {kd:Bool} {prog:Program} {w:World} {A:Around} {E:Vq} {s:Shared}
def gW{l1 l2 l3:Addr}{xs ys zs:Vw}{Q:Vq}(e1:Sq kd s.heap l1 xs)(e2:Sq kd s.heap l2 ys)(e3:Sq kd s.heap l3 zs)
  (k:∀g,IsZip g (s.heap.objs.size+5) (s.heap.objs.size+3) (s.heap.objs.size+4) .none->cp g (s.heap.objs.size+3) (.ref s.heap.objs.size) (.ref (s.heap.objs.size+1)) (.ref (s.heap.objs.size+2))->
   cp g (s.heap.objs.size+4) .none .none .none->Si kd g s.heap.objs.size l1 0->Si kd g (s.heap.objs.size+1) l2 0->Si kd g (s.heap.objs.size+2) l3 0->
   (∀c o,s.heap.get? c=some o->g.get? c=some o)->Q (.ref (s.heap.objs.size+5)) { s with heap:=g }) :
  wpAny (model prog w) A (call (.type "zip") [.ref l1,.ref l2,.ref l3]) Q E s:=by
 refine callType_new F.called_zip (by decide) (FP _ _ _) (FQ _ _ _) (fun obj=>FR obj _ _ _) F.entry_zip_new (fI kd l1 l2 l3 xs ys zs) ⟨e1,e2,e3,?_⟩
 have z1:(s.heap.push (it kd l1)).objs.size=s.heap.objs.size+1:=Heap.size_push ..
 have z2:((s.heap.push (it kd l1)).push (it kd l2)).objs.size=s.heap.objs.size+2:=by rw[Heap.size_push,z1]
 have z3:(K3 kd s.heap l1 l2 l3).objs.size=s.heap.objs.size+3:=by rw[Heap.size_push,z2]
 have z4:(K4 kd s.heap l1 l2 l3).objs.size=s.heap.objs.size+4:=by rw[Heap.size_push,z3]
 have z5:(K5 kd s.heap l1 l2 l3).objs.size=s.heap.objs.size+5:=by rw[Heap.size_push,z4]
 have p:∀{h:Heap} {b:Addr} {o o':Obj},h.get? b=some o->(h.push o').get? b=some o:=fun e=>Heap.get?_push_of_some _ e
 have g6:(K6 kd s.heap l1 l2 l3).get? (K5 kd s.heap l1 l2 l3).objs.size=some _:=Heap.get?_push_size _ rfl
 have g5:(K6 kd s.heap l1 l2 l3).get? (K4 kd s.heap l1 l2 l3).objs.size=some _:=p (Heap.get?_push_size _ rfl)
 have g4:(K6 kd s.heap l1 l2 l3).get? (K3 kd s.heap l1 l2 l3).objs.size=some _:=p (p (Heap.get?_push_size _ rfl))
 have g3:(K6 kd s.heap l1 l2 l3).get? ((s.heap.push (it kd l1)).push (it kd l2)).objs.size=some _:=p (p (p (Heap.get?_push_size _ rfl)))
 have g2:(K6 kd s.heap l1 l2 l3).get? (s.heap.push (it kd l1)).objs.size=some _:=p (p (p (p (Heap.get?_push_size _ rfl))))
 have g1:(K6 kd s.heap l1 l2 l3).get? s.heap.objs.size=some _:=p (p (p (p (p (Heap.get?_push_size _ rfl)))))
 show _/\_
 rw[z3,z4,z5]at g6
 rw[z4]at g5
 rw[z1,z2,z3]at g4
 rw[z2]at g3
 rw[z1]at g2
 rw[z5]
 exact⟨⟨_,g6,rfl⟩,k _ g6 g4 g5 (.mk g1) (.mk g2) (.mk g3) fun c o x=>p (p (p (p (p (p x)))))⟩
end
end Zu
namespace L2
open PySem PySem.Spec PyProof.Rows
noncomputable def Em(kd:Bool)(K:Vo)(a b c:Addr):It:=
  ⟨fun i H=>∃xs ys zs x y z,l6 kd K H a xs/\l6 kd K H b ys/\l6 kd K H c zs/\xs[i]?=some x/\ys[i]?=some y/\zs[i]?=some z,
   fun i H v H'=>∃p x y z,v = .ref p/\H p=none/\H'=upd H p (.tup [x,y,z])/\∀xs ys zs,l6 kd K H a xs->l6 kd K H b ys->l6 kd K H c zs->xs[i]?=some x/\ys[i]?=some y/\zs[i]?=some z,
   fun i H=>∃xs,l6 kd K H a xs/\xs.length<=i⟩
def wt{kd:Bool}{P:Program}{w:World}{K:Vo}{elts:List Expr}{k0:Nat}{Hf:Pos}{n a b c:Nat}(d1:a < n)(d2:b < n)(d3:c < n) :
  m8 P w K (.Tuple elts k0 Hf) (Em kd K a b c) [n+5,n+3,n+4,n,n+1,n+2] (n+5) (fun i h=>IsZip h (n+5) (n+3) (n+4) .none/\Zu.cp h (n+3) (.ref n) (.ref (n+1)) (.ref (n+2))/\(∃x y z,Zu.cp h (n+4) x y z)/\Zt.Si kd h n a i/\Zt.Si kd h (n+1) b i/\Zt.Si kd h (n+2) c i) where
 mem:=by simp
 obj:=fun i h st c hc=>by
  obtain⟨gz,gI,⟨x,y,z,gO⟩,g1,g2,g3⟩:=st
  obtain⟨o1,_,e1,f1⟩:=g1.ob;obtain⟨o2,_,e2,f2⟩:=g2.ob;obtain⟨o3,_,e3,f3⟩:=g3.ob
  simp only[List.mem_cons,List.not_mem_nil,or_false]at hc
  rcases hc with rfl|rfl|rfl|rfl|rfl|rfl
  ·exact⟨_,gz,fun v q=>by cases q⟩
  ·exact⟨_,gI,fun v q=>by cases q⟩
  ·exact⟨_,gO,fun v q=>by cases q⟩
  ·exact⟨_,e1,fun v q=>by rw[f1]at q;cases q⟩
  ·exact⟨_,e2,fun v q=>by rw[f2]at q;cases q⟩
  ·exact⟨_,e3,fun v q=>by rw[f3]at q;cases q⟩
 keep:=fun i h h' st k=>by
  obtain⟨gz,gI,⟨x,y,z,gO⟩,g1,g2,g3⟩:=st
  exact⟨k _ (by simp) _ gz,k _ (by simp) _ gI,⟨x,y,z,k _ (by simp) _ gO⟩,g1.at fun o e=>k _ (by simp) o e,g2.at fun o e=>k _ (by simp) o e,g3.at fun o e=>k _ (by simp) o e⟩
 item:=by
  intro X hP hw hK hc i pins s σ H E I hf st hg
  subst hP hw hK
  obtain⟨gz,gI,⟨ta,tb,tc,gO⟩,g1,g2,g3⟩:=st
  obtain⟨xs,ys,zs,x,y,z,J8,ME,Pq,hx,hy,hz⟩:=hg
  obtain⟨ia,ra,pa⟩:=I.Jk J8
  obtain⟨ib,rb,pb⟩:=I.Jk ME
  obtain⟨ic,rc,pc⟩:=I.Jk Pq
  obtain⟨u,hu,ru⟩:=ra.get hx
  obtain⟨v,hv,rv⟩:=rb.get hy
  obtain⟨t,ht,rt⟩:=rc.get hz
  refine Zu.kA (kd:=kd) d1 d2 d3 gz gI gO g1 g2 g3 pa pb pc (x:=u) (y:=v) (z:=t) (by simpa using hu) (by simpa using hv) (by simpa using ht) fun g a1 a2 a3 a4 a5 a6 a7=>?_
  refine⟨_,rfl,wpAny_letOwnedTupleGo_zip (s:={ s with heap:=g }) a1 fun g' z' q'=>?_⟩
  have kk:∀c o,c ∉ ([n+5,n+3,n+4,n,n+1,n+2]:List Addr)->s.heap.get? c=some o->g'.get? c=some o:=fun c o hc e=>by
   simp only[List.mem_cons,List.not_mem_nil,or_false,not_or]at hc
   exact q'.extBut _ _ hc.1 (a7 c o hc.1 hc.2.2.1 hc.2.2.2.1 hc.2.2.2.2.1 hc.2.2.2.2.2 e)
  have I1:Inv X pins σ H { s with heap:=g' }:=I.HB (t':=s.toks) kk hf
  have f0:ft X pins H s.heap.objs.size:=I.IC (Nat.le_refl _) (I.hok.fresh (Nat.le_refl _))
  have eT:Gy g' s.heap.objs.size [u,v,t].toArray:=⟨_,q'.extBut _ _ (Nat.ne_of_gt (Heap.lt_size gz)) a6,rfl,rfl,_,rfl⟩
  have I2:=I1.Jj f0 eT (.cons ru (.cons rv (.cons rt .nil))) (by show 3<=sizeLine;decide)
  refine⟨.ref s.heap.objs.size,_,I2,rfl,⟨s.heap.objs.size,x,y,z,rfl,f0.1,rfl,fun xs' ys' zs' h1 h2 h3=>by rw[I.Iq h1 J8,I.Iq h2 ME,I.Iq h3 Pq];exact⟨hx,hy,hz⟩⟩,
   ⟨z',q'.extBut _ _ (Zu.nn (by omega)) (a7 _ _ (Zu.nn (by omega)) (Zu.nn (by omega)) (Zu.nn (by omega)) (Zu.nn (by omega)) (Zu.nn (by omega)) gI),⟨_,_,_,q'.extBut _ _ (Zu.nn (by omega)) a2⟩,a3.extBut q'.extBut (Zu.nn (by omega)),a4.extBut q'.extBut (Zu.nn (by omega)),a5.extBut q'.extBut (Zu.nn (by omega))⟩,fun c hc=>?_⟩
  have hlt:c < s.heap.objs.size:=by
   obtain⟨_,_,e1,_⟩:=g1.ob
   obtain⟨_,_,e2,_⟩:=g2.ob
   obtain⟨_,_,e3,_⟩:=g3.ob
   simp only[List.mem_cons,List.not_mem_nil,or_false]at hc
   rcases hc with rfl|rfl|rfl|rfl|rfl|rfl
   ·exact Heap.lt_size gz
   ·exact Heap.lt_size gI
   ·exact Heap.lt_size gO
   ·exact Heap.lt_size e1
   ·exact Heap.lt_size e2
   ·exact Heap.lt_size e3
  rw[aI (Nat.ne_of_lt hlt)]
  exact(hf c hc).1
 done:=by
  intro X hP hw hK hc i pins s σ H E I hf st hg
  subst hP hw hK
  obtain⟨gz,gI,⟨ta,tb,tc,gO⟩,g1,g2,g3⟩:=st
  obtain⟨xs,J8,hl⟩:=hg
  obtain⟨ia,ra,pa⟩:=I.Jk J8
  have la:=ra.length
  refine Zu.l5 (kd:=kd) (I.ok.hd hc) d1 gz gI g1 pa (by simp;omega) fun g kk=>⟨rfl,I.HB (t':=s.toks) (fun c o hc e=>?_) hf⟩
  simp only[List.mem_cons,List.not_mem_nil,or_false,not_or]at hc
  exact kk c o hc.1 hc.2.2.1 hc.2.2.2.1 hc.2.2.2.2.1 hc.2.2.2.2.2 e
 self:=fun _ _ _ _ _ st h=>wpAny_pyIter_zip st.1 h
section
variable {X:Cx}
def Fd(kd:Bool)(K:Vo)(ta:TA):TI:=fun σ H R=>ta σ H fun vs H1=>∃a b c,vs=[.ref a,.ref b,.ref c]/\(∃xs,l6 kd K H1 a xs)/\(∃ys,l6 kd K H1 b ys)/\(∃zs,l6 kd K H1 c zs)/\R (Em kd K a b c) H1
def wu{kd:Bool}{elts:List Expr}{k0:Nat}{Hf:Pos}{a b c:Expr}{ta:TA}{p pos:Pos}(hg:Gl X "zip")(hm:X.mg "zip" = none)(hv:bootBuiltins "zip" = some (.type "zip"))(ha:PA X [a,b,c] ta)
  (hs:starEach [a,b,c] X.env=[(false,eval a X.env),(false,eval b X.env),(false,eval c X.env)]) (hs2:starEach [b,c] X.env=[(false,eval b X.env),(false,eval c X.env)]):PI X (.Tuple elts k0 Hf) (.Call (.Name "zip" p) [a,b,c] [] pos) (Fd kd X.K ta):=by
 intro pins s σ H R I h
 refine Call_ (eG I hg hm hv (PyProof.Rows.callWith_type1 (F9 (ha pos pins s σ H _ I h) fun us s1 ⟨vs,H1,I1,r1,q1⟩=>?_) (by rw[hs,hs2]) (by rw[hs2];rfl)))
 obtain⟨a,b,c,e,⟨xs,qa⟩,⟨ys,qb⟩,⟨zs,qc⟩,q⟩:=q1
 subst e
 obtain⟨u,us,rfl⟩:∃u us',us=u::us':=by cases r1;exact⟨_,_,rfl⟩
 cases r1 with
 |cons ru r1=>
 obtain⟨v,t,rfl,rv,rt⟩:=sQ r1
 cases ru
 cases rv
 cases rt
 obtain⟨ia,ra,pa⟩:=I1.Jk qa
 obtain⟨ib,rb,pb⟩:=I1.Jk qb
 obtain⟨ic,rc,pc⟩:=I1.Jk qc
 have la:a < s1.heap.objs.size:=pa.lt
 have lb:b < s1.heap.objs.size:=pb.lt
 have lc:c < s1.heap.objs.size:=pc.lt
 refine Zu.gW (kd:=kd) pa pb pc fun g gz gI gO g1 g2 g3 kk=>?_
 refine wpAny_pyIter_zip (s:={ s1 with heap:=g }) gz ?_
 refine⟨_,[s1.heap.objs.size+5,s1.heap.objs.size+3,s1.heap.objs.size+4,s1.heap.objs.size,s1.heap.objs.size+1,s1.heap.objs.size+2],_,_,H1,rfl,I1.kept (t':=s1.toks) kk,wt la lb lc,⟨gz,gI,⟨_,_,_,gO⟩,g1,g2,g3⟩,fun c hc=>?_,q⟩
 have hle:s1.heap.objs.size<=c:=by
  simp only[List.mem_cons,List.not_mem_nil,or_false]at hc
  rcases hc with rfl|rfl|rfl|rfl|rfl|rfl
  ·exact Nat.le_add_right _ _
  ·exact Nat.le_add_right _ _
  ·exact Nat.le_add_right _ _
  ·exact Nat.le_refl _
  ·exact Nat.le_add_right _ _
  ·exact Nat.le_add_right _ _
 exact I1.IC hle (I1.hok.fresh hle)
end
end L2
namespace L3
open PySem L2
section
variable {X:Cx} {a b c:Expr} {ta tb tc:aY} {p pos:Pos}
noncomputable def Dq(z:PV×PV×PV):PV:=.tup [z.1,z.2.1,z.2.2]
noncomputable def bT(xs ys zs:List PV):List PV:=(xs.zip (ys.zip zs)).map Dq
def wv{K:Vo}{H0:Hp}{a b c:Addr}{vs us ws:List V}{xs ys zs:List PV}(h1:SqT K H0 a vs)(h2:SqT K H0 b us)(h3:SqT K H0 c ws)(r1:Reps K H0 vs xs)(r2:Reps K H0 us ys)(r3:Reps K H0 ws zs)(Qw:xs.length<=ys.length)(Qx:xs.length<=zs.length):gZ K H0 (Em false K a b c) ⟨bT xs ys zs,fun _=>True⟩:=by
 intro i S H g rS _
 have hv:=g.t _ _ h1
 have hu:=g.t _ _ h2
 have hw:=g.t _ _ h3
 have l1:=r1.length
 refine⟨fun p hp=>?_,fun hi=>⟨vs,hv,?_⟩⟩
 ·unfold bT at hp
  rw[List.getElem?_map]at hp
  cases hz:(xs.zip (ys.zip zs))[i]? with
  |none=>rw[hz]at hp;cases hp
  |some z=>
   rw[hz]at hp
   cases hp
   obtain⟨e1,Oq⟩:=List.getElem?_zip_eq_some.mp hz
   obtain⟨e2,e3⟩:=List.getElem?_zip_eq_some.mp Oq
   obtain⟨v,hx',rv⟩:=r1.get e1
   obtain⟨u,hy',ru⟩:=r2.get e2
   obtain⟨t,hz',rt⟩:=r3.get e3
   refine⟨⟨vs,us,ws,v,u,t,hv,hu,hw,hx',hy',hz'⟩,fun x H' ⟨q,x2,y2,z2,e3,hq,e4,h⟩=>?_⟩
   subst e3 e4
   obtain⟨k1,k2,k3⟩:=h vs us ws hv hu hw
   rw[hx']at k1
   rw[hy']at k2
   rw[hz']at k3
   cases k1;cases k2;cases k3
   exact⟨.tup (SqT.of aG) (.cons ((rv.mono g).mono (.new hq)) (.cons ((ru.mono g).mono (.new hq)) (.cons ((rt.mono g).mono (.new hq)) .nil))),rS.other hq,.new hq⟩
 ·have e:(bT xs ys zs).length=min xs.length (min ys.length zs.length):=by simp[bT]
  rw[e]at hi
  omega
def ww(ta tb tc:aY):tw:=fun σ S R E=>ta σ S (fun v S1=>tb σ S1 (fun w S2=>tc σ S2 (fun x S3=>match v,w,x with
 | .tup xs,.tup ys,.tup zs=>xs.length<=ys.length/\xs.length<=zs.length/\R ⟨bT xs ys zs,fun _=>True⟩ S3
 |_,_,_=>False) E) E) E
def BM{elts:List Expr}{k0:Nat}{Hf:Pos}(hs:starEach [a,b,c] X.env=[(false,eval a X.env),(false,eval b X.env),(false,eval c X.env)])(hs2:starEach [b,c] X.env=[(false,eval b X.env),(false,eval c X.env)])(hg:Gl X "zip")(hm:X.mg "zip" = none)(hv:bootBuiltins "zip" = some (.type "zip"))(ha:kn X [a,b,c] [ta,tb,tc]) :
  vd X (.Tuple elts k0 Hf) (.Call (.Name "zip" p) [a,b,c] [] pos) (ww ta tb tc):=
 ⟨jc (wu (kd:=false) hg hm hv ha.ok hs hs2) fun σ H R ⟨σ3,S,R3,E3,rσ,rS,h,xo,k⟩=>⟨σ3,S,_,E3,rσ,rS,h,xo,fun v S1 v' H1 h1 rv Gd g1=>⟨σ3,S1,_,E3,rσ.mono g1,Gd,h1,xo.mono g1,fun w S2 w' H2 h2 rw' HD g2=>⟨σ3,S2,_,E3,(rσ.mono g1).mono g2,HD,h2,(xo.mono g1).mono g2,fun x S3 x' H3 h3 Ng Kz g3=>by
  dsimp only at h3
  split at h3
  ·cases rv with
   |tup hq rs=>
    cases rw' with
    |tup hq2 MF=>
     cases Ng with
     |tup Pr Qy=>exact⟨_,_,_,rfl,⟨_,g3.t _ _ (g2.t _ _ hq)⟩,⟨_,g3.t _ _ hq2⟩,⟨_,Pr⟩,k _ S3 _ H3 h3.2.2 (wv (g3.t _ _ (g2.t _ _ hq)) (g3.t _ _ hq2) Pr ((rs.mono g2).mono g3) (MF.mono g3) Qy h3.1 h3.2.1) Kz ((g1.trans g2).trans g3)⟩
  ·exact h3.elim⟩⟩⟩⟩
end
end L3
namespace L2
open PySem PySem.Spec PyProof.Rows
def kJ:fillsNumberSlot (.type "tuple") "mul" = pure false:=
 PySem.fillsNumberSlot_seq (id:="tuple.__mul__") (r:=some (.builtin "tuple.__rmul__")) F.slot_tuple_mul.lookup (by decide +kernel) F.slot_tuple_rmul.lookup (by decide +kernel)
def oY:seqRepeat? (.type "tuple")=pure (some (.builtin "tuple.__mul__")):=by
 unfold seqRepeat?
 rw[PySem.seqSlot_of (T:="tuple") (name:="__mul__") (id:="tuple.__mul__") F.slot_tuple_mul.lookup (by decide +kernel),PySem.seqSlot_of (T:="tuple") (name:="__rmul__") (id:="tuple.__rmul__") F.slot_tuple_rmul.lookup (by decide +kernel)]
 rfl
def mw(a:Int)(t:Tok)(l:Addr)(its:Vw)(n:Nat)(dd:Option Addr)(sl:Array (Option Value)) :
  Meets (Builtin.«int.__rmul__» ⟨[.int a t,.ref l],[]⟩) (fun _ R s=>s.heap.get? l=some { cls:=.type "tuple",dict:=dd,data:=.seq its n,slots:=sl }/\R (.ok (.ret Value.notImplemented)) s):=
 .of_wp fun prog w A R s h=>by obtain⟨hp,g,d,tk,os⟩:=s;obtain⟨hl,h⟩:=h;wp_walk;exact⟨_,rfl,h⟩
def Dr(l:Addr)(x:Value)(n:Nat)(dd:Option Addr)(sl:Array (Option Value))(t:Tok) :
  Meets (Builtin.«tuple.__mul__» ⟨[.ref l,.int 1 t],[]⟩) (fun _ R s=>s.heap.get? l=some { cls:=.type "tuple",dict:=dd,data:=.seq #[x] n,slots:=sl }/\R (.ok (.ret (.ref l))) s):=
 .of_wp fun prog w A R s h=>by
  obtain⟨hp,g,d,tk,os⟩:=s;obtain⟨hl,h⟩:=h
  have t1:=AutoSeq1.idx_int
  wp_walk using wpAny_loadPart' hl
  exact⟨_,rfl,h⟩
def Ds(l:Addr)(x:Value)(n:Nat)(dd:Option Addr)(sl:Array (Option Value))(t:Tok) :
  Meets (Builtin.«tuple.__mul__» ⟨[.ref l,.int 0 t],[]⟩) (fun _ R s=>s.heap.get? l=some { cls:=.type "tuple",dict:=dd,data:=.seq #[x] n,slots:=sl }/\R (.ok (.ret (.ref s.heap.objs.size))) { s with heap:=s.heap.push { cls:=.type "tuple",data:=.seq #[] } }):=
 .of_wp fun prog w A R s h=>by
  obtain⟨hp,g,d,tk,os⟩:=s;obtain⟨hl,h⟩:=h
  have t1:=AutoSeq1.idx_int
  wp_walk using wpAny_loadPart' hl
  exact⟨_,rfl,h⟩
def tF(x:Value)(m:Nat):(List.replicate m (#[x]:Vw)).foldl (·++·) #[]=(List.replicate m x).toArray:=by
 have:=kw [x] m []
 rw[List.nil_append]at this
 refine this.trans ?_
 rw[List.flatten_replicate_singleton]
def Dt(l:Addr)(x:Value)(n:Nat)(dd:Option Addr)(sl:Array (Option Value))(k:Int)(t:Tok)(h2:2<=k)(hk:k<=2 ^ 20) :
  Meets (Builtin.«tuple.__mul__» ⟨[.ref l,.int k t],[]⟩) (fun _ R s=>s.heap.get? l=some { cls:=.type "tuple",dict:=dd,data:=.seq #[x] n,slots:=sl }/\R (.ok (.ret (.ref s.heap.objs.size))) { s with heap:=s.heap.push { cls:=.type "tuple",data:=.seq ((List.replicate k.toNat #[x]).foldl (·++·) #[]) } }):=
 .of_wp fun prog w A R s h=>by
  obtain⟨hp,g,d,tk,os⟩:=s;obtain⟨hl,h⟩:=h
  have t1:=AutoSeq1.idx_int
  have c1:¬((decide (k < -(2 ^ 63)) || decide (k>=2 ^ 63))=true):=by rw[Bool.or_eq_true,decide_eq_true_eq,decide_eq_true_eq];omega
  have c2:¬(((#[x]:Vw).isEmpty || k == 1)=true):=by
   have:(k == 1)=false:=by rw[beq_eq_false_iff_ne];omega
   rw[this];simp
  have c3:¬((decide (k<=0) || (#[x]:Vw).isEmpty)=true):=by
   have:decide (k<=0)=false:=decide_eq_false (by omega)
   rw[this];simp
  have c4:¬(((#[x]:Vw).size:Int) * k > (2 ^ 63 - 1) / 8):=by show ¬((1:Int) * k > _);omega
  have sl:(2:Int) ^ 20<=(sizeLine:Int):=by decide
  have c5:¬(Builtin.Tuple.tupleTooMany (((#[x]:Vw).size:Int) * k)=true):=by show ¬(decide ((1:Int) * k > (sizeLine:Int))=true);rw[decide_eq_true_eq];omega
  wp_walk using wpAny_loadPart' hl
  rw[if_neg c1]
  wp_walk using wpAny_loadPart' hl
  rw[if_neg c2]
  wp_walk using wpAny_loadPart' hl
  rw[if_neg c3]
  wp_walk using wpAny_loadPart' hl
  rw[if_neg c4]
  wp_walk using wpAny_loadPart' hl
  rw[if_neg c5]
  wp_walk using wpAny_loadPart' hl
  have c6:¬((List.replicate k.toNat (#[x]:Vw)).foldl (·++·) #[]).size > sizeLine:=by
   rw[tF,List.size_toArray,List.length_replicate];have:=Int.toNat_of_nonneg (show 0<=k by omega);omega
  rw[if_neg c6]
  wp_walk using wpAny_loadPart' hl
  exact⟨_,rfl,h⟩
section
variable {X:Cx}
def Du(H H':Hp):Prop:=∀c o,H c=some o->H' c=some o
def Dv(K:Vo):R2:=fun x y H Q=>∃l k x0,x = .ref l/\y = .int k/\SqT K H l [x0]/\0<=k/\k<=2 ^ 20/\∀r H',Du H H'->SqT K H' r (List.replicate k.toNat x0)->Q (.ref r) H'
def y3:jE X (binaryOp .Mult) (Dv X.K):=by
 intro pins s σ H x y v u Q I rx ry h
 obtain⟨l,k,x0,rfl,rfl,hH,h1,h2,q⟩:=h
 cases rx
 obtain⟨t,rfl⟩:=ry
 obtain⟨its,r1,p1,_⟩:=I.tuple hH
 obtain⟨w,rfl,Qz⟩:=r1.one
 obtain⟨⟨cls,dd,data,sl⟩,ho,hc,n,hd⟩:=id p1
 simp only at hc hd
 subst hc hd
 have new:∀(ys:List V) (us:Vv),Vals ys us->ys.length<=sizeLine->ys=List.replicate k.toNat x0->∃v H1,Inv X pins σ H1 { s with heap:=s.heap.push { cls:=.type "tuple",data:=.seq us.toArray } }/\RelV v (.ref s.heap.objs.size)/\Q v H1:=fun ys us r hz e=>
  ⟨.ref s.heap.objs.size,_,I.laid (t':=s.toks) (o:=.tup ys) (fun b ob q=>Heap.get?_push_of_some _ q) (Nat.le_refl _) ⟨hz,_,r,Gy.new _ _⟩,rfl,
   q _ _ (fun c o z=>by rw[aI (ba z (I.hok.fresh (Nat.le_refl _)))];exact z) (by rw[<-e];exact SqT.of aG)⟩
 refine wpAny_binaryOp_repeat_ref (T:="tuple") (U:="int") (by decide) ⟨_,ho,rfl⟩ (fun s'=>typeIs_int s' k t) kJ F.fills_int_mul F.slot_int_rmul oY F.slot_int_index.lookup
  (call_meets F.slot_int_rmul (typeIs_int s k t) F.entry_int_rmul (F.args_int_rmul_2 _ _) (mw k t l _ n dd sl) ⟨ho,rfl,⟨_,ho,rfl⟩,?_⟩)
 by_cases k0:k=0
 ·subst k0
  exact call_meets F.slot_tuple_mul ⟨_,ho,rfl⟩ F.entry_tuple_mul (F.args_tuple_mul_2 _ _) (Ds l w n dd sl t) ⟨ho,new [] [] .nil (Nat.zero_le _) rfl⟩
 by_cases k1:k=1
 ·subst k1
  exact call_meets F.slot_tuple_mul ⟨_,ho,rfl⟩ F.entry_tuple_mul (F.args_tuple_mul_2 _ _) (Dr l w n dd sl t) ⟨ho,⟨.ref l,H,I,rfl,q l H (fun _ _ e=>e) hH⟩⟩
 ·refine call_meets F.slot_tuple_mul ⟨_,ho,rfl⟩ F.entry_tuple_mul (F.args_tuple_mul_2 _ _) (Dt l w n dd sl k t (by omega) h2) ⟨ho,?_⟩
  rw[tF]
  have hz:(2:Nat) ^ 20<=sizeLine:=by decide
  have e:∀m:Nat,Vals (List.replicate m x0) (List.replicate m w):=fun m=>by
   induction m with
   |zero=>exact .nil
   |succ m ih=>rw[List.replicate_succ,List.replicate_succ];exact .cons Qz ih
  exact new _ _ (e k.toNat) (by rw[List.length_replicate];omega) rfl
end
end L2
namespace L3
open PySem L2
section
variable {X:Cx}
def qt:R3:=fun x y S Q=>match x,y with
 | .tup [v],.int k=>0<=k/\k<=2 ^ 20/\Q (.tup (List.replicate k.toNat v)) S
 |_,_=>False
def tG:ko X (binaryOp .Mult) qt:=⟨fun pins s σ H x y v u Q I rx ry ⟨px,py,S,Q3,r1,r2,rS,q,k⟩=>by
 unfold qt at q
 split at q
 ·cases r2
  cases r1 with
  |tup hq rs=>
   cases rs with
   |cons r0 rn=>
    cases rn
    refine y3 pins s σ H _ _ v u Q I rx ry ⟨_,_,_,rfl,rfl,hq,q.1,q.2.1,fun r H' hh hr=>k _ S _ H' q.2.2 (.tup hr ?_) (rS.grow hh) (.same hh)⟩
    have e:∀m:Nat,Reps X.K H (List.replicate m _) (List.replicate m _):=fun m=>by
     induction m with
     |zero=>exact .nil
     |succ m ih=>rw[List.replicate_succ,List.replicate_succ];exact .cons r0 ih
    exact(e _).mono (.same hh)
 ·exact q.elim⟩
end
end L3
namespace C
open PySem L2 L3
def jk:bF:=(aw (ay [(ay [(c3 (.int 0)),(c3 (.int 1))]),(af qt (ay [(c3 (.int 0))]) (ao cr [(v3 0)])),(af qt (ay [(c3 (.int 0))]) (ao cr [(v3 0)]))]))
def mx(L6 MG:ax):bF:=(ah (au 2 (aF (ww (af ae (v3 0) (c3 (.int 1))) (af ae (v3 0) (c3 (.int 2))) (af ae (v3 1) (c3 (.int 2)))) (.tp (.cons (.n 0) (.cons (.n 1) (.cons (.n 2) .nil)))) bm (ao gY [(v3 1),(af bR (v3 2) (v3 0))]) 3 []))
  (aw (ay [(ab MG [(af ae (v3 0) (c3 (.int 0))),(af ae (v3 1) (c3 (.int 0)))]),(ab L6 [(af ae (v3 0) (c3 (.int 1))),(af ae (v3 1) (c3 (.int 1)))]),(ao bh [(v3 2)])])))
def b_(IK I9 L7 s0 s1:ax):bF:=(ah (au 3 (ab IK [(v3 0)]))
  (ah (bM (aD (v3 2)) (.n 4) (au 3 (ab I9 [(v3 3),(ab L7 [(ab s1 [(v3 0),(af ae (v3 1) (c3 (.int 1))),(af ae (v3 4) (c3 (.int 1)))]),(af ae (v3 4) (c3 (.int 0)))])])))
  (aw (v3 3))))
def fY(IK HC I9 Ly JD s0 s1:ax):bF:=(ah (au 3 (af ae (v3 1) (c3 (.int 0))))
  (ah (au 4 (ab IK [(v3 0)]))
  (ah (bg (aO (af (a_ false) (v3 3) (c3 (.str "pay")))) (aw (ay [(af ae (v3 1) (c3 (.int 1))),(af ae (v3 4) (c3 (.int 1))),(af ae (v3 4) (c3 (.int 2)))])) aN)
  (ah (bg (aO (af (a_ false) (v3 3) (c3 (.str "put")))) (aw (ay [(af ae (v3 4) (c3 (.int 0))),(ab HC [(v3 0),(af ae (v3 1) (c3 (.int 1))),(af ae (v3 1) (c3 (.int 2)))]),(af ae (v3 4) (c3 (.int 2)))])) aN)
  (ah (bg (aO (af (a_ false) (v3 3) (c3 (.str "then")))) (aw (ab I9 [(ab s1 [(v3 0),(af ae (v3 1) (c3 (.int 1))),(af ae (v3 2) (c3 (.int 0)))]),(ab s1 [(v3 0),(af ae (v3 1) (c3 (.int 2))),(af ae (v3 2) (c3 (.int 1)))])])) aN)
  (ah (bg (aO (af (a_ false) (v3 3) (c3 (.str "often")))) (aw (ab s0 [(v3 0),(v3 1),(v3 2)])) aN)
  (ah (bg (aO (af (jF true) (v3 3) (ay [(c3 (.str "either")),(c3 (.str "take"))]))) (aw (v3 4)) aN)
  (ah (au 5 (ab s1 [(v3 0),(ab Ly [(v3 1),(v3 2)]),(af ae (v3 2) (c3 (.int 1)))]))
  (ah (bg (jJ (aO (af (a_ false) (v3 3) (c3 (.str "take")))) (aO (af (a_ false) (af ae (v3 2) (c3 (.int 0))) (c3 (.int 0))))) (aw (ab I9 [(ab JD [(v3 0),(v3 1)]),(v3 5)])) aN)
  (aw (v3 5)))))))))))
end C
namespace Zv
open PySem
open Sem (wp)
abbrev xW(h:Heap)(n:Nat)(f0 f1:Value):Prop:=h.get? (n+4:Nat)=some { cls:=.type "zip",dict:=none,data:=.fields #[f0,f1,.bool false,.ref (n+2:Nat),.ref (n+3:Nat)],slots:=#[] }
section
variable {prog:Program} {w:World} {A:Around} {E:Vq} {s:Shared} {n l1 l2:Nat} {i:Nat} {xs ys:Vw} {x y:Value} {T:Nat} {oT:Obj} {f1:Value}
def FS{M:Model}{a:Nat}{Q:Option Obj->Shared->Prop}(h:Q (s.heap.get? a) s):wpAny M A (loadIfAlive a) Q E s:=fun Γ p _=>h
def tH{Q:Bool->Shared->Prop}(gz:xW s.heap n (rawInt T) f1)(aT:s.heap.get? T=some oT)(hf:f1 = .bool false\/f1 = .bool true)
  (k:∀g,xW g n (rawInt T) (.bool true)->(∀c o,c≠n+4->s.heap.get? c=some o->g.get? c=some o)->g.objs.size=s.heap.objs.size->Q false { s with heap:=g }) :
  wpAny (model prog w) A (Builtin.SmallTypes.ownedTupleIsFree (.ref (n+4:Nat))) Q E s:=by
 unfold Builtin.SmallTypes.ownedTupleIsFree
 refine wpAny_bind (wpAny_field gz rfl (x:=rawInt T) rfl ?_)
 show wpAny _ _ (loadIfAlive ((T:Int).toNat) >>= _) _ _ _
 refine wpAny_bind (FS ?_)
 rw[Int.toNat_natCast,aT]
 show wpAny _ _ (field (.ref (n+4:Nat)) 1 >>= _) _ _ _
 refine wpAny_bind (wpAny_field gz rfl (x:=f1) rfl ?_)
 rcases hf with rfl|rfl
 ·show wpAny _ _ (setField (.ref (n+4:Nat)) 1 (.bool true) >>= _) _ _ _
  exact wpAny_bind (wpAny_setField_rec gz (by simp) fun g z1 q1=>wpAny_pure (k g z1 (fun c o c1 e=>q1.extBut _ _ c1 e) q1.1))
 ·show wpAny _ _ (pure false) _ _ _
  exact wpAny_pure (k s.heap gz (fun _ _ _ e=>e) rfl)
def FT{Q:Vq}(d1:l1 < n)(d2:l2 < n)(gz:xW s.heap n (rawInt T) f1)(gI:IsPair s.heap (n+2:Nat) (.ref n) (.ref (n+1:Nat)))(aT:s.heap.get? T=some oT)(hf:f1 = .bool false\/f1 = .bool true)
  (g1:s.heap.IsListIter n l1 i) (g2:s.heap.IsListIter (n+1:Nat) l2 i) (t1:s.heap.IsList l1 xs) (t2:s.heap.IsList l2 ys) (hx:xs[i]?=some x) (hy:ys[i]?=some y)
  (k:∀g,xW g n (rawInt T) (.bool true)->g.IsListIter n l1 (i+1)->g.IsListIter (n+1:Nat) l2 (i+1)->IsPair g s.heap.objs.size x y->g.objs.size=s.heap.objs.size+1->
   (∀c o,c≠n+4->c≠n->c≠n+1->s.heap.get? c=some o->g.get? c=some o)->Q (.ref s.heap.objs.size) { s with heap:=g }) :
  wpAny (model prog w) A (Builtin.«zip.__next__» ⟨[.ref (n+4:Nat)],[]⟩) (fun fin s'=>∃v,fin = .done (.ret v)/\Q v s') E s:=by
 show wpAny _ _ (field (.ref (n+4:Nat)) 2 >>= _) _ _ _;refine wpAny_bind (wpAny_field gz rfl (x:=.bool false) rfl ?_)
 show wpAny _ _ (field (.ref (n+4:Nat)) 3 >>= _) _ _ _;refine wpAny_bind (wpAny_field gz rfl (x:=.ref (n+2:Nat)) rfl (wpAny_bind (wpAny_seqItems gI rfl ?_)))
 show wpAny _ _ (Builtin.SmallTypes.ownedTupleIsFree (.ref (n+4:Nat)) >>= _) _ _ _
 refine wpAny_bind (tH gz aT hf fun h₁ z1 q1 Mh=>?_)
 simp only[Bool.false_eq_true,if_false]
 simp only[<-Array.forIn_toList,List.forIn_cons,List.forIn_nil]
 have Os:h₁.IsListIter n l1 i:=g1.at fun o e=>q1 _ o (by omega) e
 have QA:h₁.IsListIter (n+1:Nat) l2 i:=g2.at fun o e=>q1 _ o (by omega) e
 have t1':h₁.IsList l1 xs:=t1.at fun o e=>q1 _ o (by omega) e
 have QB:h₁.IsList l2 ys:=t2.at fun o e=>q1 _ o (by omega) e
 refine wpAny_bind (wpAny_bind (wpAny_bind (wpAny_holding ?_)))
 show wpAny _ _ (Builtin.SmallTypes.nextOf (.ref n) >>= _) _ _ _
 refine wpAny_bind (wpAny_nextOf_list_item Os t1' hx fun h₂ n1 q2=>wpAny_pure ?_)
 have Ot:h₂.IsListIter (n+1:Nat) l2 i:=QA.extBut q2.extBut (Zu.nn (by omega))
 have Ou:h₂.IsList l2 ys:=QB.extBut q2.extBut (Zu.nn (by omega))
 refine wpAny_pure ?_
 refine wpAny_bind (wpAny_bind (wpAny_holding ?_))
 show wpAny _ _ (Builtin.SmallTypes.nextOf (.ref (n+1:Nat)) >>= _) _ _ _
 refine wpAny_bind (wpAny_nextOf_list_item Ot Ou hy fun h₃ n2 q3=>wpAny_pure ?_)
 refine wpAny_pure (wpAny_pure ?_)
 show wpAny _ _ (newTuple [x,y] >>= _) _ _ _
 refine wpAny_bind (wpAny_newTuple (wpAny_pure ⟨_,rfl,?_⟩))
 have sz:h₃.objs.size=s.heap.objs.size:=by rw[q3.1,q2.1,Mh]
 have kk:∀c o,c≠n+4->c≠n->c≠n+1->s.heap.get? c=some o->h₃.get? c=some o:=fun c o c1 c2 c3 e=>q3.extBut _ _ c3 (q2.extBut _ _ c2 (q1 c o c1 e))
 have z3:xW h₃ n (rawInt T) (.bool true):=q3.extBut _ _ (Zu.nn (by omega)) (q2.extBut _ _ (Zu.nn (by omega)) z1)
 have m1:h₃.IsListIter n l1 (i+1):=n1.extBut q3.extBut (Zu.nn (by omega))
 have T8:IsPair (h₃.push { cls:=.type "tuple",data:=.seq #[x,y] }) h₃.objs.size x y:=Heap.get?_push_size _ rfl
 rw[sz]at T8
 show Q (.ref h₃.objs.size) _
 rw[sz]
 exact k _ (Heap.get?_push_of_some _ z3) (m1.at fun o e=>Heap.get?_push_of_some _ e) (n2.at fun o e=>Heap.get?_push_of_some _ e) T8 (by rw[Heap.size_push,sz]) fun c o c1 c2 c3 e=>Heap.get?_push_of_some _ (kk c o c1 c2 c3 e)
def Fe{Q:Fin->Shared->Prop}(hh:A.handled=none)(d1:l1 < n)(gz:xW s.heap n (rawInt T) f1)(gI:IsPair s.heap (n+2:Nat) (.ref n) (.ref (n+1:Nat)))(aT:s.heap.get? T=some oT)(hf:f1 = .bool false\/f1 = .bool true)
  (g1:s.heap.IsListIter n l1 i) (t1:s.heap.IsList l1 xs) (hx:xs[i]?=none)
  (k:∀(g:Heap) (e:Addr),(∀c o,c≠n+4->c≠n->s.heap.get? c=some o->g.get? c=some o)->(∃o,g.get? e=some o/\o.cls = .type "StopIteration")->E (.ref e) { s with heap:=g }) :
  wpAny (model prog w) A (Builtin.«zip.__next__» ⟨[.ref (n+4:Nat)],[]⟩) Q E s:=by
 show wpAny _ _ (field (.ref (n+4:Nat)) 2 >>= _) _ _ _;refine wpAny_bind (wpAny_field gz rfl (x:=.bool false) rfl ?_)
 show wpAny _ _ (field (.ref (n+4:Nat)) 3 >>= _) _ _ _;refine wpAny_bind (wpAny_field gz rfl (x:=.ref (n+2:Nat)) rfl (wpAny_bind (wpAny_seqItems gI rfl ?_)))
 show wpAny _ _ (Builtin.SmallTypes.ownedTupleIsFree (.ref (n+4:Nat)) >>= _) _ _ _
 refine wpAny_bind (tH gz aT hf fun h₁ z1 q1 Mh=>?_)
 simp only[Bool.false_eq_true,if_false]
 simp only[<-Array.forIn_toList,List.forIn_cons,List.forIn_nil]
 have Os:h₁.IsListIter n l1 i:=g1.at fun o e=>q1 _ o (by omega) e
 have t1':h₁.IsList l1 xs:=t1.at fun o e=>q1 _ o (by omega) e
 refine wpAny_bind (wpAny_bind (wpAny_bind (wpAny_holding ?_)))
 show wpAny _ _ (Builtin.SmallTypes.nextOf (.ref n) >>= _) _ _ _
 exact wpAny_bind (wpAny_nextOf_list_end hh Os t1' hx fun h₂ e q2 he=>k h₂ e (fun c o c1 c2 u=>q2 _ _ c2 (q1 c o c1 u)) he)
def Dw{Q:Option Value->Shared->Prop}(d1:l1 < n)(d2:l2 < n)(gz:xW s.heap n (rawInt T) f1)(gI:IsPair s.heap (n+2:Nat) (.ref n) (.ref (n+1:Nat)))(aT:s.heap.get? T=some oT)(hf:f1 = .bool false\/f1 = .bool true)
  (g1:s.heap.IsListIter n l1 i) (g2:s.heap.IsListIter (n+1:Nat) l2 i) (t1:s.heap.IsList l1 xs) (t2:s.heap.IsList l2 ys) (hx:xs[i]?=some x) (hy:ys[i]?=some y)
  (k:∀g,xW g n (rawInt T) (.bool true)->g.IsListIter n l1 (i+1)->g.IsListIter (n+1:Nat) l2 (i+1)->IsPair g s.heap.objs.size x y->g.objs.size=s.heap.objs.size+1->
   (∀c o,c≠n+4->c≠n->c≠n+1->s.heap.get? c=some o->g.get? c=some o)->Q (some (.ref s.heap.objs.size)) { s with heap:=g }) :
  wpAny (model prog w) A (pyNext (.ref (n+4:Nat))) Q E s:=by
 have ty:s.TypeIs (.ref (n+4:Nat)) "zip":=⟨_,gz,rfl⟩
 unfold pyNext
 exact wpAny_bind (wpAny_attempt (wpAny_callSpecial?_slot (name:=Str.ofString "__next__") ty F.slot_zip_next (wpAny_call_entry F.slot_zip_next ty F.entry_zip_next
  (FT d1 d2 gz gI aT hf g1 g2 t1 t2 hx hy fun g a1 a2 a3 a4 a5 a6=>wpAny_pure (k g a1 a2 a3 a4 a5 a6)) (F.args_zip_next_1 _))))
def uI{Q:Option Value->Shared->Prop}(hh:A.handled=none)(d1:l1 < n)(gz:xW s.heap n (rawInt T) f1)(gI:IsPair s.heap (n+2:Nat) (.ref n) (.ref (n+1:Nat)))(aT:s.heap.get? T=some oT)(hf:f1 = .bool false\/f1 = .bool true)
  (g1:s.heap.IsListIter n l1 i) (t1:s.heap.IsList l1 xs) (hx:xs[i]?=none)
  (k:∀g:Heap,(∀c o,c≠n+4->c≠n->s.heap.get? c=some o->g.get? c=some o)->Q none { s with heap:=g }):wpAny (model prog w) A (pyNext (.ref (n+4:Nat))) Q E s:=by
 have ty:s.TypeIs (.ref (n+4:Nat)) "zip":=⟨_,gz,rfl⟩
 unfold pyNext
 refine wpAny_bind (wpAny_attempt (wpAny_callSpecial?_slot (name:=Str.ofString "__next__") ty F.slot_zip_next (wpAny_call_entry F.slot_zip_next ty F.entry_zip_next (Fe hh d1 gz gI aT hf g1 t1 hx fun g e kk ⟨o,ho,hc⟩=>?_) (F.args_zip_next_1 _))))
 exact wpAny_bind (wpAny_isInstance (T:="StopIteration") (b:=true) ⟨o,ho,hc⟩ isSubtype_stop (wpAny_pure (k _ kk)))
end
noncomputable def fZ(n i:Nat):List Value:=(List.range i).map fun j=>Value.ref (n+6+j:Nat)
structure St (h:Heap) (n l1 l2:Nat) (xs ys:Vw) (i:Nat):Prop where
 sz:h.objs.size=n+6+i
 I:IsPair h (n+2:Nat) (.ref n) (.ref (n+1:Nat))
 z:∃f1,(f1 = .bool false\/f1 = .bool true)/\xW h n (rawInt (n+6:Nat)) f1
 g1:h.IsListIter n l1 i
 g2:h.IsListIter (n+1:Nat) l2 i
 t1:h.IsList l1 xs
 t2:h.IsList l2 ys
 S:∃c,h.get? (n+5:Nat)=some { cls:=.type "list",dict:=none,data:=.seq (fZ n i).toArray c,slots:=#[] }
 its:∀j x y,j < i->xs[j]?=some x->ys[j]?=some y->IsPair h (n+6+j:Nat) x y
def uJ(n i:Nat):(fZ n i).toArray.push (.ref (n+6+i:Nat))=(fZ n (i+1)).toArray:=by
 unfold fZ
 rw[List.range_succ,List.map_append]
 simp
structure En (h:Heap) (n:Nat) (xs ys:Vw):Prop where
 sz:n+6+xs.size<=h.objs.size
 S:∃c,h.get? (n+5:Nat)=some { cls:=.type "list",dict:=none,data:=.seq (fZ n xs.size).toArray c,slots:=#[] }
 its:∀j x y,xs[j]?=some x->ys[j]?=some y->IsPair h (n+6+j:Nat) x y
section
variable {prog:Program} {w:World} {A:Around} {R:Result->Shared->Prop} {n l1 l2:Nat} {xs ys:Vw}
def loop(hh:A.in1.handled=none)(d1:l1 < n)(d2:l2 < n)(hxy:xs.size=ys.size)(hz:xs.size<=sizeLine)(res:Value) :
  ∀(k i:Nat) (s:Shared),xs.size - i=k->1<=i->i<=xs.size->St s.heap n l1 l2 xs ys i->
  (∀g,En g n xs ys->(∀b o,b < n->s.heap.get? b=some o->g.get? b=some o)->R (.ok (.ret res)) { s with heap:=g })->
  codeAny (model prog w) A (.builtin "list.extend.loop" ⟨[.ref (n+5:Nat),.ref (n+4:Nat),res],[]⟩) R s:=by
 intro k
 induction k with
 |zero=>
  intro i s hk hi hle st hR
  have hin:i=xs.size:=by omega
  subst hin
  refine codeAny_builtin F.entry_extend_loop ?_
  rw[Around.under_plainId F.plain_extend_loop _]
  show wpAny _ A.in1 (pyNext (.ref (n+4:Nat)) >>= _) _ _ s
  obtain⟨f1,hf,gz⟩:=st.z
  obtain⟨c,hS⟩:=st.S
  have h0:0 < xs.size:=by omega
  have aT:=st.its 0 (xs[0]'h0) (ys[0]'(by omega)) h0 (Array.getElem?_eq_getElem h0) (Array.getElem?_eq_getElem (by omega))
  have h1:xs.size - 1 < xs.size:=by omega
  have aL:=st.its (xs.size - 1) (xs[xs.size - 1]'h1) (ys[xs.size - 1]'(by omega)) h1 (Array.getElem?_eq_getElem h1) (Array.getElem?_eq_getElem (by omega))
  refine wpAny_bind (uI hh d1 gz st.I aT hf st.g1 st.t1 (Array.getElem?_eq_none (Nat.le_refl _)) fun g kk=>?_)
  refine wpAny_pure (hR g ⟨?_,⟨c,kk _ _ (by omega) (by omega) hS⟩,fun j x y hx hy=>kk _ _ (by omega) (by omega) (st.its j x y (Array.getElem?_eq_some_iff.mp hx).1 hx hy)⟩ fun b o hb e=>kk _ _ (by omega) (by omega) e)
  have h2:n+6+(xs.size - 1) < g.objs.size:=Heap.lt_size (kk _ _ (by omega) (by omega) aL)
  omega
 |succ k ih=>
  intro i s hk hi hle st hR
  have hlt:i < xs.size:=by omega
  refine codeAny_builtin F.entry_extend_loop ?_
  rw[Around.under_plainId F.plain_extend_loop _]
  show wpAny _ A.in1 (pyNext (.ref (n+4:Nat)) >>= _) _ _ s
  obtain⟨f1,hf,gz⟩:=st.z
  obtain⟨c,hS⟩:=st.S
  have h0:0 < xs.size:=by omega
  have aT:=st.its 0 (xs[0]'h0) (ys[0]'(by omega)) (by omega) (Array.getElem?_eq_getElem h0) (Array.getElem?_eq_getElem (by omega))
  refine wpAny_bind (Dw d1 d2 gz st.I aT hf st.g1 st.g2 st.t1 st.t2 (x:=xs[i]) (y:=ys[i]'(by omega)) (Array.getElem?_eq_getElem hlt) (Array.getElem?_eq_getElem (by omega)) fun g z1 m1 m2 p1 Mh kk=>?_)
  have S1:=kk _ _ (by omega) (by omega) (by omega) hS
  have Nh:s.heap.objs.size=n+6+i:=st.sz
  rw[Nh]at p1 Mh
  show wpAny _ A.in1 (updateSeq (n+5:Nat) (·.push (.ref s.heap.objs.size)) >>= _) _ _ _
  refine wpAny_bind ?_
  rw[Nh]
  have len:(fZ n i).toArray.size=i:=by unfold fZ;simp
  have IF:∀b o,b≠n+5->g.get? b=some o->(g.update (n+5:Nat) (Obj.mapSeq (·.push (.ref (n+6+i:Nat))))).get? b=some o:=fun b o hb e=>(Heap.get?_update_other _ _ (Ne.symm hb)).trans e
  have S2:=Heap.get?_update_self (Obj.mapSeq (·.push (Value.ref (n+6+i:Nat)))) S1 rfl
  refine wpAny_updateSeq S1 rfl (wpAny_pure ⟨plainId_quiet F.plain_extend_loop _,ih (i+1) _ (by omega) (by omega) (by omega) ⟨?_,IF _ _ (by omega) (kk _ _ (by omega) (by omega) (by omega) st.I),⟨.bool true,.inr rfl,IF _ _ (by omega) z1⟩,m1.at fun o e=>IF _ _ (by omega) e,m2.at fun o e=>IF _ _ (by omega) e,(st.t1.at fun o e=>kk _ _ (by omega) (by omega) (by omega) e).at fun o e=>IF _ _ (by omega) e,(st.t2.at fun o e=>kk _ _ (by omega) (by omega) (by omega) e).at fun o e=>IF _ _ (by omega) e,?_,?_⟩ fun g' st' Ni=>?_⟩) (by rw[len];omega) (by show((fZ n i).toArray.push _).size<=sizeLine+1;rw[Array.size_push,len];omega)
  ·show(g.update _ _).objs.size=_
   rw[Heap.size_update,Mh]
   omega
  ·rw[<-uJ]
   exact⟨_,S2⟩
  ·intro j x y hj hx hy
   by_cases e:j=i
   ·subst e
    rw[Array.getElem?_eq_getElem hlt]at hx
    rw[Array.getElem?_eq_getElem (by omega)]at hy
    cases hx;cases hy
    exact IF _ _ (by omega) p1
   ·exact IF _ _ (by omega) (kk _ _ (by omega) (by omega) (by omega) (st.its j x y (by omega) hx hy))
  ·exact hR g' st' fun b o hb e=>Ni b o hb (IF _ _ (by omega) (kk _ _ (by omega) (by omega) (by omega) e))
def first(hh:A.in1.handled=none)(d1:l1 < n)(d2:l2 < n)(hxy:xs.size=ys.size)(h1:1<=xs.size)(hz:xs.size<=sizeLine)(res:Value)(s:Shared)(c:Nat)(sz:s.heap.objs.size=n+6)
  (gz:IsZip s.heap (n+4:Nat) (n+2:Nat) (n+3:Nat) .none) (gI:IsPair s.heap (n+2:Nat) (.ref n) (.ref (n+1:Nat))) (gO:IsPair s.heap (n+3:Nat) .none .none) (g1:s.heap.IsListIter n l1 0) (g2:s.heap.IsListIter (n+1:Nat) l2 0) (t1:s.heap.IsList l1 xs) (t2:s.heap.IsList l2 ys)
  (hS:s.heap.get? (n+5:Nat)=some { cls:=.type "list",dict:=none,data:=.seq #[] c,slots:=#[] })
  (hR:∀g,En g n xs ys->(∀b o,b < n->s.heap.get? b=some o->g.get? b=some o)->R (.ok (.ret res)) { s with heap:=g }) :
  codeAny (model prog w) A (.builtin "list.extend.loop" ⟨[.ref (n+5:Nat),.ref (n+4:Nat),res],[]⟩) R s:=by
 refine codeAny_builtin F.entry_extend_loop ?_
 rw[Around.under_plainId F.plain_extend_loop _]
 show wpAny _ A.in1 (pyNext (.ref (n+4:Nat)) >>= _) _ _ s
 have h0:0 < xs.size:=by omega
 refine wpAny_bind (wpAny_pyNext_zip_item (PyProof.Rows.zipApart_new d1 d2) gz gI gO g1 g2 t1 t2 (x:=xs[0]'h0) (y:=ys[0]'(by omega)) (Array.getElem?_eq_getElem h0) (Array.getElem?_eq_getElem (by omega)) fun g z1 o1 m1 m2 p1 Mh kk=>?_)
 have S1:=kk _ _ (Zu.nn (by omega)) (Zu.nn (by omega)) (Zu.nn (by omega)) (Zu.nn (by omega)) hS
 rw[sz]at p1 Mh z1
 show wpAny _ A.in1 (updateSeq (n+5:Nat) (·.push (.ref s.heap.objs.size)) >>= _) _ _ _
 refine wpAny_bind ?_
 rw[sz]
 have IF:∀b o,b≠n+5->g.get? b=some o->(g.update (n+5:Nat) (Obj.mapSeq (·.push (.ref (n+6:Nat))))).get? b=some o:=fun b o hb e=>(Heap.get?_update_other _ _ (Ne.symm hb)).trans e
 have S2:=Heap.get?_update_self (Obj.mapSeq (·.push (Value.ref (n+6:Nat)))) S1 rfl
 have kb:∀b o,b < n->s.heap.get? b=some o->(g.update (n+5:Nat) (Obj.mapSeq (·.push (.ref (n+6:Nat))))).get? b=some o:=fun b o hb e=>IF _ _ (by omega) (kk b o (Zu.nn (by omega)) (Zu.nn (by omega)) (Zu.nn (by omega)) (Zu.nn (by omega)) e)
 refine wpAny_updateSeq S1 rfl (wpAny_pure ⟨plainId_quiet F.plain_extend_loop _,loop hh d1 d2 hxy hz res (xs.size - 1) 1 _ rfl (Nat.le_refl _) h1 ⟨?_,IF _ _ (by omega) (kk _ _ (Zu.nn (by omega)) (Zu.nn (by omega)) (Zu.nn (by omega)) (Zu.nn (by omega)) gI),⟨.bool false,.inl rfl,IF _ _ (by omega) z1⟩,m1.at fun o e=>IF _ _ (by omega) e,m2.at fun o e=>IF _ _ (by omega) e,t1.at fun o e=>kb _ _ d1 e,t2.at fun o e=>kb _ _ d2 e,⟨_,S2⟩,?_⟩ fun g' st' Ni=>?_⟩) (by show 0<=sizeLine;omega) (by show 1<=sizeLine+1;omega)
 ·show(g.update _ _).objs.size=_
  rw[Heap.size_update,Mh]
 ·intro j x y hj hx hy
  have e:j=0:=by omega
  subst e
  rw[Array.getElem?_eq_getElem h0]at hx
  rw[Array.getElem?_eq_getElem (by omega)]at hy
  cases hx;cases hy
  exact IF _ _ (by omega) p1
 ·exact hR g' st' fun b o hb e=>Ni b o hb (kb b o hb e)
end
def sj:typeLookup (.type "zip") "__len__" = pure none:=by rw[typeLookup_type,builtinLookup_eq_fast];kernel_rfl
def qu:typeLookup (.type "zip") "__length_hint__" = pure none:=by rw[typeLookup_type,builtinLookup_eq_fast];kernel_rfl
section
variable {prog:Program} {w:World} {A:Around} {E:Vq} {s:Shared} {n l1 l2:Nat} {xs ys:Vw}
def qv{Q:List Value->Shared->Prop}(hh:A.handled=none)(d1:l1 < n)(d2:l2 < n)(hxy:xs.size=ys.size)(h1:1<=xs.size)(hz:xs.size<=sizeLine)(sz:s.heap.objs.size=n+5)
  (gz:IsZip s.heap (n+4:Nat) (n+2:Nat) (n+3:Nat) .none) (gI:IsPair s.heap (n+2:Nat) (.ref n) (.ref (n+1:Nat))) (gO:IsPair s.heap (n+3:Nat) .none .none) (g1:s.heap.IsListIter n l1 0) (g2:s.heap.IsListIter (n+1:Nat) l2 0) (t1:s.heap.IsList l1 xs) (t2:s.heap.IsList l2 ys)
  (hQ:∀g,En g n xs ys->(∀b o,b < n->s.heap.get? b=some o->g.get? b=some o)->Q (fZ n xs.size) { s with heap:=g }):wpAny (model prog w) A (collect (.ref (n+4:Nat))) Q E s:=by
 unfold collect
 refine wpAny_bind (wpAny_runValue (codeAny_builtin F.entry_proto_collect ?_))
 rw[Around.under_plainId F.plain_proto_collect _]
 show wpAny _ A.in1 (newList [] >>= fun l=>again (.builtin "list.__iadd__" ⟨[l,.ref (n+4:Nat)],[]⟩)) _ _ s
 refine wpAny_bind (wpAny_newObj_type ?_)
 refine wpAny_pure ⟨plainId_quiet F.plain_list_iadd _,codeAny_builtin F.entry_list_iadd ?_⟩
 rw[Around.under_plainId F.plain_list_iadd _]
 show wpAny _ A.in1 (Builtin.List.listExtendWith (.ref s.heap.objs.size) (.ref (n+4:Nat)) (.ref s.heap.objs.size)) _ _ _
 unfold Builtin.List.listExtendWith
 have p:∀{b:Nat} {o:Obj},s.heap.get? b=some o->(s.heap.push { cls:=.type "list",data:=.seq ([]:Vv).toArray }).get? b=some o:=fun e=>Heap.get?_push_of_some _ e
 have hT:Shared.TypeIs { s with heap:=s.heap.push { cls:=.type "list",data:=.seq ([]:Vv).toArray } } (.ref (n+4:Nat)) "zip":=⟨_,p gz,rfl⟩
 refine wpAny_bind (wpAny_typeOf hT ?_)
 have e1:Builtin.List.listSameRef (.ref s.heap.objs.size) (.ref (n+4:Nat))=false:=by rw[sz];simp[Builtin.List.listSameRef]
 have e2:(Value.type "zip" == Value.type "list")=false:=by decide
 have e3:(Value.type "zip" == Value.type "tuple")=false:=by decide
 simp only[e1,e2,e3,Bool.or_false,Bool.false_eq_true,if_false]
 refine wpAny_bind (wpAny_pyIter_zip (s:={ s with heap:=s.heap.push { cls:=.type "list",data:=.seq ([]:Vv).toArray } }) (p gz) ?_)
 refine wpAny_bind (wpAny_holding ?_)
 unfold Builtin.List.listLengthHint
 refine wpAny_bind (wpAny_specialOf hT sj ?_)
 show wpAny _ A.in1 (specialOf (Value.ref (n+4:Nat)) (Str.ofString "__length_hint__") >>= _) _ _ _
 refine wpAny_bind (wpAny_specialOf hT qu ?_)
 refine wpAny_pure ?_
 show wpAny _ A.in1 (rule "list.extend.makes-room" >>= fun _=>Builtin.List.listTouch (.ref s.heap.objs.size) >>= fun _=>
  again (.builtin "list.extend.loop" ⟨[.ref s.heap.objs.size,.ref (n+4:Nat),.ref s.heap.objs.size],[]⟩)) _ _ _
 refine wpAny_bind (wpAny_rule ?_)
 have Ps:(s.heap.push { cls:=.type "list",data:=.seq ([]:Vv).toArray }).get? s.heap.objs.size=some { cls:=.type "list",data:=.seq ([]:Vv).toArray }:=Heap.get?_push_size _ rfl
 refine wpAny_bind ?_
 show wpAny _ A.in1 (updateSeq s.heap.objs.size (·.push .none) >>= fun _=>updateSeq s.heap.objs.size (·.pop)) _ _ _
 refine wpAny_bind (wpAny_updateSeq Ps rfl ?_)
 have NC:=Heap.get?_update_self (Obj.mapSeq (·.push Value.none)) Ps rfl
 refine wpAny_updateSeq NC rfl ?_
 have Ov:=Heap.get?_update_self (Obj.mapSeq (·.pop)) NC rfl
 have IF:∀b o,b≠s.heap.objs.size->(s.heap.push { cls:=.type "list",data:=.seq ([]:Vv).toArray }).get? b=some o->
   (((s.heap.push { cls:=.type "list",data:=.seq ([]:Vv).toArray }).update s.heap.objs.size (Obj.mapSeq (·.push Value.none))).update s.heap.objs.size (Obj.mapSeq (·.pop))).get? b=some o:=
  fun b o hb e=>(Heap.get?_update_other _ _ (Ne.symm hb)).trans ((Heap.get?_update_other _ _ (Ne.symm hb)).trans e)
 have q:∀{b:Nat} {o:Obj},s.heap.get? b=some o->(((s.heap.push { cls:=.type "list",data:=.seq ([]:Vv).toArray }).update s.heap.objs.size (Obj.mapSeq (·.push Value.none))).update s.heap.objs.size (Obj.mapSeq (·.pop))).get? b=some o:=
  fun{b o} e=>IF b o (Nat.ne_of_lt (Heap.lt_size e)) (p e)
 have Pt:(((s.heap.push { cls:=.type "list",data:=.seq ([]:Vv).toArray }).update s.heap.objs.size (Obj.mapSeq (·.push Value.none))).update s.heap.objs.size (Obj.mapSeq (·.pop))).objs.size=n+6:=by
  rw[Heap.size_update,Heap.size_update,Heap.size_push,sz]
 show wpAny _ A.in1 (again (.builtin "list.extend.loop" ⟨[.ref s.heap.objs.size,.ref (n+4:Nat),.ref s.heap.objs.size],[]⟩)) _ _ { s with heap:=(((s.heap.push { cls:=.type "list",data:=.seq ([]:Vv).toArray }).update s.heap.objs.size (Obj.mapSeq (·.push Value.none))).update s.heap.objs.size (Obj.mapSeq (·.pop))) }
 generalize (((s.heap.push { cls:=.type "list",data:=.seq ([]:Vv).toArray }).update s.heap.objs.size (Obj.mapSeq (·.push Value.none))).update s.heap.objs.size (Obj.mapSeq (·.pop)))=h2 at Ov q Pt
 rw[sz]at Ov ⊢
 refine wpAny_pure ⟨plainId_quiet F.plain_extend_loop _,first (A:=A) hh d1 d2 hxy h1 hz _ _ _ Pt (q gz) (q gI) (q gO) (g1.at fun o e=>q e) (g2.at fun o e=>q e) (t1.at fun o e=>q e) (t2.at fun o e=>q e) Ov fun g st kk=>?_⟩
 obtain⟨c,hS⟩:=st.S
 show wpAny _ A (load (n+5:Nat) >>= _) _ _ _
 refine wpAny_bind (wpAny_load hS ?_)
 exact wpAny_pure (by simpa using hQ g st fun b o hb e=>kk b o hb (q e))
def sk{Q:Vq}(hh:A.handled=none)(d1:l1 < n)(d2:l2 < n)(hxy:xs.size=ys.size)(h1:1<=xs.size)(hz:xs.size<=sizeLine)(sz:s.heap.objs.size=n+5)
  (gz:IsZip s.heap (n+4:Nat) (n+2:Nat) (n+3:Nat) .none) (gI:IsPair s.heap (n+2:Nat) (.ref n) (.ref (n+1:Nat))) (gO:IsPair s.heap (n+3:Nat) .none .none) (g1:s.heap.IsListIter n l1 0) (g2:s.heap.IsListIter (n+1:Nat) l2 0) (t1:s.heap.IsList l1 xs) (t2:s.heap.IsList l2 ys)
  (hQ:∀g,En g n xs ys->(∀b o,b < n->s.heap.get? b=some o->g.get? b=some o)->Q (.ref g.objs.size) { s with heap:=g.push { cls:=.type "tuple",data:=.seq (fZ n xs.size).toArray } }):wpAny (model prog w) A (call (.type "tuple") [.ref (n+4:Nat)]) Q E s:=by
 have hT:s.TypeIs (.ref (n+4:Nat)) "zip":=⟨_,gz,rfl⟩
 refine callType_codes (Q₁:=fun obj s₁=>s₁.TypeIs obj "tuple"/\Q obj s₁) F.called_tuple (F.typeCall_tuple_1 _) F.entry_object_init ?_ fun obj s₁ h₁=>
  ⟨h₁.1,F.args_object_init_2 obj _,object_init_meets F.called_tuple.init.lookup F.called_tuple.made (by decide) prog w A.in1 _ s₁ ⟨h₁.1,rfl,h₁.2⟩⟩
 refine codeAny_of_tree ?_
 show wpAny _ A.in1.in1 (do checkBuiltinCall "tuple.__new__" ⟨[.type "tuple",.ref (n+4:Nat)],[]⟩;again (.builtin "tuple.__new__" ⟨[.type "tuple",.ref (n+4:Nat)],[]⟩)) _ _ s
 refine wpAny_bind (wpAny_of_eq (F.newCall_tuple_1 _) (wpAny_pure ⟨plainId_quiet F.plain_tuple_new _,codeAny_builtin F.entry_tuple_new ?_⟩))
 rw[Around.under_plainId F.plain_tuple_new _]
 have hsub:=sub_tuple_self
 have Pu:=init_tuple_lookup
 have hmh:=madeHere_tuple
 wp_walk using wpAny_typeOf hT,qv (A:=A.in1.in1) hh d1 d2 hxy h1 hz sz gz gI gO g1 g2 t1 t2
 intro g st kk
 show wpAny _ _ (Builtin.Tuple.tupleExact (fZ n xs.size).toArray >>= fun v=>ret v) _ _ _
 unfold Builtin.Tuple.tupleExact
 refine wpAny_bind (wpAny_newObj_type ?_ (by show(fZ n xs.size).toArray.size<=sizeLine;unfold fZ;simpa using hz))
 exact wpAny_pure ⟨⟨_,Heap.get?_push_size _ rfl,rfl⟩,hQ g st kk⟩
end
end Zv
namespace L2
open PySem PySem.Spec PyProof.Rows
structure L8 (K:Vo) (x:Str) (st:Stmt) (T:Addr) (f:Addr) (fd:FuncData):Prop where
 ex:∃(oc:Value) (od:Option Addr) (kV doc pm:Value) (an:Option Addr) (cdv ct:Value) (osl:Array (Option Value)),
  fd=PySem.W.fnOf x x (b8 st) (bv st) (aM st) (.ref T) kV doc pm an cdv ct/\K.lookup f=some ⟨oc,od,.func fd,osl⟩/\PySem.W.codeIn K cdv x=true
 kp:PySem.W.keepIn K (.ref f)=true
section
variable {P:Program} {w:World} {K:Vo} {mg:Vr} {base:Heap}
def L8.ok{x:Str}{st:Stmt}{T f:Addr}{fd:FuncData}{N ps:Vs}{k:Nat}{sp:Sp}(F:L8 K x st T f fd)(S:d_ N ps (aM st))(len:∀vs H Q E,sp vs H Q E->vs.length=ps.length)
  (hbody:∀(cdv:Value) (A:Around) (outer:List Env) (s:Shared) (H:Hp) (vs:List V) (Q:VK) (E:XK),Room k (A.deeper (envOfC x (aM st) s.heap.objs.size f cdv))->sp vs H Q E->
   ∃t,Kx (p5 xT P w K mg base N x (aM st) f cdv A outer s H E).Mv (bv st) t/\t { nx:=fun _ H'=>Q .non H',rt:=Q } (gN N vs) H):m9 P w K mg base xT (k+1) f fd ps sp:=by
 obtain⟨oc,od,kV,doc,pm,an,cdv,ct,osl,rfl,lk,hcd⟩:=F.ex
 refine zR lk hcd S len fun A outer s H vs Q E hr LK=>?_
 obtain⟨t,h,q⟩:=hbody cdv A outer s H vs Q E hr LK
 exact⟨t,h.Mv,q⟩
end
section
variable {X:Cx}
def y7(K:Vo)(H:Hp)(r:Addr)(xs ys:List V):Prop:=∃ps:List Addr,SqT K H r (ps.map V.ref)/\ps.length=xs.length/\∀(j:Nat) p x y,ps[j]?=some p->xs[j]?=some x->ys[j]?=some y->H p=some (.tup [x,y])
def Dx(K:Vo)(ta:TA):TE:=fun σ H Q=>ta σ H fun vs H1=>∃a b xs ys,vs=[.ref a,.ref b]/\H1 a=some (.lst xs)/\H1 b=some (.lst ys)/\xs.length=ys.length/\1<=xs.length/\∀r H',(∀c o,H1 c=some o->H' c=some o)->y7 K H' r xs ys->Q (.ref r) H'
theorem lq{pins:Va}{σ:St}{H:Hp}{s0 s:Shared}{n:Nat}{xs ys:List V}{ix iy:Vv}(I0:Inv X pins σ H s0)(hn:s0.heap.objs.size=n)(I:Inv X pins σ H s)(rx:Vals xs ix)(ry:Vals ys iy)(hl:xs.length=ys.length)
  (hp:∀(j:Nat) u v,ix[j]?=some u->iy[j]?=some v->IsPair s.heap (n+6+j:Nat) u v):∀k,k<=xs.length->∃H',Inv X pins σ H' s/\(∀c o,H c=some o->H' c=some o)/\(∀(j:Nat) x y,j < k->xs[j]?=some x->ys[j]?=some y->H' (n+6+j:Nat)=some (.tup [x,y]))/\∀c:Nat,n+6+k<=c->H' c=none
 |0,_=>⟨H,I,fun _ _ h=>h,fun j x y h=>absurd h (Nat.not_lt_zero _),fun c hc=>I0.hok.fresh (show s0.heap.objs.size<=c by omega)⟩
 |k+1,hk=>by
  obtain⟨H',I',e',p',f'⟩:=lq I0 hn I rx ry hl hp k (by omega)
  have hkx:k < xs.length:=by omega
  have Pv:k < ys.length:=by omega
  obtain⟨u,hu,ru⟩:=rx.get (List.getElem?_eq_getElem hkx)
  obtain⟨v,hv,rv⟩:=ry.get (List.getElem?_eq_getElem Pv)
  have hD:H' (n+6+k:Nat)=none:=f' _ (Nat.le_refl _)
  have fp:ft X pins H' (n+6+k:Nat):=I0.IC (show s0.heap.objs.size<=(n+6+k:Nat) by omega) hD
  have eT:Gy s.heap (n+6+k:Nat) [u,v].toArray:=⟨_,hp k u v hu hv,rfl,rfl,_,rfl⟩
  refine⟨_,I'.Jj fp eT (.cons ru (.cons rv .nil)) (by show 2<=sizeLine;decide),fun c o h=>?_,fun j x y hj hx hy=>?_,fun c hc=>?_⟩
  ·rw[aI (ba (e' c o h) hD)];exact e' c o h
  ·by_cases e:j=k
   ·subst e
    rw[List.getElem?_eq_getElem hkx]at hx
    rw[List.getElem?_eq_getElem Pv]at hy
    cases hx;cases hy
    exact aG
   ·rw[aI (Zu.nn (by omega))];exact p' j x y (by omega) hx hy
  ·rw[aI (Zu.nn (by omega))];exact f' c (by omega)
def y8{a b:Expr}{ta:TA}{p1 p2 q1 q2:Pos}(hc:X.calm=true)(ha:PA X [a,b] ta)(MD:Gl X "tuple")(hm1:X.mg "tuple" = none)(LZ:Gl X "zip")(hm2:X.mg "zip" = none)
  (hs:starEach [a,b] X.env=[(false,eval a X.env),(false,eval b X.env)]) (NF:starEach [b] X.env=[(false,eval b X.env)]) (hs2:starEach [.Call (.Name "zip" p2) [a,b] [] q2] X.env=[(false,eval (.Call (.Name "zip" p2) [a,b] [] q2) X.env)]:=by rfl) :
  PE X (.Call (.Name "tuple" p1) [.Call (.Name "zip" p2) [a,b] [] q2] [] q1) (Dx X.K ta):=by
 intro pins s σ H Q I h
 refine wpAny_Call_Name_kw (eG I MD hm1 (u:=.type "tuple") (by decide +kernel) ?_)
 refine PyProof.Rows.callWith_type1 ?_ hs2 rfl
 rw[hs2]
 show wpAny _ _ (spliced ((false,eval (.Call (.Name "zip" p2) [a,b] [] q2) X.env)::backTo q1 [])) _ _ s
 refine Calls.spliced_cons ?_
 refine wpAny_Call_Name_kw (eG I LZ hm2 (u:=.type "zip") (by decide +kernel) ?_)
 refine PyProof.Rows.callWith_type1 (F9 (ha q2 pins s σ H _ I h) fun us s1 ⟨vs,H1,I1,r1,q1⟩=>?_) (by rw[hs,NF]) (by rw[NF];rfl)
 obtain⟨a,b,xs,ys,e,qa,qb,hl,h1,q⟩:=q1
 subst e
 obtain⟨u,v,rfl,ru,rv⟩:=sQ r1
 cases ru
 cases rv
 obtain⟨ia,ra,pa,za⟩:=I1.list (SqL.of qa)
 obtain⟨ib,rb,pb,zb⟩:=I1.list (SqL.of qb)
 have QC:=ra.length
 have lrb:=rb.length
 have la:a < s1.heap.objs.size:=by obtain⟨o,e,_⟩:=pa.isList;exact Heap.lt_size e
 have lb:b < s1.heap.objs.size:=by obtain⟨o,e,_⟩:=pb.isList;exact Heap.lt_size e
 refine call_zip_2 pa.isList pb.isList fun g gz gI gO g1 g2 QD kk=>?_
 refine Calls.spliced_nil ?_
 refine Zv.sk (s:={ s1 with heap:=g }) (n:=s1.heap.objs.size) (I.ok.hd hc) la lb (by rw[List.size_toArray,List.size_toArray];omega) (by rw[List.size_toArray];omega) (by rw[List.size_toArray,<-QC];exact za) QD gz gI gO g1 g2 (pa.isList.at fun o e=>kk _ _ e) (pb.isList.at fun o e=>kk _ _ e) fun g' st Ni=>?_
 have key:∀c o,s1.heap.get? c=some o->(g'.push { cls:=.type "tuple",data:=.seq (Zv.fZ s1.heap.objs.size ia.toArray.size).toArray }).get? c=some o:=fun c o e=>Heap.get?_push_of_some _ (Ni c o (Heap.lt_size e) (kk c o e))
 have I2:Inv X pins σ H1 { s1 with heap:=g'.push { cls:=.type "tuple",data:=.seq (Zv.fZ s1.heap.objs.size ia.toArray.size).toArray } }:=I1.kept (t':=s1.toks) key
 obtain⟨H',I3,e3,p3,f3⟩:=lq I1 rfl I2 ra rb hl (fun j u v hu hv=>Heap.get?_push_of_some _ (st.its j u v (by simpa using hu) (by simpa using hv))) xs.length (Nat.le_refl _)
 have sz:=st.sz
 have Nh:ia.toArray.size=xs.length:=by rw[List.size_toArray];omega
 rw[Nh]at sz
 have hD:H' g'.objs.size=none:=f3 _ sz
 have fp:ft X pins H' g'.objs.size:=I1.IC (Nat.le_trans (by omega) sz) hD
 have ps:∀m:Nat,Vals (((List.range m).map fun j=>(s1.heap.objs.size+6+j:Nat)).map V.ref) (Zv.fZ s1.heap.objs.size m):=fun m=>by
  unfold Zv.fZ
  rw[List.map_map]
  induction (List.range m)with
  |nil=>exact .nil
  |cons x r ih=>exact .cons rfl ih
 have eT:Gy (g'.push { cls:=.type "tuple",data:=.seq (Zv.fZ s1.heap.objs.size ia.toArray.size).toArray }) g'.objs.size (Zv.fZ s1.heap.objs.size xs.length).toArray:=⟨_,Heap.get?_push_size _ rfl,rfl,rfl,_,by rw[Nh]⟩
 have I4:=I3.Jj fp eT (ps xs.length) (by rw[List.length_map,List.length_map,List.length_range];exact za)
 refine⟨.ref g'.objs.size,_,I4,rfl,q _ _ (fun c o z=>by rw[aI (ba (e3 c o z) hD)];exact e3 c o z) ⟨_,SqT.of aG,by rw[List.length_map,List.length_range],fun j p x y hp hx hy=>?_⟩⟩
 have hj:j < xs.length:=(List.getElem?_eq_some_iff.mp hx).1
 rw[List.getElem?_map,List.getElem?_range hj]at hp
 cases hp
 have z:=p3 j x y hj hx hy
 show upd H' g'.objs.size _ (s1.heap.objs.size+6+j:Nat)=_
 rw[aI (ba z hD)]
 exact z
end
end L2
namespace L3
open PySem L2
section
variable {P:Program} {w:World} {K:Vo} {mg:Vr} {base:Heap}
def Ff{x:Str}{st:Stmt}{T f:Addr}{fd:FuncData}{N ps:Vs}{k:Nat}{t:bF}(F:L8 K x st T f fd)(S:d_ N ps (aM st))
  (hbody:∀(cdv:Value) (A:Around) (outer:List Env) (s:Shared) (H:Hp) (E:XK),Room k (A.deeper (PyProof.Rows.envOfC x (aM st) s.heap.objs.size f cdv))->kB (Dl P w K mg base N x st f cdv A outer s H E) (bv st) t) :
  LP P w K mg base (k+1) f fd ps (F_ N.length t):=
 ⟨F.ok S (fun vs H Q E h=>h.1) fun cdv A outer s H vs Q E hr ⟨hl,ps',S',Q3,E3,rv,rS,q,kk⟩=>⟨_,(hbody cdv A outer s H E hr).ok,av N.length ps',S',_,nW rv,rS,q,.no,fun σ3 S2 σ2 H2 h2 _ HD g2=>kk _ S2 _ H2 h2 .non HD g2,kk,fun _ _ _ _ h2=>h2.elim,fun _ _ _ _ h2=>h2.elim⟩⟩
structure Fg (K:Vo) (mg:Vr) (x:Str) (st:Stmt) (ps:Vs) (T:Addr) (f:Addr) (fd:FuncData):Prop where
 F:L8 K x st T f fd
 b:Binds K fd ps []
 d:Binds K fd ps [.bool true]
 k:PySem.W.keepIn K (.ref f)=true
 m:mg x=some (.ref f)
end
section
variable {X:Cx} {e o:Expr} {es:List Expr} {te to:aY} {ts:List aY} {x:Str} {p pos apos cpos:Pos} {k:Nat} {f:Addr} {fd:FuncData} {ps:Vs} {sp:ax}
def kK(sp:ax)(ts:List aY):aY:=fun σ S Q E=>aq ts σ S (fun ps S1=>sp (ps++[.bl true]) S1 Q E) E
def y9(F:LP X.prog X.w X.K X.mg X.base k f fd ps sp)(hr:Room k X.A)(hg:Gl X x)(hm:X.mg x=some (.ref f))(hk:PySem.W.keepIn X.K (.ref f)=true)(hb:Binds X.K fd ps [.bool true])(he:starEach (e::es) X.env=(false,eval e X.env)::starEach es X.env)(ha:kn X (e::es) ts)
  (hl:ts.length+1=ps.length:=by rfl) (hdb:(x == ("__debug__":Str))=false:=by decide) (hpl:(backTo pos (starEach es X.env)).any (·.1)=false:=by rfl):bB X (.Call (.Name x p) (e::es) [] pos) (kK sp ts):=
 ⟨aW (sR (dvs:=[.bl true]) F.ok hr hg hm hk hb (.cons rfl .nil) zU ha.ok hdb he hpl) fun σ H Q ⟨σ3,S,Q3,E3,rσ,rS,h,xo,k⟩=>cK rσ rS h xo fun ps' S' vs H' hl' q rv ID g=>by
  refine⟨by rw[List.length_append,rv.length,hl'];exact hl,ps'++[.bl true],S',Q3,E3,rv.append (.cons (.bl true) .nil),ID,q,k.mono g⟩⟩
end
section
variable {X:Cx} {a b:Expr} {ta tb:aY}
def wx(ta tb:aY):aY:=fun σ S Q E=>ta σ S (fun v S1=>tb σ S1 (fun w S2=>match v,w with
 | .ref a,.ref b=>(match S2 a,S2 b with|some (.lst xs),some (.lst ys)=>xs.length=ys.length/\1<=xs.length/\Q (.tup (bj xs ys)) S2|_,_=>False)
 |_,_=>False) E) E
theorem tI{K:Vo}{H:Hp}:∀{vs:List V} {ps:List PV},vs.length=ps.length->(∀(j:Nat) v p,vs[j]?=some v->ps[j]?=some p->Rep K H v p)->Reps K H vs ps
 |[],[],_,_=>.nil
 |[],_::_,h,_=>by cases h
 |_::_,[],h,_=>by cases h
 |v::vs,p::ps,h,f=>.cons (f 0 v p rfl rfl) (tI (by simpa using h) fun j v' p' h1 h2=>f (j+1) v' p' (by simpa using h1) (by simpa using h2))
def BN{p1 p2 q1 q2:Pos}(hs:starEach [a,b] X.env=[(false,eval a X.env),(false,eval b X.env)])(NF:starEach [b] X.env=[(false,eval b X.env)])(hc:X.calm=true)(MD:Gl X "tuple")(hm1:X.mg "tuple" = none)(LZ:Gl X "zip")(hm2:X.mg "zip" = none)(ha:kn X [a,b] [ta,tb]) :
  bB X (.Call (.Name "tuple" p1) [.Call (.Name "zip" p2) [a,b] [] q2] [] q1) (wx ta tb):=
 ⟨aW (y8 hc ha.ok MD hm1 LZ hm2 hs NF) fun σ H Q ⟨σ3,S,Q3,E3,rσ,rS,h,xo,k⟩=>⟨σ3,S,_,E3,rσ,rS,h,xo,fun v S1 v' H1 h1 rv Gd g1=>⟨σ3,S1,_,E3,rσ.mono g1,Gd,h1,xo.mono g1,fun w S2 w' H2 h2 rw' HD g2=>by
  dsimp only at h2
  split at h2
  ·cases rv
   cases rw'
   split at h2
   ·rename_i ea eb
    obtain⟨vs,hv,rs⟩:=HD _ _ ea
    obtain⟨us,hu,rt⟩:=HD _ _ eb
    have l1:=rs.length
    have l2:=rt.length
    refine⟨_,_,vs,us,rfl,hv,hu,by omega,by omega,fun r H' hh ⟨ps,hr,hpl,hp⟩=>k _ S2 _ H' h2.2.2 (.tup hr (tI ?_ fun j v p hv' hp'=>?_)) (HD.grow hh) ((g1.trans g2).trans (.same hh))⟩
    ·rw[List.length_map];unfold bj;rw[List.length_map,List.length_zip];omega
    ·unfold bj at hp'
     rw[List.getElem?_map]at hp' hv'
     cases hz:(_:List (PV×PV))[j]? with
     |none=>rw[hz]at hp';cases hp'
     |some z=>
      rw[hz]at hp'
      cases hp'
      obtain⟨e1,e2⟩:=List.getElem?_zip_eq_some.mp hz
      obtain⟨x,hx,rx⟩:=rs.get e1
      obtain⟨y,hy,ry⟩:=rt.get e2
      cases hq:ps[j]? with
      |none=>rw[hq]at hv';cases hv'
      |some q=>
       rw[hq]at hv'
       cases hv'
       exact .tup (SqT.of (hp j q x y hq hx hy)) (.cons (rx.mono (.same hh)) (.cons (ry.mono (.same hh)) .nil))
   ·exact h2.elim
  ·exact h2.elim⟩⟩⟩
end
end L3
namespace L2
open PySem PySem.Spec PyProof.Rows
noncomputable def jQ(its:Vw)(z:Str)(u:Tok)(i:Nat)(_:Option Fin×Unit):Sem (ForInStep (Option Fin×Unit)):=
 match its[i]? with
 |some y=>do
  let __do_lift <-eqBool y (Value.str z u)
  if __do_lift=true then do
   let __do_lift <-retInt (i:Int)
   pure (ForInStep.done (some __do_lift,()))
  else pure (ForInStep.yield (none,()))
 |_=>pure (ForInStep.yield (none,()))
theorem qw{prog:Program}{w:World}{A:Around}{E:Vq}{z:Str}{u:Tok}{its:Vw}{k:Nat}{Q:Option Fin×Unit->Shared->Prop}(hk:∃t,its[k]?=some (.str z t)) :
  ∀(m i:Nat) (s:Shared),i+m=its.size->i<=k->(∀j v,i<=j->j < k->its[j]?=some v->∃a t,v = .str a t/\a≠z)->(∀tk,Q (some (.done (.ret (.int k tk))),()) { s with toks:=s.toks+1 })->
  wpAny (model prog w) A (forIn (List.range' i m 1) ((none,()):Option Fin×Unit) (jQ its z u)) Q E s
 |0,i,s,hm,hi,h,q=>by
  obtain⟨t,hk⟩:=hk
  have:=(Array.getElem?_eq_some_iff.mp hk).1
  omega
 |m+1,i,s,hm,hi,h,q=>by
  rw[List.range'_succ,List.forIn_cons]
  have hlt:i < its.size:=by omega
  by_cases e:i=k
  ·subst e
   obtain⟨t,hk⟩:=hk
   refine wpAny_bind ?_
   unfold jQ
   rw[hk]
   refine wpAny_bind (wpAny_eqBool_str ?_)
   rw[decide_eq_true rfl,if_pos rfl]
   exact wpAny_bind (wpAny_bind (wpAny_mkInt (wpAny_pure (wpAny_pure (wpAny_pure (q _))))))
  ·have hv:=Array.getElem?_eq_getElem hlt
   obtain⟨a,t,ea,ne⟩:=h i _ (Nat.le_refl _) (by omega) hv
   refine wpAny_bind ?_
   have eb:jQ its z u i (none,())=(do let __do_lift <-eqBool (Value.str a t) (Value.str z u);if __do_lift=true then do { let __do_lift <-retInt (i:Int);pure (ForInStep.done (some __do_lift,())) } else pure (ForInStep.yield (none,()))):=by
    unfold jQ
    rw[hv,ea]
   rw[eb]
   refine wpAny_bind (wpAny_eqBool_str ?_)
   rw[decide_eq_false ne,if_neg (by decide)]
   exact wpAny_pure (qw hk m (i+1) s (by omega) (by omega) (fun j v h1 h2=>h j v (by omega) h2) q)
def BO(l:Addr)(its:Vw)(n:Nat)(dd:Option Addr)(sl:Array (Option Value))(z:Str)(u:Tok)(k:Nat)(hk:∃t,its[k]?=some (.str z t))(h:∀j v,j < k->its[j]?=some v->∃a t,v = .str a t/\a≠z) :
  Meets (Builtin.«tuple.index» ⟨[.ref l,.str z u],[]⟩) (fun _ R s=>s.heap.get? l=some { cls:=.type "tuple",dict:=dd,data:=.seq its n,slots:=sl }/\∀tk,R (.ok (.ret (.int k tk))) { s with toks:=s.toks+1 }):=
 .of_wp fun prog w A R s hh=>by
  obtain⟨hp,g,d,tk,os⟩:=s;obtain⟨hl,q⟩:=hh
  wp_walk using wpAny_loadPart' hl
  show wpAny _ _ (forIn (⟨0,min its.size its.size,1,Nat.one_pos⟩:Std.Legacy.Range) ((none,()):Option Fin×Unit) (jQ its z u)) _ _ _
  rw[Std.Legacy.Range.forIn_eq_forIn_range']
  have e:Std.Legacy.Range.size ⟨0,min its.size its.size,1,Nat.one_pos⟩=its.size:=by unfold Std.Legacy.Range.size;simp
  rw[e]
  exact qw hk its.size 0 _ (by omega) (Nat.zero_le _) (fun j v _ hj hv=>h j v hj hv) fun tk'=>wpAny_pure ⟨_,rfl,q tk'⟩
section
variable {X:Cx}
noncomputable def y_(K:Vo):V->List V->Hp->VK->Prop:=fun x vs H Q=>∃(l:Addr) (zs:Vs) (z:Str) (k:Nat),x = .ref l/\vs=[.str z]/\SqT K H l (zs.map V.str)/\zs[k]?=some z/\(∀j:Nat,j < k->zs[j]?≠some z)/\Q (.int k) H
def uK:Bb X "tuple.index" (y_ X.K):=by
 intro pins s σ H x vs v us Q I rx rv h
 obtain⟨l,zs,z,k,rfl,rfl,hT,hk,hf,q⟩:=h
 cases rx
 obtain⟨w,rfl,u,rfl⟩:=fE rv
 obtain⟨its,r1,p1,_⟩:=I.tuple hT
 obtain⟨⟨cls,dd,data,sl⟩,ho,hc,n,hd⟩:=id p1
 simp only at hc hd
 subst hc hd
 refine call_meets PySem.F.slot_tuple_index ⟨_,ho,rfl⟩ PySem.F.entry_tuple_index (PySem.F.args_tuple_index_2 _ _) (BO l its.toArray n dd sl z u k ?_ ?_) ⟨ho,fun tk=>⟨.int k,H,I.tok _,⟨_,rfl⟩,q⟩⟩
 ·obtain⟨v,hv,t,rfl⟩:=r1.get (i:=k) (x:=.str z) (by rw[List.getElem?_map,hk];rfl)
  exact⟨t,by simpa using hv⟩
 ·intro j v hj hv
  have hjl:j < its.length:=by simpa using(Array.getElem?_eq_some_iff.mp hv).1
  have hl:=r1.length
  rw[List.length_map]at hl
  obtain⟨v',hv',t,rfl⟩:=r1.get (i:=j) (x:=.str (zs[j]'(by omega))) (by rw[List.getElem?_map,List.getElem?_eq_getElem (by omega)];rfl)
  have e:v = .str (zs[j]'(by omega)) t:=by
   have h1:its[j]?=some v:=by simpa using hv
   rw[hv']at h1;cases h1;rfl
  exact⟨_,t,e,fun h=>hf j hj (by rw[List.getElem?_eq_getElem (by omega),h])⟩
def zc{pins:Va}{σ:St}{H:Hp}{s:Shared}{a:Addr}{xs:List V}(I:Inv X pins σ H s)(h:SqT X.K H a xs):s.TypeIs (.ref a) "tuple"/\∀b,Value.ref a = .ref b->∃ob,s.heap.get? b=some ob/\ob.dict=none:=by
 rcases h with h|⟨o,its,n,hk,hc,hd,_⟩
 ·obtain⟨z,its,r,o,e,hd,hc,_⟩:=h.ok I.hok
  exact⟨⟨o,e,hc⟩,fun b q=>by cases q;exact⟨o,e,hd⟩⟩
 ·exact⟨⟨o,I.Ls a o hk,hc⟩,fun b q=>by cases q;exact⟨o,I.Ls _ o hk,hd⟩⟩
variable {o e:Expr} {es:List Expr} {to:TE} {t:TA} {name:Str} {apos cpos:Pos} {id:String} {r:V->List V->Hp->VK->Prop}
def Fh(K:Vo)(r:V->List V->Hp->VK->Prop)(to:TE)(t:TA):TE:=fun σ H Q=>to σ H fun x H1=>(∃a xs,x = .ref a/\SqT K H1 a xs)/\t σ H1 fun xs H2=>r x xs H2 Q
def BP(pa:PlainAttrs "tuple")(slot:Slot "tuple" name id)(hty:typeOf (.builtin id)=pure (.type "method_descriptor"))(hm:Bb X id r)(ho:PE X o to)(ha:PA X (e::es) t)
  (hbase:attributeBase o name X.env (eval o X.env)=eval o X.env:=by rfl)
  (hfew:((backTo cpos (starEach (e::es) X.env)).all (fun x=>!x.1)&&(backToKw cpos (keywordEach [] X.env)).all (fun x=>x.1.isSome)
   && decide ((e::es).length+([]:List Keyword).length+(if ([]:List Keyword).isEmpty then 0 else 1) < 30))=true:=by rfl)
  (hline:(apos.endLine == cpos.line)=true:=by rfl) (hs:starEach (e::es) X.env=(false,eval e X.env)::starEach es X.env:=by rfl) (hplain:(backTo cpos (starEach es X.env)).any (·.1)=false:=by rfl) :
  PE X (.Call (.Attribute o name apos) (e::es) [] cpos) (Fh X.K r to t):=by
 intro pins s σ H Q I h
 refine wpAny_Call_method_late hbase hfew hline rfl (F9 (ho pins s σ H _ I h) fun v s1 ⟨x,H1,I1,r1,⟨a,xs,ex,hT⟩,q1⟩=>?_)
 subst ex
 have r1':=r1
 cases r1
 obtain⟨h1,h2⟩:=zc I1 hT
 refine⟨"tuple",id,pa,slot,hty,h1,h2,?_⟩
 have hA:=ha cpos pins s1 σ H1 _ I1 q1
 rw[hs]at hA ⊢
 refine Calls.callWith_builtin (by show(false || (backTo cpos (starEach es X.env)).any (·.1))=false;rw[hplain]<;>rfl) (Calls.evalArgs_plain ?_)
 exact F9 hA fun us s2 ⟨vs,H2,I2,r2,q2⟩=>hm pins s2 σ H2 _ vs _ us Q I2 r1' r2 q2
end
end L2
namespace L3
open PySem L2
section
variable {X:Cx}
noncomputable def jm:List PV->Option (List Str)
 |[]=>some []
 | .str z::r=>(jm r).map (z::·)
 |_::_=>none
theorem my:∀zs:List Str,jm (zs.map PV.str)=some zs
 |[]=>rfl
 |z::r=>by show(jm (r.map PV.str)).map (z::·)=_;rw[my r];rfl
theorem n6:∀{ps:List PV} {zs:Vs},jm ps=some zs->ps=zs.map PV.str
 |[],zs,h=>by cases h;rfl
 | .str z::r,zs,h=>by
  unfold jm at h
  cases e:jm r with
  |none=>rw[e]at h;cases h
  |some ws=>rw[e]at h;cases h;rw[n6 e];rfl
def lM:sd:=fun x ps S Q=>match x,ps with
 | .tup xs,[.str z]=>(match jm xs with|some zs=>∃k:Nat,zs[k]?=some z/\(∀j:Nat,j < k->zs[j]?≠some z)/\Q (.int k) S|none=>False)
 |_,_=>False
theorem n_{K:Vo}{H:Hp}:∀{vs:List V} {zs:Vs},Reps K H vs (zs.map PV.str)->vs=zs.map V.str
 |[],[],_=>rfl
 |v::vs,z::zs,.cons a r=>by cases a;rw[n_ r];rfl
def wy:vc X "tuple.index" lM:=⟨fun pins s σ H x xs v us Q I rx rs ⟨px,ps,S,Q3,r1,rp,rS,q,k⟩=>by
 unfold lM at q
 split at q
 ·split at q
  ·rename_i e
   obtain⟨j,hk,hf,q⟩:=q
   cases r1 with
   |tup hq rs'=>
    rw[n6 e]at rs'
    have ev:=n_ rs'
    subst ev
    cases rp with
    |cons b rr=>
     cases rr;cases b
     exact uK pins s σ H _ _ v us Q I rx rs ⟨_,_,_,j,rfl,rfl,hq,hk,hf,k _ S _ H q (.int _) rS .refl⟩
  ·exact q.elim
 ·exact q.elim⟩
variable {o e:Expr} {es:List Expr} {to:aY} {ts:List aY} {name:Str} {apos cpos:Pos} {id:String}
def BQ(r:sd)(to:aY)(ts:List aY):aY:=fun σ S Q E=>to σ S (fun x S1=>match x with | .tup _=>aq ts σ S1 (fun ps S2=>r x ps S2 Q) E|_=>False) E
def Dy{r:sd}(pa:PlainAttrs "tuple")(slot:Slot "tuple" name id)(hty:typeOf (.builtin id)=pure (.type "method_descriptor"))(hm:vc X id r)(hs:starEach (e::es) X.env=(false,eval e X.env)::starEach es X.env)(ho:bB X o to)(ha:kn X (e::es) ts)
  (hbase:attributeBase o name X.env (eval o X.env)=eval o X.env:=by rfl)
  (hfew:((backTo cpos (starEach (e::es) X.env)).all (fun x=>!x.1)&&(backToKw cpos (keywordEach [] X.env)).all (fun x=>x.1.isSome)
   && decide ((e::es).length+([]:List Keyword).length+(if ([]:List Keyword).isEmpty then 0 else 1) < 30))=true:=by rfl)
  (hline:(apos.endLine == cpos.line)=true:=by rfl) (hplain:(backTo cpos (starEach es X.env)).any (·.1)=false:=by rfl):bB X (.Call (.Attribute o name apos) (e::es) [] cpos) (BQ r to ts):=
 ⟨aW (BP pa slot hty hm.ok ho.ok ha.ok hbase hfew hline hs hplain) fun σ H Q ⟨σ3,S,Q3,E3,rσ,rS,h,xo,k⟩=>⟨σ3,S,_,E3,rσ,rS,h,xo,fun x S1 v H1 h1 rx Gd g1=>by
  dsimp only at h1
  split at h1
  ·have Ng:=rx
   cases rx with
   |tup hq rs=>exact⟨⟨_,_,rfl,hq⟩,cK (rσ.mono g1) Gd h1 (xo.mono g1) fun ps S2 vs H2 hl q rv HD g2=>⟨_,ps,S2,Q3,Ng.mono g2,rv,HD,q,k.mono (g1.trans g2)⟩⟩
  ·exact h1.elim⟩⟩
end
section
variable {X:Cx} {a b:Expr} {ta tb:aY} {p pos:Pos}
def mz(ta tb:aY):tw:=fun σ S R E=>ta σ S (fun v S1=>tb σ S1 (fun w S2=>match v,w with
 | .tup xs,.tup ys=>R ⟨bj xs ys,fun _=>True⟩ S2
 | .ref a,.ref b=>(match S2 a,S2 b with|some (.lst xs),some (.lst ys)=>R ⟨bj xs ys,fun S'=>S' a=some (.lst xs)/\S' b=some (.lst ys)⟩ S2|_,_=>False)
 | .ref a,.tup ys=>(match S2 a with|some (.lst xs)=>R ⟨bj xs ys,fun S'=>S' a=some (.lst xs)⟩ S2|_=>False)
 | .tup xs,.ref b=>(match S2 b with|some (.lst ys)=>R ⟨bj xs ys,fun S'=>S' b=some (.lst ys)⟩ S2|_=>False)
 |_,_=>False) E) E
def sn{elts:List Expr}{k0:Nat}{Hf:Pos}(hs:starEach [a,b] X.env=[(false,eval a X.env),(false,eval b X.env)])(hs2:starEach [b] X.env=[(false,eval b X.env)])(hg:Gl X "zip")(hm:X.mg "zip" = none)(hv:bootBuiltins "zip" = some (.type "zip"))(ha:kn X [a,b] [ta,tb]) :
  vd X (.Tuple elts k0 Hf) (.Call (.Name "zip" p) [a,b] [] pos) (mz ta tb):=
 ⟨jc (vP hg hm hv ha.ok hs hs2) fun σ H R ⟨σ3,S,R3,E3,rσ,rS,h,xo,k⟩=>⟨σ3,S,_,E3,rσ,rS,h,xo,fun v S1 v' H1 h1 rv Gd g1=>⟨σ3,S1,_,E3,rσ.mono g1,Gd,h1,xo.mono g1,fun w S2 w' H2 h2 rw' HD g2=>by
  have L:∀{a:Addr} {xs:List PV},S2 a=some (.lst xs)->∃vs,l6 true X.K H2 a vs:=fun e=>let ⟨_,h,_⟩:=HD _ _ e;⟨_,SqL.of h⟩
  dsimp only at h2
  split at h2
  ·cases rv with
   |tup hq rs=>
    cases rw' with
    |tup hq2 MF=>exact⟨false,false,_,_,rfl,⟨_,g2.t _ _ hq⟩,⟨_,hq2⟩,k _ S2 _ H2 h2 (jN (.tup (g2.t _ _ hq) (rs.mono g2)) (.tup hq2 MF)) HD (g1.trans g2)⟩
  ·cases rv
   cases rw'
   split at h2
   ·rename_i ea eb
    exact⟨true,true,_,_,rfl,L ea,L eb,k _ S2 _ H2 h2 (jN (.lst fun _ q=>q.1) (.lst fun _ q=>q.2)) HD (g1.trans g2)⟩
   ·exact h2.elim
  ·cases rv
   cases rw' with
   |tup hq2 MF=>
    split at h2
    ·rename_i ea
     exact⟨true,false,_,_,rfl,L ea,⟨_,hq2⟩,k _ S2 _ H2 h2 (jN (.lst fun _ q=>q) (.tup hq2 MF)) HD (g1.trans g2)⟩
    ·exact h2.elim
  ·cases rv with
   |tup hq rs=>
    cases rw'
    split at h2
    ·rename_i eb
     exact⟨false,true,_,_,rfl,⟨_,g2.t _ _ hq⟩,L eb,k _ S2 _ H2 h2 (jN (.tup (g2.t _ _ hq) (rs.mono g2)) (.lst fun _ q=>q)) HD (g1.trans g2)⟩
    ·exact h2.elim
  ·exact h2.elim⟩⟩⟩
end
end L3
namespace C
open PySem L2 L3
def d8(II s0:ax):bF:=(ah (au 3 (bC [(ay [(v3 0),(v3 2)])]))
  (ah (bM (cw (ab II [(v3 0)])) (.tp (.cons (.n 4) (.cons (.n 5) .nil))) (ah (au 6 (bX (af (a_ false) (af ae (v3 0) (c3 (.int 0))) (c3 (.str "take"))) (bX (af (a_ false) (v3 4) (c3 (.int 0))) (af (jF true) (af ae (v3 0) (c3 (.int 1))) (v3 1)))))
  (aP (dj "list" aQ (v3 3) [(ab s0 [(v3 5),(v3 1),(bX (v3 2) (nR (v3 6)))])]))))
  (aw (v3 3))))
def ik(G4 JW:ax):bF:=(ah (bM (cw (af ae (v3 0) (c3 (.int 1)))) (.tp (.cons (.n 2) (.cons (.n 3) .nil))) (bM (cw (kK G4 [(af ae (v3 3) (c3 (.int 1))),(v3 1)])) (.tp (.cons (.n 4) (.cons (.n 5) .nil))) (ah (au 6 (af ae (v3 5) (c3 (.int 0))))
  (bg (jJ (aO (af ae (v3 5) (c3 (.int 1)))) (jJ (aO (af (a_ false) (af ae (v3 6) (c3 (.int 0))) (c3 (.str "put")))) (aO (af (jF true) (af ae (v3 6) (c3 (.int 1))) (v3 1))))) (aw (ay [(BQ lM (af ae (v3 0) (c3 (.int 0))) [(af ae (v3 6) (c3 (.int 1)))]),(v3 2),(ab JW [(af ae (v3 3) (c3 (.int 1))),(v3 4),(ay [])])])) aN))))
  (aw (c3 .non)))
def kL(Jy:ax):bF:=(ah (au 1 (bC []))
  (ah (au 2 (bC []))
  (ah (au 3 (ab Jy [(v3 0),(v3 2)]))
  (ah (jd (aO (af (vb true) (v3 3) (c3 .non))) (ah (aP (dj "list" bp (v3 1) [(v3 3)]))
  (ah (aP (dj "list" bp (v3 2) [(af ae (af ae (v3 0) (c3 (.int 0))) (af ae (v3 3) (c3 (.int 0))))]))
  (au 3 (ab Jy [(v3 0),(v3 2)])))))
  (aw (v3 1))))))
def jo(Li:ax):bF:=(aw (aF (aD (ab Li [(v3 0)])) (.n 0) bm (af ae (af ae (v3 1) (c3 (.int 0))) (af ae (v3 0) (c3 (.int 0)))) 1 [0]))
def cg(s0 s1:ax):bF:=(ah (au 2 (bC []))
  (ah (au 3 (ab s1 [(af ae (v3 0) (c3 (.int 2))),(v3 1)]))
  (ah (bM (aD (ab s1 [(af ae (v3 0) (c3 (.int 1))),(v3 1)])) (.n 4) (aP (dj "list" aQ (v3 2) [(aF (aD (v3 3)) (.n 0) bm (ay [(v3 1),(v3 0)]) 1 [4])])))
  (aw (v3 2)))))
def fc(s0 s1:ax):bF:=(ah (bg (aO (af (a_ false) (af ae (v3 0) (c3 (.int 0))) (c3 (.str "then")))) (aw (ab s0 [(v3 0),(v3 1)])) aN)
  (ah (bg (aO (af (jF true) (af ae (v3 0) (c3 (.int 0))) (ay [(c3 (.str "either")),(c3 (.str "take"))]))) (aw (bC [(ay [])])) aN)
  (ah (au 2 (aF (aD (ab s1 [(af ae (v3 0) (d0 bD (c3 (.int 1)))),(v3 1)])) (.n 0) bm (ay [(c3 (.int 1)),(v3 0)]) 1 []))
  (ah (bg (jJ (aO (af (a_ false) (af ae (v3 0) (c3 (.int 0))) (c3 (.str "take")))) (aO (af (jF true) (af ae (v3 0) (c3 (.int 1))) (v3 1)))) (aw (v3 2)) aN)
  (aw (af aS (aF (aD (ab s1 [(af ae (v3 0) (d0 bD (c3 (.int 2)))),(v3 1)])) (.n 0) bm (ay [(c3 (.int 0)),(v3 0)]) 1 []) (v3 2)))))))
def ci(s0:ax):bF:=(ah (bg (aO (ao mh [(v3 1),(ay [(c3 (.ty "list")),(c3 (.ty "tuple"))])])) (ah (bg (ll (aO (af (a_ true) (ao mh [(v3 0),(c3 (.ty "list"))]) (ao mh [(v3 1),(c3 (.ty "list"))]))) (aO (af (a_ true) (ao mh [(v3 0),(c3 (.ty "tuple"))]) (ao mh [(v3 1),(c3 (.ty "tuple"))])))) (aw (c3 (.bl false))) aN)
  (aw (bX (af (a_ false) (ao cr [(v3 0)]) (ao cr [(v3 1)])) (ao r9 [(aF (mz (v3 0) (v3 1)) (.tp (.cons (.n 0) (.cons (.n 1) .nil))) bm (ab s0 [(v3 0),(v3 1)]) 2 [])])))) aN)
  (aw (bX (af (a_ false) (ao mh [(v3 0),(c3 (.ty "bool"))]) (ao mh [(v3 1),(c3 (.ty "bool"))])) (af (a_ false) (v3 0) (v3 1)))))
def fx(s0:ax):bF:=(ah (au 2 (bC []))
  (ah (bg (aO (af (a_ false) (af ae (v3 0) (c3 (.int 0))) (c3 (.str "then")))) (ah (au 3 (ab s0 [(af ae (v3 0) (c3 (.int 2))),(v3 1)]))
  (ah (bM (aD (ab s0 [(af ae (v3 0) (c3 (.int 1))),(v3 1)])) (.n 4) (aP (dj "list" aQ (v3 2) [(aF (aD (v3 3)) (.n 0) bm (ay [(v3 1),(v3 0)]) 1 [4])])))
  (aw (v3 2)))) aN)
  (ah (bg (ll (aO (af (a_ false) (af ae (v3 0) (c3 (.int 0))) (c3 (.str "either")))) (aO (af (a_ false) (af ae (v3 0) (c3 (.int 0))) (c3 (.str "take"))))) (ah (bg (ll (aO (af (a_ false) (af ae (v3 0) (c3 (.int 0))) (c3 (.str "either")))) (aO (af (jF false) (af ae (v3 0) (c3 (.int 1))) (v3 1)))) (au 2 (aF (aD (ab s0 [(af ae (v3 0) (d0 bD (c3 (.int 2)))),(v3 1)])) (.n 0) bm (ay [(c3 (.int 0)),(v3 0)]) 1 [])) aN)
  (aw (af aS (v3 2) (aF (aD (ab s0 [(af ae (v3 0) (d0 bD (c3 (.int 1)))),(v3 1)])) (.n 0) bm (ay [(c3 (.int 1)),(v3 0)]) 1 [])))) aN)
  (aw (bC [(ay [])])))))
def f_(GP F4 Gk:ax):bF:=(ah (au 1 (ab GP [(v3 0),(c3 (.int 8))]))
  (ah (au 2 (bN (v3 1) oO (ni (af aS (c3 (.int 1)) (ab F4 [(v3 0),(c3 (.int 4))])))))
  (ah (au 3 (ao bh [(v3 2)]))
  (ah (au 5 (aF (aD (v3 3)) (.n 0) bm (dj "list" qm (v3 2) [(ab F4 [(v3 1),(ao cr [(v3 2)])])]) 1 [0,2]))
  (ah (au 6 (bC []))
  (ah (bM (cw (v3 5)) (.tp (.cons (.n 7) (.cons (.n 4) .nil))) (ah (au 8 (ay [(c3 (.str "put")),(v3 4),(af aS (c3 (.int 1)) (ab F4 [(v3 0),(c3 (.int 9))]))]))
  (ah (bg (ll (aO (af sg (v3 7) (c3 (.int 0)))) (aO (af (a_ false) (ab F4 [(v3 0),(c3 (.int 4))]) (c3 (.int 0))))) (au 8 (ay [(c3 (.str "take")),(af ae (v3 5) (af bR (v3 7) (c3 (.int 1)))),(af aS (c3 (.int 1)) (ab F4 [(v3 0),(c3 (.int 9))])),(v3 8),(ab Gk [(v3 0),(bC [])])])) aN)
  (ah (au 9 (bC [(ay [(c3 (.str "then")),(ab Gk [(v3 0),(bC [])]),(v3 8)]),(ay [(c3 (.str "often")),(v3 8)]),(ay [(c3 (.str "either")),(ab Gk [(v3 0),(bC [])]),(v3 8)])]))
  (aP (dj "list" lL (v3 6) [(ab F4 [(v3 0),(af aS (ao cr [(v3 6)]) (c3 (.int 1)))]),(af ae (bC [(v3 8),(af ae (v3 9) (c3 (.int 0))),(af ae (v3 9) (c3 (.int 1))),(af ae (v3 9) (c3 (.int 2)))]) (ab F4 [(v3 0),(c3 (.int 4))]))]))))))
  (aw (ay [(v3 3),(ao bh [(aF (cw (v3 6)) (.tp (.cons (.n 0) (.cons (.n 1) .nil))) bm (ay [(af ae (v3 2) (af aS (c3 (.int 4)) (v3 0))),(v3 1)]) 2 [1])])]))))))))
def jp(JI:ax):bF:=(ah (se (v3 0) (.tp (.cons (.n 1) (.cons (.n 2) .nil))))
  (ah (au 3 (bC [(v3 0)]))
  (ah (bg (aO (af sg (ao cr [(v3 2)]) (c3 (.int 1)))) (ah (au 4 (aF (aD (v3 2)) (.tp (.cons (.n 0) (.cons (.n 1) .nil))) bm (v3 0) 2 []))
  (ah (au 5 (aF (aD (v3 2)) (.tp (.cons (.n 0) (.cons (.n 1) .nil))) bm (v3 1) 2 []))
  (aP (dj "list" aQ (v3 3) [(bC [(ay [(v3 1),(bN (v3 2) oO (ni (d0 bD (c3 (.int 1)))))]),(ay [(v3 1),(wx (v3 4) (af aS (bN (v3 5) (ni (c3 (.int 1))) oO) (bN (v3 5) oO (ni (c3 (.int 1))))))])])])))) aN)
  (ah (bg (aO (af sg (ao cr [(v3 1)]) (c3 (.int 1)))) (ah (au 4 (mr [((af ae (v3 1) (c3 (.int 0))),(af ae (v3 1) (d0 bD (c3 (.int 1))))),((af ae (v3 1) (d0 bD (c3 (.int 1)))),(af ae (v3 1) (c3 (.int 0))))]))
  (aP (dj "list" bp (v3 3) [(ay [(v3 1),(ao bh [(aF (aD (v3 2)) (.tp (.cons (.n 0) (.cons (.n 1) .nil))) bm (ay [(v3 0),(ab JI [(v3 1),(v3 2)])]) 2 [4])])])]))) aN)
  (aw (v3 3))))))
def dr(G4:ax):bF:=(ah (au 2 (aF (aD (kK G4 [(v3 0),(v3 1)])) (.n 0) (aO (af (a_ false) (af ae (af ae (v3 0) (c3 (.int 0))) (c3 (.int 0))) (c3 (.str "often")))) (v3 0) 1 []))
  (aw (aF (cw (v3 2)) (.tp (.cons (.n 0) (.cons (.n 1) .nil))) (aO (af ae (v3 1) (c3 (.int 1)))) (ay [(v3 0),(af ae (af ae (v3 1) (c3 (.int 0))) (c3 (.int 1)))]) 2 [])))
def fy(s0:ax):bF:=(ah (au 3 (bC []))
  (ah (bg (aO (af (a_ false) (af ae (v3 0) (c3 (.int 0))) (c3 (.str "often")))) (ah (aP (dj "list" bp (v3 3) [(af ae (bC [(c3 .non),(af ae (v3 0) (c3 (.int 1)))]) (ao iZ [(v3 2)]))]))
  (aP (dj "list" aQ (v3 3) [(ab s0 [(af ae (v3 0) (c3 (.int 1))),(v3 1),(v3 2)])]))) aN)
  (ah (bg (aO (af (jF false) (af ae (v3 0) (c3 (.int 0))) (ay [(c3 (.str "then")),(c3 (.str "either")),(c3 (.str "take"))]))) (ah (aP (dj "list" aQ (v3 3) [(ab s0 [(af ae (v3 0) (d0 bD (c3 (.int 2)))),(v3 1),(bX (v3 2) (ma (af (a_ true) (af ae (v3 0) (c3 (.int 0))) (c3 (.str "take"))) (af (jF false) (af ae (v3 0) (c3 (.int 1))) (v3 1))))])]))
  (aP (dj "list" aQ (v3 3) [(ab s0 [(af ae (v3 0) (d0 bD (c3 (.int 1)))),(v3 1),(v3 2)])]))) aN)
  (aw (v3 3)))))
def fz(GD HE:ax):bF:=(ah (au 2 (bC []))
  (ah (bM (cw (ab GD [(v3 0),(v3 1),(c3 (.bl true))])) (.tp (.cons (.n 3) (.cons (.n 4) .nil))) (bg (aO (af (vb true) (v3 4) (c3 .non))) (aP (dj "list" aQ (v3 2) [(aF (aD (ab HE [(v3 4),(v3 1)])) (.n 0) bm (ay [(v3 1),(v3 0)]) 1 [3])])) aN))
  (aw (v3 2))))
end C
namespace L3
open PySem L2 Xc
section
variable {X:Cx} {e o:Expr} {es:List Expr} {te to:aY} {ts:List aY} {x:Str} {p pos apos cpos:Pos} {k:Nat} {f:Addr} {fd:FuncData} {ps:Vs} {sp:ax}
end
section
variable {P:Program} {w:World} {K:Vo} {mg:Vr} {base:Heap}
end
section
variable {X:Cx} {e:Expr} {es:List Expr} {ts:List aY} {x qual:Str} {st:Stmt} {p pos cpos:Pos} {f C:Addr} {fd:FuncData} {ps ks:Vs}
end
section
variable {X:Cx} {body suite:List Stmt} {b₀:Stmt} {n x:Str} {i:Nat} {np hpos pos:Pos} {tb th:bF} {Dc:Addr} {cs:Vs}
end
section
variable {X:Cx} {e:Expr} {te:aY} {f:Str} {pos:Pos} {l:List (Str×Str)}
end
section
variable {P:Program} {w:World} {K:Vo} {mg:Vr} {base:Heap} {N:Vs} {qual:Str} {st:Stmt} {f:Addr} {cdv:Value} {A:Around} {outer:List Env} {s:Shared} {H:Hp} {E:XK}
end
end L3
namespace L3
open PySem L2
end L3
namespace L2
open PySem PySem.Spec PyProof.Rows Xc
section
variable {X:Cx} {k:Nat} {f C:Addr} {fd:FuncData} {ps:Vs} {sp:Sp} {m:Str} {pos apos:Pos} {e o:Expr} {es:List Expr} {ta:TE} {t:TA}
end
end L2
namespace L3
open PySem L2 Xc
section
variable {P:Program} {w:World} {K:Vo} {mg:Vr} {base:Heap}
structure aZ (K:Vo) (mg:Vr) (x:Str) (st:Stmt) (ps:Vs):Prop where
 ex:∃f fd,El K mg x st ps f fd
structure Gj (P:Program) (w:World) (K:Vo) (mg:Vr) (base:Heap) (k:Nat) (x:Str) (n:Nat) (sp:ax):Prop where
 ex:∃f fd ps,ps.length=n/\LP P w K mg base k f fd ps sp/\mg x=some (.ref f)/\PySem.W.keepIn K (.ref f)=true/\Binds K fd ps []
def cO{x:Str}{st:Stmt}{ps:Vs}{k n:Nat}{t:bF}{sp:ax}(N:Vs)(O:aZ K mg x st ps)
  (hbody:∀(f:Addr) (cdv:Value) (A:Around) (outer:List Env) (s:Shared) (H:Hp) (E:XK),Room k (A.deeper (PyProof.Rows.envOfC x (aM st) s.heap.objs.size f cdv))->N.Nodup->kB (Dl P w K mg base N x st f cdv A outer s H E) (bv st) t) (e:sp=F_ N.length t)
  (hn:ps.length=n:=by rfl) (S:d_ N ps (aM st):=by exact⟨rfl,rfl,rfl,by decide +kernel,rfl,by decide +kernel,by decide +kernel⟩):Gj P w K mg base (k+1) x n sp:=by
 subst e
 obtain⟨f,fd,o⟩:=O.ex
 exact⟨f,fd,ps,hn,Fz o.F S fun cdv A outer s H E hr=>hbody f cdv A outer s H E hr S.nd,o.m,o.k,o.b⟩
def FU{x:Str}{st:Stmt}{ps:Vs}{k:Nat}{t:bF}{sp:ax}{f:Addr}{fd:FuncData}(N:Vs)(o:El K mg x st ps f fd)
  (hbody:∀(f:Addr) (cdv:Value) (A:Around) (outer:List Env) (s:Shared) (H:Hp) (E:XK),Room k (A.deeper (PyProof.Rows.envOfC x (aM st) s.heap.objs.size f cdv))->N.Nodup->kB (Dl P w K mg base N x st f cdv A outer s H E) (bv st) t) (e:sp=F_ N.length t)
  (S:d_ N ps (aM st):=by exact⟨rfl,rfl,rfl,by decide +kernel,rfl,by decide +kernel,by decide +kernel⟩):LP P w K mg base (k+1) f fd ps sp:=by
 subst e
 exact Fz o.F S fun cdv A outer s H E hr=>hbody f cdv A outer s H E hr S.nd
def mB:ax:=fun _ _ _ _=>False
theorem Gj.zero{x:Str}{st:Stmt}{ps:Vs}{k n:Nat}(O:aZ K mg x st ps)(hn:ps.length=n:=by rfl):Gj P w K mg base k x n mB:=by
 obtain⟨f,fd,o⟩:=O.ex
 exact⟨f,fd,ps,hn,.zero rfl,o.m,o.k,o.b⟩
theorem jq{b n:Nat}{x:Str}{st:Stmt}{ps:Vs}{r:Nat->ax}(O:aZ K mg x st ps)(h:∀j,Gj P w K mg base (b+j) x n (r j)->Gj P w K mg base (b+j+1) x n (r (j+1)))(h0:r 0=mB)(hn:ps.length=n:=by rfl):∀j,Gj P w K mg base (b+j) x n (r j)
 |0=>by rw[h0];exact .zero O hn
 |j+1=>h j (jq O h h0 hn j)
end
section
variable {X:Cx} {a b e o:Expr} {es:List Expr} {ta tb te to:aY} {ts:List aY} {x c m f:Str} {p pos apos cpos:Pos} {j k n:Nat} {sp:ax}
def c4(O:Gj X.prog X.w X.K X.mg X.base k x n sp)(hr:Room j X.A)(ha:kn X (e::es) ts)(hj:k<=j:=by omega)(hl:ts.length=n:=by rfl)(hg:Gl X x:=by rfl)(he:starEach (e::es) X.env=(false,eval e X.env)::starEach es X.env:=by rfl)(hdb:(x == ("__debug__":Str))=false:=by decide)(hpl:(backTo pos (starEach es X.env)).any (·.1)=false:=by rfl) :
  bB X (.Call (.Name x p) (e::es) [] pos) (ab sp ts):=by
 obtain⟨f,fd,ps,hn,F,h1,h2,h3⟩:=O.ex
 exact wj F (hr.mono hj) hg h1 h2 h3 he ha (hl.trans hn.symm) hdb hpl
def cB{id:String}{r:rg}(hc:gP X (.builtin id) r)(hm:X.mg x=none)(ha:kn X (e::es) ts)(hg:Gl X x:=by rfl)(hv:bootBuiltins x=some (.builtin id):=by decide +kernel)(he:starEach (e::es) X.env=(false,eval e X.env)::starEach es X.env:=by rfl)
  (hnn:x ≠ "__name__":=by decide) (hdb:(x == ("__debug__":Str))=false:=by decide) (hpl:(backTo pos (starEach es X.env)).any (·.1)=false:=by rfl):bB X (.Call (.Name x p) (e::es) [] pos) (ao r ts):=yQ hc hg hm hv he ha hnn hdb hpl
def cT{id:String}{r:rg}(hc:gP X (.type id) r)(hm:X.mg x=none)(ha:kn X (e::es) ts)(hg:Gl X x:=by rfl)(hv:bootBuiltins x=some (.type id):=by decide +kernel)(he:starEach (e::es) X.env=(false,eval e X.env)::starEach es X.env:=by rfl)
  (hnn:x ≠ "__name__":=by decide) (hdb:(x == ("__debug__":Str))=false:=by decide) (hpl:(backTo pos (starEach es X.env)).any (·.1)=false:=by rfl):bB X (.Call (.Name x p) (e::es) [] pos) (ao r ts):=yR hc hg hm hv he ha hnn hdb hpl
def lc{r:List Expr}(ha:bB X a ta)(hr:kn X r ts)(hs:starEach (a::r) X.env=(false,eval a X.env)::starEach r X.env:=by rfl):kn X (a::r) (ta::ts):=vZ hs ha hr
def l1(ha:bB X a ta)(hs:starEach [a] X.env=(false,eval a X.env)::starEach [] X.env:=by rfl):kn X [a] [ta]:=vZ hs ha cv
def aJ{i:Int}{q:Nat}{p2:Pos}(hr:Room j X.A)(ha:bB X a ta)(hs:lI (.Constant (.int i) q p2):=by exact fun _ _=>rfl):bB X (.Subscript a (.Constant (.int i) q p2) pos) (af ae ta (c3 (.int i))):=Dg (Fy (xV hr)) ha ai hs
def er(hr:Room j X.A)(ha:bB X a ta)(hb:bB X b tb)(hs:lI b:=by exact fun _ _=>rfl):bB X (.Subscript a b pos) (af ae ta tb):=Dg (Fy (xV hr)) ha hb hs
def dS(hr:Room j X.A)(ha:bB X a ta)(hb:bB X b tb):rR X (.Compare a [.Eq] [b] pos) (aO (af (a_ false) ta tb)):=bq (iX (gR hr)) ha hb (bb _)
def Dz(hr:Room j X.A)(ha:bB X a ta)(hb:bB X b tb):rR X (.Compare a [.NotEq] [b] pos) (aO (af (a_ true) ta tb)):=bq (zY (gR hr)) ha hb (bb _)
def s4(i:Nat){pos':Pos}(nd:X.N.Nodup)(he:bB X e te)(hi:X.N[i]?=some x:=by rfl)(hx:xS X.env.scope x:=by first|exact Or.inl rfl|exact Or.inr rfl)(hs:swapsWith e (some (.Name x pos')) pos.line X.env=pure false:=by rfl)
  (hf:X.fn x=true\/X.env.scope.names.lookup x=some .local:=by first|exact .inl rfl|exact .inr rfl|assumption):rf X (.Assign [.Name x pos'] e pos) (au i te):=Dj nd hi hx he hs hf
def gn(i:Nat)(nd:X.N.Nodup)(hi:X.N[i]?=some x:=by rfl)(hx:xS X.env.scope x:=by first|exact Or.inl rfl|exact Or.inr rfl)(hf:X.fn x=true\/X.env.scope.names.lookup x=some .local:=by first|exact .inl rfl|exact .inr rfl|assumption):xU X (.Name x pos) (.n i):=FO i nd hi hx hf
def FV{px:Pos}{kvs:List (bI×Int)}{g:Expr}{tg:aY}(hr:Room j X.A)(hD:∃a,X.mg x=some (.ref a)/\KD X.prog X.w X.K a (kvs.map fun kv=>(kv.1,V.int kv.2)))(he:bB X e te)(hf:bB X g tg)(hg:Gl X x:=by rfl)(m:M2 X (.Name x px) "get" apos e g cpos:=by exact⟨rfl,rfl,rfl,rfl⟩)
  (hd:(x == ("__debug__":Str))=false:=by decide):bB X (.Call (.Attribute (.Name x px) "get" apos) [e,g] [] cpos) (tE kvs te tg):=let ⟨_,h1,h2⟩:=hD;BK (xV hr) hg h1 h2 he hf m hd
end
structure Ae (T:String) (name:Str) (id:String):Prop where
 pa:PlainAttrs T
 slot:Slot T name id
 ty:typeOf (.builtin id)=pure (.type "method_descriptor")
section
variable {X:Cx} {e o:Expr} {es:List Expr} {to:aY} {ts:List aY} {name:Str} {T id:String} {p pos apos cpos:Pos} {r:sd}
def cj:Ae "list" "append" "list.append":=⟨PySem.F.plainAttrs_list,PySem.F.slot_list_append,PySem.F.type_list_append⟩
def bP:Ae "list" "extend" "list.extend":=⟨PySem.F.plainAttrs_list,PySem.F.slot_list_extend,PySem.F.type_list_extend⟩
def uL:Ae "list" "insert" "list.insert":=⟨PySem.F.plainAttrs_list,PySem.F.slot_list_insert,PySem.F.type_list_insert⟩
def wA:Ae "list" "pop" "list.pop":=⟨PySem.F.plainAttrs_list,PySem.F.slot_list_pop,PySem.F.type_list_pop⟩
def tJ:Ae "str" "join" "str.join":=⟨PySem.F.plainAttrs_str,PySem.F.slot_str_join,PySem.F.type_str_join⟩
def wB:Ae "str" "index" "str.index":=⟨PySem.F.plainAttrs_str,PySem.F.slot_str_index,PySem.F.type_str_index⟩
def lF(k:Ae T name id)(hm:vc X id r)(ho:bB X o to)(ha:kn X (e::es) ts)(hs:starEach (e::es) X.env=(false,eval e X.env)::starEach es X.env:=by rfl)
  (hbase:attributeBase o name X.env (eval o X.env)=eval o X.env:=by rfl)
  (hfew:((backTo cpos (starEach (e::es) X.env)).all (fun x=>!x.1)&&(backToKw cpos (keywordEach [] X.env)).all (fun x=>x.1.isSome)
   && decide ((e::es).length+([]:List Keyword).length+(if ([]:List Keyword).isEmpty then 0 else 1) < 30))=true:=by rfl)
  (hline:(apos.endLine == cpos.line)=true:=by rfl) (hplain:(backTo cpos (starEach es X.env)).any (·.1)=false:=by rfl):bB X (.Call (.Attribute o name apos) (e::es) [] cpos) (dj T r to ts):=E9 k.pa k.slot k.ty hm hs ho ha hbase hfew hline hplain
def Fi(k:Ae T name id)(hm:vc X id r)(ho:bB X o to)
  (hbase:attributeBase o name X.env (eval o X.env)=eval o X.env:=by rfl) (hline:(apos.endLine == cpos.line)=true:=by rfl):bB X (.Call (.Attribute o name apos) [] [] cpos) (dj T r to []):=Di k.pa k.slot k.ty hm ho hbase hline
end
section
variable {X:Cx} {tg iter elt:Expr} {ifs:List Expr} {scope:Scope} {pos:Pos} {ti:tw} {g:Tg} {tc:li} {te:aY}
def lG(fs:Vs)(own:Nat)(fr:List Nat)(N:Vs)(hi:vd X tg iter ti)(hg:∀B,xU (X.Ix N scope fs B) tg g)(hf:∀B,Ci (X.Ix N scope fs B) ifs tc)(he:∀B,bB (X.Ix N scope fs B) elt te)
  (LN:g.under own=true:=by rfl) (hc:X.calm=true:=by rfl) (hclos:closureFor scope X.env=pure (df X.env fs):=by rfl) (hcell:∀y∈scope.names,y.2 ≠ .cell:=by decide +kernel) (hkind:scope.kind = .function:=by rfl)
  (hnames:∀x∈scope.names,x.2 = .local->scope.names.lookup x.1=some .local:=by decide +kernel) (hcl:cQ X.env fs:=by repeat' first|exact trivial|exact⟨_,rfl⟩|constructor) (hhas:oF (relabel scope X.env).names (df X.env fs)=true:=by rfl)
  (hlen:N.length=own+fr.length:=by rfl) (hN:(N.drop own).map some=fr.map (fun j=>X.N[j]?):=by rfl) (hF:G3 X.env scope (df X.env fs) (N.drop own):=by repeat' first|exact trivial|exact .inl rfl|exact .inr rfl|exact rfl|apply And.intro)
  (hs:∀x,foldedSetIterable iter X.env x=pure x:=by intro _;rfl):bB X (.ListComp elt [⟨tg,iter,ifs,0⟩] scope pos) (aF ti g tc te own fr):=BI fs own fr N LN hc hclos hcell hkind hnames hcl hhas hlen hN hF hi hg hf he hs
def tK(fs:Vs)(own:Nat)(fr:List Nat)(N:Vs)(i:Nat){y:Str}{py spos:Pos}(hX:X.N.Nodup)(hi:vd X tg iter ti)(hg:∀B,xU (X.Ix N scope fs B) tg g)(hf:∀B,Ci (X.Ix N scope fs B) ifs tc)(he:∀B,bB (X.Ix N scope fs B) elt te)
  (hix:X.N[i]?=some y:=by rfl) (hy:X.env.scope.names.lookup y=some .local:=by rfl) (hsw:swapsWith (.ListComp elt [⟨tg,iter,ifs,0⟩] scope pos) (some (.Name y py)) spos.line X.env=pure true:=by rfl)
  (LN:g.under own=true:=by rfl) (hc:X.calm=true:=by rfl) (hclos:closureFor scope X.env=pure (df X.env fs):=by rfl) (hcell:∀y∈scope.names,y.2 ≠ .cell:=by decide +kernel) (hkind:scope.kind = .function:=by rfl)
  (hnames:∀x∈scope.names,x.2 = .local->scope.names.lookup x.1=some .local:=by decide +kernel) (hcl:cQ X.env fs:=by repeat' first|exact trivial|exact⟨_,rfl⟩|constructor) (hhas:oF (relabel scope X.env).names (df X.env fs)=true:=by rfl)
  (hlen:N.length=own+fr.length:=by rfl) (hN:(N.drop own).map some=fr.map (fun j=>X.N[j]?):=by rfl) (hF:G3 X.env scope (df X.env fs) (N.drop own):=by repeat' first|exact trivial|exact .inl rfl|exact .inr rfl|exact rfl|apply And.intro)
  (hs:∀x,foldedSetIterable iter X.env x=pure x:=by intro _;rfl):rf X (.Assign [.Name y py] (.ListComp elt [⟨tg,iter,ifs,0⟩] scope pos) spos) (au i (aF ti g tc te own fr)):=BJ fs own fr N hX hix hy hsw LN hc hclos hcell hkind hnames hcl hhas hlen hN hF hi hg hf he hs
end
section
variable {X:Cx} {e o value:Expr} {es:List Expr} {te to:aY} {ts:List aY} {x c m f:Str} {fl:Vs} {p pos pos' apos:Pos} {j k n:Nat} {sp:ax}
end
section
variable {P:Program} {w:World} {K:Vo} {mg:Vr} {base:Heap}
end
section
variable {X:Cx} {e:Expr} {es:List Expr} {ts:List aY} {x:Str} {p pos cpos:Pos} {ks:Vs} {j:Nat}
def Af{n:String}(hm:X.mg x=none)(hg:Gl X x:=by rfl)(hv:bootBuiltins x=some (.type n):=by decide +kernel)(hn:x ≠ "__name__":=by decide)(hd:(x == ("__debug__":Str))=false:=by decide):bB X (.Name x pos) (c3 (.ty n)):=E8 hg hm hv hn hd
end
section
variable {X:Cx} {body suite:List Stmt} {b₀:Stmt} {n x:Str} {np hpos pos:Pos} {tb th:bF} {cs:Vs}
end
section
variable {P:Program} {w:World} {K:Vo} {mg:Vr} {base:Heap}
structure qx (K:Vo) (mg:Vr) (x:Str) (st:Stmt) (ps:Vs):Prop where
 ex:∃T f fd,Fg K mg x st ps T f fd
structure L9 (P:Program) (w:World) (K:Vo) (mg:Vr) (base:Heap) (k:Nat) (x:Str) (n:Nat) (sp:ax):Prop where
 ex:∃f fd ps,ps.length=n/\LP P w K mg base k f fd ps sp/\mg x=some (.ref f)/\PySem.W.keepIn K (.ref f)=true/\Binds K fd ps []/\Binds K fd ps [.bool true]
def FW{x:Str}{st:Stmt}{ps:Vs}{k n:Nat}{t:bF}{sp:ax}(N:Vs)(O:qx K mg x st ps)
  (hbody:∀(f:Addr) (cdv:Value) (A:Around) (outer:List Env) (s:Shared) (H:Hp) (E:XK),Room k (A.deeper (PyProof.Rows.envOfC x (aM st) s.heap.objs.size f cdv))->N.Nodup->kB (Dl P w K mg base N x st f cdv A outer s H E) (bv st) t) (e:sp=F_ N.length t)
  (hn:ps.length=n:=by rfl) (S:d_ N ps (aM st):=by exact⟨rfl,rfl,rfl,by decide +kernel,rfl,by decide +kernel,by decide +kernel⟩):L9 P w K mg base (k+1) x n sp:=by
 subst e
 obtain⟨T,f,fd,o⟩:=O.ex
 exact⟨f,fd,ps,hn,Ff o.F S fun cdv A outer s H E hr=>hbody f cdv A outer s H E hr S.nd,o.m,o.k,o.b,o.d⟩
theorem L9.zero{x:Str}{st:Stmt}{ps:Vs}{k n:Nat}(O:qx K mg x st ps)(hn:ps.length=n:=by rfl):L9 P w K mg base k x n mB:=by
 obtain⟨T,f,fd,o⟩:=O.ex
 exact⟨f,fd,ps,hn,.zero rfl,o.m,o.k,o.b,o.d⟩
theorem DA{b n:Nat}{x:Str}{st:Stmt}{ps:Vs}{r:Nat->ax}(O:qx K mg x st ps)(h:∀j,L9 P w K mg base (b+j) x n (r j)->L9 P w K mg base (b+j+1) x n (r (j+1)))(h0:r 0=mB)(hn:ps.length=n:=by rfl):∀j,L9 P w K mg base (b+j) x n (r j)
 |0=>by rw[h0];exact .zero O hn
 |j+1=>h j (DA O h h0 hn j)
end
section
variable {X:Cx} {e:Expr} {es:List Expr} {ts:List aY} {x:Str} {p pos:Pos} {j k n:Nat} {sp:ax}
def cD(O:L9 X.prog X.w X.K X.mg X.base k x n sp)(hr:Room j X.A)(ha:kn X (e::es) ts)(hj:k<=j:=by omega)(hl:ts.length+1=n:=by rfl)(hg:Gl X x:=by rfl)(he:starEach (e::es) X.env=(false,eval e X.env)::starEach es X.env:=by rfl)(hdb:(x == ("__debug__":Str))=false:=by decide)(hpl:(backTo pos (starEach es X.env)).any (·.1)=false:=by rfl) :
  bB X (.Call (.Name x p) (e::es) [] pos) (kK sp ts):=by
 obtain⟨f,fd,ps,hn,F,h1,h2,h3,h4⟩:=O.ex
 exact y9 F (hr.mono hj) hg h1 h2 h4 he ha (hl.trans hn.symm) hdb hpl
def FX(O:L9 X.prog X.w X.K X.mg X.base k x n sp)(hr:Room j X.A)(ha:kn X (e::es) ts)(hj:k<=j:=by omega)(hl:ts.length=n:=by rfl)(hg:Gl X x:=by rfl)(he:starEach (e::es) X.env=(false,eval e X.env)::starEach es X.env:=by rfl)(hdb:(x == ("__debug__":Str))=false:=by decide)(hpl:(backTo pos (starEach es X.env)).any (·.1)=false:=by rfl) :
  bB X (.Call (.Name x p) (e::es) [] pos) (ab sp ts):=by
 obtain⟨f,fd,ps,hn,F,h1,h2,h3,h4⟩:=O.ex
 exact wj F (hr.mono hj) hg h1 h2 h3 he ha (hl.trans hn.symm) hdb hpl
end
end L3
namespace L3
open PySem L2
section
variable {X:Cx} {a b c:Expr} {ta tb tc:aY} {p pos:Pos}
def wC{K:Vo}{H0:Hp}{a b c:Addr}{xs ys zs:List PV}(Qw:xs.length<=ys.length)(Qx:xs.length<=zs.length):gZ K H0 (Em true K a b c) ⟨bT xs ys zs,fun S'=>S' a=some (.lst xs)/\S' b=some (.lst ys)/\S' c=some (.lst zs)⟩:=by
 intro i S H g rS ⟨ha,hb,hc⟩
 obtain⟨vs,hv,r1⟩:=rS _ _ ha
 obtain⟨us,hu,r2⟩:=rS _ _ hb
 obtain⟨ws,hw,r3⟩:=rS _ _ hc
 have hv:=SqL.of (K:=K) hv
 have hu:=SqL.of (K:=K) hu
 have hw:=SqL.of (K:=K) hw
 have l1:=r1.length
 refine⟨fun p hp=>?_,fun hi=>⟨vs,hv,?_⟩⟩
 ·unfold bT at hp
  rw[List.getElem?_map]at hp
  cases hz:(xs.zip (ys.zip zs))[i]? with
  |none=>rw[hz]at hp;cases hp
  |some z=>
   rw[hz]at hp
   cases hp
   obtain⟨e1,Oq⟩:=List.getElem?_zip_eq_some.mp hz
   obtain⟨e2,e3⟩:=List.getElem?_zip_eq_some.mp Oq
   obtain⟨v,hx',rv⟩:=r1.get e1
   obtain⟨u,hy',ru⟩:=r2.get e2
   obtain⟨t,hz',rt⟩:=r3.get e3
   refine⟨⟨vs,us,ws,v,u,t,hv,hu,hw,hx',hy',hz'⟩,fun x H' ⟨q,x2,y2,z2,e3,hq,e4,h⟩=>?_⟩
   subst e3 e4
   obtain⟨k1,k2,k3⟩:=h vs us ws hv hu hw
   rw[hx']at k1
   rw[hy']at k2
   rw[hz']at k3
   cases k1;cases k2;cases k3
   exact⟨.tup (SqT.of aG) (.cons (rv.mono (.new hq)) (.cons (ru.mono (.new hq)) (.cons (rt.mono (.new hq)) .nil))),rS.other hq,.new hq⟩
 ·have e:(bT xs ys zs).length=min xs.length (min ys.length zs.length):=by simp[bT]
  rw[e]at hi
  omega
def sr(ta tb tc:aY):tw:=fun σ S R E=>ta σ S (fun v S1=>tb σ S1 (fun w S2=>tc σ S2 (fun x S3=>match v,w,x with
 | .ref a,.ref b,.ref c=>(match S3 a,S3 b,S3 c with|some (.lst xs),some (.lst ys),some (.lst zs)=>xs.length<=ys.length/\xs.length<=zs.length/\R ⟨bT xs ys zs,fun S'=>S' a=some (.lst xs)/\S' b=some (.lst ys)/\S' c=some (.lst zs)⟩ S3|_,_,_=>False)
 |_,_,_=>False) E) E) E
def zd{elts:List Expr}{k0:Nat}{Hf:Pos}(hs:starEach [a,b,c] X.env=[(false,eval a X.env),(false,eval b X.env),(false,eval c X.env)])(hs2:starEach [b,c] X.env=[(false,eval b X.env),(false,eval c X.env)])(hg:Gl X "zip")(hm:X.mg "zip" = none)(hv:bootBuiltins "zip" = some (.type "zip"))(ha:kn X [a,b,c] [ta,tb,tc]) :
  vd X (.Tuple elts k0 Hf) (.Call (.Name "zip" p) [a,b,c] [] pos) (sr ta tb tc):=
 ⟨jc (wu (kd:=true) hg hm hv ha.ok hs hs2) fun σ H R ⟨σ3,S,R3,E3,rσ,rS,h,xo,k⟩=>⟨σ3,S,_,E3,rσ,rS,h,xo,fun v S1 v' H1 h1 rv Gd g1=>⟨σ3,S1,_,E3,rσ.mono g1,Gd,h1,xo.mono g1,fun w S2 w' H2 h2 rw' HD g2=>⟨σ3,S2,_,E3,(rσ.mono g1).mono g2,HD,h2,(xo.mono g1).mono g2,fun x S3 x' H3 h3 Ng Kz g3=>by
  dsimp only at h3
  split at h3
  ·cases rv
   cases rw'
   cases Ng
   split at h3
   ·rename_i ea eb ec
    obtain⟨vs,hv',_⟩:=Kz _ _ ea
    obtain⟨us,QE,_⟩:=Kz _ _ eb
    obtain⟨ws,hw',_⟩:=Kz _ _ ec
    exact⟨_,_,_,rfl,⟨_,SqL.of hv'⟩,⟨_,SqL.of QE⟩,⟨_,SqL.of hw'⟩,k _ S3 _ H3 h3.2.2 (wC h3.1 h3.2.1) Kz ((g1.trans g2).trans g3)⟩
   ·exact h3.elim
  ·exact h3.elim⟩⟩⟩⟩
end
end L3
namespace L2
open PySem PySem.Spec PyProof.Rows
section
variable {X:Cx}
end
end L2
namespace L3
open PySem L2
section
variable {X:Cx}
end
end L3
namespace CY
open PySem L2 L3
end CY
namespace L3
open PySem L2
theorem qy:∀{a b:List Char},a.map Char.toNat=b.map Char.toNat->a=b
 |[],[],_=>rfl
 |[],_::_,h=>by simp at h
 |_::_,[],h=>by simp at h
 |x::a,y::b,h=>by
  simp only[List.map_cons,List.cons.injEq]at h
  rw[qy h.2,Char.toNat_inj.mp h.1]
def aA{a b:String}:(Str.ofString a=Str.ofString b)↔a=b:=by
 refine⟨fun h=>?_,fun h=>by rw[h]⟩
 rw[Str.ofString_eq_toList,Str.ofString_eq_toList]at h
 have h':a.toList.map Char.toNat=b.toList.map Char.toNat:=by
  have:=congrArg (fun s:Str=>s.cps.toList) h
  simpa using this
 exact String.toList_inj.mp (qy h')
def sS{a b:String}:((Sum.inr (Str.ofString a):bI)=Sum.inr (Str.ofString b))↔a=b:=by
 rw[Sum.inr.injEq,aA]
def wD{i j:Int}(h1:-(2 ^ 64) < i)(h2:i < 2 ^ 64):IntMulOk i j:=(show LX i j from .inl ⟨h1,h2⟩).ok
def jR{i j:Int}(h1:-(2 ^ 64) < j)(h2:j < 2 ^ 64):IntMulOk i j:=(show LX i j from .inr ⟨h1,h2⟩).ok
def i3{i j:Int}(h:0<=j):i.fmod j=i % j:=Int.fmod_eq_emod_of_nonneg i h
def DB{i j:Int}(h:0<=j):i.fdiv j=i / j:=Int.fdiv_eq_ediv_of_nonneg i h
def DC{i j:Int}(h:0 < j)(h2:j < 2 ^ 64):nS i j:=⟨by omega,Nat.lt_trans (show j.natAbs < 2 ^ 64 by omega) (Nat.pow_lt_pow_right (by decide) (by decide))⟩
def GV(d l:Addr)(S S':aC):Prop:=∀a o,S a=some o->a≠d->a≠l->S' a=some o
def GV.refl{d l:Addr}{S:aC}:GV d l S S:=fun _ _ h _ _=>h
def GV.trans{d l:Addr}{S S1 S2:aC}(a:GV d l S S1)(b:GV d l S1 S2):GV d l S S2:=fun x o h h1 h2=>b x o (a x o h h1 h2) h1 h2
def GV.upd{d l:Addr}{S:aC}{o:SO}:GV d l S (F3 S d o):=fun x u h h1 h2=>by rw[al h1];exact h
def GV.QF{d l:Addr}{S:aC}{o:SO}:GV d l S (F3 S l o):=fun x u h h1 h2=>by rw[al h2];exact h
def GV.new{d l p:Addr}{S:aC}{o:SO}(h:S p=none):GV d l S (F3 S p o):=fun x u hx h1 h2=>by rw[al (fun e=>by rw[e,h]at hx;cases hx)];exact hx
end L3
local macro_rules | `(tactic| walk_at "x")=>`(tactic| ((try dsimp only [L3.ah,L3.au,L3.aw,L3.aP,L3.bg,L3.aN,L3.af,L3.v3,L3.c3,L3.lk,L3.aq,L3.ao,L3.ab,L3.dj,L3.aO,L3.jJ,L3.ll,L3.rV,L3.bX,L3.ma,L3.nR,L3.rW,L3.oQ,L3.uz,L3.mn,L3.ay,L3.bC,L3.d0,L3.bD,L3.ae,L3.kD,L3.bN,L3.oO,L3.ni,L3.oP,L3.fT,L3.iW,L3.bR,L3.hU,L3.i0,L3.wo,L3.uE,L3.sg,L3.Dn,L3.a_,L3.vb,L3.aS,L3.cF,L3.cr,L3.uy,L3.gY,L3.iZ,L3.bh,L3.oN,List.set_cons_zero,List.set_cons_succ,List.set_nil,L3.mj,L3.kH,L3.qm,L3.aF,L3.aD,L3.bt,L3.bM,L3.eg,L3.Tg.put,L3.Tg.F8,L3.se,L3.mr,L3.je,L3.qq,L3.nj,L3.cw,L3.uD,L3.bp,L3.aQ,List.reduceReplicate,List.map_cons,List.map_nil,List.cons_append,List.nil_append]); (try simp only [L3.ah,L3.au,L3.aw,L3.aP,L3.bg,L3.aN,L3.af,L3.v3,L3.c3,L3.lk,L3.aq,L3.ao,L3.ab,L3.dj,L3.aO,L3.jJ,L3.ll,L3.rV,L3.bX,L3.ma,L3.nR,L3.rW,L3.oQ,L3.uz,L3.mn,L3.ay,L3.bC,L3.d0,L3.bD,L3.ae,L3.kD,L3.bN,L3.oO,L3.ni,L3.oP,L3.fT,L3.iW,L3.bR,L3.hU,L3.i0,L3.wo,L3.uE,L3.sg,L3.Dn,L3.a_,L3.vb,L3.aS,L3.cF,L3.cr,L3.uy,L3.gY,L3.iZ,L3.bh,L3.oN,List.set_cons_zero,List.set_cons_succ,List.set_nil,L3.mj,L3.kH,L3.qm,L3.aF,L3.aD,L3.bt,L3.bM,L3.eg,L3.Tg.put,L3.Tg.F8,L3.se,L3.mr,L3.je,L3.qq,L3.nj,L3.cw,L3.uD,L3.bp,L3.aQ,List.reduceReplicate,List.map_cons,List.map_nil,List.cons_append,List.nil_append])))
namespace C
open PySem L2 L3
noncomputable def cq(seed number:Int)(l:Addr):List (bI×PV):=[(Sum.inr "seed",.int seed),(Sum.inr "number",.int number),(Sum.inr "left",.ref l)]
structure Jm (S:aC) (d l:Addr) (seed number:Int) (left:Vu):Prop where
 d:S d=some (.dct (cq seed number l))
 l:S l=some (.lst (left.map PV.int))
 s0:0<=seed
 s1:seed < 2147483647
 nm:0<=number
 lf:∀x∈left,0<=x
 ln:left.length<=100
def Gc(S:aC)(d l:Addr):Prop:=∃seed number left,Jm S d l seed number left
def Jm.ne{S:aC}{d l:Addr}{seed number:Int}{left:Vu}(D:Jm S d l seed number left):d≠l:=fun e=>by
 have h:=D.d
 rw[e,D.l]at h
 cases h
def Gc.new{S:aC}{d l p:Addr}{o:SO}(D:Gc S d l)(h:S p=none):Gc (F3 S p o) d l:=by
 obtain⟨s,n,f,D⟩:=D
 refine⟨s,n,f,?_,?_,D.s0,D.s1,D.nm,D.lf,D.ln⟩
 ·rw[al (fun e=>by have:=D.d;rw[e,h]at this;cases this)];exact D.d
 ·rw[al (fun e=>by have:=D.l;rw[e,h]at this;cases this)];exact D.l
def Gc.upd{S:aC}{d l p:Addr}{o:SO}(D:Gc S d l)(h1:p≠d)(h2:p≠l):Gc (F3 S p o) d l:=by
 obtain⟨s,n,f,D⟩:=D
 exact⟨s,n,f,by rw[al h1.symm];exact D.d,by rw[al h2.symm];exact D.l,D.s0,D.s1,D.nm,D.lf,D.ln⟩
def Gc.free{S:aC}{d l p:Addr}(D:Gc S d l)(h:S p=none):p≠d/\p≠l:=by
 obtain⟨s,n,f,D⟩:=D
 exact⟨(fun e=>by have:=D.d;rw[<-e,h]at this;cases this),(fun e=>by have:=D.l;rw[<-e,h]at this;cases this)⟩
def mC(s n m:Int)(l:Addr):kG (cq s n l) (Sum.inr "number") (.int m)=cq s m l:=by
 simp[kG,cq,sS,aA]
def wE(s n m:Int)(l:Addr):kG (cq s n l) (Sum.inr "seed") (.int m)=cq m n l:=by
 simp[kG,cq,sS,aA]
def BR(s n:Int)(l:Addr):fK (cq s n l) (Sum.inr "seed")=some (.int s):=by simp[fK,cq,sS,aA]
def wF(s n:Int)(l:Addr):fK (cq s n l) (Sum.inr "number")=some (.int n):=by simp[fK,cq,sS,aA]
def BS(s n:Int)(l:Addr):fK (cq s n l) (Sum.inr "left")=some (.ref l):=by simp[fK,cq,sS,aA]
abbrev bY(w:ax):Prop:=∀{S:aC} {d l:Addr} {m:Int} {Q:bJ} {E:b6},Gc S d l->0 < m->m < 2 ^ 62->(∀r S',0<=r->r < m->Gc S' d l->GV d l S S'->Q (.int r) S')->w [.ref d,.int m] S Q E
def F6:bY (F_ 5 hW):=by
  intro S d l m Q E D h0 h1 k
  obtain⟨seed,number,left,D⟩:=D
  have hne:=D.ne
  have hsz:∀a b,(cq a b l).length < sizeLine:=fun _ _=>fG (by show 3<=1000;decide)
  have fin:∀num Ld S1,Jm S1 d l seed num Ld->GV d l S S1->¬(num=0/\0 < Ld.length)->
      (if 0 < num then nS num m/\(cq seed num l).length < sizeLine/\m≠0/\Q (PV.int (num.fmod m)) (F3 S1 d (SO.dct (cq seed (num.fdiv m) l)))
       else IntMulOk seed 48271/\(2147483647:Int)≠0/\IntMulOk ((seed * 48271+7919).fmod 2147483647) 40692/\(2147483399:Int)≠0/\(cq seed num l).length < sizeLine/\
        IntMulOk (((seed * 48271+7919).fmod 2147483647 * 40692+104729).fmod 2147483399) (((seed * 48271+7919).fmod 2147483647 * 40692+104729).fmod 2147483399)/\(2147483563:Int)≠0/\
        IntMulOk ((seed * 48271+7919).fmod 2147483647) ((seed * 48271+7919).fmod 2147483647)/\(2147483629:Int)≠0/\
        IntMulOk (((seed * 48271+7919).fmod 2147483647 * (seed * 48271+7919).fmod 2147483647).fmod 2147483629) 2147483563/\m≠0/\
        Q (PV.int ((((seed * 48271+7919).fmod 2147483647 * (seed * 48271+7919).fmod 2147483647).fmod 2147483629 * 2147483563+((((seed * 48271+7919).fmod 2147483647 * 40692+104729).fmod 2147483399) * (((seed * 48271+7919).fmod 2147483647 * 40692+104729).fmod 2147483399)).fmod 2147483563).fmod m))
          (F3 S1 d (SO.dct (cq (((seed * 48271+7919).fmod 2147483647 * 40692+104729).fmod 2147483399) num l)))):=by
    intro num Ld S1 D1 O1 hz
    split
    . rename_i hp
      rw[i3 (Int.le_of_lt h0),DB (Int.le_of_lt h0)]
      refine⟨DC h0 (by omega),hsz _ _,by omega,k _ _ (Int.emod_nonneg _ (by omega)) (Int.emod_lt_of_pos _ h0) ⟨seed,num / m,Ld,aa,by rw[al hne.symm];exact D1.l,D1.s0,D1.s1,Int.ediv_nonneg D1.nm (Int.le_of_lt h0),D1.lf,D1.ln⟩ (O1.trans .upd)⟩
    . have e1:∀x:Int,x.fmod 2147483647=x % 2147483647:=fun x=>i3 (by decide)
      have e2:∀x:Int,x.fmod 2147483399=x % 2147483399:=fun x=>i3 (by decide)
      simp only[e1,e2,i3 (Int.le_of_lt h0)]
      have p1:=D1.s0
      have p2:=D1.s1
      refine⟨jR (by decide) (by decide),by decide,jR (by decide) (by decide),by decide,hsz _ _,wD (by omega) (by omega),by decide,wD (by omega) (by omega),by decide,jR (by decide) (by decide),by omega,
        k _ _ (Int.emod_nonneg _ (by omega)) (Int.emod_lt_of_pos _ h0) ⟨_,num,Ld,aa,by rw[al hne.symm];exact D1.l,by omega,by omega,D1.nm,D1.lf,D1.ln⟩ (O1.trans .upd)⟩
  unfold F_ hW
  rw[show av 5 [PV.ref d,PV.int m]=[some (.ref d),some (.int m),none,none,none] from rfl]
  simp only[ah]
  refine⟨fun n σ S'=>σ=[some (.ref d),some (.int m),none,none,none]/\∃number left,Jm S' d l seed number left/\left.length=n/\GV d l S S',⟨_,rfl,number,left,D,rfl,.refl⟩,?_⟩
  rintro n σ S1 ⟨rfl,num,Ld,D1,hn,O1⟩
  walk_at "x"
  simp only[D1.d,D1.l,wF,BS,BR,wE,mC,aa,Bool.false_bne,decide_eq_true_eq]
  have hlen:(List.map PV.int Ld).length=Ld.length:=List.length_map ..
  rw[hlen]
  split
  . rename_i hz
    subst hz
    split
    . rename_i hl
      refine⟨fun σ S'=>σ=[some (.ref d),some (.int m),none,none,none]/\∃number left,Jm S' d l seed number left/\left.length < n/\GV d l S S',?_,?_⟩
      . rintro σ' S' ⟨rfl,a,b,h2,h3,h4⟩
        exact⟨_,h3,rfl,a,b,h2,rfl,h4⟩
      . have hl':0 < Ld.length:=by omega
        obtain⟨pre,x,rfl⟩:∃pre x,Ld=pre++[x]:=by
          refine⟨Ld.dropLast,Ld.getLast (by intro e;rw[e]at hl';simp at hl'),(List.dropLast_concat_getLast _).symm⟩
        refine⟨trivial,?_⟩
        rw[show(List.map PV.int (pre++[x]))[(pre++[x]).length - 1]?=some (.int x) by simp,show(List.map PV.int (pre++[x])).dropLast=pre.map PV.int by simp]
        simp only[al hne,D1.d,mC]
        refine⟨hsz _ _,trivial,x,pre,⟨aa,by rw[al hne.symm,aa],D1.s0,D1.s1,D1.lf x (by simp),fun y hy=>D1.lf y (by simp[hy]),by have:=D1.ln;simp at this;omega⟩,?_,O1.trans (GV.QF.trans .upd)⟩
        rw[<-hn];simp
    . rename_i hl
      exact fin 0 Ld S1 D1 O1 (fun z=>hl (by omega))
  . rename_i hz
    rw[if_neg (by decide)]
    exact fin num Ld S1 D1 O1 (fun z=>hz z.1)
end C
namespace L3
open PySem L2
def Ext(S S':aC):Prop:=∀a o,S a=some o->S' a=some o
def Ext.refl{S:aC}:Ext S S:=fun _ _ h=>h
def Ext.trans{S S1 S2:aC}(a:Ext S S1)(b:Ext S1 S2):Ext S S2:=fun x o h=>b x o (a x o h)
def Ext.new{S:aC}{p:Addr}{o:SO}(h:S p=none):Ext S (F3 S p o):=fun x u hx=>by rw[al (fun e=>by rw[e,h]at hx;cases hx)];exact hx
def Ext.free{S S':aC}(e:Ext S S'){p:Addr}(h:S' p=none):S p=none:=by
 cases q:S p with
 |none=>rfl
 |some o=>rw[e p o q]at h;cases h
theorem gf{g:Tg}{tc:li}{te:aY}{σ':cM}{keep:aC->Prop}{fin:List PV->aC->Prop}{S:aC}(f:PV->PV)(c:PV->Bool)(hk:keep S):∀(items ys:List PV),
  (∀x∈items,∃σ2,g.put x σ'=some σ2/\(∀Q:Bool->aC->Prop,Q (c x) S->tc σ2 S Q d4)/\(c x=true->∀Q:bJ,Q (f x) S->te σ2 S Q d4))->ys.length+items.length<=sizeLine->fin (ys++(items.filter c).map f) S->de g tc te σ' keep fin items ys S
 |[],ys,_,hl,hf=>⟨hk,by simpa using hl,by simpa using hf⟩
 |x::r,ys,h,hl,hf=>by
  obtain⟨σ2,e,h1,h2⟩:=h x (by simp)
  refine⟨hk,by simp at hl;omega,?_⟩
  rw[e]
  refine h1 _ ?_
  cases hc:c x with
  |true=>
   rw[if_pos rfl]
   refine h2 hc _ (gf f c hk r (ys++[f x]) (fun y hy=>h y (by simp[hy])) (by simp at hl ⊢;omega) ?_)
   rw[List.filter_cons,hc,if_pos rfl]at hf
   simpa using hf
  |false=>
   rw[if_neg (by decide)]
   refine gf f c hk r ys (fun y hy=>h y (by simp[hy])) (by simp at hl ⊢;omega) ?_
   rw[List.filter_cons,hc,if_neg (by decide)]at hf
   exact hf
def oa{g:Tg}{te:aY}{σ':cM}{keep:aC->Prop}{fin:List PV->aC->Prop}{S:aC}(f:PV->PV){items:List PV}(hk:keep S)
  (h:∀x∈items,∃σ2,g.put x σ'=some σ2/\∀Q:bJ,Q (f x) S->te σ2 S Q d4) (hl:items.length<=sizeLine) (hf:fin (items.map f) S):de g bm te σ' keep fin items [] S:=by
 refine gf f (fun _=>true) hk items [] (fun x hx=>?_) (by simpa using hl) (by rw[List.filter_eq_self.mpr (fun _ _=>rfl)];exact hf)
 obtain⟨σ2,e,k⟩:=h x hx
 exact⟨σ2,e,fun Q q=>q,fun _=>k⟩
theorem og{g:Tg}{tc:li}{te:aY}{σ':cM}{keep:aC->Prop}{fin:List PV->aC->Prop}{items:List PV}(Iv:List PV->List PV->aC->Prop)(hk:∀done ys S,Iv done ys S->keep S/\ys.length<=sizeLine)
  (step:∀done x rest ys S (K:List PV->aC->Prop),items=done++x::rest->Iv done ys S->(∀ys' S',Iv (done++[x]) ys' S'->K ys' S')->match g.put x σ' with
   |some σ2=>tc σ2 S (fun b S3=>if b=true then te σ2 S3 (fun y S4=>K (ys++[y]) S4) d4 else K ys S3) d4
   |none=>False)
  (hf:∀ys S,Iv items ys S->fin ys S):∀(rest done ys:List PV) (S:aC),items=done++rest->Iv done ys S->de g tc te σ' keep fin rest ys S
 |[],done,ys,S,e,h=>by
  rw[List.append_nil]at e
  exact⟨(hk _ _ _ h).1,(hk _ _ _ h).2,hf ys S (e▸h)⟩
 |x::rest,done,ys,S,e,h=>by
  refine⟨(hk _ _ _ h).1,(hk _ _ _ h).2,?_⟩
  exact step done x rest ys S (fun ys' S'=>de g tc te σ' keep fin rest ys' S') e h fun ys' S' h'=>og Iv hk step hf rest (done++[x]) ys' S' (by rw[e];simp) h'
theorem qz{g:Tg}{tb:bF}{D:qi}{keep:aC->Prop}{items:List PV}(Iv:List PV->cM->aC->Prop)(hk:∀done σ S,Iv done σ S->keep S)
  (step:∀done x rest σ S (K:cM->aC->Prop),items=done++x::rest->Iv done σ S->(∀σ' S',Iv (done++[x]) σ' S'->K σ' S')->match g.put x σ with
   |some σ'=>tb { D with nx:=K,ct:=K,bk:=D.nx } σ' S
   |none=>False)
  (hd:∀σ S,Iv items σ S->D.nx σ S):∀(rest done:List PV) (σ:cM) (S:aC),items=done++rest->Iv done σ S->oR g tb D keep rest σ S
 |[],done,σ,S,e,h=>by
  rw[List.append_nil]at e
  exact⟨hk _ _ _ h,hd σ S (e▸h)⟩
 |x::rest,done,σ,S,e,h=>
  ⟨hk _ _ _ h,step done x rest σ S (oR g tb D keep rest) e h fun σ' S' h'=>qz Iv hk step hd rest (done++[x]) σ' S' (by rw[e];simp) h'⟩
def bx{g:Tg}{tb:bF}{D:qi}{keep:aC->Prop}{items:List PV}{σ:cM}{S:aC}(Iv:List PV->cM->aC->Prop)(h0:Iv [] σ S)(hk:∀done σ S,Iv done σ S->keep S)
  (step:∀done x rest σ S (K:cM->aC->Prop),items=done++x::rest->Iv done σ S->(∀σ' S',Iv (done++[x]) σ' S'->K σ' S')->match g.put x σ with
   |some σ'=>tb { D with nx:=K,ct:=K,bk:=D.nx } σ' S
   |none=>False)
  (hd:∀σ S,Iv items σ S->D.nx σ S):oR g tb D keep items σ S:=qz Iv hk step hd items [] σ S rfl h0
def dU{g:Tg}{tc:li}{te:aY}{σ':cM}{keep:aC->Prop}{fin:List PV->aC->Prop}{items:List PV}{S:aC}(Iv:List PV->List PV->aC->Prop)(h0:Iv [] [] S)(hk:∀done ys S,Iv done ys S->keep S/\ys.length<=sizeLine)
  (step:∀done x rest ys S (K:List PV->aC->Prop),items=done++x::rest->Iv done ys S->(∀ys' S',Iv (done++[x]) ys' S'->K ys' S')->match g.put x σ' with
   |some σ2=>tc σ2 S (fun b S3=>if b=true then te σ2 S3 (fun y S4=>K (ys++[y]) S4) d4 else K ys S3) d4
   |none=>False)
  (hf:∀ys S,Iv items ys S->fin ys S):de g tc te σ' keep fin items [] S:=og Iv hk step hf items [] [] S rfl h0
def ak{t u:bF}{D:qi}{σ:cM}{S:aC}(h:∀N:cM->aC->Prop,(∀σ S,u D σ S->N σ S)->t { D with nx:=N } σ S):ah t u D σ S:=h (u D) fun _ _ q=>q
def cP{n:Nat}{b:bF}{args:List PV}{S:aC}{Q:bJ}{E:b6}(h:b { nx:=fun _ S'=>Q .non S',rt:=Q,ex:=d4 } (av n args) S):F_ n b args S Q E:=h
def qA{α β:Type}(f:α->β)(xs:List α)(lo hi:Option Int):Hh (xs.map f) lo hi=(Hh xs lo hi).map f:=by
 unfold Hh
 rw[List.length_map,List.map_take,List.map_drop]
def qB{α:Type}(xs:List α)(lo hi:Option Int):(Hh xs lo hi).length<=xs.length:=by
 unfold Hh
 rw[List.length_take,List.length_drop]
 omega
def dG{n:Nat}(h:n<=1000):n<=sizeLine:=Nat.le_of_lt (fG h)
section
variable {α:Type} {a b c d e:α} {l:List α}
def cu:G2 (a::l) 0=some a:=by simp[G2,sW]
def dH:G2 (a::b::l) 1=some b:=ed (j:=1) rfl
def qC:G2 (a::b::c::l) 2=some c:=ed (j:=2) rfl
def FY:G2 (a::b::c::d::e::l) 4=some e:=ed (j:=4) rfl
end
def dW(lo:Int)(n:Nat):(bO lo n).length=n:=by simp[bO]
end L3
namespace C
open PySem L2 L3
abbrev qD(w:ax):Prop:=∀{S:aC} {ns:Vu} {b:Int} {Q:bJ} {E:b6},ns.length<=63->0<=b->b < 1000->(∀d l S',S d=none->S l=none->Gc S' d l->Ext S S'->Q (.ref d) S')->w [.cl (ns.map PV.int),.int b] S Q E
def JG:qD (F_ 5 hV):=by
 intro S ns b Q E hn h0 h1 k
 unfold F_ hV
 rw[show av 5 [PV.cl (ns.map PV.int),PV.int b]=[some (.cl (ns.map PV.int)),some (.int b),none,none,none] from rfl]
 walk_at "x"
 intro p hp
 rw[aa]
 dsimp only
 rw[qA]
 have hx:(Hh ns (some b) (some 63)).length<=63:=Nat.le_trans (qB _ _ _) hn
 generalize Hh ns (some b) (some 63)=xs at hx
 refine oa (fun v=>match v with | .int i=>.int (if 0 - i > i then 0 - i else i)|v=>v) aa (fun x hx=>?_) (dG (by rw[List.length_map];omega)) ?_
 ·obtain⟨i,hi,rfl⟩:=List.mem_map.mp hx
  refine⟨[some (.int i)],rfl,fun Q q=>?_⟩
  walk_at "x"
  exact q
 intro p2 hp2
 rw[aa]
 dsimp only
 rw[List.map_map]
 have e0:(xs.map ((fun v=>match v with | .int i=>.int (if 0 - i > i then 0 - i else i)|v=>v) ∘ PV.int))=(xs.map fun i=>if 0 - i > i then 0 - i else i).map PV.int:=by
  rw[List.map_map];rfl
 rw[e0]
 have hy:((xs.map fun i=>if 0 - i > i then 0 - i else i)).length<=63:=by rw[List.length_map];exact hx
 have M1:∀y∈xs.map (fun i:Int=>if 0 - i > i then 0 - i else i),0<=y:=by
  intro y hy
  obtain⟨i,_,rfl⟩:=List.mem_map.mp hy
  split<;>omega
 generalize (xs.map fun i=>if 0 - i > i then 0 - i else i)=ys at hy M1
 have h2:p2≠p:=fun e=>by rw[e,aa]at hp2;cases hp2
 have hp2':S p2=none:=by rw[<-hp2,al h2]
 refine bx (fun done σ S'=>S'=F3 (F3 S p (.lst (xs.map PV.int))) p2 (.lst (ys.map PV.int))/\∃v2 n,0<=n/\n < 2147483647/\σ=[some (.cl (ns.map PV.int)),some (.int b),v2,some (.ref p2),some (.int n)]) ⟨rfl,none,7919+b,by omega,by omega,rfl⟩ (fun done σ S' h=>by rw[h.1];exact aa) ?_ ?_
 ·rintro done x rest σ S' K e ⟨rfl,v2,n,n0,n1,rfl⟩ hK
  obtain⟨i,hi,rfl⟩:∃i,i∈ys/\x = .int i:=by
   have:x∈ys.map PV.int:=by rw[e];simp
   obtain⟨i,hi,rfl⟩:=List.mem_map.mp this
   exact⟨i,hi,rfl⟩
  walk_at "x"
  refine⟨jR (by decide) (by decide),by decide,by decide,hK _ _ ⟨rfl,_,_,?_,?_,rfl⟩⟩
  ·rw[i3 (by decide)];omega
  ·rw[i3 (i:=(n * 48271+_)) (by decide)];omega
 ·rintro σ S' ⟨rfl,v2,n,n0,n1,rfl⟩
  walk_at "x"
  intro d hd
  have hd2:d≠p2:=fun e=>by rw[e,aa]at hd;cases hd
  rw[al hd2]at hd
  have hd1:d≠p:=fun e=>by rw[e,aa]at hd;cases hd
  rw[al hd1]at hd
  rw[al hd2.symm,aa]
  dsimp only
  refine gf (fun v=>v) (fun v=>match v with | .int i=>decide (10 ^ 18<=i)|_=>false) (by rw[al hd2.symm,aa]) _ [] (fun x hx=>?_) (by rw[List.length_map];exact dG (by simp;omega)) ?_
  ·obtain⟨i,hi,rfl⟩:=List.mem_map.mp hx
   refine⟨[some (.int i)],rfl,fun Q q=>?_,fun _ Q q=>?_⟩
   ·walk_at "x"
    exact⟨⟨by decide,by decide,by decide⟩,q⟩
   ·walk_at "x"
    exact q
  intro p3 hp3
  rw[aa]
  intro l hl
  have e3:([]++List.map (fun v:PV=>v) (List.filter (fun v=>match v with | .int i=>decide (10 ^ 18<=i)|_=>false) (List.map PV.int ys)))=(ys.filter fun i=>decide (10 ^ 18<=i)).map PV.int:=by
   rw[List.nil_append,List.map_id',List.filter_map]
   rfl
  rw[e3]at hl ⊢
  rw[<-List.map_reverse]
  generalize Pw:F3 (F3 (F3 (F3 S p (SO.lst (List.map PV.int xs))) p2 (SO.lst (List.map PV.int ys))) d (SO.dct [])) p3 (SO.lst (List.map PV.int (List.filter (fun i=>decide (10 ^ 18<=i)) ys)))=S3 at hl ⊢
  have Px:S3 d=some (.dct []):=by rw[<-Pw,al (fun e=>by rw[<-e,aa]at hp3;cases hp3),aa]
  have Py:l≠d:=fun e=>by rw[e,Px]at hl;cases hl
  have Ow:Ext S S3:=by
   rw[<-Pw]
   refine(Ext.new hp).trans ((Ext.new hp2).trans ((Ext.new ?_).trans (.new hp3)))
   rw[al hd2,al hd1];exact hd
  refine⟨by rw[al Py.symm];exact Px,?_⟩
  have e4:nX [(PV.str "seed",PV.int n),(PV.str "number",PV.int 0),(PV.str "left",PV.ref l)]=some (cq n 0 l):=rfl
  rw[e4]
  have e5:eL [] (cq n 0 l)=cq n 0 l:=by simp[eL,cq,kG,sS,aA]
  dsimp only
  rw[e5]
  refine k d l _ hd (Ow.free hl) ⟨n,0,_,aa,by rw[al Py,aa],n0,n1,Int.le_refl _,fun y hy=>?_,?_⟩ ?_
  ·exact M1 y (List.mem_filter.mp (List.mem_reverse.mp hy)).1
  ·rw[List.length_reverse]
   exact Nat.le_trans (List.length_filter_le _ _) (by omega)
  ·intro a o ha
   have had:a≠d:=fun e=>by rw[e,hd]at ha;cases ha
   rw[al had,al (fun e=>by rw[e,Ow.free hl]at ha;cases ha)]
   exact Ow a o ha
end C
namespace L3
open PySem L2
theorem mD(S:aC):∀zs:List Str,IG S (zs.map PV.str) (zs.map PyData.str)
 |[]=>.nil
 |z::r=>.cons (.str z) (mD S r)
theorem il:∀{zs:Vs},(∀z∈zs,PyData.strOk z=true)->PyData.canLayAll0 (zs.map PyData.str)=true
 |[],_=>rfl
 |z::r,h=>by
  show(PyData.canLay0 (.str z)&&PyData.canLayAll0 (r.map PyData.str))=true
  rw[il fun y hy=>h y (by simp[hy])]
  have:PyData.canLay0 (.str z)=true:=h z (by simp)
  rw[this];rfl
def mE(z:Str)(zs:Vs):lp (.str z) (zs.map PyData.str)=decide (z∈zs):=by
 unfold lp
 rw[List.any_map,Bool.eq_iff_iff,List.any_eq_true,decide_eq_true_iff]
 constructor
 ·rintro⟨y,hy,e⟩
  have e':(y == z)=true:=e
  exact(eq_of_beq e')▸hy
 ·intro h
  exact⟨z,h,beq_self_eq_true z⟩
def dI{neg:Bool}{z:Str}{zs:Vs}{a:Addr}{S:aC}{Q:bJ}(hS:S a=some (.lst (zs.map PV.str)))(hz:PyData.strOk z=true)(hzs:∀y∈zs,PyData.strOk y=true)(q:Q (.bl (neg != decide (z∈zs))) S):jF neg (.str z) (.ref a) S Q:=by
 unfold jF
 simp only[hS]
 exact⟨_,_,.str z,mD S zs,hz,il hzs,by show 0<=150;decide,by rw[mE];exact q⟩
def bH{neg:Bool}{z:Str}{zs:Vs}{S:aC}{Q:bJ}(hz:PyData.strOk z=true)(hzs:∀y∈zs,PyData.strOk y=true)(q:Q (.bl (neg != decide (z∈zs))) S):jF neg (.str z) (.tup (zs.map PV.str)) S Q:=by
 unfold jF
 exact⟨_,_,.str z,mD S zs,hz,il hzs,by show 0<=150;decide,by rw[mE];exact q⟩
end L3
namespace C
open PySem L2 L3 Wd
abbrev lN(w:ax):Prop:=∀{S:aC} {t b:Int} {Q:bJ} {E:b6},0 < b->b.natAbs < 2 ^ 8000->Q (.tup [.int (M3.b9 t b),.int (M3.bG t b)]) S->w [.int t,.int b] S Q E
def JJ:lN (F_ 4 jg):=by
 intro S t b Q E hb hs k
 unfold F_ jg
 rw[show av 4 [PV.int t,PV.int b]=[some (.int t),some (.int b),none,none] from rfl]
 simp only[ah]
 walk_at "x"
 refine⟨fun n σ S'=>S'=S/\∃x y:Int,σ=[some (.int t),some (.int b),some (.int x),some (.int y)]/\0<=x/\0<=y/\Int.gcd x y=Int.gcd t b/\y.toNat=n,⟨_,rfl,_,b,rfl,by split<;>omega,by omega,?_,rfl⟩,?_⟩
 ·split
  ·rw[show(0 - t) = -t by omega,Int.neg_gcd]
  ·rfl
 rintro n σ S' ⟨rfl,x,y,rfl,hx,hy,hg,rfl⟩
 walk_at "x"
 simp only[decide_eq_true_eq]
 split
 ·rename_i hp
  refine⟨fun σ' KM=>KM=S'/\∃x' y':Int,σ'=[some (.int t),some (.int b),some (.int x'),some (.int y')]/\0<=x'/\0<=y'/\Int.gcd x' y'=Int.gcd t b/\y'.toNat < y.toNat,?_,?_⟩
  ·rintro σ' KM ⟨rfl,x',y',rfl,h1,h2,h3,h4⟩
   exact⟨_,h4,rfl,x',y',rfl,h1,h2,h3,rfl⟩
  ·walk_at "x"
   have e:x.fmod y=x % y:=i3 hy
   have l1:=Int.emod_nonneg x (b:=y) (by omega)
   have l2:=Int.emod_lt_of_pos x hp
   refine⟨by omega,trivial,y,x.fmod y,rfl,hy,by omega,?_,by omega⟩
   rw[M3.qh];exact hg
 ·rename_i hp
  have M1:y=0:=by omega
  subst M1
  have Ox:x=(Int.gcd t b:Int):=by
   rw[<-hg]
   rw[Int.gcd_zero_right]
   omega
  subst Ox
  have gp:(0:Int) < (Int.gcd t b:Int):=Int.natCast_pos.mpr (M3.iI (by omega))
  have gl:=M3.vU (t:=t) (b:=b) (by omega)
  have cd:∀z,nS z (Int.gcd t b:Int):=fun z=>⟨by omega,Nat.lt_of_le_of_lt (by omega) hs⟩
  refine⟨cd _,cd _,?_⟩
  have d1:=(M3.qg (t:=t) (b:=b) (by omega))
  rw[if_neg (by omega)]at d1
  rw[d1.1,d1.2]
  exact k
structure wG (x y:Int):Prop where
 low:M3.Eg x y
 x0:0<=x
 x1:x<=999
 y1:y<=9
def kM{n:Nat}(h:n < 2 ^ 64):n < 2 ^ 8000:=Nat.lt_trans h (Nat.pow_lt_pow_right (by decide) (by decide))
abbrev jS(w:ax):Prop:=∀{S:aC} {d l:Addr} {Q:bJ} {E:b6},Gc S d l->(∀x y S',wG x y->Gc S' d l->GV d l S S'->Q (.tup [.int x,.int y]) S')->w [.ref d] S Q E
def I_{wd wl:ax}(F6:bY wd)(JJ:lN wl):jS (F_ 2 (hZ wd wl)):=by
 intro S d l Q E D k
 unfold F_ hZ
 rw[show av 2 [PV.ref d]=[some (.ref d),none] from rfl]
 walk_at "x"
 refine F6 D (by decide) (by decide) fun r S1 r0 r1 D1 O1=>?_
 simp only[Bool.false_bne,decide_eq_true_eq]
 split
 ·exact k 0 1 S1 ⟨⟨by decide,by decide⟩,by decide,by decide,by decide⟩ D1 O1
 ·split
  ·refine F6 D1 (by decide) (by decide) fun r2 S2 a0 a1 D2 O2=>?_
   exact k _ 1 S2 ⟨⟨by decide,Int.gcd_one_right _⟩,by omega,by omega,by decide⟩ D2 (O1.trans O2)
  ·refine F6 D1 (by decide) (by decide) fun r2 S2 a0 a1 D2 O2=>F6 D2 (by decide) (by decide) fun r3 S3 b0 b1 D3 O3=>?_
   refine JJ (by omega) (kM (by omega)) ?_
   have z:=M3.vW (t:=r2) (b:=1+r3) (T:=999) (B:=9) (by omega) (by omega) (by omega) (by omega) (by omega) (by decide) (by decide)
   refine k _ _ S3 ⟨M3.oJ (by omega),?_,z.2.1,z.2.2.2⟩ D3 (O1.trans (O2.trans O3))
   unfold M3.b9
   rw[if_neg (by omega)]
   exact Int.ediv_nonneg a0 (by omega)
def uM{r:Int}(h0:0<=r)(h1:r < 26):∃c,G2 abc.cps.toList r=some c/\97<=c/\c<=122:=by
 obtain⟨n,rfl⟩:=Int.eq_ofNat_of_zero_le h0
 have q:=oI n
 rw[Nat.mod_eq_of_lt (by omega)]at q
 exact⟨_,q,by omega,by omega⟩
def kN{z:Str}(h:IsW z):PyData.strOk z=true:=by
 unfold PyData.strOk
 rw[Array.all_eq_true']
 intro c hc
 have:=h.sm c (by simpa using hc)
 simp;omega
def ze:∀z∈Hg,PyData.strOk z=true:=by decide +kernel
theorem kO:∀zs:List Str,texts (zs.map PV.str)=some zs
 |[]=>rfl
 |z::r=>by show(texts (r.map PV.str)).map (z::·)=_;rw[kO r];rfl
def uN:("":Str).length=0:=by decide +kernel
def oh{cs:List Nat}(h:cs.length<=1000):((cs.map oG).map (·.length)).sum+(cs.map oG).length * ("":Str).length<=1000000:=by
 rw[yH,uN]
 omega
def mF{w__law_draw:ax}(F6:bY w__law_draw){S:aC}{d l:Addr}{σ:cM}{n:Int}{fin:List PV->aC->Prop}(D:Gc S d l)(hn:n.toNat<=100)(h1:lk σ 1=some (.ref d))(h2:lk σ 2=some (.str abc))(hσ:∃x,σ=[x,some (.ref d),some (.str abc)])
  (k:∀(cs:List Nat) S',cs.length=n.toNat->(∀c∈cs,97<=c/\c<=122)->Gc S' d l->GV d l S S'->fin ((cs.map oG).map PV.str) S') :
  de (Tg.n 0) bm (af ae (v3 2) (ab w__law_draw [v3 1,c3 (.int 26)])) σ (fun _=>True) fin (bO 0 n.toNat) [] S:=by
 obtain⟨x0,rfl⟩:=hσ
 refine dU (fun done ys S'=>∃cs:List Nat,ys=(cs.map oG).map PV.str/\cs.length=done.length/\done.length<=n.toNat/\(∀c∈cs,97<=c/\c<=122)/\Gc S' d l/\GV d l S S') ⟨[],rfl,rfl,Nat.zero_le _,by simp,D,.refl⟩ ?_ ?_ ?_
 ·rintro done ys S' ⟨cs,rfl,e,hd,_⟩
  exact⟨trivial,dG (by rw[List.length_map,List.length_map,e];omega)⟩
 ·rintro done x rest ys S' K e ⟨cs,rfl,e2,hd,hc,D',O'⟩ hK
  have hlen:done.length+1<=n.toNat:=by
   have:=congrArg List.length e
   rw[dW,List.length_append,List.length_cons]at this
   omega
  walk_at "x"
  simp only[bm,if_true]
  refine F6 D' (by decide) (by decide) fun r S2 r0 r1 D2 O2=>⟨lJ.1,?_⟩
  obtain⟨c,ec,c0,c1⟩:=uM r0 r1
  rw[ec]
  refine hK _ _ ⟨cs++[c],by simp,by simp[e2],by simpa using hlen,fun y hy=>?_,D2,O'.trans O2⟩
  rcases List.mem_append.mp hy with hy|hy
  ·exact hc y hy
  ·rw[List.mem_singleton.mp hy];exact⟨c0,c1⟩
 ·rintro ys S' ⟨cs,rfl,e,hd,hc,D',O'⟩
  exact k cs S' (by rw[e,dW]) hc D' O'
theorem qE{f:Str->List Nat}(r:List Nat):∀xs:List Str,(xs.map f).Nodup->(xs.filter fun z=>f z == r).length<=1
 |[],_=>Nat.zero_le _
 |x::xs,h=>by
  rw[List.map_cons,List.nodup_cons]at h
  rw[List.filter_cons]
  by_cases e:(f x == r)=true
  ·rw[if_pos e]
   have no:(xs.filter fun z=>f z == r)=[]:=by
    refine List.filter_eq_nil_iff.mpr fun z hz q=>h.1 ?_
    rw[eq_of_beq e,<-eq_of_beq q]
    exact List.mem_map.mpr ⟨z,hz,rfl⟩
   rw[no]
   exact Nat.le_refl _
  ·rw[if_neg e]
   exact qE r xs h.2
def wH(r:List Nat):(Hg.filter fun z=>z.cps.toList.tail == r).length<=1:=qE (f:=fun z=>z.cps.toList.tail) r Hg (by decide +kernel)
def ss(r:List Nat)(c:Nat)(ns:Vs)(h:ns.length < 17):∃j,j < 26/\cand r (c+j) ∉ Hg++ns:=by
 obtain⟨j,hj,free⟩:=uv r c ((Hg.filter fun z=>z.cps.toList.tail == r)++ns) (by rw[List.length_append];have:=wH r;omega)
 refine⟨j,hj,fun hm=>free ?_⟩
 rcases List.mem_append.mp hm with q|q
 ·exact List.mem_append_left _ (List.mem_filter.mpr ⟨q,by simp[cand]⟩)
 ·exact List.mem_append_right _ q
abbrev fL(w:ax):Prop:=∀{S:aC} {d l:Addr} {m:Int} {Q:bJ} {E:b6},Gc S d l->0<=m->m<=17->(∀p (ns:Vs) S',ns.length=m.toNat->ns.Nodup->(∀z∈ns,IsW z/\z ∉ Hg)->S p=none->p≠d->p≠l->S' p=some (.lst (ns.map PV.str))->Gc S' d l->GV d l S S'->Q (.ref p) S')->w [.ref d,.int m] S Q E
def Hj{wd:ax}(F6:bY wd):fL (F_ 11 (fV wd)):=by
 intro S d l m Q E D h0 h1 k
 unfold fV
 refine cP ?_
 rw[show av 11 [PV.ref d,PV.int m]=[some (.ref d),some (.int m),none,none,none,none,none,none,none,none,none] from rfl]
 refine ak fun N hN=>?_
 walk_at "x"
 refine hN _ _ (ak fun N hN=>?_)
 walk_at "x"
 intro pT hT
 have dT:=D.free hT
 have D0:Gc (F3 S pT (.lst (Hg.map PV.str))) d l:=D.new hT
 have Pz:(F3 S pT (.lst (Hg.map PV.str))) pT=some (.lst (Hg.map PV.str)):=aa
 have O0:GV d l S (F3 S pT (.lst (Hg.map PV.str))):=.new hT
 have eK:[PV.str "jars",PV.str "deed",PV.str "rest",PV.str "pay",PV.str "put",PV.str "then",PV.str "either",PV.str "take",PV.str "often",PV.str "use"]=Hg.map PV.str:=rfl
 rw[eK]
 generalize F3 S pT (.lst (Hg.map PV.str))=S0 at D0 Pz O0 ⊢
 refine hN _ _ (ak fun N hN=>?_)
 walk_at "x"
 refine⟨trivial,F6 D0 (by decide) (by decide) fun n S1 n0 n1 D1 O1=>⟨by omega,by omega,?_⟩⟩
 refine mF F6 D1 (by omega) rfl rfl ⟨_,rfl⟩ fun cs S2 hl hc D2 O2 pj hj=>?_
 simp only[nU,aa,kO]
 refine⟨oh (by omega),?_⟩
 rw[show Txt.join (Str.ofString "") (cs.map oG)=⟨cs.toArray⟩from l8 cs]
 refine hN _ _ (ak fun N hN=>?_)
 walk_at "x"
 have hcl:cs.length<=5:=by omega
 have lc:(⟨cs.toArray⟩:Str).length=cs.length:=List.size_toArray
 refine⟨by rw[lc];exact dG (by omega),F6 (D2.new hj) (by rw[lc];omega) (by rw[lc];omega) fun at' S3 a0 a1 D3 O3=>F6 D3 (by decide) (by decide) fun tu S4 t0 t1 D4 O4=>F6 D4 (by decide) (by decide) fun nr S5 r0 r1 D5 O5=>?_⟩
 rw[lc]at a1
 obtain⟨an,rfl⟩:=Int.eq_ofNat_of_zero_le a0
 obtain⟨tn,rfl⟩:=Int.eq_ofNat_of_zero_le t0
 refine hN _ _ (ak fun N hN=>?_)
 walk_at "x"
 intro q hq
 have dq:=D5.free hq
 have OA:GV d l S0 S5:=O1.trans (O2.trans ((GV.new hj).trans (O3.trans (O4.trans O5))))
 have Oy:=OA _ _ Pz dT.1 dT.2
 have PB:pT≠q:=fun e=>by rw[e,hq]at Oy;cases Oy
 have PC:S q=none:=by
  cases e:S q with
  |none=>rfl
  |some o=>rw[OA _ _ (O0 _ _ e dq.1 dq.2) dq.1 dq.2]at hq;cases hq
 refine hN _ _ (ak fun N hN=>?_)
 simp only[bM,nj,v3,lk]
 refine⟨by omega,by omega,?_⟩
 refine bx (fun done σ S'=>∃(ns:Vs) (v4 v10:Option PV) (near:Bool),σ=[some (.ref d),some (.int m),some (.str abc),some (.ref pT),v4,some (.str ⟨cs.toArray⟩),some (.int an),some (.int tn),some (.bl near),some (.ref q),v10]/\ns.length=done.length/\ns.Nodup/\(∀z∈ns,IsW z/\z ∉ Hg)/\S' q=some (.lst (ns.map PV.str))/\S' pT=some (.lst (Hg.map PV.str))/\Gc S' d l/\GV d l S S')
  ⟨[],_,_,_,rfl,rfl,List.nodup_nil,(fun z hz=>nomatch hz),aa,by rw[al PB];exact Oy,D5.new hq,O0.trans (OA.trans (.new hq))⟩ (fun _ _ _ _=>trivial) ?_ ?_
 ·rintro done x rest σ S6 K e ⟨ns,v4,v10,near,rfl,Oz,OC,w6,NG,OD,D6,O6⟩ hK
  have hlen:done.length < m.toNat:=by
   have:=congrArg List.length e
   rw[dW,List.length_append,List.length_cons]at this
   omega
  have hx:x = .int (0+(done.length:Nat)):=by
   have h2:=congrArg (fun l=>l[done.length]?) e
   simp only[List.getElem?_append_right (Nat.le_refl _),Nat.sub_self,List.getElem?_cons_zero]at h2
   unfold bO at h2
   rw[List.getElem?_map,List.getElem?_range hlen]at h2
   simpa using h2.symm
  subst hx
  -- the tail: a word is changed QG it is new,then laid down
  have ql:∀(z:Str) (v4:Option PV) (S7:aC),IsW z->S7 q=some (.lst (ns.map PV.str))->S7 pT=some (.lst (Hg.map PV.str))->Gc S7 d l->GV d l S S7->
    ah (jd (ll (aO (af (jF false) (v3 10) (v3 3))) (aO (af (jF false) (v3 10) (v3 9)))) (au 10 (af aS (af ae (v3 2) (af hU (af aS (dj "str" kF (v3 2) [(af ae (v3 10) (c3 (.int 0)))]) (c3 (.int 1))) (c3 (.int 26)))) (bN (v3 10) (ni (c3 (.int 1))) oO))))
     (aP (dj "list" bp (v3 9) [(v3 10)])) { nx:=K,rt:=Q,ex:=d4,bk:=N,ct:=K } [some (.ref d),some (.int m),some (.str abc),some (.ref pT),v4,some (.str ⟨cs.toArray⟩),some (.int an),some (.int tn),some (.bl near),some (.ref q),some (.str z)] S7:=by
   intro z v4 S7 hz PD PH D7 O7
   obtain⟨i,r,rfl,hi,QH,hrs⟩:=hz.cand
   obtain⟨j,hj,free⟩:=ss r i ns (by omega)
   refine⟨fun mm σ S'=>∃t,σ=[some (.ref d),some (.int m),some (.str abc),some (.ref pT),v4,some (.str ⟨cs.toArray⟩),some (.int an),some (.int tn),some (.bl near),some (.ref q),some (.str (cand r (i+t)))]/\S'=S7/\t<=j/\mm=j - t,⟨j,0,rfl,rfl,Nat.zero_le _,rfl⟩,?_⟩
   rintro mm σ S' ⟨t,rfl,rfl,ht,rfl⟩
   have hw:=vT QH hrs (i+t)
   have OE:∀y∈ns,PyData.strOk y=true:=fun y hy=>kN (w6 y hy).1
   have go:t < j->∃N:cM->aC->Prop,(∀σ' KM,N σ' KM->∃m',m' < j - t/\∃t',σ'=[some (.ref d),some (.int m),some (.str abc),some (.ref pT),v4,some (.str ⟨cs.toArray⟩),some (.int an),some (.int tn),some (.bl near),some (.ref q),some (.str (cand r (i+t')))]/\KM=S'/\t'<=j/\m'=j - t')/\
     N ([some (.ref d),some (.int m),some (.str abc),some (.ref pT),v4,some (.str ⟨cs.toArray⟩),some (.int an),some (.int tn),some (.bl near),some (.ref q),some (.str (cand r (i+(t+1))))]) S':=fun lt=>
    ⟨fun σ' KM=>σ'=[some (.ref d),some (.int m),some (.str abc),some (.ref pT),v4,some (.str ⟨cs.toArray⟩),some (.int an),some (.int tn),some (.bl near),some (.ref q),some (.str (cand r (i+(t+1))))]/\KM=S',fun σ' KM ⟨e1,e2⟩=>⟨j - (t+1),by omega,t+1,e1,e2,by omega,rfl⟩,rfl,rfl⟩
   have NH:((((i+t) % 26:Nat):Int)+1).fmod 26=(((i+t+1) % 26:Nat):Int):=by rw[i3 (by decide)];omega
   walk_at "x"
   refine dI PH (kN hw) ze ?_
   simp only[Bool.false_bne,decide_eq_true_eq]
   split
   ·rename_i g
    have lt:t < j:=Nat.lt_of_le_of_ne ht fun e=>by subst e;exact free (List.mem_append_left _ g)
    obtain⟨N,hN,hn⟩:=go lt
    rw[if_pos trivial]
    refine⟨N,hN,trivial,hw.line,?_⟩
    rw[nP]
    simp only[kF,vR _ (Nat.mod_lt _ (by decide))]
    refine⟨by decide,lJ.1,?_⟩
    rw[NH,oI (i+t+1)]
    refine⟨hw.line,?_,?_⟩
    ·rw[iH]
     exact dG (show 1+r.toArray.size<=1000 by rw[List.size_toArray];omega)
    ·rw[iH,nQ]
     exact hn
   ·rename_i g
    refine dI PD (kN hw) OE ?_
    simp only[Bool.false_bne,decide_eq_true_eq]
    split
    ·rename_i g2
     have lt:t < j:=Nat.lt_of_le_of_ne ht fun e=>by subst e;exact free (List.mem_append_right _ g2)
     obtain⟨N,hN,hn⟩:=go lt
     refine⟨N,hN,trivial,hw.line,?_⟩
     rw[nP]
     simp only[kF,vR _ (Nat.mod_lt _ (by decide))]
     refine⟨by decide,lJ.1,?_⟩
     rw[NH,oI (i+t+1)]
     refine⟨hw.line,?_,?_⟩
     ·rw[iH]
      exact dG (show 1+r.toArray.size<=1000 by rw[List.size_toArray];omega)
     ·rw[iH,nQ]
      exact hn
    ·rename_i g2
     simp only[PD]
     refine⟨trivial,by rw[List.length_map];exact fG (by omega),hK _ _ ⟨ns++[cand r (i+t)],_,_,_,rfl,by simp[Oz],List.nodup_append.mpr ⟨OC,by simp,fun a ha b hb e=>?_⟩,fun z hz=>?_,by rw[List.map_append];exact aa,by rw[al PB];exact PH,D7.upd dq.1 dq.2,fun a o ha h1 h2=>?_⟩⟩
     ·rw[List.mem_singleton.mp hb]at e
      exact g2 (e▸ha)
     ·rcases List.mem_append.mp hz with hz|hz
      ·exact w6 z hz
      ·rw[List.mem_singleton.mp hz]
       exact⟨hw,g⟩
     ·rw[al (fun e=>by rw[e,PC]at ha;cases ha)]
      exact O7 a o ha h1 h2
  obtain⟨pw,QI,pl2⟩:=yI hcl hc (a:=an) (i:=(tn+done.length) % 26) (by omega) (Nat.mod_lt _ (by decide))
  have NH:((tn:Int)+(0+(done.length:Int))).fmod 26=(((tn+done.length) % 26:Nat):Int):=by rw[i3 (by decide)];omega
  have PJ:(⟨cs.toArray⟩:Str).length<=sizeLine:=by rw[lc];exact dG (by omega)
  simp only[Tg.put]
  refine ak fun N2 HA=>?_
  walk_at "x"
  refine⟨PJ,by decide,lJ.1,?_⟩
  rw[NH,oI (tn+done.length)]
  refine⟨Nat.le_trans (Nat.add_le_add QI (Nat.le_refl 1)) (by decide),PJ,Nat.le_trans (Nat.le_of_eq (Array.size_append).symm) (Nat.le_trans pw.len (by decide)),?_⟩
  refine HA _ _ (ak fun N3 Ka=>?_)
  walk_at "x"
  split
  ·refine⟨trivial,F6 D6 (by decide) (by decide) fun n2 Sa m0 m1 Da Oa=>⟨by omega,by omega,?_⟩⟩
   refine mF F6 Da (by omega) rfl rfl ⟨_,rfl⟩ fun MH Sb hl2 hc2 Db Ob QJ hj2=>?_
   simp only[nU,aa,kO]
   refine⟨oh (by omega),?_⟩
   rw[show Txt.join (Str.ofString "") (MH.map oG)=⟨MH.toArray⟩from l8 MH]
   refine Ka _ _ ?_
   have wz:IsW (⟨MH.toArray⟩:Str):=⟨fun e=>by have e':MH=[]:=e;rw[e']at hl2;simp at hl2;omega,by show MH.length<=6;omega,hc2⟩
   have OB:GV d l S6 (F3 Sb QJ (.lst ((MH.map oG).map PV.str))):=Oa.trans (Ob.trans (.new hj2))
   exact ql _ _ _ wz (OB _ _ NG dq.1 dq.2) (OB _ _ OD dT.1 dT.2) (Db.new hj2) (O6.trans OB)
  ·exact Ka _ _ (ql _ _ S6 pw NG OD D6 O6)
 ·rintro σ S6 ⟨ns,v4,v10,near,rfl,Oz,OC,w6,NG,OD,D6,O6⟩
  refine hN _ _ ?_
  walk_at "x"
  exact k q ns S6 (by rw[Oz,dW]) OC w6 PC dq.1 dq.2 NG D6 O6
inductive Bd where
 |rest|pay (x y:Int)|put (z:Str) (m:Int)|use (z:Str)|Gn (a:Bd)|F9 (a b:Bd)|Gu (a b:Bd)|Gp (z:Str) (m:Int) (a b:Bd)
noncomputable def Bd.pv:Bd->PV
 | .rest=>.tup [.str "rest"]
 | .pay x y=>.tup [.str "pay",.tup [.int x,.int y]]
 | .put z m=>.tup [.str "put",.str z,.int m]
 | .use z=>.tup [.str "use",.str z]
 | .Gn a=>.tup [.str "often",a.pv]
 | .F9 a b=>.tup [.str "then",a.pv,b.pv]
 | .Gu a b=>.tup [.str "either",a.pv,b.pv]
 | .Gp z m a b=>.tup [.str "take",.str z,.int m,a.pv,b.pv]
noncomputable def Bd.dep:Bd->Nat
 | .Gn a=>a.dep+1
 | .F9 a b=>max a.dep b.dep+1
 | .Gu a b=>max a.dep b.dep+1
 | .Gp _ _ a b=>max a.dep b.dep+1
 |_=>1
noncomputable def Bd.size:Bd->Nat
 | .Gn a=>a.size+1
 | .F9 a b=>a.size+b.size+1
 | .Gu a b=>a.size+b.size+1
 | .Gp _ _ a b=>a.size+b.size+1
 |_=>1
noncomputable def Bd.good(js us:Vs):Bd->Prop
 | .rest=>True
 | .pay x y=>wG x y
 | .put z m=>z∈js/\1<=m/\m<=9
 | .use z=>z∈us
 | .Gn a=>a.good js us
 | .F9 a b=>a.good js us/\b.good js us
 | .Gu a b=>a.good js us/\b.good js us
 | .Gp z m a b=>z∈js/\1<=m/\m<=9/\a.good js us/\b.good js us
def Bd.Gf(t:Bd):1<=t.dep:=by cases t<;>simp[Bd.dep]
def gg{α:Type}{xs:List α}{r:Int}(h0:0<=r)(h1:r < xs.length):∃v,G2 xs r=some v/\v∈xs:=by
 obtain⟨n,rfl⟩:=Int.eq_ofNat_of_zero_le h0
 have hn:n < xs.length:=by omega
 exact⟨xs[n],ed (by simp[hn]),List.getElem_mem hn⟩
noncomputable def Bd.leaf:Bd->Prop
 | .rest=>True
 | .pay _ _=>True
 | .put _ _=>True
 |_=>False
def Bd.GE{t:Bd}(h:t.leaf):t.dep=1/\t.size=1:=by cases t<;>first|exact⟨rfl,rfl⟩|exact h.elim
abbrev jT(w:ax):Prop:=∀{S:aC} {d l:Addr} {js:Vs} {Q:bJ} {E:b6},Gc S d l->js.length < 2 ^ 61->(∀(t:Bd) S',t.leaf->t.good js []->Gc S' d l->GV d l S S'->Q t.pv S')->w [.ref d,.tup (js.map PV.str)] S Q E
def G0{wd wc:ax}(F6:bY wd)(I_:jS wc):jT (F_ 4 (dR wd wc)):=by
 intro S d l js Q E D hj k
 unfold dR
 refine cP ?_
 rw[show av 4 [PV.ref d,PV.tup (js.map PV.str)]=[some (.ref d),some (.tup (js.map PV.str)),none,none] from rfl]
 refine ak fun N hN=>?_
 walk_at "x"
 refine F6 D (by decide) (by decide) fun r S1 r0 r1 D1 O1=>?_
 refine hN _ _ (ak fun N hN=>?_)
 walk_at "x"
 simp only[Bool.false_bne,decide_eq_true_eq]
 split
 ·exact k .rest S1 trivial trivial D1 O1
 refine hN _ _ (ak fun N hN=>?_)
 walk_at "x"
 simp only[Bool.false_bne,decide_eq_true_eq,List.length_map]
 have pay:wc [.ref d] S1 (fun x S=>Q (.tup [.str "pay",x]) S) d4:=I_ D1 fun x y S2 c D2 O2=>k (.pay x y) S2 trivial c D2 (O1.trans O2)
 split
 ·rw[if_pos trivial];exact pay
 split
 ·exact pay
 rename_i hr hz
 refine hN _ _ (ak fun N hN=>?_)
 walk_at "x"
 refine F6 D1 (by decide) (by decide) fun r2 S2 a0 a1 D2 O2 p hp=>F6 (D2.new hp) (by decide) (by decide) fun r3 S3 b0 b1 D3 O3=>?_
 have dp:=D2.free hp
 have hp3:=O3 _ _ (aa (S:=S2) (o:=.lst [.int 1,.int 2,.int (1+r2)])) dp.1 dp.2
 simp only[hp3]
 obtain⟨v,hv,hm⟩:=gg (xs:=[PV.int 1,.int 2,.int (1+r2)]) b0 (by simpa using b1)
 rw[hv]
 obtain⟨m,rfl,m0,m1⟩:∃m,v = .int m/\1<=m/\m<=9:=by
  simp only[List.mem_cons,List.not_mem_nil,or_false]at hm
  rcases hm with rfl|rfl|rfl
  ·exact⟨1,rfl,by omega,by omega⟩
  ·exact⟨2,rfl,by omega,by omega⟩
  ·exact⟨1+r2,rfl,by omega,by omega⟩
 refine hN _ _ ?_
 walk_at "x"
 simp only[List.length_map]
 refine F6 D3 (by omega) (by omega) fun r4 S4 c0 c1 D4 O4=>?_
 obtain⟨w,hw,OF⟩:=gg (xs:=js.map PV.str) c0 (by rw[List.length_map];exact c1)
 dsimp only
 rw[hw]
 obtain⟨z,hz,rfl⟩:=List.mem_map.mp OF
 exact k (.put z m) S4 trivial ⟨hz,m0,m1⟩ D4 (O1.trans (O2.trans ((GV.new hp).trans (O3.trans O4))))
def JK(d l x:Addr)(S S':aC):Prop:=∀a o,S a=some o->a≠d->a≠l->a≠x->S' a=some o
theorem _root_.L3.GV.x{d l x:Addr}{S S':aC}(h:GV d l S S'):JK d l x S S':=fun a o e h1 h2 _=>h a o e h1 h2
def JK.trans{d l x:Addr}{S S1 S2:aC}(a:JK d l x S S1)(b:JK d l x S1 S2):JK d l x S S2:=fun y o h h1 h2 h3=>b y o (a y o h h1 h2 h3) h1 h2 h3
def JK.upd{d l x:Addr}{S:aC}{o:SO}:JK d l x S (F3 S x o):=fun y u h h1 h2 h3=>by rw[al h3];exact h
abbrev im(n:Nat)(w:ax):Prop:=∀{S:aC} {d l x:Addr} {js:Vs} {left down:Int} {Q:bJ} {E:b6},Gc S d l->S x=some (.lst [.int left])->x≠d->x≠l->js.length < 2 ^ 61->0<=left->left < 2 ^ 61->0<=down->down < n->
  (∀(t:Bd) S' left',t.good js []->(t.dep:Int)<=down+1->0<=left'->(t.size:Int)+left'<=left+1->Gc S' d l->S' x=some (.lst [.int left'])->JK d l x S S'->Q t.pv S')->w [.ref d,.tup (js.map PV.str),.ref x,.int down] S Q E
def Ja{wd wl rb:ax}(F6:bY wd)(G0:jT wl)(n:Nat)(ih:im n rb):im (n+1) (F_ 8 (h_ wd wl rb)):=by
 intro S d l x js left down Q E D hx hxd LQ hj h0 h1 h2 h3 k
 unfold h_
 refine cP ?_
 rw[show av 8 [PV.ref d,PV.tup (js.map PV.str),PV.ref x,PV.int down]=[some (.ref d),some (.tup (js.map PV.str)),some (.ref x),some (.int down),none,none,none,none] from rfl]
 refine ak fun N hN=>?_
 walk_at "x"
 refine F6 D (by decide) (by decide) fun r S1 r0 r1 D1 O1=>?_
 have Nj:=O1 _ _ hx hxd LQ
 refine hN _ _ (ak fun N hN=>?_)
 walk_at "x"
 have a0:G2 [PV.int left] 0=some (.int left):=rfl
 simp only[Bool.false_bne,decide_eq_true_eq,Nj,a0]
 have lf:wl [.ref d,.tup (js.map PV.str)] S1 Q d4:=G0 D1 hj fun t S2 hl hg D2 O2=>k t S2 left hg (by rw[(Bd.GE hl).1];omega) h0 (by rw[(Bd.GE hl).2];omega) D2 (O2 _ _ Nj hxd LQ) (O1.x.trans O2.x)
 split
 ·rw[if_pos trivial];exact lf
 split
 ·rw[if_pos trivial];exact lf
 split
 ·exact lf
 rename_i hd hl hf
 refine hN _ _ (ak fun N hN=>?_)
 simp only[bg,aO,af,v3,c3,lk,uE,fT,decide_eq_true_eq]
 have PK:sW [PV.int left].length 0=some 0:=rfl
 split
 ·refine ak fun N2 HA=>?_
  walk_at "x"
  simp only[Nj,a0,PK]
  refine HA _ _ ?_
  walk_at "x"
  refine ih (left:=left - 1) (D1.upd hxd LQ) aa hxd LQ hj (by omega) (by omega) (by omega) (by omega) fun t S2 l2 hg Lj q0 q1 D2 OG O2=>?_
  exact k (.Gn t) S2 l2 hg (by simp only[Bd.dep];omega) q0 (by simp only[Bd.size];omega) D2 OG (O1.x.trans (JK.upd.trans O2))
 ·refine hN _ _ (ak fun N hN=>?_)
  walk_at "x"
  simp only[Nj,a0,PK]
  refine hN _ _ (ak fun N hN=>?_)
  walk_at "x"
  refine ih (left:=left - 2) (D1.upd hxd LQ) aa hxd LQ hj (by omega) (by omega) (by omega) (by omega) fun ta S2 l2 ga da q0 q1 D2 OG O2=>?_
  refine hN _ _ (ak fun N hN=>?_)
  walk_at "x"
  refine ih (left:=l2) D2 OG hxd LQ hj q0 (by omega) (by omega) (by omega) fun tb S3 l3 gb db p0 p1 D3 OH O3=>?_
  have OA:JK d l x S S3:=O1.x.trans (JK.upd.trans (O2.trans O3))
  refine hN _ _ (ak fun N hN=>?_)
  walk_at "x"
  simp only[decide_eq_true_eq]
  split
  ·exact k (.F9 ta tb) S3 l3 ⟨ga,gb⟩ (by simp only[Bd.dep];omega) p0 (by simp only[Bd.size];omega) D3 OH OA
  refine hN _ _ (ak fun N hN=>?_)
  walk_at "x"
  simp only[Bool.false_bne,decide_eq_true_eq,List.length_map]
  have ei:Q (Bd.Gu ta tb).pv S3:=k (.Gu ta tb) S3 l3 ⟨ga,gb⟩ (by simp only[Bd.dep];omega) p0 (by simp only[Bd.size];omega) D3 OH OA
  split
  ·rw[if_pos trivial];exact ei
  split
  ·exact ei
  rename_i hz8 hz
  refine hN _ _ (ak fun N hN=>?_)
  walk_at "x"
  refine F6 D3 (by decide) (by decide) fun r2 S4 e0 e1 D4 O4 p hp=>F6 (D4.new hp) (by decide) (by decide) fun r3 S5 b0 b1 D5 O5=>?_
  have dp:=D4.free hp
  have hp3:=O5 _ _ (aa (S:=S4) (o:=.lst [.int 1,.int 1,.int 2,.int (1+r2)])) dp.1 dp.2
  simp only[hp3]
  obtain⟨v,hv,hm⟩:=gg (xs:=[PV.int 1,.int 1,.int 2,.int (1+r2)]) b0 (by simpa using b1)
  rw[hv]
  obtain⟨m,rfl,m0,m1⟩:∃m,v = .int m/\1<=m/\m<=9:=by
   simp only[List.mem_cons,List.not_mem_nil,or_false]at hm
   rcases hm with rfl|rfl|rfl|rfl
   ·exact⟨1,rfl,by omega,by omega⟩
   ·exact⟨1,rfl,by omega,by omega⟩
   ·exact⟨2,rfl,by omega,by omega⟩
   ·exact⟨1+r2,rfl,by omega,by omega⟩
  refine hN _ _ ?_
  walk_at "x"
  simp only[List.length_map]
  refine F6 D5 (by omega) (by omega) fun r4 S6 c0 c1 D6 O6=>?_
  obtain⟨w,hw,OF⟩:=gg (xs:=js.map PV.str) c0 (by rw[List.length_map];exact c1)
  dsimp only
  rw[hw]
  obtain⟨z,hz,rfl⟩:=List.mem_map.mp OF
  have OI:=O4 _ _ OH hxd LQ
  have QK:x≠p:=fun e=>by rw[e,hp]at OI;cases OI
  have QL:=O6 _ _ (O5 _ _ (show F3 S4 p _ x=some (.lst [.int l3]) by rw[al QK];exact OI) hxd LQ) hxd LQ
  exact k (.Gp z m ta tb) S6 l3 ⟨hz,m0,m1,ga,gb⟩ (by simp only[Bd.dep];omega) p0 (by simp only[Bd.size];omega) D6 QL (OA.trans (O4.x.trans ((GV.new hp).x.trans (O5.x.trans O6.x))))
end C
local macro_rules | `(tactic| walk_at "w")=>`(tactic| simp only [L3.ah,L3.au,L3.aw,L3.aP,L3.bg,L3.aN,L3.af,L3.v3,L3.c3,L3.lk,L3.aq,L3.ao,L3.ab,L3.dj,L3.aO,L3.jJ,L3.ll,L3.rV,L3.bX,L3.ma,L3.nR,L3.rW,L3.oQ,L3.uz,L3.mn,L3.ay,L3.bC,L3.d0,L3.bD,L3.ae,L3.kD,L3.bN,L3.oO,L3.ni,L3.oP,L3.fT,L3.iW,L3.bR,L3.hU,L3.i0,L3.wo,L3.uE,L3.sg,L3.Dn,L3.a_,L3.vb,L3.aS,L3.cF,L3.cr,L3.uy,L3.gY,L3.iZ,L3.bh,L3.oN,List.set_cons_zero,List.set_cons_succ,List.set_nil,L3.mj,L3.kH,L3.qm,L3.aF,L3.aD,L3.bt,L3.bM,L3.eg,L3.Tg.put,L3.Tg.F8,L3.se,L3.mr,L3.je,L3.qq,L3.nj,L3.cw,L3.uD,L3.bp,L3.aQ,List.reduceReplicate,List.map_cons,List.map_nil,List.cons_append,List.nil_append,L3.cu,L3.dH,L3.qC,L3.FY,L3.aA,String.reduceEq,decide_true,decide_false,Bool.false_bne,Bool.true_bne,Bool.not_true,Bool.not_false,if_true,if_false,Bool.false_eq_true,reduceIte,ite_true,ite_false])
local macro_rules | `(tactic| walk_at "y")=>`(tactic| ((try walk_at "x"); (try walk_at "w")))
namespace C
open PySem L2 L3 Wd
noncomputable def Bd.F5:Bd->Nat
 | .F9 a b=>a.F5 * b.F5
 | .Gu a b=>a.F5+b.F5
 | .Gp _ _ a b=>a.F5+b.F5
 |_=>1
noncomputable def Bd.F7:Bd->Nat
 | .Gn a=>a.F5+a.F7
 | .F9 a b=>a.F7+b.F7
 | .Gu a b=>a.F7+b.F7
 | .Gp _ _ a b=>a.F7+b.F7
 |_=>0
theorem Bd.GX:∀t:Bd,t.F5<=2 ^ t.size
 | .rest=>by simp[Bd.F5,Bd.size]
 | .pay _ _=>by simp[Bd.F5,Bd.size]
 | .put _ _=>by simp[Bd.F5,Bd.size]
 | .use _=>by simp[Bd.F5,Bd.size]
 | .Gn a=>by simp only[Bd.F5,Bd.size];exact Nat.one_le_two_pow
 | .F9 a b=>by
  simp only[Bd.F5,Bd.size]
  refine Nat.le_trans (Nat.mul_le_mul a.GX b.GX) ?_
  rw[<-Nat.pow_add]
  exact Nat.pow_le_pow_right (by decide) (by omega)
 | .Gu a b=>by
  simp only[Bd.F5,Bd.size]
  have h1:2 ^ a.size<=2 ^ (a.size+b.size):=Nat.pow_le_pow_right (by decide) (by omega)
  have h2:2 ^ b.size<=2 ^ (a.size+b.size):=Nat.pow_le_pow_right (by decide) (by omega)
  have:=a.GX
  have:=b.GX
  rw[Nat.pow_succ]
  omega
 | .Gp _ _ a b=>by
  simp only[Bd.F5,Bd.size]
  have h1:2 ^ a.size<=2 ^ (a.size+b.size):=Nat.pow_le_pow_right (by decide) (by omega)
  have h2:2 ^ b.size<=2 ^ (a.size+b.size):=Nat.pow_le_pow_right (by decide) (by omega)
  have:=a.GX
  have:=b.GX
  rw[Nat.pow_succ]
  omega
def Bd.J3{t:Bd}(h:t.size<=60):(t.F5:Int) < 2 ^ 64:=by
 have h1:=t.GX
 have h2:2 ^ t.size<=2 ^ 60:=Nat.pow_le_pow_right (by decide) h
 omega
abbrev du(n:Nat)(w:ax):Prop:=∀{S:aC} {t:Bd} {Q:bJ} {E:b6},t.dep<=n->t.size<=60->Q (.int t.F5) S->w [t.pv] S Q E
def uO{s0:ax}(n:Nat)(ih:du n s0):du (n+1) (F_ 1 (cU s0)):=by
 intro S t Q E hd hs k
 unfold cU
 refine cP ?_
 rw[show av 1 [t.pv]=[some t.pv] from rfl]
 cases t with
 |F9 a b=>
  simp only[Bd.dep,Bd.size]at hd hs
  simp only[Bd.pv]
  walk_at "w"
  refine ih (by omega) (by omega) (ih (by omega) (by omega) ⟨wD (by omega) (Bd.J3 (by omega)),?_⟩)
  simpa [Bd.F5]using k
 |Gu a b=>
  simp only[Bd.dep,Bd.size]at hd hs
  simp only[Bd.pv]
  walk_at "w"
  refine ih (by omega) (by omega) (ih (by omega) (by omega) ?_)
  simpa [Bd.F5]using k
 |Gp z m a b=>
  simp only[Bd.dep,Bd.size]at hd hs
  simp only[Bd.pv]
  walk_at "w"
  refine ih (by omega) (by omega) (ih (by omega) (by omega) ?_)
  simpa [Bd.F5]using k
 |_=>
  simp only[Bd.pv]
  walk_at "w"
  exact k
abbrev gh(n:Nat)(w:ax):Prop:=∀{S:aC} {t:Bd} {Q:bJ} {E:b6},t.dep<=n->t.size<=60->Q (.int t.F7) S->w [t.pv] S Q E
def eN:∀y∈(["then","either","take"]:Vs),PyData.strOk y=true:=by decide +kernel
def jU:∀y∈(["rest","pay","put","use","often","then","either","take"]:Vs),PyData.strOk y=true:=by decide +kernel
def uP{x0 s0:ax}(n m:Nat)(hp:du m x0)(ih:gh n s0)(hnm:n<=m):gh (n+1) (F_ 1 (cG x0 s0)):=by
 intro S t Q E hd hs k
 unfold cG
 refine cP ?_
 rw[show av 1 [t.pv]=[some t.pv] from rfl]
 have e3:[PV.str "then",PV.str "either",PV.str "take"]=(["then","either","take"]:Vs).map PV.str:=rfl
 cases t with
 |Gn a=>
  simp only[Bd.dep,Bd.size]at hd hs
  simp only[Bd.pv]
  walk_at "y"
  refine hp (by omega) (by omega) (ih (by omega) (by omega) ?_)
  simpa [Bd.F7]using k
 |F9 a b=>
  simp only[Bd.dep,Bd.size]at hd hs
  simp only[Bd.pv]
  walk_at "y"
  rw[e3]
  refine bH (jU _ (by simp)) eN ?_
  simp[aA]
  refine ih (by omega) (by omega) (ih (by omega) (by omega) ?_)
  simpa [Bd.F7]using k
 |Gu a b=>
  simp only[Bd.dep,Bd.size]at hd hs
  simp only[Bd.pv]
  walk_at "y"
  rw[e3]
  refine bH (jU _ (by simp)) eN ?_
  simp[aA]
  refine ih (by omega) (by omega) (ih (by omega) (by omega) ?_)
  simpa [Bd.F7]using k
 |Gp z m a b=>
  simp only[Bd.dep,Bd.size]at hd hs
  simp only[Bd.pv]
  walk_at "y"
  rw[e3]
  refine bH (jU _ (by simp)) eN ?_
  simp[aA]
  refine ih (by omega) (by omega) (ih (by omega) (by omega) ?_)
  simpa [Bd.F7]using k
 |_=>
  simp only[Bd.pv]
  walk_at "y"
  rw[e3]
  refine bH (jU _ (by simp)) eN ?_
  simp[aA]
  simpa [Bd.F7]using k
abbrev gj(w:ax):Prop:=∀{S:aC} {d l:Addr} {js:Vs} {size bound:Int} {Q:bJ} {E:b6},Gc S d l->js.length < 2 ^ 61->1<=size->size<=60->
  (∀(t:Bd) S',t.good js []->t.dep<=6->t.size<=60->(t.size:Int)<=max size 4->((t.F5:Int)+t.F7<=bound\/(t.F5:Int)+t.F7<=2)->Gc S' d l->GV d l S S'->Q t.pv S')->w [.ref d,.tup (js.map PV.str),.int size,.int bound] S Q E
def oZ{x0 x1 x2 x3:ax}(n:Nat)(hn:6<=n)(Ja:im n x0)(Nk:du n x1)(Nl:gh n x2)(G0:jT x3):gj (F_ 5 (dk x0 x1 x2 x3)):=by
 intro S d l js size bound Q E D hj h1 h2 k
 unfold dk
 refine cP ?_
 rw[show av 5 [PV.ref d,PV.tup (js.map PV.str),PV.int size,PV.int bound]=[some (.ref d),some (.tup (js.map PV.str)),some (.int size),some (.int bound),none] from rfl]
 refine ak fun N hN=>?_
 walk_at "x"
 intro p hp
 have dp:=D.free hp
 refine Ja (D.new hp) aa dp.1 dp.2 hj (by omega) (by omega) (by decide) (by omega) fun t S1 l1 hg hd q0 q1 D1 Nj O1=>?_
 have PL:GV d l S S1:=fun a o ha h1 h2=>O1 a o (by rw[al (fun e=>by rw[e,hp]at ha;cases ha)];exact ha) h1 h2 (fun e=>by rw[e,hp]at ha;cases ha)
 refine hN _ _ (ak fun N hN=>?_)
 simp only[bg,aO,af,ab,aq,v3,lk,List.set_cons_zero,List.set_cons_succ,sg,aS,fT]
 refine Nk (by omega) (by omega) (Nl (by omega) (by omega) ?_)
 simp only[decide_eq_true_eq]
 split
 ·walk_at "x"
  refine G0 D1 hj fun t2 S2 hl2 LZ D2 O2=>G0 D2 hj fun t3 S3 hl3 QM D3 O3=>?_
  refine hN _ _ ?_
  walk_at "x"
  have e2:=Bd.GE hl2
  have e3:=Bd.GE hl3
  refine k (.F9 (.Gn t2) t3) S3 ⟨LZ,QM⟩ (by simp only[Bd.dep];omega) (by simp only[Bd.size];omega) (by simp only[Bd.size];omega) (.inr ?_) D3 (PL.trans (O2.trans O3))
  have c2:t2.F5=1/\t2.F7=0:=by cases t2<;>first|exact⟨rfl,rfl⟩|exact hl2.elim
  have c3:t3.F5=1/\t3.F7=0:=by cases t3<;>first|exact⟨rfl,rfl⟩|exact hl3.elim
  simp only[Bd.F5,Bd.F7,c2,c3]
  decide
 ·rename_i hb
  walk_at "x"
  refine hN _ _ ?_
  walk_at "x"
  exact k t S1 hg (by omega) (by omega) (by omega) (.inl (by omega)) D1 PL
noncomputable def dX(p:Str×Bd):PV:=.tup [.str p.1,p.2.pv]
noncomputable def GN(js:Vs)(ds:List (Str×Bd)):PV:=.tup [.tup (js.map PV.str),.tup (ds.map dX)]
structure DD (js:Vs) (us:Vs) (ds:List (Str×Bd)):Prop where
 jl:js.length<=16
 dl:ds.length<=16
 jw:∀z∈js,IsW z
 uw:∀z∈us,IsW z
 dw:∀p∈ds,IsW p.1
 gd:∀p∈ds,p.2.good js us
 dp:∀p∈ds,p.2.dep<=60
 sz:∀p∈ds,p.2.size<=60
def Gc.ext{S S':aC}{d l:Addr}(D:Gc S d l)(e:Ext S S'):Gc S' d l:=by
 obtain⟨s,n,f,D⟩:=D
 exact⟨s,n,f,e _ _ D.d,e _ _ D.l,D.s0,D.s1,D.nm,D.lf,D.ln⟩
def _root_.L3.GV.free{d l p:Addr}{S S':aC}(O:GV d l S S')(h:S' p=none)(h1:p≠d)(h2:p≠l):S p=none:=by
 cases e:S p with
 |none=>rfl
 |some o=>rw[O p o e h1 h2]at h;cases h
def _root_.L3.GV.put{d l p:Addr}{S S':aC}{o:SO}(O:GV d l S S')(h:S p=none):GV d l S (F3 S' p o):=fun x u hx h1 h2=>by rw[al (fun e=>by rw[e,h]at hx;cases hx)];exact O x u hx h1 h2
def _root_.L3.Ext.put{p:Addr}{S S':aC}{o:SO}(O:Ext S S')(h:S p=none):Ext S (F3 S' p o):=fun x u hx=>by rw[al (fun e=>by rw[e,h]at hx;cases hx)];exact O x u hx
def o0{α:Type}{xs:List α}{n:Nat}(h:n<=xs.length):Hh xs none (some (n:Int))=xs.take n:=by
 unfold Hh
 rw[HT.lV,HT.sU,List.drop_zero,Nat.min_eq_left h]
 rfl
def BU{α:Type}{xs:List α}{n:Nat}(h:n<=xs.length):Hh xs (some (n:Int)) none=xs.drop n:=by
 unfold Hh
 rw[HT.lV,HT.sU,Nat.min_eq_left h,List.take_of_length_le]
 rw[List.length_drop]
 exact Nat.le_refl _
def zf{x:PV}{n:Nat}{a b:List PV}(e:bO 0 n=a++x::b):x = .int a.length/\a.length < n:=by
 have h1:(bO 0 n)[a.length]?=some x:=by rw[e];simp
 unfold bO at h1
 rw[List.getElem?_map]at h1
 have hl:a.length < n:=by
  have:=congrArg List.length e
  rw[dW,List.length_append,List.length_cons]at this
  omega
 rw[List.getElem?_range hl]at h1
 simp at h1
 exact⟨h1.symm,hl⟩
def mG{α:Type}{xs:List α}{n:Nat}{v:α}(h:xs[n]?=some v):G2 xs (n:Int)=some v:=ed h
noncomputable def Bd.sides:Bd->List Bd
 | .Gn a=>[a]
 | .F9 a b=>[a,b]
 | .Gu a b=>[a,b]
 | .Gp _ _ a b=>[a,b]
 |_=>[]
noncomputable def Bd.parts:Bd->List Bd
 | .Gn a=>.Gn a::a.parts
 | .F9 a b=>.F9 a b::(a.parts++b.parts)
 | .Gu a b=>.Gu a b::(a.parts++b.parts)
 | .Gp z m a b=>.Gp z m a b::(a.parts++b.parts)
 |t=>[t]
def Bd.KC(t:Bd):t.parts=t::t.sides.flatMap Bd.parts:=by cases t<;>simp[Bd.parts,Bd.sides]
theorem Bd.Gv:∀t:Bd,t.parts.length=t.size
 | .rest=>rfl
 | .pay _ _=>rfl
 | .put _ _=>rfl
 | .use _=>rfl
 | .Gn a=>by simp only[Bd.parts,Bd.size,List.length_cons,a.Gv]
 | .F9 a b=>by simp only[Bd.parts,Bd.size,List.length_cons,List.length_append,a.Gv,b.Gv]
 | .Gu a b=>by simp only[Bd.parts,Bd.size,List.length_cons,List.length_append,a.Gv,b.Gv]
 | .Gp _ _ a b=>by simp only[Bd.parts,Bd.size,List.length_cons,List.length_append,a.Gv,b.Gv]
def Bd.KE{t u:Bd}(h:u∈t.sides):u.dep < t.dep/\u.size < t.size:=by
 cases t<;>simp[Bd.sides]at h
 ·subst h;simp[Bd.dep,Bd.size]
 all_goals (rcases h with rfl|rfl<;>simp only[Bd.dep,Bd.size]<;>omega)
abbrev iJ(w:ax):Prop:=∀{S:aC} {t:Bd} {Q:bJ} {E:b6},Q (.tup (t.sides.map Bd.pv)) S->w [t.pv] S Q E
def Is:iJ (F_ 1 jh):=by
 intro S t Q E k
 unfold jh
 refine cP ?_
 rw[show av 1 [t.pv]=[some t.pv] from rfl]
 cases t<;>(unfold Bd.pv;walk_at "y"; simp only[tE,af,v3,lk,c3,ae,cu,kD,ao,aq,cr,k_SIDES_FROM,List.find?,sS,String.reduceEq,decide_true,decide_false,Option.map,Option.getD];exact k)
abbrev fe(n:Nat)(w:ax):Prop:=∀{S:aC} {t:Bd} {Q:bJ} {E:b6},t.dep<=n->t.size<=900->(∀p S',S p=none->Ext S S'->S' p=some (.lst (t.parts.map Bd.pv))->Q (.ref p) S')->w [t.pv] S Q E
def JL{xs s0:ax}(Is:iJ xs)(n:Nat)(ih:fe n s0):fe (n+1) (F_ 3 (ji xs s0)):=by
 intro S t Q E hd hs k
 unfold ji
 refine cP ?_
 rw[show av 3 [t.pv]=[some t.pv,none,none] from rfl]
 refine ak fun N hN=>?_
 walk_at "x"
 intro p hp
 have X0:Ext S (F3 S p (.lst [t.pv])):=.new hp
 have hp0:(F3 S p (.lst [t.pv])) p=some (.lst [t.pv]):=aa
 generalize F3 S p (.lst [t.pv])=S0 at X0 hp0
 refine hN _ _ (ak fun N hN=>?_)
 simp only[bM,aD,ab,aq,v3,lk]
 refine Is ?_
 simp only[bt]
 refine bx (fun done σ S'=>∃(ts:List Bd) (x:Option PV) (rs:List Bd),done=ts.map Bd.pv/\t.sides=ts++rs/\σ=[some t.pv,some (.ref p),x]/\Ext S S'/\S' p=some (.lst ((t::ts.flatMap Bd.parts).map Bd.pv))) ⟨[],_,t.sides,rfl,rfl,rfl,X0,hp0⟩ (fun _ _ _ _=>trivial) ?_ ?_
 ·rintro done x rest σ S1 K e ⟨ts,y,rs,rfl,es,rfl,X1,h1⟩ hK
  rw[es,List.map_append]at e
  have e2:=List.append_cancel_left e
  rcases rs with _|⟨r,rs⟩
  ·cases e2
  rw[List.map_cons,List.cons.injEq]at e2
  obtain⟨rfl,e3⟩:=e2
  have hr:r∈t.sides:=by rw[es];simp
  have hrd:=Bd.KE hr
  walk_at "x"
  refine⟨by rw[h1];trivial,ih (t:=r) (by omega) (by omega) fun q S2 hq X2 h2=>?_⟩
  simp only[X2 _ _ h1,h2]
  have hlen:(t::ts.flatMap Bd.parts).length+r.parts.length<=t.size:=by
   rw[<-Bd.Gv t,Bd.KC t,es,List.flatMap_append,List.flatMap_cons]
   simp only[List.length_cons,List.length_append]
   omega
  refine⟨dG (by simp only[List.length_map]at *;omega),?_⟩
  refine hK _ _ ⟨ts++[r],_,rs,by simp,by rw[es];simp,rfl,(X1.trans X2).put hp,?_⟩
  rw[aa,List.flatMap_append]
  simp
 ·rintro σ S1 ⟨ts,y,rs,e,es,rfl,X1,h1⟩
  refine hN _ _ ?_
  walk_at "x"
  have ez:rs=[]:=by
   have:=congrArg List.length e
   rw[es]at this
   simp at this
   exact this
  subst ez
  rw[List.append_nil]at es
  rw[<-es,<-Bd.KC]at h1
  exact k p S1 hp X1 h1
noncomputable def heads:List Str:=["rest","pay","put","use","often","then","either","take"]
def uQ:∀z∈heads,PyData.strOk z=true:=by decide +kernel
structure IB (n:Nat) (js us:Vs) (ds:List (Str×Bd)):Prop extends DD js us ds where
 jn:js.Nodup
 dn:(ds.map Prod.fst).Nodup
 dq:∀p∈ds,p.2.dep<=n
def eO{xs:List PV}{x:PV}{a b:List PV}(e:L3.aR xs=a++x::b):∃y,x = .tup [.int a.length,y]/\xs[a.length]?=some y:=by
 have h1:(L3.aR xs)[a.length]?=some x:=by rw[e];simp
 unfold L3.aR at h1
 rw[List.getElem?_mapIdx]at h1
 cases h:xs[a.length]? with
 |none=>rw[h]at h1;cases h1
 |some y=>
  rw[h]at h1
  simp only[Option.map_some,Option.some.injEq]at h1
  exact⟨y,h1.symm,rfl⟩
inductive Mi (L:Nat):Nat->PV->Prop
 |int {n:Nat} (i:Int):Mi L n (.int i)
 |tup {n:Nat} {xs:List PV}:xs.length<=L->(∀x∈xs,Mi L n x)->Mi L (n+1) (.tup xs)
def Mi.mono{L M n m:Nat}{v:PV}(h:Mi L n v)(hL:L<=M):n<=m->Mi M m v:=by
 induction h generalizing m with
 |int i=>exact fun _=>.int i
 |@tup n xs hl _ ih=>
  intro hm
  cases m with
  |zero=>omega
  |succ m=>exact .tup (Nat.le_trans hl hL) fun x hx=>ih x hx (by omega)
noncomputable def bU:Bd->PV->Bool
 | .Gn a,.tup gs=>gs.all fun g=>match g with | .tup [.int m,tr]=>decide (1<=m)&&bU a tr|_=>false
 | .F9 a b,.tup [x,y]=>bU a x&&bU b y
 | .Gu a b,.tup [.int i,y]=>if i=0 then bU a y else if i=1 then bU b y else false
 | .Gp _ _ a b,.tup [.int i,y]=>if i=0 then bU a y else if i=1 then bU b y else false
 | .rest,.tup []=>true
 | .pay _ _,.tup []=>true
 | .put _ _,.tup []=>true
 | .use _,.tup []=>true
 |_,_=>false
noncomputable def zg(a:Bd):PV->Bool
 | .tup [.int m,tr]=>decide (1<=m)&&bU a tr
 |_=>false
def qF(a b:Bd)(x y:PV):bU (.F9 a b) (.tup [x,y])=(bU a x&&bU b y):=rfl
def mH(a b:Bd)(i:Int)(y:PV):bU (.Gu a b) (.tup [.int i,y])=if i=0 then bU a y else if i=1 then bU b y else false:=rfl
def mI(z:Str)(m:Int)(a b:Bd)(i:Int)(y:PV):bU (.Gp z m a b) (.tup [.int i,y])=if i=0 then bU a y else if i=1 then bU b y else false:=rfl
def wI(a:Bd)(gs:List PV):bU (.Gn a) (.tup gs)=gs.all (zg a):=rfl
section
variable {S:aC} {Q:bJ} {i:Int} {xs:List PV} {b:Bool}
end
abbrev mJ(w:ax):Prop:=∀{S:aC} {a b:Bd} {hd:List PV} {i:Int} {y:PV} {Q:bJ} {E:b6},(i=0\/i=1)->hd.length<=3->Q (if i=0 then a.pv else b.pv) S->w [.tup (hd++[a.pv,b.pv]),.tup [.int i,y]] S Q E
def Jn:mJ (F_ 2 mv):=by
 intro S a b hd i y Q E hi hl k
 unfold mv
 refine cP ?_
 rw[show av 2 [PV.tup (hd++[a.pv,b.pv]),PV.tup [.int i,y]]=[some (.tup (hd++[a.pv,b.pv])),some (.tup [.int i,y])] from rfl]
 walk_at "y"
 have e:G2 (hd++[a.pv,b.pv]) (-2+i)=some (if i=0 then a.pv else b.pv):=by
  unfold G2 sW
  rcases hi with rfl|rfl
  ·rw[if_neg (by omega),if_pos (by simp;omega)]
   have:(-2+0+((hd++[a.pv,b.pv]).length:Int)).toNat=hd.length:=by simp;omega
   rw[this,if_pos rfl]
   show(hd++[a.pv,b.pv])[hd.length]?=some a.pv
   simp
  ·rw[if_neg (by omega),if_pos (by simp;omega)]
   have:(-2+1+((hd++[a.pv,b.pv]).length:Int)).toNat=hd.length+1:=by simp;omega
   rw[this,if_neg (by decide)]
   show(hd++[a.pv,b.pv])[hd.length+1]?=some b.pv
   simp
 rw[e]
 exact k
def su{xs:List PV}(h:xs.length=2):∃x y,xs=[x,y]:=by
 match xs,h with
 |[x,y],_=>exact⟨x,y,rfl⟩
def o8{a b:Bd}{xs:List PV}(h:xs.length≠2):bU (.F9 a b) (.tup xs)=false:=by
 match xs,h with
 |[],_=>rfl
 |[_],_=>rfl
 |[_,_],h=>exact absurd rfl h
 |_::_::_::_,_=>rfl
def o9{a b:Bd}{xs:List PV}(h:xs.length≠2):bU (.Gu a b) (.tup xs)=false:=by
 match xs,h with
 |[],_=>rfl
 |[x],_=>cases x<;>rfl
 |[_,_],h=>exact absurd rfl h
 |x::_::_::_,_=>cases x<;>rfl
def o_{z:Str}{m:Int}{a b:Bd}{xs:List PV}(h:xs.length≠2):bU (.Gp z m a b) (.tup xs)=false:=by
 match xs,h with
 |[],_=>rfl
 |[x],_=>cases x<;>rfl
 |[_,_],h=>exact absurd rfl h
 |x::_::_::_,_=>cases x<;>rfl
def jV(t:Bd)(z:Str):bU t (.str z)=false:=by cases t<;>rfl
def jW(t:Bd)(i:Int):bU t (.int i)=false:=by cases t<;>rfl
noncomputable def Bd.hd:Bd->Str
 | .rest=>"rest" | .pay _ _=>"pay" | .put _ _=>"put" | .use _=>"use" | .Gn _=>"often" | .F9 _ _=>"then" | .Gu _ _=>"either" | .Gp _ _ _ _=>"take"
noncomputable def Bd.tl:Bd->List PV
 | .rest=>[] | .pay x y=>[.tup [.int x,.int y]] | .put z m=>[.str z,.int m] | .use z=>[.str z] | .Gn a=>[a.pv] | .F9 a b=>[a.pv,b.pv] | .Gu a b=>[a.pv,b.pv] | .Gp z m a b=>[.str z,.int m,a.pv,b.pv]
def Bd.Hk(t:Bd):t.pv = .tup (.str t.hd::t.tl):=by cases t<;>rfl
def Bd.Jz(t:Bd):PyData.strOk t.hd=true:=by cases t<;>exact uQ _ (by simp[heads,Bd.hd])
def Bd.Kb(t:Bd):t.hd=("then":Str)↔∃a b,t = .F9 a b:=by cases t<;>simp[Bd.hd,aA]
def Bd.KP(t:Bd):t.hd=("often":Str)↔∃a,t = .Gn a:=by cases t<;>simp[Bd.hd,aA]
def pg:([PV.str "then",PV.str "either",PV.str "take"]:List PV)=(["then","either","take"]:Vs).map PV.str:=rfl
def cV{a b:PV}{hd:List PV}{i:Int}(hi:i=0\/i=1):G2 (hd++[a,b]) (i - 2)=some (if i=0 then a else b):=by
 unfold G2 sW
 rcases hi with rfl|rfl
 ·rw[if_neg (by omega),if_pos (by simp;omega)]
  have:(0 - 2+((hd++[a,b]).length:Int)).toNat=hd.length:=by simp;omega
  rw[this,if_pos rfl]
  show(hd++[a,b])[hd.length]?=some a
  simp
 ·rw[if_neg (by omega),if_pos (by simp;omega)]
  have:(1 - 2+((hd++[a,b]).length:Int)).toNat=hd.length+1:=by simp;omega
  rw[this,if_neg (by decide)]
  show(hd++[a,b])[hd.length+1]?=some b
  simp
def Ag:∀z∈(["either","take"]:Vs),PyData.strOk z=true:=by decide +kernel
noncomputable def Bd.IL:Bd->PV
 | .F9 a b=>.tup [a.IL,b.IL]
 | .Gu a _=>.tup [.int 0,a.IL]
 | .Gp _ _ _ b=>.tup [.int 1,b.IL]
 |_=>.tup []
abbrev iK(n:Nat)(w:ax):Prop:=∀{S:aC} {t:Bd} {Q:bJ} {E:b6},t.dep<=n->Q t.IL S->w [t.pv] S Q E
def wJ{s0:ax}(n:Nat)(ih:iK n s0):iK (n+1) (F_ 1 (fu s0)):=by
 intro S t Q E hd k
 unfold fu
 refine cP ?_
 rw[show av 1 [t.pv]=[some t.pv] from rfl]
 cases t with
 |F9 a b=>
  simp only[Bd.dep]at hd
  rw[show(Bd.F9 a b).pv = .tup [.str "then",a.pv,b.pv] from rfl]
  walk_at "y"
  refine ih (by omega) ?_
  exact ih (by omega) k
 |Gu a b=>
  simp only[Bd.dep]at hd
  rw[show(Bd.Gu a b).pv = .tup [.str "either",a.pv,b.pv] from rfl]
  walk_at "y"
  exact ih (by omega) k
 |Gp z m a b=>
  simp only[Bd.dep]at hd
  rw[show(Bd.Gp z m a b).pv = .tup [.str "take",.str z,.int m,a.pv,b.pv] from rfl]
  walk_at "y"
  exact ih (by omega) k
 |Gn a=>
  rw[show(Bd.Gn a).pv = .tup [.str "often",a.pv] from rfl]
  walk_at "y"
  exact k
 |rest=>
  rw[show(Bd.rest).pv = .tup [.str "rest"] from rfl]
  walk_at "y"
  exact k
 |pay x y=>
  rw[show(Bd.pay x y).pv = .tup [.str "pay",.tup [.int x,.int y]] from rfl]
  walk_at "y"
  exact k
 |put z m=>
  rw[show(Bd.put z m).pv = .tup [.str "put",.str z,.int m] from rfl]
  walk_at "y"
  exact k
 |use z=>
  rw[show(Bd.use z).pv = .tup [.str "use",.str z] from rfl]
  walk_at "y"
  exact k
noncomputable def Bd.JM:Bd->Bool | .Gn _=>true|_=>false
abbrev kP(n:Nat)(w:ax):Prop:=∀{S:aC} {t:Bd} {Q:bJ} {E:b6},t.dep<=n->t.size<=900->(∀S',Ext S S'->Q (.int t.size) S')->w [t.pv] S Q E
def uR{xp:ax}(n:Nat)(JL:fe n xp):kP n (F_ 1 (oW xp)):=by
 intro S t Q E hd hs k
 unfold oW
 refine cP ?_
 rw[show av 1 [t.pv]=[some t.pv] from rfl]
 walk_at "x"
 refine JL hd hs fun p S1 hp X1 h1=>?_
 simp only[h1,List.length_map,t.Gv]
 exact k S1 X1
noncomputable def Bd.led:Bd->Nat->PV->PV
 |_,0,v=>v
 | .Gn a,p+1,v=>.tup [.tup [.int 1,a.led p v]]
 | .F9 a b,p+1,v=>if p < a.size then .tup [a.led p v,b.IL] else .tup [a.IL,b.led (p - a.size) v]
 | .Gu a b,p+1,v=>if p < a.size then .tup [.int 0,a.led p v] else .tup [.int 1,b.led (p - a.size) v]
 | .Gp _ _ a b,p+1,v=>if p < a.size then .tup [.int 0,a.led p v] else .tup [.int 1,b.led (p - a.size) v]
 |_,_+1,v=>v
abbrev jX(n:Nat)(w:ax):Prop:=∀{S:aC} {t:Bd} {p:Nat} {v:PV} {Q:bJ} {E:b6},t.dep<=n->t.size<=900->p < t.size->(∀S',Ext S S'->Q (t.led p v) S')->w [t.pv,.int p,v] S Q E
def zh{xp xt s0:ax}(n m:Nat)(hm:n<=m)(MI:kP m xp)(Mj:iK m xt)(ih:jX n s0):jX (n+1) (F_ 8 (fw xp xt s0)):=by
 intro S t p v Q E hd hs hp k
 unfold fw
 refine cP ?_
 rw[show av 8 [t.pv,PV.int p,v]=[some t.pv,some (.int p),some v,none,none,none,none,none] from rfl]
 refine ak fun N hN=>?_
 walk_at "x"
 simp only[Bool.false_bne,decide_eq_true_eq]
 cases p with
 |zero=>
  rw[if_pos (show((0:Nat):Int)=0 from rfl)]
  have:=k S .refl
  cases t<;>exact this
 |succ p=>
  rw[if_neg (by omega)]
  refine hN _ _ (ak fun N hN=>?_)
  have ep:(((p+1:Nat):Int) - 1)=(p:Int):=by omega
  cases t with
  |Gn a=>
   simp only[Bd.size]at hs hp
   simp only[Bd.dep]at hd
   rw[show(Bd.Gn a).pv = .tup [.str "often",a.pv] from rfl]
   walk_at "y"
   rw[ep]
   exact ih (by omega) (by omega) (by omega) k
  |rest=>simp only[Bd.size]at hp;omega
  |pay=>simp only[Bd.size]at hp;omega
  |put=>simp only[Bd.size]at hp;omega
  |use=>simp only[Bd.size]at hp;omega
  |F9 a b=>
   simp only[Bd.size]at hs hp
   simp only[Bd.dep]at hd
   rw[show(Bd.F9 a b).pv = .tup [.str "then",a.pv,b.pv] from rfl]
   walk_at "y"
   refine hN _ _ (ak fun N hN=>?_)
   walk_at "y"
   refine hN _ _ (ak fun N hN=>?_)
   walk_at "y"
   refine hN _ _ (ak fun N hN=>?_)
   walk_at "y"
   refine MI (by omega) (by omega) fun S1 X1=>?_
   refine hN _ _ (ak fun N hN=>?_)
   walk_at "x"
   by_cases hl:p < a.size
   ·have e1:decide (((p+1:Nat):Int) < 1+(a.size:Int))=true:=decide_eq_true (by omega)
    rw[e1]
    simp only[if_true]
    refine hN _ _ (ak fun N hN=>?_)
    walk_at "y"
    rw[ep]
    refine ih (by omega) (by omega) hl fun S2 X2=>?_
    refine hN _ _ (ak fun N hN=>?_)
    walk_at "y"
    refine hN _ _ (ak fun N hN=>?_)
    walk_at "y"
    refine Mj (by omega) ?_
    have:=k S2 (X1.trans X2)
    simp only[Bd.led,if_pos hl]at this
    exact this
   ·have e1:decide (((p+1:Nat):Int) < 1+(a.size:Int))=false:=decide_eq_false (by omega)
    rw[e1]
    simp only[Bool.false_eq_true,if_false]
    refine hN _ _ (ak fun N hN=>?_)
    have e2:(((p+1:Nat):Int) - (1+(a.size:Int)))=((p - a.size:Nat):Int):=by omega
    have e4:decide ((1:Int)=0)=false:=by decide
    walk_at "y"
    simp only[e4,Bool.false_eq_true,if_false]
    rw[e2]
    refine ih (by omega) (by omega) (by omega) fun S2 X2=>?_
    refine hN _ _ (ak fun N hN=>?_)
    walk_at "y"
    refine hN _ _ (ak fun N hN=>?_)
    walk_at "y"
    simp only[e4,Bool.false_eq_true,if_false]
    refine hN _ _ ?_
    walk_at "y"
    refine Mj (by omega) ?_
    have:=k S2 (X1.trans X2)
    simp only[Bd.led,if_neg hl]at this
    exact this
  |Gu a b=>
   simp only[Bd.size]at hs hp
   simp only[Bd.dep]at hd
   rw[show(Bd.Gu a b).pv = .tup [.str "either",a.pv,b.pv] from rfl]
   walk_at "y"
   refine hN _ _ (ak fun N hN=>?_)
   walk_at "y"
   refine hN _ _ (ak fun N hN=>?_)
   walk_at "y"
   refine hN _ _ (ak fun N hN=>?_)
   walk_at "y"
   refine MI (by omega) (by omega) fun S1 X1=>?_
   refine hN _ _ (ak fun N hN=>?_)
   walk_at "x"
   by_cases hl:p < a.size
   ·have e1:decide (((p+1:Nat):Int) < 1+(a.size:Int))=true:=decide_eq_true (by omega)
    rw[e1]
    simp only[if_true]
    refine hN _ _ (ak fun N hN=>?_)
    walk_at "y"
    rw[ep]
    refine ih (by omega) (by omega) hl fun S2 X2=>?_
    refine hN _ _ (ak fun N hN=>?_)
    walk_at "y"
    have:=k S2 (X1.trans X2)
    simp only[Bd.led,if_pos hl]at this
    exact this
   ·have e1:decide (((p+1:Nat):Int) < 1+(a.size:Int))=false:=decide_eq_false (by omega)
    rw[e1]
    simp only[Bool.false_eq_true,if_false]
    refine hN _ _ (ak fun N hN=>?_)
    have e2:(((p+1:Nat):Int) - (1+(a.size:Int)))=((p - a.size:Nat):Int):=by omega
    have e4:decide ((1:Int)=0)=false:=by decide
    walk_at "y"
    simp only[e4,Bool.false_eq_true,if_false]
    rw[e2]
    refine ih (by omega) (by omega) (by omega) fun S2 X2=>?_
    refine hN _ _ (ak fun N hN=>?_)
    walk_at "y"
    have:=k S2 (X1.trans X2)
    simp only[Bd.led,if_neg hl]at this
    exact this
  |Gp z q a b=>
   simp only[Bd.size]at hs hp
   simp only[Bd.dep]at hd
   rw[show(Bd.Gp z q a b).pv = .tup [.str "take",.str z,.int q,a.pv,b.pv] from rfl]
   walk_at "y"
   refine hN _ _ (ak fun N hN=>?_)
   walk_at "y"
   refine hN _ _ (ak fun N hN=>?_)
   walk_at "y"
   refine hN _ _ (ak fun N hN=>?_)
   walk_at "y"
   refine MI (by omega) (by omega) fun S1 X1=>?_
   refine hN _ _ (ak fun N hN=>?_)
   walk_at "x"
   by_cases hl:p < a.size
   ·have e1:decide (((p+1:Nat):Int) < 1+(a.size:Int))=true:=decide_eq_true (by omega)
    rw[e1]
    simp only[if_true]
    refine hN _ _ (ak fun N hN=>?_)
    walk_at "y"
    rw[ep]
    refine ih (by omega) (by omega) hl fun S2 X2=>?_
    refine hN _ _ (ak fun N hN=>?_)
    walk_at "y"
    have:=k S2 (X1.trans X2)
    simp only[Bd.led,if_pos hl]at this
    exact this
   ·have e1:decide (((p+1:Nat):Int) < 1+(a.size:Int))=false:=decide_eq_false (by omega)
    rw[e1]
    simp only[Bool.false_eq_true,if_false]
    refine hN _ _ (ak fun N hN=>?_)
    have e2:(((p+1:Nat):Int) - (1+(a.size:Int)))=((p - a.size:Nat):Int):=by omega
    have e4:decide ((1:Int)=0)=false:=by decide
    walk_at "y"
    simp only[e4,Bool.false_eq_true,if_false]
    rw[e2]
    refine ih (by omega) (by omega) (by omega) fun S2 X2=>?_
    refine hN _ _ (ak fun N hN=>?_)
    walk_at "y"
    have:=k S2 (X1.trans X2)
    simp only[Bd.led,if_neg hl]at this
    exact this
mutual
/-- no great whole number within -/
noncomputable def jY(b:Nat):PV->Bool
 | .int i=>decide (i.natAbs<=b)
 | .tup xs=>intBs b xs
 |_=>true
noncomputable def intBs(b:Nat):List PV->Bool
 |[]=>true
 |x::r=>jY b x&&intBs b r
end
theorem intBs_iff{b:Nat}:∀{xs:List PV},intBs b xs=true↔∀x∈xs,jY b x=true
 |[]=>by simp[intBs]
 |x::r=>by simp[intBs,intBs_iff (xs:=r)]
def fM{b:Nat}{xs:List PV}(h:jY b (.tup xs)=true):∀x∈xs,jY b x=true:=by simp only[jY]at h;exact intBs_iff.mp h
noncomputable def cf(n:Int):PV:=.tup [.int (M3.b9 n 2520),.int (M3.bG n 2520)]
def jZ:(.tup [.int 0,.int 1]:PV)=cf 0:=by
 have h1:M3.b9 0 2520=0:=by decide +kernel
 have h2:M3.bG 0 2520=1:=by decide +kernel
 unfold cf
 rw[h1,h2]
def sv(n:Int):M3.Eg (M3.b9 n 2520) (M3.bG n 2520):=M3.oJ (by decide)
def io(n:Int):M3.b9 n 2520 * 2520=n * M3.bG n 2520:=M3.ux (by decide)
def gk(n:Int):0 < M3.bG n 2520/\M3.bG n 2520<=2520:=by
 refine⟨(sv n).pos,?_⟩
 unfold M3.bG
 rw[if_neg (by decide)]
 exact Int.ediv_le_self _ (by decide)
def kQ{n:Int}(h:0<=n):0<=M3.b9 n 2520:=by
 unfold M3.b9
 rw[if_neg (by decide)]
 exact Int.ediv_nonneg h (Int.natCast_nonneg _)
def tL{x y:Int}(h:wG x y):(.tup [.int x,.int y]:PV)=cf (x * (2520 / y)):=by
 have hy:y=1\/y=2\/y=3\/y=4\/y=5\/y=6\/y=7\/y=8\/y=9:=by have:=h.low.pos;have:=h.y1;omega
 have e:2520 / y * y=2520:=by rcases hy with rfl|rfl|rfl|rfl|rfl|rfl|rfl|rfl|rfl<;>decide
 have u:=M3.i_ h.low (x:=x * (2520 / y)) (y:=2520) (by decide) (by rw[Int.mul_assoc,e])
 unfold cf
 rw[u.1,u.2]
def tM(n m:Int):(.tup [.int (M3.b9 (M3.b9 n 2520 * M3.bG m 2520+M3.b9 m 2520 * M3.bG n 2520) (M3.bG n 2520 * M3.bG m 2520)),.int (M3.bG (M3.b9 n 2520 * M3.bG m 2520+M3.b9 m 2520 * M3.bG n 2520) (M3.bG n 2520 * M3.bG m 2520))]:PV)=cf (n+m):=by
 have u:=M3.i_ (sv (n+m)) (x:=M3.b9 n 2520 * M3.bG m 2520+M3.b9 m 2520 * M3.bG n 2520) (y:=M3.bG n 2520 * M3.bG m 2520) (Int.mul_pos (gk n).1 (gk m).1) (by
  have h1:=io n;have h2:=io m;have h3:=io (n+m)
  generalize M3.b9 n 2520=a at *;generalize M3.bG n 2520=b at *;generalize M3.b9 m 2520=c at *;generalize M3.bG m 2520=d at *
  generalize M3.b9 (n+m) 2520=L at *;generalize M3.bG (n+m) 2520=B at *
  grind)
 unfold cf
 rw[u.1,u.2]
def wK(n m:Int):(.tup [.int (M3.b9 (M3.b9 n 2520 * m) (M3.bG n 2520 * 1)),.int (M3.bG (M3.b9 n 2520 * m) (M3.bG n 2520 * 1))]:PV)=cf (n * m):=by
 have u:=M3.i_ (sv (n * m)) (x:=M3.b9 n 2520 * m) (y:=M3.bG n 2520 * 1) (by rw[Int.mul_one];exact(gk n).1) (by
  have h1:=io n;have h3:=io (n * m)
  generalize M3.b9 n 2520=a at *;generalize M3.bG n 2520=b at *
  generalize M3.b9 (n * m) 2520=L at *;generalize M3.bG (n * m) 2520=B at *
  grind)
 unfold cf
 rw[u.1,u.2]
abbrev Ty:=Int×List (Int×Int)
noncomputable def jn(p q:Int×Int):Int×Int:=(p.1+q.1,if q.2 - p.1 > p.2 then q.2 - p.1 else p.2)
noncomputable def Ty.join(t u:Ty):Ty:=(t.1+u.1,List.zipWith jn t.2 u.2)
noncomputable def ag(m:Int)(p:Int×Int):Int×Int:=(p.1 * m,p.2+(if -p.1 * (m - 1) > 0 then -p.1 * (m - 1) else 0))
noncomputable def Ty.again(m:Int)(t:Ty):Ty:=(t.1 * m,t.2.map (ag m))
noncomputable def zl(js:Vs):List (Int×Int):=js.map fun _=>(0,0)
noncomputable def z0(js:Vs):Ty:=(0,zl js)
def uS{m:Int}{p:Int×Int}(h:0<=p.2):0<=(ag m p).2:=by
 simp only[ag]
 split<;>omega
def Ty.Ok(js:Vs)(t:Ty):Prop:=t.2.length=js.length/\0<=t.1/\∀p∈t.2,0<=p.2
theorem qG{α β:Type}(f:α->α->β):∀l:List α,List.zipWith f l l=l.map fun x=>f x x
 |[]=>rfl
 |x::r=>by rw[List.zipWith_cons_cons,qG f r];rfl
theorem qH{α β γ:Type}{f:α->β->γ}:∀{xs:List α} {ys:List β} {z:γ},z∈List.zipWith f xs ys->∃x∈xs,∃y∈ys,z=f x y
 |[],_,z,h=>by simp at h
 |_::_,[],z,h=>by simp at h
 |x::r,y::s,z,h=>by
  rw[List.zipWith_cons_cons,List.mem_cons]at h
  rcases h with rfl|h
  ·exact⟨x,by simp,y,by simp,rfl⟩
  ·obtain⟨a,ha,b,hb,e⟩:=qH h
   exact⟨a,by simp[ha],b,by simp[hb],e⟩
theorem Ty.Ok.join{js:Vs}{t u:Ty}(h:t.Ok js)(g:u.Ok js):(t.join u).Ok js:=by
 refine⟨?_,?_,fun p hp=>?_⟩
 ·show(List.zipWith jn t.2 u.2).length=_
  rw[List.length_zipWith,h.1,g.1,Nat.min_self]
 ·exact Int.add_nonneg h.2.1 g.2.1
 ·obtain⟨x,hx,y,hy,rfl⟩:=qH hp
  have:=h.2.2 x hx
  simp only[jn]
  split<;>omega
theorem Ty.Ok.again{js:Vs}{t:Ty}{m:Int}(h:t.Ok js)(hm:1<=m):(t.again m).Ok js:=by
 refine⟨?_,Int.mul_nonneg h.2.1 (by omega),fun p hp=>?_⟩
 ·show(t.2.map (ag m)).length=_
  rw[List.length_map,h.1]
 ·obtain⟨x,hx,rfl⟩:=List.mem_map.mp hp
  exact uS (h.2.2 x hx)
def j0(js:Vs):(z0 js).Ok js:=⟨List.length_map _,Int.le_refl _,fun p hp=>by obtain⟨x,hx,rfl⟩:=List.mem_map.mp hp;exact Int.le_refl _⟩
def uT{js:Vs}{t:Ty}(h:t.Ok js):(z0 js).join t=t:=by
 unfold Ty.join z0
 refine Prod.ext (Int.zero_add _) ?_
 dsimp only
 have:∀(l:List (Int×Int)) (ks:Vs),l.length=ks.length->(∀p∈l,0<=p.2)->List.zipWith jn (zl ks) l=l:=fun l=>by
  induction l with
  |nil=>intro ks _ _;exact List.zipWith_nil_right
  |cons p r ih=>
   intro ks hl hp
   cases ks with
   |nil=>cases hl
   |cons k ks=>
    show jn (0,0) p::List.zipWith jn (zl ks) r=_
    rw[ih ks (by simpa using hl) fun q hq=>hp q (by simp[hq])]
    have:=hp p (by simp)
    congr 1
    simp only[jn]
    refine Prod.ext (Int.zero_add _) ?_
    dsimp only
    split<;>omega
 exact this t.2 js h.1 h.2.2
theorem aU{α:Type}{g:Tg}{te:aY}{σ':cM}{keep:aC->Prop}{fin:List PV->aC->Prop}{S:aC}(enc f:α->PV)(hk:keep S):∀(xs:List α) (ys:List PV),
  (∀x∈xs,∃σ2,g.put (enc x) σ'=some σ2/\∀Q:bJ,Q (f x) S->te σ2 S Q d4)->ys.length+xs.length<=sizeLine->fin (ys++xs.map f) S->de g bm te σ' keep fin (xs.map enc) ys S
 |[],ys,_,hl,hf=>⟨hk,by simpa using hl,by simpa using hf⟩
 |x::r,ys,h,hl,hf=>by
  obtain⟨σ2,e,h1⟩:=h x (by simp)
  refine⟨hk,by simp at hl;omega,?_⟩
  rw[e]
  show te σ2 S (fun y S4=>de g bm te σ' keep fin (r.map enc) (ys++[y]) S4) d4
  exact h1 _ (aU enc f hk r (ys++[f x]) (fun y hy=>h y (by simp[hy])) (by simp at hl ⊢;omega) (by simpa using hf))
def bd{n:Nat}(h:n<=1000):n<=sizeLine:=Nat.le_trans h (by decide)
abbrev mK(w:ax):Prop:=∀{S:aC} {a b:Int} {Q:bJ} {E:b6},0<=a->0<=b->Q (.int (Int.gcd a b)) S->w [.int a,.int b] S Q E
def Iy:mK (F_ 3 ms):=by
 intro S a b Q E ha hb k
 unfold ms
 refine cP ?_
 rw[show av 3 [PV.int a,PV.int b]=[some (.int a),some (.int b),none] from rfl]
 refine ak fun N hN=>?_
 refine⟨fun n σ S'=>S'=S/\∃(x y:Int) (z:Option PV),σ=[some (.int x),some (.int y),z]/\0<=x/\0<=y/\Int.gcd x y=Int.gcd a b/\y.toNat=n,⟨_,rfl,a,b,none,rfl,ha,hb,rfl,rfl⟩,?_⟩
 rintro n σ S' ⟨rfl,x,y,z,rfl,hx,hy,hg,rfl⟩
 walk_at "x"
 simp only[Bool.true_bne,Bool.not_eq_true',decide_eq_false_iff_not]
 split
 ·rename_i hp
  refine⟨fun σ' KM=>KM=S'/\∃(x' y':Int) (z':Option PV),σ'=[some (.int x'),some (.int y'),z']/\0<=x'/\0<=y'/\Int.gcd x' y'=Int.gcd a b/\y'.toNat < y.toNat,?_,?_⟩
  ·rintro σ' KM ⟨rfl,x',y',z',rfl,h1,h2,h3,h4⟩
   exact⟨_,h4,rfl,x',y',z',rfl,h1,h2,h3,rfl⟩
  ·have e:x.fmod y=x % y:=i3 hy
   have l1:=Int.emod_nonneg x (b:=y) hp
   have l2:=Int.emod_lt_of_pos x (show 0 < y by omega)
   refine⟨hp,rfl,y,x.fmod y,_,rfl,hy,by omega,?_,by omega⟩
   rw[M3.qh];exact hg
 ·rename_i hp
  have M1:y=0:=by omega
  subst M1
  refine hN _ _ ?_
  walk_at "x"
  rw[if_neg (by omega)]
  have Ox:x=(Int.gcd a b:Int):=by
   rw[<-hg]
   rw[Int.gcd_zero_right]
   omega
  rw[Ox]
  exact k
abbrev mL(w:ax):Prop:=∀{S:aC} {t b:Int} {Q:bJ} {E:b6},0<=t->0 < b->b.natAbs < 2 ^ 8000->Q (.tup [.int (M3.b9 t b),.int (M3.bG t b)]) S->w [.int t,.int b] S Q E
def Iz{xc:ax}(Iy:mK xc):mL (F_ 3 (jj xc)):=by
 intro S t b Q E ht hb hs k
 unfold jj
 refine cP ?_
 rw[show av 3 [PV.int t,PV.int b]=[some (.int t),some (.int b),none] from rfl]
 refine ak fun N hN=>?_
 walk_at "x"
 refine Iy ht (by omega) (hN _ _ (ak fun N hN=>?_))
 walk_at "x"
 rw[if_neg (by rw[decide_eq_true_eq];omega)]
 refine hN _ _ ?_
 walk_at "x"
 have gp:(0:Int) < (Int.gcd t b:Int):=Int.natCast_pos.mpr (M3.iI (by omega))
 have gl:=M3.vU (t:=t) (b:=b) (by omega)
 have cd:∀z,nS z (Int.gcd t b:Int):=fun z=>⟨by omega,Nat.lt_of_le_of_lt (by omega) hs⟩
 refine⟨cd _,cd _,?_⟩
 have d1:=(M3.qg (t:=t) (b:=b) (by omega))
 rw[if_neg (by omega)]at d1
 rw[d1.1,d1.2]
 exact k
def DE(n m:Int):0 < M3.bG n 2520 * M3.bG m 2520/\(M3.bG n 2520 * M3.bG m 2520).natAbs < 2 ^ 8000:=by
 obtain⟨a,b⟩:=gk n
 obtain⟨c,d⟩:=gk m
 have p:=Int.mul_pos a c
 have q:M3.bG n 2520 * M3.bG m 2520<=2520 * 2520:=Int.mul_le_mul b d (by omega) (by decide)
 exact⟨p,kM (by omega)⟩
def uU(i n:Int):IntMulOk i (M3.bG n 2520):=by have:=gk n;exact jR (by omega) (by omega)
abbrev fN(w:ax):Prop:=∀{S:aC} {n m:Int} {Q:bJ} {E:b6},0<=n->0<=m->Q (cf (n+m)) S->w [cf n,cf m] S Q E
def Jb{xf:ax}(Iz:mL xf):fN (F_ 2 (si xf)):=by
 intro S n m Q E hn hm k
 unfold si
 refine cP ?_
 rw[show av 2 [cf n,cf m]=[some (cf n),some (cf m)] from rfl]
 simp only[cf]
 walk_at "x"
 simp only[cu,dH]
 refine⟨uU _ _,uU _ _,uU _ _,?_⟩
 have b:=DE n m
 refine Iz (Int.add_nonneg (Int.mul_nonneg (kQ hn) (Int.le_of_lt (gk m).1)) (Int.mul_nonneg (kQ hm) (Int.le_of_lt (gk n).1))) b.1 b.2 ?_
 rw[tM]
 exact k
def wL{xf:ax}(JJ:lN xf):fN (F_ 2 (ig xf)):=by
 intro S n m Q E hn hm k
 unfold ig
 refine cP ?_
 rw[show av 2 [cf n,cf m]=[some (cf n),some (cf m)] from rfl]
 simp only[cf]
 walk_at "x"
 simp only[cu,dH]
 refine⟨uU _ _,uU _ _,uU _ _,?_⟩
 have b:=DE n m
 refine JJ b.1 b.2 ?_
 rw[tM]
 exact k
abbrev kR(w:ax):Prop:=∀{S:aC} {n m:Int} {Q:bJ} {E:b6},0<=n->0<=m->m < 2 ^ 62->Q (cf (n * m)) S->w [cf n,.tup [.int m,.int 1]] S Q E
def JN{xf:ax}(Iz:mL xf):kR (F_ 2 (oS xf)):=by
 intro S n m Q E hn hm hm2 k
 unfold oS
 refine cP ?_
 rw[show av 2 [cf n,.tup [.int m,.int 1]]=[some (cf n),some (.tup [.int m,.int 1])] from rfl]
 simp only[cf]
 walk_at "x"
 simp only[cu,dH]
 refine⟨jR (by omega) (by omega),jR (by decide) (by decide),?_⟩
 have b:=gk n
 refine Iz (Int.mul_nonneg (kQ hn) hm) (by omega) (kM (by omega)) ?_
 rw[wK]
 exact k
noncomputable def Ty.es(t:Ty):List PV:=t.2.map fun p=>.int p.1
noncomputable def Ty.dm(t:Ty):List PV:=t.2.map fun p=>.int p.2
noncomputable def Ty.pv(t:Ty):PV:=.tup [cf t.1,.tup t.es,.tup t.dm]
noncomputable def gS(js:Vs):PV:=.tup (js.map PV.str)
noncomputable def qI(js:Vs)(z:Str)(e d:Int):List (Int×Int):=js.map fun j=>if j=z then (e,d) else (0,0)
abbrev mM(w:ax):Prop:=∀{S:aC} {js:Vs} {Q:bJ} {E:b6},js.length<=1000->Q (z0 js).pv S->w [gS js] S Q E
def wM(js:Vs):List.replicate js.length (PV.int 0)=(z0 js).es:=by
 unfold Ty.es z0 zl
 rw[List.map_map]
 induction js with
 |nil=>rfl
 |cons j js ih=>rw[List.length_cons,List.replicate_succ,ih];rfl
def BV(js:Vs):List.replicate js.length (PV.int 0)=(z0 js).dm:=by rw[wM];unfold Ty.es Ty.dm z0 zl;rw[List.map_map,List.map_map];rfl
def IA:mM (F_ 1 jk):=by
 intro S js Q E hj k
 unfold jk
 refine cP ?_
 rw[show av 1 [gS js]=[some (gS js)] from rfl]
 unfold gS
 walk_at "x"
 simp only[qt,List.length_map,Int.toNat_natCast]
 refine⟨by omega,by omega,by omega,by omega,?_⟩
 rw[jZ]
 have e:(PV.tup [cf 0,.tup (List.replicate js.length (.int 0)),.tup (List.replicate js.length (.int 0))])=(z0 js).pv:=by
  unfold Ty.pv
  rw[<-wM,<-BV]
  rfl
 rw[e]
 exact k
abbrev jt(w:ax):Prop:=∀{S:aC} {js:Vs} {z:Str} {m:Int} {Q:bJ} {E:b6},js.length<=1000->(∀S',Ext S S'->Q (.tup (js.map fun j=>.int (if j=z then m else 0))) S')->w [gS js,.str z,.int m] S Q E
def GY:jt (F_ 3 ie):=by
 intro S js z m Q E hj k
 unfold ie
 refine cP ?_
 rw[show av 3 [gS js,.str z,.int m]=[some (gS js),some (.str z),some (.int m)] from rfl]
 unfold gS
 walk_at "x"
 refine aU PV.str (fun j=>.int (if j=z then m else 0)) trivial js [] (fun j hj=>⟨_,rfl,fun Q q=>?_⟩) (by simpa using bd hj) fun p hp=>?_
 ·walk_at "x"
  simp only[Bool.false_bne,decide_eq_true_eq]
  split
  ·rename_i h;rw[if_pos h]at q;exact q
  ·rename_i h;rw[if_neg h]at q;exact q
 ·simp only[List.nil_append,aa]
  exact k _ (.new hp)
def wN{α β γ δ:Type}(f:α->β->γ)(g:γ->δ)(xs:List α)(ys:List β):(xs.zip ys).map (fun z=>g (f z.1 z.2))=(List.zipWith f xs ys).map g:=by
 rw[List.zip,List.map_zipWith,List.map_zipWith]
def BW(t u:Ty):bj t.es u.es=(t.2.zip u.2).map fun z=>.tup [.int z.1.1,.int z.2.1]:=by
 unfold bj Ty.es
 rw[List.zip_map,List.map_map]
 rfl
def BX(t:Ty):bj t.es t.dm=t.2.map fun z=>.tup [.int z.1,.int z.2]:=by
 unfold bj Ty.es Ty.dm
 rw[List.zip_map,List.map_map]
 rw[show t.2.zip t.2=t.2.map fun x=>(x,x)from qG _ _,List.map_map]
 rfl
def uV(t u:Ty):bT t.es t.dm u.dm=(t.2.zip u.2).map fun z=>.tup [.int z.1.1,.int z.1.2,.int z.2.2]:=by
 unfold bT Ty.es Ty.dm
 have:∀(l m:List (Int×Int)),((l.map fun p=>PV.int p.1).zip ((l.map fun p=>PV.int p.2).zip (m.map fun p=>PV.int p.2))).map Dq=(l.zip m).map fun z=>.tup [.int z.1.1,.int z.1.2,.int z.2.2]:=fun l=>by
  induction l with
  |nil=>intro m;rfl
  |cons p r ih=>
   intro m
   cases m with
   |nil=>rfl
   |cons q s=>simp only[List.map_cons,List.zip_cons_cons];rw[ih s];rfl
 exact this t.2 u.2
def tN(t u:Ty):(t.2.zip u.2).map (fun z=>PV.int (z.1.1+z.2.1))=(t.join u).es:=wN jn (fun p=>PV.int p.1) t.2 u.2
def tO(t u:Ty):(t.2.zip u.2).map (fun z=>PV.int (jn z.1 z.2).2)=(t.join u).dm:=wN jn (fun p=>PV.int p.2) t.2 u.2
abbrev oi(w:ax):Prop:=∀{S:aC} {t u:Ty} {Q:bJ} {E:b6},t.2.length<=1000->(∀S',Ext S S'->Q (.tup (t.join u).es) S')->w [.tup t.es,.tup u.es] S Q E
def JO:oi (F_ 2 oU):=by
 intro S t u Q E hj k
 unfold oU
 refine cP ?_
 rw[show av 2 [.tup t.es,.tup u.es]=[some (.tup t.es),some (.tup u.es)] from rfl]
 walk_at "x"
 rw[BW]
 refine aU _ (fun z=>PV.int (z.1.1+z.2.1)) trivial _ [] (fun z hz=>⟨_,rfl,fun Q q=>?_⟩) ?_ fun p hp=>?_
 ·walk_at "x"
  exact q
 ·rw[List.length_nil,Nat.zero_add,List.length_zip]
  exact bd (by omega)
 ·simp only[List.nil_append,aa]
  rw[tN]
  exact k _ (.new hp)
abbrev qJ(w:ax):Prop:=∀{S:aC} {t:Ty} {m:Int} {Q:bJ} {E:b6},t.2.length<=1000->0<=m->m < 2 ^ 62->(∀S',Ext S S'->Q (.tup (t.again m).es) S')->w [.tup t.es,.int m] S Q E
def wO(t:Ty)(m:Int):t.2.map (fun p=>PV.int (p.1 * m))=(t.again m).es:=by
 unfold Ty.again Ty.es
 rw[List.map_map]
 rfl
def wP(t:Ty)(m:Int):t.2.map (fun p=>PV.int (ag m p).2)=(t.again m).dm:=by
 unfold Ty.again Ty.dm
 rw[List.map_map]
 rfl
def Kc:qJ (F_ 2 fX):=by
 intro S t m Q E hj h0 h1 k
 unfold fX
 refine cP ?_
 rw[show av 2 [.tup t.es,.int m]=[some (.tup t.es),some (.int m)] from rfl]
 walk_at "x"
 refine aU (fun p:Int×Int=>PV.int p.1) (fun p=>PV.int (p.1 * m)) trivial t.2 [] (fun z hz=>⟨_,rfl,fun Q q=>?_⟩) (by simpa using bd hj) fun p hp=>?_
 ·walk_at "x"
  exact⟨jR (by omega) (by omega),q⟩
 ·simp only[List.nil_append,aa]
  rw[wO]
  exact k _ (.new hp)
abbrev gm(w:ax):Prop:=∀{S:aC} {js:Vs} {t u:Ty} {Q:bJ} {E:b6},js.length<=1000->t.Ok js->u.Ok js->(∀S',Ext S S'->Q (t.join u).pv S')->w [t.pv,u.pv] S Q E
def Hd{xa xp:ax}(JO:oi xa)(Jb:fN xp):gm (F_ 3 (mx xa xp)):=by
 intro S js t u Q E hj ht hu k
 unfold mx
 refine cP ?_
 rw[show av 3 [t.pv,u.pv]=[some t.pv,some u.pv,none] from rfl]
 unfold Ty.pv
 refine ak fun N hN=>?_
 walk_at "x"
 simp only[ww,af,v3,lk,c3,ae,dH,qC]
 have lt:=ht.1
 have lu:=hu.1
 refine⟨by unfold Ty.es Ty.dm;rw[List.length_map,List.length_map];omega,by unfold Ty.es Ty.dm;rw[List.length_map,List.length_map];omega,?_⟩
 rw[uV]
 refine aU _ (fun z=>PV.int (jn z.1 z.2).2) trivial _ [] (fun z hz=>⟨_,rfl,fun Q q=>?_⟩) ?_ fun p hp=>?_
 ·walk_at "x"
  exact q
 ·rw[List.length_nil,Nat.zero_add,List.length_zip]
  exact bd (by omega)
 ·rw[List.nil_append,tO]
  refine hN _ _ ?_
  walk_at "x"
  simp only[cu,dH]
  refine Jb ht.2.1 hu.2.1 ?_
  refine JO (t:=t) (u:=u) (by omega) fun S2 X2=>?_
  simp only[X2 _ _ aa]
  exact k S2 ((Ext.new hp).trans X2)
abbrev kS(w:ax):Prop:=∀{S:aC} {js:Vs} {t:Ty} {m:Int} {Q:bJ} {E:b6},js.length<=1000->t.Ok js->1<=m->m < 2 ^ 62->(∀S',Ext S S'->Q (t.again m).pv S')->w [t.pv,.int m] S Q E
def JP{xm xt:ax}(Kc:qJ xm)(JN:kR xt):kS (F_ 3 (oV xm xt)):=by
 intro S js t m Q E hj ht h1 h2 k
 unfold oV
 refine cP ?_
 rw[show av 3 [t.pv,.int m]=[some t.pv,some (.int m),none] from rfl]
 unfold Ty.pv
 refine ak fun N hN=>?_
 walk_at "x"
 simp only[dH,qC]
 have lt:=ht.1
 rw[BX]
 refine aU _ (fun p:Int×Int=>PV.int (ag m p).2) trivial t.2 [] (fun z hz=>⟨_,rfl,fun Q q=>?_⟩) (by simpa using bd (by omega)) fun p hp=>?_
 ·walk_at "x"
  exact⟨jR (by omega) (by omega),q⟩
 ·rw[List.nil_append,wP]
  refine hN _ _ ?_
  walk_at "x"
  simp only[cu,dH]
  refine JN ht.2.1 (by omega) h2 ?_
  refine Kc (t:=t) (by omega) (by omega) h2 fun S2 X2=>?_
  simp only[X2 _ _ aa]
  exact k S2 ((Ext.new hp).trans X2)
abbrev ju(w:ax):Prop:=∀{S:aC} {js:Vs} {z:Str} {m:Int} {a b:Bd} {Q:bJ} {E:b6},js.length<=1000->(∀S',Ext S S'->Q (Ty.pv (0,qI js z (-m) m)) S')->w [gS js,(Bd.Gp z m a b).pv] S Q E
def ph(js:Vs)(z:Str)(e d:Int):js.map (fun j=>PV.int (if j=z then e else 0))=Ty.es (0,qI js z e d):=by
 unfold Ty.es qI
 rw[List.map_map]
 exact List.map_congr_left fun j _=>by dsimp only [Function.comp];split<;>rfl
def sx(js:Vs)(z:Str)(e d:Int):js.map (fun j=>PV.int (if j=z then d else 0))=Ty.dm (0,qI js z e d):=by
 unfold Ty.dm qI
 rw[List.map_map]
 exact List.map_congr_left fun j _=>by dsimp only [Function.comp];split<;>rfl
def Jo{xt:ax}(GY:jt xt):ju (F_ 2 (d5 xt)):=by
 intro S js z m a b Q E hj k
 unfold d5
 refine cP ?_
 rw[show av 2 [gS js,(Bd.Gp z m a b).pv]=[some (gS js),some (.tup [.str "take",.str z,.int m,a.pv,b.pv])] from rfl]
 walk_at "x"
 simp only[dH,qC]
 rw[jZ]
 refine GY hj fun S1 X1=>GY hj fun S2 X2=>?_
 rw[ph js z (-m) m,sx js z (-m) m]
 exact k S2 (X1.trans X2)
def wQ{a b:Bd}{v:PV}(h:bU (.F9 a b) v=true):∃x y,v = .tup [x,y]/\bU a x=true/\bU b y=true:=by
 cases v with
 |tup xs=>
  by_cases h2:xs.length=2
  ·obtain⟨x,y,rfl⟩:=su h2
   rw[qF,Bool.and_eq_true]at h
   exact⟨x,y,rfl,h⟩
  ·rw[o8 h2]at h;cases h
 |int i=>rw[jW]at h;cases h
 |str z=>rw[jV]at h;cases h
 |_=>cases h
def wR{a b:Bd}{v:PV}(h:bU (.Gu a b) v=true):∃i y,v = .tup [.int i,y]/\((i=0/\bU a y=true)\/(i=1/\bU b y=true)):=by
 cases v with
 |tup xs=>
  by_cases h2:xs.length=2
  ·obtain⟨x,y,rfl⟩:=su h2
   cases x with
   |int i=>
    rw[mH]at h
    refine⟨i,y,rfl,?_⟩
    by_cases h0:i=0
    ·rw[if_pos h0]at h;exact .inl ⟨h0,h⟩
    ·rw[if_neg h0]at h
     by_cases h1:i=1
     ·rw[if_pos h1]at h;exact .inr ⟨h1,h⟩
     ·rw[if_neg h1]at h;cases h
   |_=>cases h
  ·rw[o9 h2]at h;cases h
 |int i=>rw[jW]at h;cases h
 |str z=>rw[jV]at h;cases h
 |_=>cases h
def wS{z:Str}{m:Int}{a b:Bd}{v:PV}(h:bU (.Gp z m a b) v=true):∃i y,v = .tup [.int i,y]/\((i=0/\bU a y=true)\/(i=1/\bU b y=true)):=by
 cases v with
 |tup xs=>
  by_cases h2:xs.length=2
  ·obtain⟨x,y,rfl⟩:=su h2
   cases x with
   |int i=>
    rw[mI]at h
    refine⟨i,y,rfl,?_⟩
    by_cases h0:i=0
    ·rw[if_pos h0]at h;exact .inl ⟨h0,h⟩
    ·rw[if_neg h0]at h
     by_cases h1:i=1
     ·rw[if_pos h1]at h;exact .inr ⟨h1,h⟩
     ·rw[if_neg h1]at h;cases h
   |_=>cases h
  ·rw[o_ h2]at h;cases h
 |int i=>rw[jW]at h;cases h
 |str z=>rw[jV]at h;cases h
 |_=>cases h
def wT{a:Bd}{v:PV}(h:bU (.Gn a) v=true):∃xs,v = .tup xs/\xs.all (zg a)=true:=by
 cases v with
 |tup xs=>rw[wI]at h;exact⟨xs,rfl,h⟩
 |int i=>rw[jW]at h;cases h
 |str z=>rw[jV]at h;cases h
 |_=>cases h
section
variable {js us:Vs} (hj:∀z∈js,IsW z) (hu:∀z∈us,IsW z)
end
noncomputable def Eo(js:Vs)(f:PV->Ty):PV->Ty
 | .tup [.int m,y]=>(f y).again m
 |_=>z0 js
noncomputable def Bd.IM(js:Vs):Bd->PV->Ty
 | .Gn a,.tup xs=>(xs.map (Eo js fun y=>a.IM js y)).foldl Ty.join (z0 js)
 | .F9 a b,.tup [x,y]=>(a.IM js x).join (b.IM js y)
 | .Gu a b,.tup [.int i,y]=>if i=0 then a.IM js y else b.IM js y
 | .Gp z m a b,.tup [.int i,y]=>if i=0 then Ty.join (0,qI js z (-m) m) (a.IM js y) else b.IM js y
 | .pay x y,_=>(x * (2520 / y),zl js)
 | .put z m,_=>(0,qI js z m 0)
 |_,_=>z0 js
def zi(js:Vs)(a:Bd)(xs:List PV):(Bd.Gn a).IM js (.tup xs)=(xs.map (Eo js fun y=>a.IM js y)).foldl Ty.join (z0 js):=rfl
def zj(js:Vs)(a b:Bd)(i:Int)(y:PV):(Bd.Gu a b).IM js (.tup [.int i,y])=if i=0 then a.IM js y else b.IM js y:=rfl
def zk(js:Vs)(z:Str)(m:Int)(a b:Bd)(i:Int)(y:PV):(Bd.Gp z m a b).IM js (.tup [.int i,y])=if i=0 then Ty.join (0,qI js z (-m) m) (a.IM js y) else b.IM js y:=rfl
def k9{a:Bd}{g:PV}(h:zg a g=true):∃m y,g = .tup [.int m,y]/\1<=m/\bU a y=true:=by
 unfold zg at h
 split at h
 ·rename_i m y
  rw[Bool.and_eq_true,decide_eq_true_eq]at h
  exact⟨m,y,rfl,h.1,h.2⟩
 ·cases h
def pA{js:Vs}{z:Str}{e d:Int}(hd:0<=d):Ty.Ok js (0,qI js z e d):=⟨List.length_map _,Int.le_refl _,fun p hp=>by
 obtain⟨j,hj,rfl⟩:=List.mem_map.mp hp
 split
 ·exact hd
 ·exact Int.le_refl _⟩
theorem pB{js:Vs}:∀(ts:List Ty) (t:Ty),(∀u∈ts,u.Ok js)->t.Ok js->(ts.foldl Ty.join t).Ok js
 |[],t,_,h=>h
 |u::r,t,hs,h=>pB r (t.join u) (fun x hx=>hs x (by simp[hx])) (h.join (hs u (by simp)))
theorem bQ{js us:Vs}:∀(t:Bd) (v:PV),t.good js us->bU t v=true->(t.IM js v).Ok js
 | .rest,v,_,_=>j0 js
 | .use z,v,_,_=>j0 js
 | .pay x y,v,hg,_=>⟨(j0 js).1,Int.mul_nonneg (show wG x y from hg).x0 (Int.ediv_nonneg (by decide) (Int.le_of_lt (show wG x y from hg).low.pos)),(j0 js).2.2⟩
 | .put z m,v,hg,_=>pA (Int.le_refl _)
 | .F9 a b,v,hg,hv=>by
  obtain⟨x,y,rfl,hx,hy⟩:=wQ hv
  exact(bQ a x hg.1 hx).join (bQ b y hg.2 hy)
 | .Gu a b,v,hg,hv=>by
  obtain⟨i,y,rfl,hi⟩:=wR hv
  rw[zj]
  rcases hi with⟨rfl,h⟩|⟨rfl,h⟩
  ·rw[if_pos rfl];exact bQ a y hg.1 h
  ·rw[if_neg (by decide)];exact bQ b y hg.2 h
 | .Gp z m a b,v,hg,hv=>by
  obtain⟨i,y,rfl,hi⟩:=wS hv
  rw[zk]
  rcases hi with⟨rfl,h⟩|⟨rfl,h⟩
  ·rw[if_pos rfl];exact(pA (by have:=hg.2.1;omega)).join (bQ a y hg.2.2.2.1 h)
  ·rw[if_neg (by decide)];exact bQ b y hg.2.2.2.2 h
 | .Gn a,v,hg,hv=>by
  obtain⟨xs,rfl,hx⟩:=wT hv
  rw[zi]
  refine pB _ _ (fun u hu=>?_) (j0 js)
  obtain⟨g,NI,rfl⟩:=List.mem_map.mp hu
  obtain⟨m,y,rfl,hm,hy⟩:=k9 (List.all_eq_true.mp hx g NI)
  exact(bQ a y hg hy).again hm
def Bd.Lz(t:Bd):t.hd=("pay":Str)↔∃x y,t = .pay x y:=by cases t<;>simp[Bd.hd,aA]
def Bd.Kd(t:Bd):t.hd=("put":Str)↔∃z m,t = .put z m:=by cases t<;>simp[Bd.hd,aA]
abbrev j1(n:Nat)(w:ax):Prop:=∀{S:aC} {js us:Vs} {t:Bd} {v:PV} {Q:bJ} {E:b6},js.length<=1000->t.good js us->bU t v=true->jY (2 ^ 60) v=true->t.dep<=n->(∀S',Ext S S'->Q (t.IM js v).pv S')->w [gS js,t.pv,v] S Q E
abbrev mN(n:Nat)(w:ax):Prop:=∀{S:aC} {js us:Vs} {a:Bd} {v:PV} {Q:bJ} {E:b6},js.length<=1000->a.good js us->bU (.Gn a) v=true->jY (2 ^ 60) v=true->a.dep<=n->(∀S',Ext S S'->Q ((Bd.Gn a).IM js v).pv S')->w [gS js,(Bd.Gn a).pv,v] S Q E
def uW{js:Vs}(f:PV->Ty)(done:List PV)(x:PV):((done++[x]).map f).foldl Ty.join (z0 js)=((done.map f).foldl Ty.join (z0 js)).join (f x):=by
 rw[List.map_append,List.foldl_append];rfl
def uX{xn xb xa s0 s1:ax}(IA:mM xn)(Hd:gm xb)(JP:kS xa)(n:Nat)(ih:j1 n s1):mN n (F_ 5 (b_ xn xb xa s0 s1)):=by
 intro S js us a v Q E hj hg hv hb hd k
 obtain⟨xs,rfl,hx⟩:=wT hv
 unfold b_
 refine cP ?_
 rw[show av 5 [gS js,(Bd.Gn a).pv,.tup xs]=[some (gS js),some (.tup [.str "often",a.pv]),some (.tup xs),none,none] from rfl]
 refine ak fun N hN=>?_
 walk_at "x"
 refine IA hj (hN _ _ (ak fun N hN=>?_))
 simp only[bM,aD,v3,lk,bt]
 refine bx (fun done σ S'=>∃x4,σ=[some (gS js),some (.tup [.str "often",a.pv]),some (.tup xs),some ((done.map (Eo js fun y=>a.IM js y)).foldl Ty.join (z0 js)).pv,x4]/\Ext S S') ⟨_,rfl,.refl⟩ (fun _ _ _ _=>trivial) ?_ ?_
 ·rintro done g rest σ S1 K e ⟨x4,rfl,X1⟩ hK
  have NI:g∈xs:=by rw[e];simp
  obtain⟨m,y,rfl,hm,hy⟩:=k9 (List.all_eq_true.mp hx g NI)
  have hi:=fM hb _ NI
  have hm2:=fM hi (.int m) (by simp)
  simp only[jY,decide_eq_true_eq]at hm2
  have ok:((done.map (Eo js fun y=>a.IM js y)).foldl Ty.join (z0 js)).Ok js:=pB _ _ (fun u hu=>by
   obtain⟨g',hg',rfl⟩:=List.mem_map.mp hu
   obtain⟨m',y',rfl,hm',hy'⟩:=k9 (List.all_eq_true.mp hx g' (by rw[e];simp[hg']))
   exact(bQ a y' hg hy').again hm') (j0 js)
  simp only[Tg.put,List.set_cons_succ,List.set_cons_zero]
  walk_at "x"
  simp only[cu,dH]
  refine ih hj hg hy (fM hi y (by simp)) hd fun S2 X2=>?_
  refine JP hj (bQ a y hg hy) hm (by omega) fun S3 X3=>?_
  refine Hd hj ok ((bQ a y hg hy).again hm) fun S4 X4=>?_
  refine hK _ _ ⟨some (.tup [.int m,y]),?_,X1.trans (X2.trans (X3.trans X4))⟩
  rw[uW]
  rfl
 ·rintro σ S1 ⟨x4,rfl,X1⟩
  refine hN _ _ ?_
  walk_at "x"
  exact k S1 X1
def KQ{xn xt xb xc xk s0 s1:ax}(IA:mM xn)(GY:jt xt)(Hd:gm xb)(Jn:mJ xc)(Jo:ju xk)(n:Nat)(OJ:mN n s0)(ih:j1 n s1):j1 (n+1) (F_ 6 (fY xn xt xb xc xk s0 s1)):=by
 intro S js us t v Q E hj hg hv hb hd k
 unfold fY
 refine cP ?_
 rw[Bd.Hk,show av 6 [gS js,.tup (.str t.hd::t.tl),v]=[some (gS js),some (.tup (.str t.hd::t.tl)),some v,none,none,none] from rfl]
 refine ak fun N hN=>?_
 walk_at "x"
 simp only[cu]
 refine hN _ _ (ak fun N hN=>?_)
 walk_at "x"
 refine IA hj (hN _ _ (ak fun N hN=>?_))
 simp only[bg,aO,af,v3,lk,c3,a_,Bool.false_bne,decide_eq_true_eq]
 by_cases h1:t.hd=("pay":Str)
 ·rw[if_pos h1]
  obtain⟨x,y,rfl⟩:=(Bd.Lz t).mp h1
  unfold Ty.pv
  walk_at "x"
  simp only[Bd.tl,dH,qC]
  rw[tL hg]
  exact k S .refl
 rw[if_neg h1]
 refine hN _ _ (ak fun N hN=>?_)
 simp only[bg,aO,af,v3,lk,c3,a_,Bool.false_bne,decide_eq_true_eq]
 by_cases h2:t.hd=("put":Str)
 ·rw[if_pos h2]
  obtain⟨z,m,rfl⟩:=(Bd.Kd t).mp h2
  unfold Ty.pv
  walk_at "x"
  simp only[Bd.tl,cu,dH,qC]
  refine GY hj fun S1 X1=>?_
  have:=k S1 X1
  rw[ph js z m 0]
  have e:(z0 js).dm=Ty.dm (0,qI js z m 0):=by
   unfold Ty.dm z0 zl qI
   rw[List.map_map,List.map_map]
   exact List.map_congr_left fun j _=>by dsimp only [Function.comp];split<;>rfl
  rw[e]
  exact this
 rw[if_neg h2]
 refine hN _ _ (ak fun N hN=>?_)
 simp only[bg,aO,af,v3,lk,c3,a_,Bool.false_bne,decide_eq_true_eq]
 by_cases h3:t.hd=("then":Str)
 ·rw[if_pos h3]
  obtain⟨a,b,rfl⟩:=(Bd.Kb t).mp h3
  obtain⟨x,y,rfl,hx,hy⟩:=wQ hv
  simp only[Bd.dep]at hd
  walk_at "x"
  simp only[Bd.tl,cu,dH,qC]
  refine ih hj hg.1 hx (fM hb x (by simp)) (by omega) fun S1 X1=>?_
  refine ih hj hg.2 hy (fM hb y (by simp)) (by omega) fun S2 X2=>?_
  refine Hd hj (bQ a x hg.1 hx) (bQ b y hg.2 hy) fun S3 X3=>?_
  exact k S3 (X1.trans (X2.trans X3))
 rw[if_neg h3]
 refine hN _ _ (ak fun N hN=>?_)
 simp only[bg,aO,af,v3,lk,c3,a_,Bool.false_bne,decide_eq_true_eq]
 by_cases h4:t.hd=("often":Str)
 ·rw[if_pos h4]
  obtain⟨a,rfl⟩:=(Bd.KP t).mp h4
  simp only[Bd.dep]at hd
  walk_at "x"
  exact OJ hj hg hv hb (by omega) k
 rw[if_neg h4]
 refine hN _ _ (ak fun N hN=>?_)
 walk_at "x"
 rw[show([PV.str "either",PV.str "take"]:List PV)=(["either","take"]:Vs).map PV.str from rfl]
 refine bH t.Jz Ag ?_
 by_cases h5:t.hd∈(["either","take"]:Vs)
 ·simp only[h5,decide_true,Bool.true_bne,Bool.not_true,Bool.false_eq_true,if_false]
  refine hN _ _ (ak fun N hN=>?_)
  simp only[List.mem_cons,List.not_mem_nil,or_false]at h5
  have side:∀(hd2:List PV) (a b c:Bd) (i:Int) (y:PV),(.str t.hd::t.tl)=hd2++[a.pv,b.pv]->hd2.length<=3->v = .tup [.int i,y]->(i=0\/i=1)->(if i=0 then a.pv else b.pv)=c.pv->c.good js us->bU c y=true->c.dep<=n->
    (∀S',Ext S S'->N [some (gS js),some (.tup (.str t.hd::t.tl)),some v,some (.str t.hd),some (z0 js).pv,some (c.IM js y).pv] S')->au 5 (ab s1 [v3 0,ab xc [v3 1,v3 2],af ae (v3 2) (c3 (.int 1))]) { nx:=N,rt:=Q,ex:=d4 } [some (gS js),some (.tup (.str t.hd::t.tl)),some v,some (.str t.hd),some (z0 js).pv,none] S:=by
   intro hd2 a b c i y e1 e2 e3 hi e4 g1 g2 g3 kk
   subst e3
   simp only[au,ab,aq,af,v3,lk,c3]
   rw[e1]
   refine Jn hi e2 ?_
   rw[e4]
   simp only[ae,dH]
   refine ih hj g1 g2 (fM hb y (by simp)) g3 fun S1 X1=>?_
   have:=kk S1 X1
   rw[e1]at this
   exact this
  rcases h5 with h5|h5
  ·cases t with
   |Gu a b=>
    obtain⟨i,y,rfl,hi⟩:=wR hv
    simp only[Bd.dep]at hd
    have fin:∀c:Bd,(Bd.Gu a b).IM js (.tup [.int i,y])=c.IM js y->∀S',Ext S S'->N [some (gS js),some (.tup (.str (Bd.Gu a b).hd::(Bd.Gu a b).tl)),some (.tup [.int i,y]),some (.str (Bd.Gu a b).hd),some (z0 js).pv,some (c.IM js y).pv] S':=fun c e S1 X1=>by
     refine hN _ _ (ak fun N hN=>?_)
     simp only[Bd.hd]
     walk_at "y"
     refine hN _ _ ?_
     walk_at "x"
     rw[<-e]
     exact k S1 X1
    rcases hi with⟨rfl,h⟩|⟨rfl,h⟩
    ·exact side [.str "either"] a b a 0 y rfl (by decide) rfl (.inl rfl) (if_pos rfl) hg.1 h (by omega) (fin a rfl)
    ·exact side [.str "either"] a b b 1 y rfl (by decide) rfl (.inr rfl) (if_neg (by decide)) hg.2 h (by omega) (fin b rfl)
   |_=>simp[Bd.hd,aA]at h5
  ·cases t with
   |Gp z m a b=>
    obtain⟨i,y,rfl,hi⟩:=wS hv
    simp only[Bd.dep]at hd
    rcases hi with⟨rfl,h⟩|⟨rfl,h⟩
    ·refine side [.str "take",.str z,.int m] a b a 0 y rfl (Nat.le_refl 3) rfl (.inl rfl) (if_pos rfl) hg.2.2.2.1 h (by omega) fun S1 X1=>hN _ _ (ak fun N hN=>?_)
     simp only[Bd.hd]
     walk_at "y"
     refine Jo (a:=a) (b:=b) hj fun S2 X2=>?_
     refine Hd hj (pA (by have:=hg.2.1;omega)) (bQ a y hg.2.2.2.1 h) fun S3 X3=>?_
     exact k S3 (X1.trans (X2.trans X3))
    ·refine side [.str "take",.str z,.int m] a b b 1 y rfl (Nat.le_refl 3) rfl (.inr rfl) (if_neg (by decide)) hg.2.2.2.2 h (by omega) fun S1 X1=>hN _ _ (ak fun N hN=>?_)
     simp only[Bd.hd]
     walk_at "y"
     refine hN _ _ ?_
     walk_at "x"
     exact k S1 X1
   |_=>simp[Bd.hd,aA]at h5
 ·simp only[h5,decide_false,Bool.true_bne,Bool.not_false,if_true]
  have e:t.IM js v=z0 js:=by cases t<;>simp_all [Bd.hd,aA]<;>rfl
  rw[<-e]
  exact k S .refl
def Lk(S:aC)(t:Ty)(v:PV):Prop:=∃pe pd,v = .tup [cf t.1,.ref pe,.ref pd]/\S pe=some (.lst t.es)/\S pd=some (.lst t.dm)
def Lk.mono{S S':aC}{t:Ty}{v:PV}(h:Lk S t v)(e:Ext S S'):Lk S' t v:=by
 obtain⟨pe,pd,h1,h2,h3⟩:=h
 exact⟨pe,pd,h1,e _ _ h2,e _ _ h3⟩
abbrev kT(w:ax):Prop:=∀{S:aC} {n:Nat} {t u:Ty} {v v':PV} {Q:bJ} {E:b6},n<=1000->t.2.length=n->u.2.length=n->0<=t.1->0<=u.1->Lk S t v->Lk S u v'->(∀x S',Ext S S'->Lk S' (t.join u) x->Q x S')->w [v,v'] S Q E
section
variable {js us:Vs} (hj:∀z∈js,IsW z) (hu:∀z∈us,IsW z)
include hj hu
end
abbrev Qs:=Str->Bool
noncomputable def mq(hs:Vs):Qs:=fun z=>decide (z∈hs)
noncomputable def Bd.shut(q:Qs):Bd->Nat->Bool
 | .Gp z _ _ _,0=>!q z
 |_,_=>false
noncomputable def Bd.G5(q:Qs)(t:Bd)(r:Bool):List (Bd×Bool):=t.sides.mapIdx fun i s=>(s,r&&!t.shut q i)
noncomputable def Bd.pr(q:Qs):Bd->Bool->List (Bd×Bool)
 | .rest,r=>[(.rest,r)]
 | .pay x y,r=>[(.pay x y,r)]
 | .put z m,r=>[(.put z m,r)]
 | .use z,r=>[(.use z,r)]
 | .Gn a,r=>(.Gn a,r)::a.pr q r
 | .F9 a b,r=>(.F9 a b,r)::(a.pr q r++b.pr q r)
 | .Gu a b,r=>(.Gu a b,r)::(a.pr q r++b.pr q r)
 | .Gp z m a b,r=>(.Gp z m a b,r)::(a.pr q (r&&q z)++b.pr q r)
def Bd.Mk(q:Qs)(t:Bd)(r:Bool):t.pr q r=(t,r)::(t.G5 q r).flatMap fun p=>p.1.pr q p.2:=by
 cases t with
 |rest=>rfl
 |pay x y=>rfl
 |put z m=>rfl
 |use z=>rfl
 |Gn a=>show _=_::(a.pr q (r&&!false)++[]);rw[Bool.not_false,Bool.and_true,List.append_nil];rfl
 |F9 a b=>show _=_::(a.pr q (r&&!false)++(b.pr q (r&&!false)++[]));rw[Bool.not_false,Bool.and_true,List.append_nil];rfl
 |Gu a b=>show _=_::(a.pr q (r&&!false)++(b.pr q (r&&!false)++[]));rw[Bool.not_false,Bool.and_true,List.append_nil];rfl
 |Gp z m a b=>show _=_::(a.pr q (r&&!(!q z))++(b.pr q (r&&!false)++[]));rw[Bool.not_not,Bool.not_false,Bool.and_true,List.append_nil];rfl
theorem Bd.Hl(q:Qs):∀(t:Bd) (r:Bool),(t.pr q r).length=t.size
 | .rest,_=>rfl
 | .pay _ _,_=>rfl
 | .put _ _,_=>rfl
 | .use _,_=>rfl
 | .Gn a,r=>by show(a.pr q r).length+1=a.size+1;rw[a.Hl q r]
 | .F9 a b,r=>by show(a.pr q r++b.pr q r).length+1=a.size+b.size+1;rw[List.length_append,a.Hl q r,b.Hl q r]
 | .Gu a b,r=>by show(a.pr q r++b.pr q r).length+1=a.size+b.size+1;rw[List.length_append,a.Hl q r,b.Hl q r]
 | .Gp z m a b,r=>by show(a.pr q (r&&q z)++b.pr q r).length+1=a.size+b.size+1;rw[List.length_append,a.Hl q _,b.Hl q r]
noncomputable def Bd.F8(q:Qs):Bd->List Str
 | .rest=>[]
 | .pay _ _=>[]
 | .put z _=>[z]
 | .use _=>[]
 | .Gn a=>a.F8 q
 | .F9 a b=>a.F8 q++b.F8 q
 | .Gu a b=>a.F8 q++b.F8 q
 | .Gp z _ a b=>(if q z then a.F8 q else [])++b.F8 q
theorem Bd.G1(q:Qs):∀(t:Bd) (u:Bd),(u,true) ∉ t.pr q false
 | .rest,u=>by simp[Bd.pr]
 | .pay _ _,u=>by simp[Bd.pr]
 | .put _ _,u=>by simp[Bd.pr]
 | .use _,u=>by simp[Bd.pr]
 | .Gn a,u=>by
  show _ ∉ _::a.pr q false
  rw[List.mem_cons,not_or];exact⟨by simp,a.G1 q u⟩
 | .F9 a b,u=>by
  show _ ∉ _::(a.pr q false++b.pr q false)
  rw[List.mem_cons,not_or,List.mem_append,not_or];exact⟨by simp,a.G1 q u,b.G1 q u⟩
 | .Gu a b,u=>by
  show _ ∉ _::(a.pr q false++b.pr q false)
  rw[List.mem_cons,not_or,List.mem_append,not_or];exact⟨by simp,a.G1 q u,b.G1 q u⟩
 | .Gp z m a b,u=>by
  show _ ∉ _::(a.pr q (false&&q z)++b.pr q false)
  rw[Bool.false_and,List.mem_cons,not_or,List.mem_append,not_or];exact⟨by simp,a.G1 q u,b.G1 q u⟩
theorem Bd.GQ(q:Qs){z:Str}:∀(t:Bd),z∈t.F8 q↔∃m,(Bd.put z m,true)∈t.pr q true
 | .rest=>by simp[Bd.F8,Bd.pr]
 | .pay _ _=>by simp[Bd.F8,Bd.pr]
 | .put y m=>by
  show z∈[y]↔∃n,(Bd.put z n,true)∈[(Bd.put y m,true)]
  simp only[List.mem_singleton,Prod.mk.injEq,Bd.put.injEq,and_true]
  exact⟨fun h=>⟨m,h,rfl⟩,fun⟨_,h,_⟩=>h⟩
 | .use _=>by simp[Bd.F8,Bd.pr]
 | .Gn a=>by
  show z∈a.F8 q↔∃m,(Bd.put z m,true)∈(Bd.Gn a,true)::a.pr q true
  rw[a.GQ q];simp
 | .F9 a b=>by
  show z∈a.F8 q++b.F8 q↔∃m,(Bd.put z m,true)∈(Bd.F9 a b,true)::(a.pr q true++b.pr q true)
  rw[List.mem_append,a.GQ q,b.GQ q];simp[exists_or]
 | .Gu a b=>by
  show z∈a.F8 q++b.F8 q↔∃m,(Bd.put z m,true)∈(Bd.Gu a b,true)::(a.pr q true++b.pr q true)
  rw[List.mem_append,a.GQ q,b.GQ q];simp[exists_or]
 | .Gp y m a b=>by
  show z∈(if q y=true then a.F8 q else [])++b.F8 q↔∃n,(Bd.put z n,true)∈(Bd.Gp y m a b,true)::(a.pr q (true&&q y)++b.pr q true)
  rw[List.mem_append,b.GQ q]
  cases h:q y with
  |true=>rw[if_pos rfl,a.GQ q];simp[exists_or]
  |false=>
   rw[if_neg (by decide)]
   have f:=a.G1 q
   simp[f]
theorem Bd.GM{q p:Qs}(h:∀z,q z=true->p z=true){z:Str}:∀t:Bd,z∈t.F8 q->z∈t.F8 p
 | .rest,e=>e
 | .pay _ _,e=>e
 | .put _ _,e=>e
 | .use _,e=>e
 | .Gn a,e=>a.GM h e
 | .F9 a b,e=>List.mem_append.mpr ((List.mem_append.mp e).imp (a.GM h) (b.GM h))
 | .Gu a b,e=>List.mem_append.mpr ((List.mem_append.mp e).imp (a.GM h) (b.GM h))
 | .Gp y m a b,e=>by
  rcases List.mem_append.mp (show z∈(if q y=true then a.F8 q else [])++b.F8 q from e)with e|e
  ·by_cases hq:q y=true
   ·rw[if_pos hq]at e
    exact List.mem_append.mpr (.inl (by show z∈(if p y=true then a.F8 p else []);rw[if_pos (h y hq)];exact a.GM h e))
   ·rw[if_neg hq]at e;cases e
  ·exact List.mem_append.mpr (.inr (b.GM h e))
theorem Bd.Gw{q:Qs}{js us:Vs}{z:Str}:∀t:Bd,t.good js us->z∈t.F8 q->z∈js
 | .rest,_,e=>by cases e
 | .pay _ _,_,e=>by cases e
 | .put _ _,g,e=>by rw[List.mem_singleton.mp e];exact g.1
 | .use _,_,e=>by cases e
 | .Gn a,g,e=>a.Gw g e
 | .F9 a b,g,e=>(List.mem_append.mp e).elim (a.Gw g.1) (b.Gw g.2)
 | .Gu a b,g,e=>(List.mem_append.mp e).elim (a.Gw g.1) (b.Gw g.2)
 | .Gp y m a b,g,e=>by
  rcases List.mem_append.mp (show z∈(if q y=true then a.F8 q else [])++b.F8 q from e)with e|e
  ·by_cases hq:q y=true
   ·rw[if_pos hq]at e;exact a.Gw g.2.2.2.1 e
   ·rw[if_neg hq]at e;cases e
  ·exact b.Gw g.2.2.2.2 e
noncomputable def Gx(q:Qs)(ds:List (Str×Bd)):List Str:=ds.flatMap fun p=>p.2.F8 q
def mO{q p:Qs}(h:∀z,q z=true->p z=true){ds:List (Str×Bd)}{z:Str}(e:z∈Gx q ds):z∈Gx p ds:=by
 obtain⟨d,hd,e⟩:=List.mem_flatMap.mp e
 exact List.mem_flatMap.mpr ⟨d,hd,d.2.GM h e⟩
inductive Fs (ds:List (Str×Bd)):List Str->Prop
 |nil:Fs ds []
 |snoc {hs:Vs} {z:Str}:Fs ds hs->z∈Gx (mq hs) ds->Fs ds (hs++[z])
noncomputable def held(ds:List (Str×Bd)):Nat->List Str
 |0=>[]
 |n+1=>Gx (mq (held ds n)) ds
theorem j2:∀(hs js:Vs),hs.Nodup->(∀z∈hs,z∈js)->hs.length<=js.length
 |[],_,_,_=>Nat.zero_le _
 |z::r,js,hn,hj=>by
  have hz:=hj z (by simp)
  have h1:=j2 r (js.erase z) (List.nodup_cons.mp hn).2 fun y hy=>(List.mem_erase_of_ne (fun e=>(List.nodup_cons.mp hn).1 (by rw[<-e];exact hy))).mpr (hj y (by simp[hy]))
  rw[List.length_erase_of_mem hz]at h1
  have:=List.length_pos_of_mem hz
  rw[List.length_cons]
  omega
def tP{a b:Vs}(h:∀z∈a,z∈b)(z:Str)(e:mq a z=true):mq b z=true:=decide_eq_true (h z (of_decide_eq_true e))
def zm{ds:List (Str×Bd)}{hs:Vs}(h:Fs ds hs):∀k,hs.length<=k->∀z∈hs,z∈held ds k:=by
 induction h with
 |nil=>intro k _ z hz;cases hz
 |@snoc hs y hf hy ih=>
  intro k hk z hz
  rw[List.length_append,List.length_singleton]at hk
  rcases List.mem_append.mp hz with hz|hz
  ·exact ih k (by omega) z hz
  ·rw[List.mem_singleton.mp hz]
   obtain⟨k,rfl⟩:∃m,k=m+1:=⟨k - 1,by omega⟩
   exact mO (tP (ih k (by omega))) hy
theorem tQ{ds:List (Str×Bd)}{hs:Vs}(cl:∀z∈Gx (mq hs) ds,z∈hs):∀k,∀z∈held ds k,z∈hs
 |0,z,hz=>by cases hz
 |k+1,z,hz=>cl z (mO (tP (tQ cl k)) hz)
def zn{ds:List (Str×Bd)}{js hs:Vs}(h:Fs ds hs)(hn:hs.Nodup)(hj:∀z∈hs,z∈js)(cl:∀z∈Gx (mq hs) ds,z∈hs):mq (held ds js.length)=mq hs:=by
 funext z
 exact decide_eq_decide.mpr ⟨tQ cl _ z,zm h _ (j2 hs js hn hj) z⟩
noncomputable def gq(p:Bd×Bool):PV:=.tup [p.1.pv,.bl p.2]
def j3(js:Vs):Prop:=∀z∈js,PyData.strOk z=true
abbrev mP(n:Nat)(w:ax):Prop:=∀{S:aC} {t:Bd} {js us hs:Vs} {nm:Addr} {r:Bool} {Q:bJ} {E:b6},t.dep<=n->t.size<=900->t.good js us->j3 js->j3 hs->S nm=some (.lst (hs.map PV.str))->
  (∀p S',S p=none->Ext S S'->S' p=some (.lst ((t.pr (mq hs) r).map gq))->Q (.ref p) S')->w [t.pv,.ref nm,.bl r] S Q E
def Bd.KR{js us:Vs}{t s:Bd}(g:t.good js us)(h:s∈t.sides):s.good js us:=by
 cases t with
 |rest=>cases h
 |pay x y=>cases h
 |put z m=>cases h
 |use z=>cases h
 |Gn a=>rw[List.mem_singleton.mp h];exact g
 |F9 a b=>
  rcases List.mem_cons.mp h with rfl|h
  ·exact g.1
  ·rw[List.mem_singleton.mp h];exact g.2
 |Gu a b=>
  rcases List.mem_cons.mp h with rfl|h
  ·exact g.1
  ·rw[List.mem_singleton.mp h];exact g.2
 |Gp z m a b=>
  rcases List.mem_cons.mp h with rfl|h
  ·exact g.2.2.2.1
  ·rw[List.mem_singleton.mp h];exact g.2.2.2.2
def Bd.MJ(t:Bd):t.hd=("take":Str)↔∃z m a b,t = .Gp z m a b:=by cases t<;>simp[Bd.hd,aA]
def zo{t:Bd}{js us hs:Vs}{nm:Addr}{S:aC}{i:Nat}{x2 x3 x5 x6:Option PV}{Q:bJ}(g:t.good js us)(hj:j3 js)(hh:j3 hs)(hn:S nm=some (.lst (hs.map PV.str)))(q:Q (.bl (t.shut (mq hs) i)) S) :
  bX (af (a_ false) (af ae (v3 0) (c3 (.int 0))) (c3 (.str "take"))) (bX (af (a_ false) (v3 4) (c3 (.int 0))) (af (jF true) (af ae (v3 0) (c3 (.int 1))) (v3 1))) [some t.pv,some (.ref nm),x2,x3,some (.int (i:Int)),x5,x6] S Q d4:=by
 rw[Bd.Hk]
 simp only[bX,af,v3,lk,c3,ae,cu,a_,Bool.false_bne]
 by_cases h:t.hd=("take":Str)
 ·obtain⟨z,m,a,b,rfl⟩:=(Bd.MJ t).mp h
  rw[decide_eq_true h,if_pos rfl]
  cases i with
  |zero=>
   rw[decide_eq_true (show((0:Nat):Int)=0 from rfl),if_pos rfl]
   simp only[Bd.tl,dH]
   refine dI hn (hj z g.1) hh ?_
   rw[show(true != decide (z∈hs))=Bd.shut (mq hs) (Bd.Gp z m a b) 0 by show _=!decide (z∈hs);cases decide (z∈hs)<;>rfl]
   exact q
  |succ i=>
   rw[decide_eq_false (show ¬(((i+1:Nat):Int)=0) by omega),if_neg (by decide)]
   exact q
 ·rw[decide_eq_false h,if_neg (by decide)]
  have e:t.shut (mq hs) i=false:=by cases t<;>first|rfl|exact absurd rfl h
  rw[e]at q
  exact q
def KF{xs s0:ax}(Is:iJ xs)(n:Nat)(ih:mP n s0):mP (n+1) (F_ 7 (d8 xs s0)):=by
 intro S t js us hs nm r Q E hd NB hg hj hh hn k
 unfold d8
 refine cP ?_
 rw[show av 7 [t.pv,.ref nm,.bl r]=[some t.pv,some (.ref nm),some (.bl r),none,none,none,none] from rfl]
 refine ak fun N hN=>?_
 walk_at "x"
 intro p hp
 have X0:Ext S (F3 S p (.lst [.tup [t.pv,.bl r]])):=.new hp
 have hp0:(F3 S p (.lst [.tup [t.pv,.bl r]])) p=some (.lst [.tup [t.pv,.bl r]]):=aa
 generalize F3 S p (.lst [.tup [t.pv,.bl r]])=S0 at X0 hp0
 refine hN _ _ (ak fun N hN=>?_)
 simp only[bM,cw,ab,aq,v3,lk]
 refine Is ?_
 dsimp only
 have hps:(t.G5 (mq hs) r).length=t.sides.length:=List.length_mapIdx
 refine bx (fun done σ S'=>∃(x4 x5 x6:Option PV),σ=[some t.pv,some (.ref nm),some (.bl r),some (.ref p),x4,x5,x6]/\Ext S S'/\done.length<=t.sides.length/\S' p=some (.lst (((t,r)::((t.G5 (mq hs) r).take done.length).flatMap fun p=>p.1.pr (mq hs) p.2).map gq))) ⟨_,_,_,rfl,X0,Nat.zero_le _,hp0⟩ (fun _ _ _ _=>trivial) ?_ ?_
 ·rintro done x rest σ S1 K e ⟨x4,x5,x6,rfl,X1,hl,h1⟩ hK
  obtain⟨y,rfl,hy⟩:=eO e
  rw[List.getElem?_map]at hy
  cases hs':t.sides[done.length]? with
  |none=>rw[hs']at hy;cases hy
  |some s=>
  rw[hs']at hy
  cases hy
  have hlt:done.length < t.sides.length:=(List.getElem?_eq_some_iff.mp hs').1
  have hr:s∈t.sides:=List.mem_of_getElem? hs'
  have hrd:=Bd.KE hr
  have hn1:=X1 _ _ hn
  have hq:(t.G5 (mq hs) r)[done.length]?=some (s,r&&!t.shut (mq hs) done.length):=by unfold Bd.G5;rw[List.getElem?_mapIdx,hs'];rfl
  simp only[Tg.put,Tg.F8,List.set_cons_succ,List.set_cons_zero]
  refine ak fun N2 HA=>?_
  simp only[au]
  refine zo hg hj hh hn1 ?_
  simp only[List.set_cons_succ,List.set_cons_zero]
  refine HA _ _ ?_
  simp only[aP,dj,mj,aq,ab,v3,lk,h1,true_and,bX,nR]
  have go:∀Q':bJ,(∀q S2,S1 q=none->Ext S1 S2->S2 q=some (.lst ((s.pr (mq hs) (r&&!t.shut (mq hs) done.length)).map gq))->Q' (.ref q) S2)->s0 [s.pv,.ref nm,.bl (r&&!t.shut (mq hs) done.length)] S1 Q' d4:=fun Q' k'=>ih (by omega) (by omega) (Bd.KR hg hr) hj hh hn1 k'
  have tail:∀q S2,S1 q=none->Ext S1 S2->S2 q=some (.lst ((s.pr (mq hs) (r&&!t.shut (mq hs) done.length)).map gq))->aQ (.ref p) [.ref q] S2 (fun _ S3=>K [some t.pv,some (.ref nm),some (.bl r),some (.ref p),some (.int (done.length:Int)),some s.pv,some (.bl (t.shut (mq hs) done.length))] S3):=fun q S2 hq2 X2 h2=>by
   simp only[aQ,X2 _ _ h1,h2]
   have et:((t.G5 (mq hs) r).take (done.length+1)).flatMap (fun p=>p.1.pr (mq hs) p.2)=((t.G5 (mq hs) r).take done.length).flatMap (fun p=>p.1.pr (mq hs) p.2)++s.pr (mq hs) (r&&!t.shut (mq hs) done.length):=by
    rw[List.take_succ,hq,List.flatMap_append];simp
   have ln:((t,r)::((t.G5 (mq hs) r).take (done.length+1)).flatMap fun p=>p.1.pr (mq hs) p.2).length<=t.size:=by
    rw[<-Bd.Hl (mq hs) t r,Bd.Mk]
    rw[List.length_cons,List.length_cons]
    have:(t.G5 (mq hs) r).flatMap (fun p=>p.1.pr (mq hs) p.2)=((t.G5 (mq hs) r).take (done.length+1)).flatMap (fun p=>p.1.pr (mq hs) p.2)++((t.G5 (mq hs) r).drop (done.length+1)).flatMap (fun p=>p.1.pr (mq hs) p.2):=by rw[<-List.flatMap_append,List.take_append_drop]
    rw[this,List.length_append]
    omega
   rw[List.length_cons,et,List.length_append]at ln
   refine⟨bd (by simp only[List.length_map,List.length_cons];omega),?_⟩
   refine hK _ _ ⟨_,_,_,rfl,(X1.trans X2).put hp,by rw[List.length_append];exact hlt,?_⟩
   rw[aa,List.length_append,List.length_singleton,et,<-List.map_append]
   rfl
  cases r with
  |true=>rw[if_pos rfl];exact go _ tail
  |false=>rw[if_neg (by decide)];exact go _ tail
 ·rintro σ S1 ⟨x4,x5,x6,rfl,X1,hl,h1⟩
  refine hN _ _ ?_
  walk_at "x"
  refine k p S1 hp X1 ?_
  rw[h1,Bd.Mk]
  have:(L3.aR (t.sides.map Bd.pv)).length=(t.G5 (mq hs) r).length:=by unfold L3.aR;rw[List.length_mapIdx,List.length_map,hps]
  rw[this,List.take_length]
structure HG (js:Vs) (ds:List (Str×Bd)):Prop where
 jw:j3 js
 jl:js.length<=1000
 dl:ds.length<=1000
 gd:∀p∈ds,p.2.good js []
 dp:∀p∈ds,p.2.dep<=6
 sz:∀p∈ds,p.2.size<=60
abbrev mQ(w:ax):Prop:=∀{S:aC} {js hs:Vs} {ds:List (Str×Bd)} {nm:Addr} {Q:bJ} {E:b6},HG js ds->j3 hs->S nm=some (.lst (hs.map PV.str))->
  (∀S',Ext S S'->(∀z∈Gx (mq hs) ds,z∈hs)->Q .non S')->
  (∀(k:Nat) z d tr S',Ext S S'->js[k]?=some z->z∈Gx (mq hs) ds->z ∉ hs->Q (.tup [.int (k:Int),d,tr]) S')->w [GN js ds,.ref nm] S Q E
def wU{js:Vs}{z:Str}(h:z∈js):∃k:Nat,js[k]?=some z/\∀j:Nat,j < k->js[j]?≠some z:=by
 induction js with
 |nil=>cases h
 |cons x r ih=>
  by_cases e:x=z
  ·subst e;exact⟨0,rfl,fun j hj=>absurd hj (Nat.not_lt_zero _)⟩
  ·obtain⟨k,h1,h2⟩:=ih ((List.mem_cons.mp h).resolve_left (Ne.symm e))
   refine⟨k+1,by simpa using h1,fun j hj=>?_⟩
   cases j with
   |zero=>simpa using e
   |succ j=>simpa using h2 j (by omega)
def Ke{xp xl:ax}(KF:mP 6 xp)(MK:jX 6 xl):mQ (F_ 7 (ik xp xl)):=by
 intro S js hs ds nm Q E hg hh hn k0 k1
 unfold ik
 refine cP ?_
 rw[show av 7 [GN js ds,.ref nm]=[some (.tup [gS js,.tup (ds.map dX)]),some (.ref nm),none,none,none,none,none] from rfl]
 refine ak fun N hN=>?_
 simp only[bM,cw,af,v3,lk,c3,ae,dH]
 refine bx (fun done σ S'=>∃(x2 x3 x4 x5 x6:Option PV),σ=[some (.tup [gS js,.tup (ds.map dX)]),some (.ref nm),x2,x3,x4,x5,x6]/\Ext S S'/\done.length<=ds.length/\∀p∈ds.take done.length,∀z∈p.2.F8 (mq hs),z∈hs) ⟨_,_,_,_,_,rfl,.refl,Nat.zero_le _,by simp⟩ (fun _ _ _ _=>trivial) ?_ ?_
 ·rintro done x rest σ S1 K e ⟨x2,x3,x4,x5,x6,rfl,X1,hl,hd⟩ hK
  obtain⟨y,rfl,hy⟩:=eO e
  rw[List.getElem?_map]at hy
  cases hs':ds[done.length]? with
  |none=>rw[hs']at hy;cases hy
  |some p=>
  rw[hs']at hy
  cases hy
  obtain⟨dn,t⟩:=p
  have hlt:done.length < ds.length:=(List.getElem?_eq_some_iff.mp hs').1
  have hm:(dn,t)∈ds:=List.mem_of_getElem? hs'
  have hn1:=X1 _ _ hn
  simp only[Tg.put,Tg.F8,List.set_cons_succ,List.set_cons_zero]
  simp only[kK,aq,af,v3,lk,c3,ae,dX,dH,List.cons_append,List.nil_append]
  refine KF (hg.dp _ hm) (by have:t.size<=60:=hg.sz _ hm;omega) (hg.gd _ hm) hg.jw hh hn1 fun pl S2 hpl X2 h2=>?_
  simp only[h2]
  have hn2:=X2 _ _ hn1
  refine bx (fun Gg σ S'=>∃(x4 x5 x6:Option PV),σ=[some (.tup [gS js,.tup (ds.map dX)]),some (.ref nm),some (.int (done.length:Int)),some (.tup [.str dn,t.pv]),x4,x5,x6]/\S'=S2/\∀z m,(Bd.put z m,true)∈(t.pr (mq hs) true).take Gg.length->z∈hs) ⟨_,_,_,rfl,rfl,by simp⟩ (fun _ _ _ ⟨_,_,_,_,h,_⟩=>by rw[h];exact h2) ?_ ?_
  ·rintro Gg x LA σ S3 K2 e2 ⟨y4,y5,y6,rfl,rfl,hd2⟩ OK
   obtain⟨y,rfl,hy⟩:=eO e2
   rw[List.getElem?_map]at hy
   cases hu:(t.pr (mq hs) true)[Gg.length]? with
   |none=>rw[hu]at hy;cases hy
   |some u=>
   rw[hu]at hy
   cases hy
   obtain⟨u,f⟩:=u
   have hup:Gg.length < t.size:=by rw[<-Bd.Hl (mq hs) t true];exact(List.getElem?_eq_some_iff.mp hu).1
   have Nm:(u,f)∈t.pr (mq hs) true:=List.mem_of_getElem? hu
   have cont:(f=true->∀z m,u=Bd.put z m->z∈hs)->∀(S':aC) (x6:Option PV),S'=S3->K2 [some (.tup [gS js,.tup (ds.map dX)]),some (.ref nm),some (.int (done.length:Int)),some (.tup [.str dn,t.pv]),some (.int (Gg.length:Int)),some (gq (u,f)),x6] S':=fun hc S' x6 eS=>OK _ _ ⟨_,_,_,rfl,eS,fun z m hz=>by
    rw[List.length_append,List.length_singleton,List.take_succ,hu,List.mem_append]at hz
    rcases hz with hz|hz
    ·exact hd2 z m hz
    ·have:(Bd.put z m,true)=(u,f):=by simpa using hz
     cases this
     exact hc rfl z m rfl⟩
   simp only[Tg.put,Tg.F8,List.set_cons_succ,List.set_cons_zero]
   refine ak fun N3 Ka=>?_
   simp only[au,af,v3,lk,c3,ae,gq,cu,List.set_cons_succ,List.set_cons_zero]
   refine Ka _ _ ?_
   simp only[bg,jJ,aO,af,v3,lk,c3,ae,dH]
   cases f with
   |false=>
    rw[if_neg (by decide),if_neg (by decide)]
    exact cont (fun h=>by cases h) _ _ rfl
   |true=>
   rw[if_pos rfl,Bd.Hk]
   simp only[cu,dH,a_,Bool.false_bne,decide_eq_true_eq]
   by_cases Kf:u.hd=("put":Str)
   ·obtain⟨z,m,rfl⟩:=(Bd.Kd u).mp Kf
    rw[if_pos Kf]
    have hz:z∈t.F8 (mq hs):=(Bd.GQ (mq hs) t).mpr ⟨m,Nm⟩
    have ML:z∈js:=t.Gw (hg.gd _ hm) hz
    simp only[Bd.tl,dH]
    refine dI hn2 (hg.jw z ML) hh ?_
    by_cases hin:z∈hs
    ·simp only[hin,decide_true,Bool.true_bne,Bool.not_true,Bool.false_eq_true,if_false]
     exact cont (fun _ z' m' e=>by cases e;exact hin) _ _ rfl
    ·simp only[hin,decide_false,Bool.true_bne,Bool.not_false,if_true]
     obtain⟨kk,hk1,hk2⟩:=wU ML
     simp only[aw,ay,aq,BQ,af,v3,lk,c3,ae,cu,dH,gS,lM,my]
     refine⟨kk,hk1,hk2,?_⟩
     simp only[ab,aq,af,v3,lk,c3,ae,dH,ay]
     refine MK (hg.dp _ hm) (by have:t.size<=60:=hg.sz _ hm;omega) hup fun S4 X4=>?_
     exact k1 kk z _ _ S4 (X1.trans (X2.trans X4)) hk1 (List.mem_flatMap.mpr ⟨_,hm,hz⟩) hin
   ·rw[if_neg Kf,if_neg (by decide),<-Bd.Hk]
    exact cont (fun _ z m e=>absurd (by rw[e];rfl) Kf) _ _ rfl
  ·rintro σ S3 ⟨y4,y5,y6,rfl,rfl,hd2⟩
   have ln:(L3.aR ((t.pr (mq hs) true).map gq)).length=(t.pr (mq hs) true).length:=by unfold L3.aR;rw[List.length_mapIdx,List.length_map]
   rw[ln,List.take_length]at hd2
   refine hK _ _ ⟨_,_,_,_,_,rfl,X1.trans X2,by rw[List.length_append];exact hlt,fun p hp z hz=>?_⟩
   rw[List.length_append,List.length_singleton,List.take_succ,hs',List.mem_append]at hp
   rcases hp with hp|hp
   ·exact hd p hp z hz
   ·have:p=(dn,t):=by simpa using hp
    subst this
    obtain⟨m,hm'⟩:=(Bd.GQ (mq hs) t).mp hz
    exact hd2 z m hm'
 ·rintro σ S1 ⟨x2,x3,x4,x5,x6,rfl,X1,hl,hd⟩
  refine hN _ _ ?_
  have ln:(L3.aR (ds.map dX)).length=ds.length:=by unfold L3.aR;rw[List.length_mapIdx,List.length_map]
  rw[ln,List.take_length]at hd
  walk_at "x"
  refine k0 S1 X1 fun z hz=>?_
  obtain⟨p,hp,hz⟩:=List.mem_flatMap.mp hz
  exact hd p hp z hz
def qK(js:Vs)(v:PV)(z:Str):Prop:=∃(k:Nat) (d tr:PV),v = .tup [.int (k:Int),d,tr]/\js[k]?=some z
abbrev lr(w:ax):Prop:=∀{S:aC} {js:Vs} {ds:List (Str×Bd)} {Q:bJ} {E:b6},HG js ds->
  (∀p (vs:List PV) (hs:Vs) S',S p=none->Ext S S'->S' p=some (.lst vs)->vs.length=hs.length->(∀(j:Nat) v z,vs[j]?=some v->hs[j]?=some z->qK js v z)->Fs ds hs->hs.Nodup->(∀z∈hs,z∈js)->(∀z∈Gx (mq hs) ds,z∈hs)->Q (.ref p) S')->w [GN js ds] S Q E
def IN{xn:ax}(Ke:mQ xn):lr (F_ 4 (kL xn)):=by
 intro S js ds Q E hg k
 unfold kL
 refine cP ?_
 rw[show av 4 [GN js ds]=[some (GN js ds),none,none,none] from rfl]
 refine ak fun N hN=>?_
 walk_at "x"
 intro pf hpf
 refine hN _ _ (ak fun N hN=>?_)
 walk_at "x"
 intro pn M4
 have OL:pf≠pn:=fun e=>by rw[<-e,aa]at M4;cases M4
 have X0:Ext S (F3 (F3 S pf (.lst [])) pn (.lst [])):=(Ext.new hpf).trans (.new M4)
 have f0:(F3 (F3 S pf (.lst [])) pn (.lst [])) pf=some (.lst []):=by rw[al OL,aa]
 have n0:(F3 (F3 S pf (.lst [])) pn (.lst [])) pn=some (.lst ([].map PV.str)):=aa
 have OM:S pn=none:=(Ext.new hpf).free M4
 generalize F3 (F3 S pf (.lst [])) pn (.lst [])=S0 at X0 f0 n0
 refine hN _ _ (ak fun N hN=>?_)
 -- what holds Nn the next step is known
 have I0:∀(v:PV) (S1:aC) (vs:List PV) (hs:Vs) (N':cM->aC->Prop),True:=fun _ _ _ _ _=>trivial
 have PM:∀(S1:aC) (vs:List PV) (hs:Vs) (R:PV->aC->Prop),Ext S S1->S1 pf=some (.lst vs)->S1 pn=some (.lst (hs.map PV.str))->vs.length=hs.length->(∀(j:Nat) v z,vs[j]?=some v->hs[j]?=some z->qK js v z)->Fs ds hs->hs.Nodup->(∀z∈hs,z∈js)->
   (∀v S2,Ext S S2->S2 pf=some (.lst vs)->S2 pn=some (.lst (hs.map PV.str))->((v = .non/\∀z∈Gx (mq hs) ds,z∈hs)\/(∃z,qK js v z/\z∈Gx (mq hs) ds/\z ∉ hs/\z∈js))->R v S2)->xn [GN js ds,.ref pn] S1 R d4:=by
  intro S1 vs hs R X1 f1 n1 h1 h2 h3 h4 h5 kk
  refine Ke hg (fun z hz=>hg.jw z (h5 z hz)) n1 (fun S2 X2 cl=>kk _ S2 (X1.trans X2) (X2 _ _ f1) (X2 _ _ n1) (.inl ⟨rfl,cl⟩)) fun kx z d tr S2 X2 a1 a2 a3=>?_
  exact kk _ S2 (X1.trans X2) (X2 _ _ f1) (X2 _ _ n1) (.inr ⟨z,⟨kx,d,tr,rfl,a1⟩,a2,a3,List.mem_of_getElem? a1⟩)
 simp only[au,ab,aq,v3,lk]
 refine PM S0 [] [] _ X0 f0 n0 rfl (fun j v z h=>by cases h) .nil List.nodup_nil (fun z h=>by cases h) fun v0 S1 X1 f1 n1 c1=>?_
 simp only[List.set_cons_succ,List.set_cons_zero]
 refine hN _ _ (ak fun N hN=>?_)
 refine⟨fun m σ S'=>∃(v:PV) (vs:List PV) (hs:Vs),σ=[some (GN js ds),some (.ref pf),some (.ref pn),some v]/\Ext S S'/\S' pf=some (.lst vs)/\S' pn=some (.lst (hs.map PV.str))/\vs.length=hs.length/\(∀(j:Nat) v z,vs[j]?=some v->hs[j]?=some z->qK js v z)/\Fs ds hs/\hs.Nodup/\(∀z∈hs,z∈js)/\
   ((v = .non/\∀z∈Gx (mq hs) ds,z∈hs)\/(∃z,qK js v z/\z∈Gx (mq hs) ds/\z ∉ hs/\z∈js))/\js.length - hs.length=m,⟨_,v0,[],[],rfl,X1,f1,n1,rfl,(fun j v z h=>by cases h),.nil,List.nodup_nil,(fun z h=>by cases h),c1,rfl⟩,?_⟩
 rintro m σ S' ⟨v,vs,hs,rfl,X,f,nn,h1,h2,h3,h4,h5,c,rfl⟩
 rcases c with⟨rfl,cl⟩|⟨z,⟨kx,d,tr,rfl,hk⟩,hz,hnz,ML⟩
 ·simp only[aO,af,v3,lk,c3,vb,bne_self_eq_false,Bool.false_eq_true,if_false]
  refine hN _ _ ?_
  walk_at "x"
  exact k pf vs hs S' hpf X f h1 h2 h3 h4 h5 cl
 ·simp only[aO,af,v3,lk,c3,vb,Bool.bne_false,if_true]
  refine⟨fun σ' KM=>∃(v:PV) (vs:List PV) (hs':Vs),σ'=[some (GN js ds),some (.ref pf),some (.ref pn),some v]/\Ext S KM/\KM pf=some (.lst vs)/\KM pn=some (.lst (hs'.map PV.str))/\vs.length=hs'.length/\(∀(j:Nat) v z,vs[j]?=some v->hs'[j]?=some z->qK js v z)/\Fs ds hs'/\hs'.Nodup/\(∀z∈hs',z∈js)/\
   ((v = .non/\∀z∈Gx (mq hs') ds,z∈hs')\/(∃z,qK js v z/\z∈Gx (mq hs') ds/\z ∉ hs'/\z∈js))/\js.length - hs'.length < js.length - hs.length,?_,?_⟩
  ·rintro σ' KM ⟨v,vs,hs',rfl,a1,a2,a3,a4,a5,a6,a7,a8,a9,QN⟩
   exact⟨_,QN,v,vs,hs',rfl,a1,a2,a3,a4,a5,a6,a7,a8,a9,rfl⟩
  ·have hn1:(hs++[z]).Nodup:=List.nodup_append.mpr ⟨h4,by simp,fun a ha b hb e=>hnz (by rw[<-List.mem_singleton.mp hb,<-e];exact ha)⟩
   have hj1:∀y∈hs++[z],y∈js:=fun y hy=>(List.mem_append.mp hy).elim (h5 y) fun h=>by rw[List.mem_singleton.mp h];exact ML
   have len:=j2 (hs++[z]) js hn1 hj1
   have hjl:=hg.jl
   rw[List.length_append,List.length_singleton]at len
   refine ak fun N2 HA=>?_
   walk_at "x"
   simp only[f,true_and]
   refine⟨Nat.lt_of_lt_of_le (show _ < 1001 by omega) (by decide),HA _ _ (ak fun N2 HA=>?_)⟩
   have QO:pn≠pf:=Ne.symm OL
   have Xa:Ext S (F3 S' pf (.lst (vs++[.tup [.int (kx:Int),d,tr]]))):=X.put hpf
   have fa:(F3 S' pf (.lst (vs++[.tup [.int (kx:Int),d,tr]]))) pf=some (.lst (vs++[.tup [.int (kx:Int),d,tr]])):=aa
   have na:(F3 S' pf (.lst (vs++[.tup [.int (kx:Int),d,tr]]))) pn=some (.lst (hs.map PV.str)):=by rw[al QO];exact nn
   generalize F3 S' pf (.lst (vs++[.tup [.int (kx:Int),d,tr]]))=Sa at Xa fa na
   rw[show GN js ds = .tup [gS js,.tup (ds.map dX)] from rfl]
   walk_at "x"
   simp only[na,true_and,cu,gS]
   rw[ed (v:=PV.str z) (by rw[List.getElem?_map,hk];rfl)]
   simp only[na]
   refine⟨Nat.lt_of_lt_of_le (show _ < 1001 by rw[List.length_map];omega) (by decide),HA _ _ ?_⟩
   have Xb:Ext S (F3 Sa pn (.lst (hs.map PV.str++[.str z]))):=Xa.put OM
   have fb:(F3 Sa pn (.lst (hs.map PV.str++[.str z]))) pf=some (.lst (vs++[.tup [.int (kx:Int),d,tr]])):=by rw[al OL];exact fa
   have nb:(F3 Sa pn (.lst (hs.map PV.str++[.str z]))) pn=some (.lst ((hs++[z]).map PV.str)):=by rw[aa,List.map_append];rfl
   generalize F3 Sa pn (.lst (hs.map PV.str++[.str z]))=Sb at Xb fb nb
   have st1:∀(j:Nat) v y,(vs++[.tup [.int (kx:Int),d,tr]])[j]?=some v->(hs++[z])[j]?=some y->qK js v y:=fun j v y hv hy=>by
    by_cases hj:j < vs.length
    ·rw[List.getElem?_append_left hj]at hv
     rw[List.getElem?_append_left (by omega)]at hy
     exact h2 j v y hv hy
    ·rw[List.getElem?_append_right (by omega)]at hv
     rw[List.getElem?_append_right (by omega)]at hy
     have e1:j - vs.length=0:=by
      have:=(List.getElem?_eq_some_iff.mp hv).1
      rw[List.length_singleton]at this
      omega
     have e2:j - hs.length=0:=by omega
     rw[e1]at hv
     rw[e2]at hy
     cases hv;cases hy
     exact⟨kx,d,tr,rfl,hk⟩
   simp only[au,ab,aq,v3,lk]
   refine PM Sb _ (hs++[z]) _ Xb fb nb (by simp[h1]) st1 (.snoc h3 hz) hn1 hj1 fun v2 S2 X2 f2 n2 c2=>?_
   simp only[List.set_cons_succ,List.set_cons_zero]
   exact⟨v2,_,hs++[z],rfl,X2,f2,n2,by simp[h1],st1,.snoc h3 hz,hn1,hj1,c2,by rw[List.length_append,List.length_singleton];omega⟩
def Ll(js:Vs)(ds:List (Str×Bd))(hs:Vs):Prop:=Fs ds hs/\hs.Nodup/\(∀z∈hs,z∈js)/\∀z∈Gx (mq hs) ds,z∈hs
abbrev eu(w:ax):Prop:=∀{S:aC} {js:Vs} {ds:List (Str×Bd)} {Q:bJ} {E:b6},HG js ds->
  (∀p (hs:Vs) S',S p=none->Ext S S'->S' p=some (.lst (hs.map PV.str))->Ll js ds hs->Q (.ref p) S')->w [GN js ds] S Q E
def qL{xf:ax}(IN:lr xf):eu (F_ 1 (jo xf)):=by
 intro S js ds Q E hg k
 unfold jo
 refine cP ?_
 rw[show av 1 [GN js ds]=[some (GN js ds)] from rfl]
 simp only[aw,aF,aD,ab,aq,v3,lk]
 refine IN hg fun p vs hs S1 hp X1 h1 hl hst f1 f2 f3 f4=>?_
 have hjl:=hg.jl
 have hle:=j2 hs js f2 f3
 simp only[bt,h1]
 have ev:vs=(vs.zip hs).map Prod.fst:=by rw[List.map_fst_zip];omega
 have eh:(vs.zip hs).map (fun z=>PV.str z.2)=hs.map PV.str:=by
  have:(vs.zip hs).map Prod.snd=hs:=by rw[List.map_snd_zip];omega
  calc _=((vs.zip hs).map Prod.snd).map PV.str:=by rw[List.map_map];rfl
   _=_:=by rw[this]
 have key:de (.n 0) bm (af ae (af ae (v3 1) (c3 (.int 0))) (af ae (v3 0) (c3 (.int 0)))) (eg 1 [0] [some (GN js ds)]) (fun S'=>S' p=some (.lst vs)) (fun ys S2=>∀p,S2 p=none->Q (.ref p) (F3 S2 p (.lst ys))) ((vs.zip hs).map Prod.fst) [] S1:=by
  refine aU Prod.fst (fun z=>PV.str z.2) h1 (vs.zip hs) [] (fun z hz=>?_) (by rw[List.length_nil,Nat.zero_add,List.length_zip];exact bd (by omega)) fun q hq=>?_
  ·obtain⟨j,hj⟩:=List.getElem?_of_mem hz
   obtain⟨e1,e2⟩:=List.getElem?_zip_eq_some.mp hj
   obtain⟨kx,d,tr,ez,hk⟩:=hst j _ _ e1 e2
   refine⟨_,rfl,fun Q' q'=>?_⟩
   rw[ez,show GN js ds = .tup [gS js,.tup (ds.map dX)] from rfl]
   walk_at "x"
   simp only[cu,gS]
   rw[ed (v:=PV.str z.2) (by rw[List.getElem?_map,hk];rfl)]
   exact q'
  ·rw[List.nil_append,eh]
   exact k q hs _ (X1.free hq) (X1.trans (.new hq)) aa ⟨f1,f2,f3,f4⟩
 rw[<-ev]at key
 exact key
def Hm(p:Addr)(S S':aC):Prop:=∀a o,S a=some o->a≠p->S' a=some o
def Hm.refl{p:Addr}{S:aC}:Hm p S S:=fun _ _ h _=>h
def Hm.trans{p:Addr}{S S1 S2:aC}(a:Hm p S S1)(b:Hm p S1 S2):Hm p S S2:=fun x o h n=>b x o (a x o h n) n
def Hm.upd{p:Addr}{S:aC}{o:SO}:Hm p S (F3 S p o):=fun x u h n=>by rw[al n];exact h
theorem Bd.Go(q:Qs):∀t:Bd,(t.F8 q).length<=t.size
 | .rest=>Nat.zero_le _
 | .pay _ _=>Nat.zero_le _
 | .put _ _=>Nat.le_refl _
 | .use _=>Nat.zero_le _
 | .Gn a=>Nat.le_trans (a.Go q) (Nat.le_succ _)
 | .F9 a b=>by show(a.F8 q++b.F8 q).length<=a.size+b.size+1;rw[List.length_append];have:=a.Go q;have:=b.Go q;omega
 | .Gu a b=>by show(a.F8 q++b.F8 q).length<=a.size+b.size+1;rw[List.length_append];have:=a.Go q;have:=b.Go q;omega
 | .Gp z m a b=>by
  show((if q z=true then a.F8 q else [])++b.F8 q).length<=a.size+b.size+1
  rw[List.length_append]
  have:=a.Go q;have:=b.Go q
  split
  ·omega
  ·simp;omega
abbrev iL(n:Nat)(w:ax):Prop:=∀{S:aC} {t:Bd} {js us hs fs:Vs} {hl fd:Addr} {Q:bJ} {E:b6},t.dep<=n->t.good js us->j3 js->j3 hs->S hl=some (.lst (hs.map PV.str))->S fd=some (.lst (fs.map PV.str))->hl≠fd->fs.length+t.size<=1000000->
  (∀S',Hm fd S S'->S' fd=some (.lst ((fs++t.F8 (mq hs)).map PV.str))->Q .non S')->w [t.pv,.ref hl,.ref fd] S Q E
def sy:∀z∈(["then","either","take"]:Vs),PyData.strOk z=true:=by decide +kernel
def wV{s0:ax}(n:Nat)(ih:iL n s0):iL (n+1) (F_ 3 (ij s0)):=by
 intro S t js us hs fs hl fd Q E hd hg hj hh h1 h2 hne hsz k
 unfold ij
 refine cP ?_
 rw[Bd.Hk,show av 3 [.tup (.str t.hd::t.tl),.ref hl,.ref fd]=[some (.tup (.str t.hd::t.tl)),some (.ref hl),some (.ref fd)] from rfl]
 refine ak fun N hN=>?_
 have leaf:∀S1:aC,t.hd≠("often":Str)->t.hd ∉ (["then","either","take"]:Vs)->Q .non S1->N [some (.tup (.str t.hd::t.tl)),some (.ref hl),some (.ref fd)] S1:=fun S1 ho h3 q=>by
  refine hN _ _ (ak fun N hN=>?_)
  simp only[bg,aO,af,v3,lk,c3,ae,cu,a_,Bool.false_bne,decide_eq_true_eq]
  rw[if_neg ho]
  refine hN _ _ ?_
  simp only[bg,aO,af,v3,lk,c3,ae,cu,ay,aq]
  rw[pg]
  refine bH t.Jz sy ?_
  simp only[h3,decide_false,Bool.false_bne,Bool.false_eq_true,if_false]
  exact q
 simp only[bg,aO,af,v3,lk,c3,ae,cu,a_,Bool.false_bne,decide_eq_true_eq]
 by_cases Kf:t.hd=("put":Str)
 ·rw[if_pos Kf]
  obtain⟨z,m,rfl⟩:=(Bd.Kd t).mp Kf
  simp only[aP,dj,mj,aq,af,v3,lk,c3,ae,dH,Bd.tl,bp,h2,true_and]
  have hs1:(Bd.put z m).size=1:=rfl
  refine⟨Nat.lt_of_lt_of_le (show _ < 1000001 by rw[List.length_map];omega) (by decide),leaf _ (by simp[Bd.hd,aA]) (by simp[Bd.hd,aA]) (k _ .upd ?_)⟩
  rw[aa,List.map_append]
  rfl
 rw[if_neg Kf]
 by_cases LB:t.hd=("often":Str)
 ·obtain⟨a,rfl⟩:=(Bd.KP t).mp LB
  refine hN _ _ (ak fun N hN=>?_)
  simp only[bg,aO,af,v3,lk,c3,ae,cu,a_,Bool.false_bne,decide_eq_true_eq]
  rw[if_pos LB]
  simp only[aP,ab,aq,af,v3,lk,c3,ae,dH,Bd.tl]
  simp only[Bd.dep]at hd
  have hs1:(Bd.Gn a).size=a.size+1:=rfl
  refine ih (by omega) hg hj hh h1 h2 hne (by omega) fun S1 X1 f1=>?_
  refine hN _ _ ?_
  simp only[bg,aO,af,v3,lk,c3,ae,cu,ay,aq]
  rw[pg]
  refine bH (Bd.Gn a).Jz sy ?_
  simp only[Bd.hd,aA,String.reduceEq,List.mem_cons,List.not_mem_nil,or_false,or_self,decide_false,Bool.false_bne,Bool.false_eq_true,if_false]
  exact k S1 X1 f1
 by_cases h3:t.hd∈(["then","either","take"]:Vs)
 ·refine hN _ _ (ak fun N hN=>?_)
  simp only[bg,aO,af,v3,lk,c3,ae,cu,a_,Bool.false_bne,decide_eq_true_eq]
  rw[if_neg LB]
  refine hN _ _ ?_
  simp only[bg,aO,af,v3,lk,c3,ae,cu,ay,aq]
  rw[pg]
  refine bH t.Jz sy ?_
  simp only[h3,decide_true,Bool.false_bne,if_true]
  refine ak fun N2 HA=>?_
  -- the second side
  have snd:∀(hd2:List PV) (a b:Bd) (S1:aC) (NJ:Vs),(.str t.hd::t.tl)=hd2++[a.pv,b.pv]->b.dep<=n->b.good js us->Hm fd S S1->S1 fd=some (.lst (NJ.map PV.str))->NJ.length+b.size<=1000000->NJ++b.F8 (mq hs)=fs++t.F8 (mq hs)->N2 [some (.tup (.str t.hd::t.tl)),some (.ref hl),some (.ref fd)] S1:=fun hd2 a b S1 NJ e1 g1 g2 X1 f1 l1 e2=>by
   refine HA _ _ ?_
   simp only[aP,ab,aq,af,v3,lk,c3,ae,d0,bD]
   have e3:G2 (.str t.hd::t.tl) (-1)=some b.pv:=by rw[e1];have:=cV (a:=a.pv) (b:=b.pv) (hd:=hd2) (i:=1) (.inr rfl);simpa using this
   rw[e3]
   refine ih g1 g2 hj hh (X1 _ _ h1 hne) f1 hne l1 fun S2 X2 f2=>?_
   rw[e2]at f2
   exact k S2 (X1.trans X2) f2
  have fst:∀(hd2:List PV) (a b:Bd) (Q':bJ),(.str t.hd::t.tl)=hd2++[a.pv,b.pv]->a.dep<=n->a.good js us->fs.length+a.size<=1000000->(∀S1,Hm fd S S1->S1 fd=some (.lst ((fs++a.F8 (mq hs)).map PV.str))->Q' .non S1)->ab s0 [af ae (v3 0) (d0 bD (c3 (.int 2))),v3 1,v3 2] [some (.tup (.str t.hd::t.tl)),some (.ref hl),some (.ref fd)] S Q' d4:=fun hd2 a b Q' e1 g1 g2 l1 kk=>by
   simp only[ab,aq,af,v3,lk,c3,ae,d0,bD]
   have e3:G2 (.str t.hd::t.tl) (-2)=some a.pv:=by rw[e1];have:=cV (a:=a.pv) (b:=b.pv) (hd:=hd2) (i:=0) (.inl rfl);simpa using this
   rw[e3]
   exact ih g1 g2 hj hh h1 h2 hne l1 kk
  simp only[bg,ll,aO,af,v3,lk,c3,ae,cu,a_,Bool.true_bne,Bool.not_eq_true',decide_eq_false_iff_not,aP]
  have la:∀c:Bd,(c.F8 (mq hs)).length<=c.size:=Bd.Go (mq hs)
  cases t with
  |F9 a b=>
   have hs1:(Bd.F9 a b).size=a.size+b.size+1:=rfl
   simp only[Bd.dep]at hd
   rw[if_pos (by simp[Bd.hd,aA]),if_pos trivial]
   refine fst [.str "then"] a b _ rfl (by omega) hg.1 (by omega) fun S1 X1 f1=>?_
   exact snd [.str "then"] a b S1 _ rfl (by omega) hg.2 X1 f1 (by rw[List.length_append];have:=la a;omega) (by rw[List.append_assoc];rfl)
  |Gu a b=>
   have hs1:(Bd.Gu a b).size=a.size+b.size+1:=rfl
   simp only[Bd.dep]at hd
   rw[if_pos (by simp[Bd.hd,aA]),if_pos trivial]
   refine fst [.str "either"] a b _ rfl (by omega) hg.1 (by omega) fun S1 X1 f1=>?_
   exact snd [.str "either"] a b S1 _ rfl (by omega) hg.2 X1 f1 (by rw[List.length_append];have:=la a;omega) (by rw[List.append_assoc];rfl)
  |Gp z m a b=>
   have hs1:(Bd.Gp z m a b).size=a.size+b.size+1:=rfl
   have ep:(Bd.Gp z m a b).F8 (mq hs)=(if mq hs z=true then a.F8 (mq hs) else [])++b.F8 (mq hs):=rfl
   simp only[Bd.dep]at hd
   rw[if_neg (by simp[Bd.hd])]
   simp only[Bd.tl,dH]
   refine dI h1 (hj z hg.1) hh ?_
   by_cases hin:z∈hs
   ·simp only[hin,decide_true,Bool.false_bne,if_true]
    rw[show mq hs z=true from decide_eq_true hin,if_pos rfl]at ep
    refine fst [.str "take",.str z,.int m] a b _ rfl (by omega) hg.2.2.2.1 (by omega) fun S1 X1 f1=>?_
    exact snd [.str "take",.str z,.int m] a b S1 _ rfl (by omega) hg.2.2.2.2 X1 f1 (by rw[List.length_append];have:=la a;omega) (by rw[ep,List.append_assoc])
   ·simp only[hin,decide_false,Bool.false_bne,Bool.false_eq_true,if_false]
    rw[show mq hs z=false from decide_eq_false hin,if_neg (by decide),List.nil_append]at ep
    exact snd [.str "take",.str z,.int m] a b S fs rfl (by omega) hg.2.2.2.2 .refl h2 (by omega) (by rw[ep])
  |_=>simp[Bd.hd,aA]at h3
 ·refine leaf S LB h3 (k S .refl ?_)
  have e:t.F8 (mq hs)=[]:=by cases t<;>first|rfl|exact absurd rfl Kf|exact absurd rfl LB|simp[Bd.hd]at h3
  rw[e,List.append_nil]
  exact h2
theorem oj{js:Vs}{ds:List (Str×Bd)}(hg:HG js ds)(q:Qs):∀n,n<=ds.length->(Gx q (ds.take n)).length<=60 * n
 |0,_=>by simp[Gx]
 |n+1,h=>by
  have ih:=oj hg q n (by omega)
  have hlt:n < ds.length:=by omega
  unfold Gx at *
  rw[List.take_succ,List.getElem?_eq_getElem hlt,List.flatMap_append,List.length_append]
  have h1:=Bd.Go q ds[n].2
  have h2:ds[n].2.size<=60:=hg.sz _ (List.getElem_mem hlt)
  simp only[Option.toList_some,List.flatMap_cons,List.flatMap_nil,List.append_nil]
  omega
theorem pC{js:Vs}{ds:List (Str×Bd)}(hg:HG js ds):∀k,∀z∈held ds k,z∈js
 |0,z,h=>by cases h
 |k+1,z,h=>by
  obtain⟨p,hp,hz⟩:=List.mem_flatMap.mp h
  exact p.2.Gw (hg.gd p hp) hz
abbrev iM(w:ax):Prop:=∀{S:aC} {js:Vs} {ds:List (Str×Bd)} {Q:bJ} {E:b6},HG js ds->(∀p S',S p=none->Ext S S'->S' p=some (.lst ((held ds js.length).map PV.str))->Q (.ref p) S')->w [GN js ds] S Q E
def Iu{xp:ax}(L_:iL 6 xp):iM (F_ 6 (d6 xp)):=by
 intro S js ds Q E hg k
 unfold d6
 refine cP ?_
 rw[show av 6 [GN js ds]=[some (.tup [gS js,.tup (ds.map dX)]),none,none,none,none,none] from rfl]
 have hdl:=hg.dl
 refine ak fun N hN=>?_
 walk_at "x"
 intro p0 hp0
 have X0:Ext S (F3 S p0 (.lst [])):=.new hp0
 have f0:(F3 S p0 (.lst [])) p0=some (.lst ((held ds 0).map PV.str)):=aa
 generalize F3 S p0 (.lst [])=S0 at X0 f0
 refine hN _ _ (ak fun N hN=>?_)
 simp only[bM,aD,af,v3,lk,c3,ae,cu,gS,bt]
 refine bx (fun done σ S'=>∃(p:Addr) (x2 x3 x4 x5:Option PV),σ=[some (.tup [.tup (js.map PV.str),.tup (ds.map dX)]),some (.ref p),x2,x3,x4,x5]/\S p=none/\Ext S S'/\S' p=some (.lst ((held ds done.length).map PV.str))) ⟨p0,_,_,_,_,rfl,hp0,X0,f0⟩ (fun _ _ _ _=>trivial) ?_ ?_
 ·rintro done x rest σ S1 K e ⟨p,x2,x3,x4,x5,rfl,hp,X1,f1⟩ hK
  simp only[Tg.put,List.set_cons_succ,List.set_cons_zero]
  refine ak fun N2 HA=>?_
  walk_at "x"
  intro pf hpf
  have No:p≠pf:=fun h=>by rw[h,hpf]at f1;cases f1
  have Kg:S pf=none:=X1.free hpf
  have X2:Ext S (F3 S1 pf (.lst [])):=X1.trans (.new hpf)
  have f2:(F3 S1 pf (.lst [])) p=some (.lst ((held ds done.length).map PV.str)):=by rw[al No];exact f1
  have g2:(F3 S1 pf (.lst [])) pf=some (.lst (([]:Vs).map PV.str)):=aa
  generalize F3 S1 pf (.lst [])=S2 at X2 f2 g2
  refine HA _ _ (ak fun N2 HA=>?_)
  simp only[bM,aD,af,v3,lk,c3,ae,dH,bt]
  have hJ:j3 (held ds done.length):=fun z hz=>hg.jw z (pC hg _ z hz)
  refine bx (fun Gg σ S'=>∃(x4 x5:Option PV),σ=[some (.tup [.tup (js.map PV.str),.tup (ds.map dX)]),some (.ref p),some x,some (.ref pf),x4,x5]/\Gg.length<=ds.length/\Hm pf S2 S'/\S' pf=some (.lst ((Gx (mq (held ds done.length)) (ds.take Gg.length)).map PV.str))) ⟨_,_,rfl,Nat.zero_le _,.refl,by simpa [Gx]using g2⟩ (fun _ _ _ _=>trivial) ?_ ?_
  ·rintro Gg y LA σ S3 K2 e2 ⟨x4,x5,rfl,hl2,X3,f3⟩ OK
   have hy:(ds.map dX)[Gg.length]?=some y:=by rw[e2];simp
   rw[List.getElem?_map]at hy
   cases hd:ds[Gg.length]? with
   |none=>rw[hd]at hy;cases hy
   |some q=>
   rw[hd]at hy
   cases hy
   obtain⟨dn,t⟩:=q
   have hlt:Gg.length < ds.length:=(List.getElem?_eq_some_iff.mp hd).1
   have hm:(dn,t)∈ds:=List.mem_of_getElem? hd
   simp only[dX,Tg.put,Tg.F8,List.set_cons_succ,List.set_cons_zero]
   simp only[aP,ab,aq,v3,lk]
   have lb:=oj hg (mq (held ds done.length)) Gg.length hl2
   refine L_ (hg.dp _ hm) (hg.gd _ hm) hg.jw hJ (X3 _ _ f2 No) f3 No (by have:t.size<=60:=hg.sz _ hm;omega) fun S4 X4 f4=>?_
   refine OK _ _ ⟨_,_,rfl,by rw[List.length_append];exact hlt,X3.trans X4,?_⟩
   rw[f4,List.length_append,List.length_singleton]
   congr 3
   unfold Gx
   rw[List.take_succ,hd,List.flatMap_append]
   simp
  ·rintro σ S3 ⟨x4,x5,rfl,hl2,X3,f3⟩
   rw[List.length_map,List.take_length]at f3
   refine HA _ _ ?_
   walk_at "x"
   refine hK _ _ ⟨pf,_,_,_,_,rfl,Kg,fun a o h=>X3 a o (X2 a o h) (fun e=>by rw[e,Kg]at h;cases h),?_⟩
   rw[f3,List.length_append,List.length_singleton]
   rfl
 ·rintro σ S1 ⟨p,x2,x3,x4,x5,rfl,hp,X1,f1⟩
  refine hN _ _ ?_
  walk_at "x"
  rw[List.length_map]at f1
  exact k p S1 hp X1 f1
noncomputable def Bd.ps(q:Qs):Bd->List PV
 | .rest=>[.tup []]
 | .pay _ _=>[.tup []]
 | .put _ _=>[.tup []]
 | .use _=>[.tup []]
 | .Gn _=>[.tup []]
 | .F9 a b=>(a.ps q).flatMap fun x=>(b.ps q).map fun y=>.tup [x,y]
 | .Gu a b=>(a.ps q).map (fun x=>.tup [.int 0,x])++(b.ps q).map fun x=>.tup [.int 1,x]
 | .Gp z _ a b=>(if q z then (a.ps q).map (fun x=>.tup [.int 0,x]) else [])++(b.ps q).map fun x=>.tup [.int 1,x]
def mR{α β:Type}(xs:List α)(ys:List β)(f:α->β->PV):(xs.flatMap fun x=>ys.map (f x)).length=xs.length * ys.length:=by
 induction xs with
 |nil=>simp
 |cons x r ih=>rw[List.flatMap_cons,List.length_append,ih,List.length_map,List.length_cons,Nat.succ_mul];omega
theorem Bd.Ge(q:Qs):∀t:Bd,(t.ps q).length<=t.F5
 | .rest=>Nat.le_refl _
 | .pay _ _=>Nat.le_refl _
 | .put _ _=>Nat.le_refl _
 | .use _=>Nat.le_refl _
 | .Gn _=>Nat.le_refl _
 | .F9 a b=>by show((a.ps q).flatMap fun x=>(b.ps q).map fun y=>_).length<=a.F5 * b.F5;rw[mR];exact Nat.mul_le_mul (a.Ge q) (b.Ge q)
 | .Gu a b=>by
  show((a.ps q).map _++(b.ps q).map _).length<=a.F5+b.F5
  rw[List.length_append,List.length_map,List.length_map];exact Nat.add_le_add (a.Ge q) (b.Ge q)
 | .Gp z _ a b=>by
  show((if q z=true then (a.ps q).map _ else [])++(b.ps q).map _).length<=a.F5+b.F5
  rw[List.length_append,List.length_map]
  have:=a.Ge q;have:=b.Ge q
  split
  ·rw[List.length_map];omega
  ·simp;omega
theorem Bd.Jp:∀t:Bd,1<=t.F5
 | .rest=>Nat.le_refl _
 | .pay _ _=>Nat.le_refl _
 | .put _ _=>Nat.le_refl _
 | .use _=>Nat.le_refl _
 | .Gn _=>Nat.le_refl _
 | .F9 a b=>Nat.mul_pos a.Jp b.Jp
 | .Gu a b=>Nat.le_trans a.Jp (Nat.le_add_right _ _)
 | .Gp _ _ a b=>Nat.le_trans a.Jp (Nat.le_add_right _ _)
abbrev bZ(n:Nat)(w:ax):Prop:=∀{S:aC} {t:Bd} {js us hs:Vs} {nm:Addr} {Q:bJ} {E:b6},t.dep<=n->t.F5<=1000->t.good js us->j3 js->j3 hs->S nm=some (.lst (hs.map PV.str))->
  (∀p S',S p=none->Ext S S'->S' p=some (.lst (t.ps (mq hs)))->Q (.ref p) S')->w [t.pv,.ref nm] S Q E
abbrev kU(n:Nat)(w:ax):Prop:=∀{S:aC} {a b:Bd} {js us hs:Vs} {nm:Addr} {Q:bJ} {E:b6},a.dep<=n->b.dep<=n->a.F5 * b.F5<=1000->(Bd.F9 a b).good js us->j3 js->j3 hs->S nm=some (.lst (hs.map PV.str))->
  (∀p S',S p=none->Ext S S'->S' p=some (.lst ((Bd.F9 a b).ps (mq hs)))->Q (.ref p) S')->w [(Bd.F9 a b).pv,.ref nm] S Q E
def wW{a b:Bd}(h:a.F5 * b.F5<=1000):a.F5<=1000/\b.F5<=1000:=
 ⟨Nat.le_trans (Nat.le_mul_of_pos_right _ b.Jp) h,Nat.le_trans (Nat.le_mul_of_pos_left _ a.Jp) h⟩
def j4{S:aC}{p:Addr}{xs:List PV}{σ:cM}{i:Int}{fin:List PV->aC->Prop}(h:S p=some (.lst xs))(hl:xs.length<=1000)(f:fin (xs.map fun x=>.tup [.int i,x]) S) :
  de (.n 0) bm (ay [c3 (.int i),v3 0]) (eg 1 [] σ) (fun S'=>S' p=some (.lst xs)) fin xs [] S:=by
 have:=aU (g:=.n 0) (te:=ay [c3 (.int i),v3 0]) (σ':=eg 1 [] σ) (keep:=fun S'=>S' p=some (.lst xs)) (fin:=fin) (fun x:PV=>x) (fun x=>.tup [.int i,x]) h xs [] (fun x hx=>⟨_,rfl,fun Q q=>q⟩) (by rw[List.length_nil,Nat.zero_add];exact bd hl) f
 rw[List.map_id']at this
 exact this
def ol{S S1:aC}{xs ys:List PV}{pa pb pf:Addr}{v0 v1 x4:Option PV}{N:cM->aC->Prop}{Q:bJ}(hpf:S pf=none)(X1:Ext S S1)(fa:S1 pa=some (.lst xs))(fb:S1 pb=some (.lst ys))(ff:S1 pf=some (.lst []))(na:pa≠pf)(nb:pb≠pf)(hl:xs.length * ys.length<=1000)
  (k:∀(S2:aC) (x:Option PV),Ext S S2->S2 pf=some (.lst (xs.flatMap fun x=>ys.map fun y=>.tup [x,y]))->N [v0,v1,some (.ref pf),some (.ref pb),x] S2) :
  oR (.n 4) (aP (dj "list" aQ (v3 2) [aF (aD (v3 3)) (.n 0) bm (ay [v3 1,v3 0]) 1 [4]])) { nx:=N,rt:=Q,ex:=d4 } (fun S'=>S' pa=some (.lst xs)) xs [v0,v1,some (.ref pf),some (.ref pb),x4] S1:=by
 refine bx (fun done σ S'=>∃(x:Option PV),σ=[v0,v1,some (.ref pf),some (.ref pb),x]/\Ext S S'/\Hm pf S1 S'/\S' pf=some (.lst (done.flatMap fun x=>ys.map fun y=>.tup [x,y]))) ⟨_,rfl,X1,.refl,ff⟩ (fun _ _ _ ⟨_,_,_,XB,_⟩=>XB _ _ fa na) ?_ ?_
 ·rintro done x rest σ S2 K e ⟨y4,rfl,X2,XB,f2⟩ hK
  have hb2:=XB _ _ fb nb
  simp only[Tg.put,List.set_cons_succ,List.set_cons_zero]
  simp only[aP,dj,mj,aq,v3,lk,f2,true_and,aF,aD,bt,hb2]
  have QP:ys.length<=1000:=by
   have h1:1<=xs.length:=by rw[e,List.length_append,List.length_cons];omega
   exact Nat.le_trans (Nat.le_mul_of_pos_left _ h1) hl
  have key:=aU (g:=.n 0) (te:=ay [v3 1,v3 0]) (σ':=eg 1 [4] [v0,v1,some (.ref pf),some (.ref pb),some x]) (keep:=fun S'=>S' pb=some (.lst ys)) (fin:=fun zs S3=>∀q,S3 q=none->aQ (.ref pf) [.ref q] (F3 S3 q (.lst zs)) fun _ S4=>K [v0,v1,some (.ref pf),some (.ref pb),some x] S4) (fun y:PV=>y) (fun y=>.tup [x,y]) hb2 ys [] (fun y hy=>⟨_,rfl,fun Q q=>q⟩) (by rw[List.length_nil,Nat.zero_add];exact bd QP) (by
   intro q hq
   rw[List.nil_append]
   have nq:pf≠q:=fun h=>by rw[h,hq]at f2;cases f2
   simp only[aQ,al nq,f2,aa]
   have hlen:(done.flatMap fun x=>ys.map fun y=>PV.tup [x,y]).length=done.length * ys.length:=mR done ys fun x y=>.tup [x,y]
   have hle:done.length * ys.length+ys.length<=1000:=by
    have:(done.length+1) * ys.length<=xs.length * ys.length:=Nat.mul_le_mul_right _ (by rw[e,List.length_append,List.length_cons];omega)
    rw[Nat.succ_mul]at this
    omega
   refine⟨bd (by rw[hlen,List.length_map];exact hle),hK _ _ ⟨_,rfl,(X2.trans (.new hq)).put hpf,fun a o h n=>?_,?_⟩⟩
   ·have h2:=XB a o h n
    rw[al n,al (fun h'=>by rw[h',hq]at h2;cases h2)]
    exact h2
   ·rw[aa,List.flatMap_append];simp)
  rw[List.map_id']at key
  exact key
 ·rintro σ S2 ⟨x,rfl,X2,XB,f2⟩
  exact k S2 x X2 f2
def wX{s0 s1:ax}(n:Nat)(ih:bZ n s1):kU n (F_ 5 (cg s0 s1)):=by
 intro S a b js us hs nm Q E ha hb hp hg hj hh hn k
 obtain⟨ON,OO⟩:=wW hp
 unfold cg
 refine cP ?_
 rw[show av 5 [(Bd.F9 a b).pv,.ref nm]=[some (.tup [.str "then",a.pv,b.pv]),some (.ref nm),none,none,none] from rfl]
 refine ak fun N hN=>?_
 walk_at "x"
 intro pf hpf
 have X0:Ext S (F3 S pf (.lst [])):=.new hpf
 have f0:(F3 S pf (.lst [])) pf=some (.lst []):=aa
 generalize F3 S pf (.lst [])=S0 at X0 f0
 refine hN _ _ (ak fun N hN=>?_)
 walk_at "x"
 simp only[qC]
 refine ih hb OO hg.2 hj hh (X0 _ _ hn) fun pb S1 JX X1 h1=>?_
 refine hN _ _ (ak fun N hN=>?_)
 simp only[bM,aD,ab,aq,af,v3,lk,c3,ae,dH]
 refine ih ha ON hg.1 hj hh (X1 _ _ (X0 _ _ hn)) fun pa S2 hpa X2 h2=>?_
 simp only[bt,h2]
 have nb:pb≠pf:=fun h=>by rw[h,f0]at JX;cases JX
 have na:pa≠pf:=fun h=>by rw[h,X1 _ _ f0]at hpa;cases hpa
 have NK:(a.ps (mq hs)).length * (b.ps (mq hs)).length<=1000:=Nat.le_trans (Nat.mul_le_mul (a.Ge _) (b.Ge _)) hp
 refine ol hpf (X0.trans (X1.trans X2)) h2 (X2 _ _ h1) (X2 _ _ (X1 _ _ f0)) na nb NK fun S3 x X3 f3=>?_
 refine hN _ _ ?_
 walk_at "x"
 exact k pf S3 hpf X3 f3
def H_{s0 s1:ax}(n:Nat)(OJ:kU n s0)(ih:bZ n s1):bZ (n+1) (F_ 3 (fc s0 s1)):=by
 intro S t js us hs nm Q E hd hp hg hj hh hn k
 unfold fc
 refine cP ?_
 rw[Bd.Hk,show av 3 [.tup (.str t.hd::t.tl),.ref nm]=[some (.tup (.str t.hd::t.tl)),some (.ref nm),none] from rfl]
 refine ak fun N hN=>?_
 simp only[bg,aO,af,v3,lk,c3,ae,cu,a_,Bool.false_bne,decide_eq_true_eq]
 by_cases h1:t.hd=("then":Str)
 ·rw[if_pos h1]
  obtain⟨a,b,rfl⟩:=(Bd.Kb t).mp h1
  simp only[Bd.dep]at hd
  simp only[aw,ab,aq,v3,lk]
  rw[<-Bd.Hk]
  exact OJ (by omega) (by omega) hp hg hj hh hn k
 rw[if_neg h1]
 refine hN _ _ (ak fun N hN=>?_)
 walk_at "x"
 simp only[cu]
 rw[show([PV.str "either",PV.str "take"]:List PV)=(["either","take"]:Vs).map PV.str from rfl]
 refine bH t.Jz Ag ?_
 by_cases h2:t.hd∈(["either","take"]:Vs)
 ·simp only[h2,decide_true,Bool.true_bne,Bool.not_true,Bool.false_eq_true,if_false]
  refine hN _ _ (ak fun N hN=>?_)
  have sides:∀(hd2:List PV) (a b:Bd),(.str t.hd::t.tl)=hd2++[a.pv,b.pv]->G2 (.str t.hd::t.tl) (-1)=some b.pv/\G2 (.str t.hd::t.tl) (-2)=some a.pv:=fun hd2 a b e1=>⟨by rw[e1];have:=cV (a:=a.pv) (b:=b.pv) (hd:=hd2) (i:=1) (.inr rfl);simpa using this,by rw[e1];have:=cV (a:=a.pv) (b:=b.pv) (hd:=hd2) (i:=0) (.inl rfl);simpa using this⟩
  have fin:∀(a b:Bd) (hd2:List PV),(.str t.hd::t.tl)=hd2++[a.pv,b.pv]->a.dep<=n->b.dep<=n->a.F5+b.F5<=1000->a.good js us->b.good js us->
    (∀(po:Addr) (S2:aC),S po=none->Ext S S2->S2 po=some (.lst ((b.ps (mq hs)).map fun x=>.tup [.int 1,x]))->N [some (.tup (.str t.hd::t.tl)),some (.ref nm),some (.ref po)] S2)->au 2 (aF (aD (ab s1 [af ae (v3 0) (d0 bD (c3 (.int 1))),v3 1])) (.n 0) bm (ay [c3 (.int 1),v3 0]) 1 []) { nx:=N,rt:=Q,ex:=d4 } [some (.tup (.str t.hd::t.tl)),some (.ref nm),none] S:=by
   intro a b hd2 e1 da db MM ga gb kk
   simp only[au,aF,aD,ab,aq,af,v3,lk,c3,ae,d0,bD,(sides hd2 a b e1).1]
   refine ih db (by omega) gb hj hh hn fun pb S1 JX X1 f1=>?_
   simp only[bt,f1]
   refine j4 f1 (Nat.le_trans (b.Ge _) (by omega)) fun po Kh=>?_
   exact kk po _ (X1.free Kh) (X1.trans (.new Kh)) aa
  have both:∀(a b:Bd) (hd2:List PV) (po:Addr) (S2:aC),(.str t.hd::t.tl)=hd2++[a.pv,b.pv]->a.dep<=n->a.F5+b.F5<=1000->a.good js us->S po=none->Ext S S2->S2 po=some (.lst ((b.ps (mq hs)).map fun x=>.tup [.int 1,x]))->t.ps (mq hs)=(a.ps (mq hs)).map (fun x=>.tup [.int 0,x])++(b.ps (mq hs)).map (fun x=>.tup [.int 1,x])->
    aw (af aS (aF (aD (ab s1 [af ae (v3 0) (d0 bD (c3 (.int 2))),v3 1])) (.n 0) bm (ay [c3 (.int 0),v3 0]) 1 []) (v3 2)) { nx:=fun _ S'=>Q .non S',rt:=Q,ex:=d4 } [some (.tup (.str t.hd::t.tl)),some (.ref nm),some (.ref po)] S2:=by
   intro a b hd2 po S2 e1 da MM ga Kh X2 f2 et
   simp only[aw,aF,aD,ab,aq,af,v3,lk,c3,ae,d0,bD,(sides hd2 a b e1).2]
   refine ih da (by omega) ga hj hh (X2 _ _ hn) fun pa S3 hpa X3 f3=>?_
   simp only[bt,f3]
   have la:=a.Ge (mq hs)
   have lb:=b.Ge (mq hs)
   refine j4 f3 (by omega) fun pq hpq=>?_
   have f4:=X3 _ _ f2
   have nq:po≠pq:=fun h=>by rw[h,hpq]at f4;cases f4
   simp only[aS,aa,al nq,f4]
   refine⟨bd (by rw[List.length_map,List.length_map];omega),fun pr M5=>?_⟩
   have Xq:Ext S (F3 S3 pq (.lst ((a.ps (mq hs)).map fun x=>.tup [.int 0,x]))):=X2.trans (X3.trans (.new hpq))
   exact k pr _ (Xq.free M5) (Xq.trans (.new M5)) (by rw[aa,et])
  cases t with
  |Gu a b=>
   simp only[Bd.dep]at hd
   refine fin a b [.str "either"] rfl (by omega) (by omega) hp hg.1 hg.2 fun po S2 Kh X2 f2=>hN _ _ (ak fun N hN=>?_)
   simp only[Bd.hd]
   walk_at "y"
   refine hN _ _ ?_
   exact both a b [.str "either"] po S2 rfl (by omega) hp hg.1 Kh X2 f2 rfl
  |Gp z m a b=>
   simp only[Bd.dep]at hd
   refine fin a b [.str "take",.str z,.int m] rfl (by omega) (by omega) hp hg.2.2.2.1 hg.2.2.2.2 fun po S2 Kh X2 f2=>hN _ _ (ak fun N hN=>?_)
   have ep:(Bd.Gp z m a b).ps (mq hs)=(if mq hs z=true then (a.ps (mq hs)).map (fun x=>.tup [.int 0,x]) else [])++(b.ps (mq hs)).map fun x=>.tup [.int 1,x]:=rfl
   simp only[bg,jJ,aO,af,v3,lk,c3,ae,cu,dH,Bd.hd,Bd.tl,a_,Bool.false_bne,decide_true,if_true]
   refine dI (X2 _ _ hn) (hj z hg.1) hh ?_
   by_cases hin:z∈hs
   ·simp only[hin,decide_true,Bool.true_bne,Bool.not_true,Bool.false_eq_true,if_false]
    rw[show mq hs z=true from decide_eq_true hin,if_pos rfl]at ep
    refine hN _ _ ?_
    exact both a b [.str "take",.str z,.int m] po S2 rfl (by omega) hp hg.2.2.2.1 Kh X2 f2 ep
   ·simp only[hin,decide_false,Bool.true_bne,Bool.not_false,if_true]
    rw[show mq hs z=false from decide_eq_false hin,if_neg (by decide),List.nil_append]at ep
    walk_at "x"
    exact k po S2 Kh X2 (by rw[ep];exact f2)
  |_=>simp[Bd.hd,aA]at h2
 ·simp only[h2,decide_false,Bool.true_bne,Bool.not_false,if_true]
  walk_at "x"
  intro p hp'
  have e:t.ps (mq hs)=[.tup []]:=by cases t<;>first|rfl|exact absurd rfl h1|simp[Bd.hd]at h2
  exact k p _ hp' (.new hp') (by rw[aa,e])
def JQ{s0:ax}(n:Nat)(ih:bZ n s0):bZ (n+1) (F_ 5 (fx s0)):=by
 intro S t js us hs nm Q E hd hp hg hj hh hn k
 unfold fx
 refine cP ?_
 rw[Bd.Hk,show av 5 [.tup (.str t.hd::t.tl),.ref nm]=[some (.tup (.str t.hd::t.tl)),some (.ref nm),none,none,none] from rfl]
 refine ak fun N hN=>?_
 walk_at "x"
 intro pf hpf
 have X0:Ext S (F3 S pf (.lst [])):=.new hpf
 have f0:(F3 S pf (.lst [])) pf=some (.lst []):=aa
 generalize F3 S pf (.lst [])=S0 at X0 f0
 have hn0:=X0 _ _ hn
 refine hN _ _ (ak fun N hN=>?_)
 simp only[bg,aO,af,v3,lk,c3,ae,cu,a_,Bool.false_bne,decide_eq_true_eq]
 by_cases h1:t.hd=("then":Str)
 ·rw[if_pos h1]
  obtain⟨a,b,rfl⟩:=(Bd.Kb t).mp h1
  simp only[Bd.dep]at hd
  obtain⟨ON,OO⟩:=wW hp
  refine ak fun N hN=>?_
  simp only[Bd.hd,Bd.tl]
  walk_at "x"
  simp only[qC]
  refine ih (by omega) OO hg.2 hj hh hn0 fun pb S1 JX X1 h1=>?_
  refine hN _ _ (ak fun N hN=>?_)
  simp only[bM,aD,ab,aq,af,v3,lk,c3,ae,dH]
  refine ih (by omega) ON hg.1 hj hh (X1 _ _ hn0) fun pa S2 hpa X2 h2=>?_
  simp only[bt,h2]
  have nb:pb≠pf:=fun h=>by rw[h,f0]at JX;cases JX
  have na:pa≠pf:=fun h=>by rw[h,X1 _ _ f0]at hpa;cases hpa
  have NK:(a.ps (mq hs)).length * (b.ps (mq hs)).length<=1000:=Nat.le_trans (Nat.mul_le_mul (a.Ge _) (b.Ge _)) hp
  refine ol hpf (X0.trans (X1.trans X2)) h2 (X2 _ _ h1) (X2 _ _ (X1 _ _ f0)) na nb NK fun S3 x X3 f3=>?_
  refine hN _ _ ?_
  walk_at "x"
  exact k pf S3 hpf X3 f3
 rw[if_neg h1]
 simp only[aN]
 refine hN _ _ (ak fun N hN=>?_)
 have sides:∀(hd2:List PV) (a b:Bd),(.str t.hd::t.tl)=hd2++[a.pv,b.pv]->G2 (.str t.hd::t.tl) (-1)=some b.pv/\G2 (.str t.hd::t.tl) (-2)=some a.pv:=fun hd2 a b e1=>⟨by rw[e1];have:=cV (a:=a.pv) (b:=b.pv) (hd:=hd2) (i:=1) (.inr rfl);simpa using this,by rw[e1];have:=cV (a:=a.pv) (b:=b.pv) (hd:=hd2) (i:=0) (.inl rfl);simpa using this⟩
 have last:∀(a b:Bd) (hd2 xs:List PV) (po:Addr) (S2:aC),(.str t.hd::t.tl)=hd2++[a.pv,b.pv]->b.dep<=n->a.F5+b.F5<=1000->b.good js us->Ext S S2->S2 po=some (.lst xs)->xs.length<=a.F5->t.ps (mq hs)=xs++(b.ps (mq hs)).map (fun x=>.tup [.int 1,x])->
   aw (af aS (v3 2) (aF (aD (ab s0 [af ae (v3 0) (d0 bD (c3 (.int 1))),v3 1])) (.n 0) bm (ay [c3 (.int 1),v3 0]) 1 [])) { nx:=N,rt:=Q,ex:=d4 } [some (.tup (.str t.hd::t.tl)),some (.ref nm),some (.ref po),none,none] S2:=by
  intro a b hd2 xs po S2 e1 db MM gb X2 f2 hx et
  simp only[aw,aF,aD,ab,aq,af,v3,lk,c3,ae,d0,bD,(sides hd2 a b e1).1]
  refine ih db (by omega) gb hj hh (X2 _ _ hn) fun pa S3 hpa X3 f3=>?_
  simp only[bt,f3]
  have lb:=b.Ge (mq hs)
  refine j4 f3 (by omega) fun pq hpq=>?_
  have f4:=X3 _ _ f2
  have nq:po≠pq:=fun h=>by rw[h,hpq]at f4;cases f4
  simp only[aS,aa,al nq,f4]
  refine⟨bd (by rw[List.length_map];omega),fun pr M5=>?_⟩
  have Xq:Ext S (F3 S3 pq (.lst ((b.ps (mq hs)).map fun x=>.tup [.int 1,x]))):=X2.trans (X3.trans (.new hpq))
  exact k pr _ (Xq.free M5) (Xq.trans (.new M5)) (by rw[aa,et])
 have mid:∀(a b:Bd) (hd2:List PV) (N':cM->aC->Prop),(.str t.hd::t.tl)=hd2++[a.pv,b.pv]->a.dep<=n->a.F5+b.F5<=1000->a.good js us->
   (∀(po:Addr) (S2:aC),Ext S S2->S2 po=some (.lst ((a.ps (mq hs)).map fun x=>.tup [.int 0,x]))->N' [some (.tup (.str t.hd::t.tl)),some (.ref nm),some (.ref po),none,none] S2)->
   au 2 (aF (aD (ab s0 [af ae (v3 0) (d0 bD (c3 (.int 2))),v3 1])) (.n 0) bm (ay [c3 (.int 0),v3 0]) 1 []) { nx:=N',rt:=Q,ex:=d4 } [some (.tup (.str t.hd::t.tl)),some (.ref nm),some (.ref pf),none,none] S0:=by
  intro a b hd2 N' e1 da MM ga kk
  simp only[au,aF,aD,ab,aq,af,v3,lk,c3,ae,d0,bD,(sides hd2 a b e1).2]
  refine ih da (by omega) ga hj hh hn0 fun pb S1 JX X1 f1=>?_
  simp only[bt,f1]
  refine j4 f1 (Nat.le_trans (a.Ge _) (by omega)) fun po Kh=>?_
  exact kk po _ (X0.trans (X1.trans (.new Kh))) aa
 by_cases h2:t.hd∈(["either","take"]:Vs)
 ·cases t with
  |Gu a b=>
   simp only[Bd.dep]at hd
   simp only[bg,ll,aO,af,v3,lk,c3,ae,cu,a_,Bool.false_bne,Bd.hd,decide_true,if_true]
   refine ak fun N2 HA=>?_
   refine mid a b [.str "either"] _ rfl (by omega) hp hg.1 fun po S2 X2 f2=>HA _ _ ?_
   exact last a b [.str "either"] _ po S2 rfl (by omega) hp hg.2 X2 f2 (by rw[List.length_map];exact a.Ge _) rfl
  |Gp z m a b=>
   simp only[Bd.dep]at hd
   have ep:(Bd.Gp z m a b).ps (mq hs)=(if mq hs z=true then (a.ps (mq hs)).map (fun x=>.tup [.int 0,x]) else [])++(b.ps (mq hs)).map fun x=>.tup [.int 1,x]:=rfl
   have en:decide (("take":Str) = "either")=false:=by decide
   simp only[bg,ll,aO,af,v3,lk,c3,ae,cu,a_,Bool.false_bne,Bd.hd,Bd.tl,en,decide_true,if_true,Bool.false_eq_true,if_false]
   refine ak fun N2 HA=>?_
   simp only[bg,ll,aO,af,v3,lk,c3,ae,cu,dH,a_,Bool.false_bne,en,Bool.false_eq_true,if_false]
   refine dI hn0 (hj z hg.1) hh ?_
   by_cases hin:z∈hs
   ·simp only[hin,decide_true,Bool.false_bne,if_true]
    rw[show mq hs z=true from decide_eq_true hin,if_pos rfl]at ep
    refine mid a b [.str "take",.str z,.int m] _ rfl (by omega) hp hg.2.2.2.1 fun po S2 X2 f2=>HA _ _ ?_
    exact last a b [.str "take",.str z,.int m] _ po S2 rfl (by omega) hp hg.2.2.2.2 X2 f2 (by rw[List.length_map];exact a.Ge _) ep
   ·simp only[hin,decide_false,Bool.false_bne,Bool.false_eq_true,if_false]
    rw[show mq hs z=false from decide_eq_false hin,if_neg (by decide)]at ep
    simp only[aN]
    refine HA _ _ ?_
    exact last a b [.str "take",.str z,.int m] [] pf S0 rfl (by omega) hp hg.2.2.2.2 X0 f0 (Nat.zero_le _) ep
  |_=>simp[Bd.hd,aA]at h2
 ·rw[List.mem_cons,not_or,List.mem_singleton]at h2
  simp only[bg,ll,aO,af,v3,lk,c3,ae,cu,a_,Bool.false_bne,decide_eq_true_eq,h2.1,h2.2,if_false,aN]
  refine hN _ _ ?_
  walk_at "x"
  intro p hp'
  have e:t.ps (mq hs)=[.tup []]:=by cases t<;>first|rfl|exact absurd rfl h1|exact absurd rfl h2.1|exact absurd rfl h2.2
  exact k p _ (X0.free hp') (X0.trans (.new hp')) (by rw[aa,e])
def om(n:Nat):me (List.replicate n (.bl true))=some (List.replicate n true):=by
 induction n with
 |zero=>rfl
 |succ n ih=>rw[List.replicate_succ,List.replicate_succ];show(me (List.replicate n (.bl true))).map _=_;rw[ih];rfl
def iN{x:PV}{S:aC}{Q:bJ}{t c:String}(h:r_ S x=some t)(hc:cN c=true)(q:Q (.bl (iR t c)) S):mh [x,.ty c] S Q:=by
 show(match r_ S x with|some t=>cN c=true/\Q (.bl (iR t c)) S|none=>False)
 rw[h];exact⟨hc,q⟩
def wY{x:PV}{S:aC}{Q:bJ}{t:String}(h:r_ S x=some t)(q:Q (.bl (iR t "list" || (iR t "tuple" || false))) S):mh [x,.tup [.ty "list",.ty "tuple"]] S Q:=by
 show(match r_ S x,BD [.ty "list",.ty "tuple"]with|some t,some l=>Q (.bl (l.any (iR t))) S|_,_=>False)
 rw[h,show BD [.ty "list",.ty "tuple"]=some ["list","tuple"] by decide +kernel];exact q
def ip{α:Type}{xs:List α}{p:α×α}(hp:p∈xs.zip xs):p.1∈xs/\p.2=p.1:=by
 induction xs with
 |nil=>cases hp
 |cons y r ih2=>
  rcases List.mem_cons.mp hp with rfl|h
  ·exact⟨List.mem_cons_self,rfl⟩
  ·exact⟨List.mem_cons_of_mem _ (ih2 h).1,(ih2 h).2⟩
theorem Bd.IP(q:Qs):∀t:Bd,∀x∈t.ps q,Mi 2 t.dep x
 | .rest,x,h=>by cases List.mem_singleton.mp h;exact .tup (Nat.zero_le _) (fun _ h=>by cases h)
 | .pay _ _,x,h=>by cases List.mem_singleton.mp h;exact .tup (Nat.zero_le _) (fun _ h=>by cases h)
 | .put _ _,x,h=>by cases List.mem_singleton.mp h;exact .tup (Nat.zero_le _) (fun _ h=>by cases h)
 | .use _,x,h=>by cases List.mem_singleton.mp h;exact .tup (Nat.zero_le _) (fun _ h=>by cases h)
 | .Gn a,x,h=>by cases List.mem_singleton.mp h;exact .tup (Nat.zero_le _) (fun _ h=>by cases h)
 | .F9 a b,x,h=>by
  obtain⟨y,hy,h⟩:=List.mem_flatMap.mp h
  obtain⟨z,hz,rfl⟩:=List.mem_map.mp h
  refine .tup (Nat.le_refl _) fun w hw=>?_
  rcases List.mem_cons.mp hw with rfl|hw
  ·exact(a.IP q _ hy).mono (Nat.le_refl _) (Nat.le_max_left _ _)
  ·cases List.mem_singleton.mp hw;exact(b.IP q _ hz).mono (Nat.le_refl _) (Nat.le_max_right _ _)
 | .Gu a b,x,h=>by
  rcases List.mem_append.mp h with h|h
  ·obtain⟨y,hy,rfl⟩:=List.mem_map.mp h
   refine .tup (Nat.le_refl _) fun w hw=>?_
   rcases List.mem_cons.mp hw with rfl|hw
   ·exact .int _
   ·cases List.mem_singleton.mp hw;exact(a.IP q _ hy).mono (Nat.le_refl _) (Nat.le_max_left _ _)
  ·obtain⟨y,hy,rfl⟩:=List.mem_map.mp h
   refine .tup (Nat.le_refl _) fun w hw=>?_
   rcases List.mem_cons.mp hw with rfl|hw
   ·exact .int _
   ·cases List.mem_singleton.mp hw;exact(b.IP q _ hy).mono (Nat.le_refl _) (Nat.le_max_right _ _)
 | .Gp z m a b,x,h=>by
  rcases List.mem_append.mp h with h|h
  ·split at h
   ·obtain⟨y,hy,rfl⟩:=List.mem_map.mp h
    refine .tup (Nat.le_refl _) fun w hw=>?_
    rcases List.mem_cons.mp hw with rfl|hw
    ·exact .int _
    ·cases List.mem_singleton.mp hw;exact(a.IP q _ hy).mono (Nat.le_refl _) (Nat.le_max_left _ _)
   ·cases h
  ·obtain⟨y,hy,rfl⟩:=List.mem_map.mp h
   refine .tup (Nat.le_refl _) fun w hw=>?_
   rcases List.mem_cons.mp hw with rfl|hw
   ·exact .int _
   ·cases List.mem_singleton.mp hw;exact(b.IP q _ hy).mono (Nat.le_refl _) (Nat.le_max_right _ _)
abbrev iq(w:ax):Prop:=∀{S:aC} {d l:Addr} {most many size:Nat} {Q:bJ} {E:b6},Gc S d l->most<=8->1<=many->many<=4->1<=size->size<=60->
  (∀js ds S',IB 6 js [] ds->1<=ds.length->ds.length<=many->js.length<=8->(∀p∈ds,p.2.F5+p.2.F7<=1000)->Gc S' d l->GV d l S S'->Q (GN js ds) S')->w [.ref d,.int most,.int many,.int size] S Q E
def sA{xw xd xb:ax}(Hj:fL xw)(F6:bY xd)(Np:gj xb):iq (F_ 9 (fW xw xd xb)):=by
 intro S0 d l most many size Q E D0 hmo hm1 hm4 hs1 hs2 k
 unfold fW
 refine cP ?_
 rw[show av 9 [PV.ref d,PV.int most,PV.int many,PV.int size]=[some (.ref d),some (.int most),some (.int many),some (.int size),none,none,none,none,none] from rfl]
 refine ak fun N hN=>?_
 walk_at "x"
 refine Hj D0 (by decide) (by decide) fun p ns S hl hnd hw0 _ KG hpl hp D O0=>?_
 have hl8':ns.length=8:=hl
 have PN:8<=ns.length:=by omega
 have PP:ns.length<=100:=by omega
 have hw:∀z∈ns,IsW z:=fun z hz=>(hw0 z hz).1
 refine hN _ _ ?_
 refine ak fun N hN=>?_
 walk_at "x"
 refine F6 (m:=most+1) D (by omega) (by omega) fun r S1 r0 r1 D1 O1=>?_
 obtain⟨j,rfl⟩:∃j:Nat,r=(j:Int):=⟨r.toNat,by omega⟩
 have hp1:=O1 _ _ hp KG hpl
 rw[hp1]
 dsimp only
 rw[o0 (by rw[List.length_map];omega),<-List.map_take]
 intro p2 hp2
 rw[aa]
 dsimp only
 have D2:Gc (F3 S1 p2 (.lst ((ns.take j).map PV.str))) d l:=D1.new hp2
 have O2:GV d l S (F3 S1 p2 (.lst ((ns.take j).map PV.str))):=O1.trans (.new hp2)
 have hp2':=GV.new (o:=.lst ((ns.take j).map PV.str)) hp2 _ _ hp1 KG hpl
 generalize F3 S1 p2 (.lst ((ns.take j).map PV.str))=S2 at D2 O2 hp2'
 refine hN _ _ (ak fun N hN=>?_)
 walk_at "x"
 intro p3 hp3
 have PQ:=D2.free hp3
 refine F6 (D2.new hp3) (by decide) (by decide) fun f S3 f0 f1 D3 O3=>?_
 have e3:=O3 _ _ (aa (S:=S2) (o:=.lst [.int 0,.int 4])) PQ.1 PQ.2
 have OP:=O3 _ _ (GV.new hp3 _ _ hp2' KG hpl) KG hpl
 have QQ:GV d l S S3:=O2.trans ((GV.new hp3).trans O3)
 simp only[e3]
 obtain⟨v,hv,NL⟩:=gg (xs:=[PV.int 0,.int 4]) f0 (by simpa using f1)
 rw[hv]
 obtain⟨g,rfl,hg⟩:∃g:Nat,v = .int g/\g<=4:=by
  simp only[List.mem_cons,List.not_mem_nil,or_false]at NL
  rcases NL with rfl|rfl
  ·exact⟨0,rfl,by omega⟩
  ·exact⟨4,rfl,by omega⟩
 refine hN _ _ (ak fun N hN=>?_)
 walk_at "x"
 refine F6 (m:=many) D3 (by omega) (by omega) fun r4 S4 a0 a1 D4 O4=>?_
 obtain⟨mm,em⟩:∃mm:Nat,1+r4=(mm:Int):=⟨(1+r4).toNat,by omega⟩
 dsimp only
 rw[em]
 have NM:=O4 _ _ OP KG hpl
 refine hN _ _ (ak fun N hN=>?_)
 walk_at "x"
 refine⟨by omega,by omega,?_⟩
 rw[Int.toNat_natCast]
 have hjl:(ns.take j).length<=8:=by rw[List.length_take];omega
 refine dU (fun done ys S'=>∃ds:List (Str×Bd),ys=ds.map dX/\ds.length=done.length/\ds.map Prod.fst=(ns.drop g).take done.length/\done.length<=mm/\(∀q∈ds,q.2.good (ns.take j) []/\q.2.dep<=6/\q.2.size<=60/\q.2.F5+q.2.F7<=1000)/\Gc S' d l/\GV d l S4 S') ⟨[],rfl,rfl,rfl,Nat.zero_le _,by simp,D4,.refl⟩ ?_ ?_ ?_
 ·rintro done ys S' ⟨ds,rfl,e,_,hd,_⟩
  exact⟨trivial,dG (by rw[List.length_map,e];omega)⟩
 ·rintro done x rest ys S' K e ⟨ds,rfl,e2,e3,hd,hc,D',O'⟩ hK
  obtain⟨rfl,hi⟩:=zf e
  walk_at "x"
  try simp only[bm,if_true]
  have hp':=O' _ _ NM KG hpl
  simp only[hp']
  have hlt:g+done.length < ns.length:=by omega
  have hat:G2 (ns.map PV.str) ((g:Int)+(done.length:Int))=some (.str ns[g+done.length]):=by
   have:((g:Int)+(done.length:Int))=((g+done.length:Nat):Int):=by omega
   rw[this]
   exact mG (by rw[List.getElem?_map,List.getElem?_eq_getElem hlt];rfl)
  rw[hat]
  dsimp only
  refine⟨DC (by omega) (by omega),Np D' (by omega) (by omega) (by omega) fun t S5 tg td tz tz2 tp D5 QR=>?_⟩
  have tp':t.F5+t.F7<=1000:=by
   have hb:Int.fdiv 24 (mm:Int)<=24:=by
    rw[Int.fdiv_eq_ediv_of_nonneg _ (by omega)]
    exact Int.ediv_le_self _ (by decide)
   rcases tp with h|h<;>omega
  refine hK _ _ ⟨ds++[(ns[g+done.length],t)],by simp[dX],by simp[e2],?_,by rw[List.length_append];exact hi,fun y hy=>?_,D5,O'.trans QR⟩
  ·rw[List.map_append,e3,List.length_append,List.length_singleton,List.take_succ,List.getElem?_drop,List.getElem?_eq_getElem hlt]
   rfl
  ·rcases List.mem_append.mp hy with hy|hy
   ·exact hc y hy
   ·rw[List.mem_singleton.mp hy];exact⟨tg,td,tz,tp'⟩
 rintro ys S5 ⟨ds,rfl,e,ef,_,hds,D5,O5⟩
 rw[dW]at e ef
 intro p6 PR
 refine hN _ _ ?_
 walk_at "x"
 rw[aa]
 dsimp only
 have sub:∀q∈ds,q.1∈ns:=fun q hq=>by
  have:q.1∈ds.map Prod.fst:=List.mem_map.mpr ⟨q,hq,rfl⟩
  rw[ef]at this
  exact List.mem_of_mem_drop (List.mem_of_mem_take this)
 refine k (ns.take j) ds _ ⟨⟨by omega,by omega,fun z hz=>hw z (List.mem_of_mem_take hz),by simp,fun q hq=>hw _ (sub q hq),fun q hq=>(hds q hq).1,fun q hq=>by have:=(hds q hq).2.1;omega,fun q hq=>(hds q hq).2.2.1⟩,hnd.sublist (List.take_sublist _ _),by rw[ef];exact hnd.sublist ((List.take_sublist _ _).trans (List.drop_sublist _ _)),fun q hq=>(hds q hq).2.1⟩ (by omega) (by omega) hjl (fun q hq=>(hds q hq).2.2.2) (D5.new PR) (O0.trans (QQ.trans (O4.trans (O5.trans (.new PR)))))
abbrev kW(w:ax):Prop:=∀{S:aC} {d l e:Addr} {js:Vs} {Q:bJ} {E:b6},Gc S d l->S e=some (.lst [])->e≠d->e≠l->(∀(t:Bd) S',t.leaf->t.good js []->Gc S' d l->GV d l S S'->Q t.pv S')->w [.ref d,.ref e] S Q E
def wZ{wd wc:ax}(F6:bY wd)(I_:jS wc):kW (F_ 4 (dR wd wc)):=by
 intro S d l e js Q E D he hed hel k
 unfold dR
 refine cP ?_
 rw[show av 4 [PV.ref d,PV.ref e]=[some (.ref d),some (.ref e),none,none] from rfl]
 refine ak fun N hN=>?_
 walk_at "x"
 refine F6 D (by decide) (by decide) fun r S1 r0 r1 D1 O1=>?_
 have Ma:=O1 _ _ he hed hel
 refine hN _ _ (ak fun N hN=>?_)
 walk_at "x"
 simp only[Bool.false_bne,decide_eq_true_eq]
 split
 ·exact k .rest S1 trivial trivial D1 O1
 refine hN _ _ (ak fun N hN=>?_)
 walk_at "x"
 simp only[Bool.false_bne,decide_eq_true_eq,Ma]
 have pay:wc [.ref d] S1 (fun x S=>Q (.tup [.str "pay",x]) S) d4:=I_ D1 fun x y S2 c D2 O2=>k (.pay x y) S2 trivial c D2 (O1.trans O2)
 split
 ·rw[if_pos trivial];exact pay
 ·rw[if_pos (show((([]:List PV).length:Nat):Int)=0 from rfl)];exact pay
def NN(js:Vs)(kvs:List (bI×PV)):Prop:=∀z v,fK kvs (.inr z)=some v->∃y∈js,v = .str y
def NN.get{js:Vs}{kvs:List (bI×PV)}{z:Str}(h:NN js kvs)(hz:z∈js):∃y∈js,(fK kvs (.inr z)).getD (.str z) = .str y:=by
 cases e:fK kvs (.inr z)with
 |none=>exact⟨z,hz,rfl⟩
 |some v=>obtain⟨y,hy,rfl⟩:=h z v e;exact⟨y,hy,rfl⟩
structure MN (t u:Bd):Prop where
 dp:u.dep=t.dep
 sz:u.size=t.size
 pc:u.F5=t.F5
 rc:u.F7=t.F7
abbrev pD(n:Nat)(w:ax):Prop:=∀{S:aC} {t:Bd} {js us:Vs} {a:Addr} {kvs:List (bI×PV)} {Q:bJ} {E:b6},t.dep<=n->t.good js us->S a=some (.dct kvs)->NN js kvs->(∀u:Bd,u.good js us->MN t u->Q u.pv S)->w [t.pv,.ref a] S Q E
def tR{x:PV}{xs:List PV}:Hh (x::xs) none (some 1)=[x]:=o0 (n:=1) (by simp)
def uY:∀y∈(["then","either","take"]:Vs),PyData.strOk y=true:=eN
def LD{s0:ax}(n:Nat)(ih:pD n s0):pD (n+1) (F_ 3 (eM s0)):=by
 intro S t js us a kvs Q E hd hg ha hk k
 unfold eM
 refine cP ?_
 rw[Bd.Hk,show av 3 [.tup (.str t.hd::t.tl),.ref a]=[some (.tup (.str t.hd::t.tl)),some (.ref a),none] from rfl]
 refine ak fun N hN=>?_
 simp only[bg,aO,af,v3,lk,c3,ae,cu,a_,Bool.false_bne,decide_eq_true_eq]
 by_cases h1:t.hd=("put":Str)
 ·rw[if_pos h1]
  cases t with
  |put z m=>
   obtain⟨y,hy,ey⟩:=hk.get hg.1
   simp only[Bd.hd,Bd.tl,aw,ay,aq,qp,af,v3,lk,c3,ae,dH,qC,ha,kD,ey]
   exact k (.put y m) ⟨hy,hg.2⟩ ⟨rfl,rfl,rfl,rfl⟩
  |_=>simp[Bd.hd,aA]at h1
 rw[if_neg h1]
 simp only[aN]
 refine hN _ _ (ak fun N hN=>?_)
 simp only[bg,aO,af,v3,lk,c3,ae,cu,a_,Bool.false_bne,decide_eq_true_eq]
 by_cases h2:t.hd=("often":Str)
 ·rw[if_pos h2]
  cases t with
  |Gn b=>
   simp only[Bd.dep]at hd
   simp only[Bd.hd,Bd.tl,aw,ay,aq,ab,af,v3,lk,c3,ae,dH]
   refine ih (by omega) hg ha hk fun u gu ku=>?_
   exact k (.Gn u) gu ⟨by simp only[Bd.dep,ku.dp],by simp only[Bd.size,ku.sz],rfl,by simp only[Bd.F7,ku.pc,ku.rc]⟩
  |_=>simp[Bd.hd,aA]at h2
 rw[if_neg h2]
 simp only[aN]
 refine hN _ _ (ak fun N hN=>?_)
 simp only[bg,aO,af,v3,lk,c3,ae,cu,ay,aq]
 rw[show([PV.str "then",PV.str "either",PV.str "take"]:List PV)=(["then","either","take"]:Vs).map PV.str from rfl]
 refine bH t.Jz uY ?_
 rw[Bool.false_bne]
 by_cases h3:t.hd∈(["then","either","take"]:Vs)
 ·rw[decide_eq_true h3]
  simp only[if_true]
  have sides:∀(hd2:List PV) (a b:Bd),(.str t.hd::t.tl)=hd2++[a.pv,b.pv]->G2 (.str t.hd::t.tl) (-1)=some b.pv/\G2 (.str t.hd::t.tl) (-2)=some a.pv:=fun hd2 a b e1=>⟨by rw[e1];have:=cV (a:=a.pv) (b:=b.pv) (hd:=hd2) (i:=1) (.inr rfl);simpa using this,by rw[e1];have:=cV (a:=a.pv) (b:=b.pv) (hd:=hd2) (i:=0) (.inl rfl);simpa using this⟩
  have two:∀(a' b':Bd) (hd2:List PV) (N':cM->aC->Prop),(.str t.hd::t.tl)=hd2++[a'.pv,b'.pv]->a'.dep<=n->b'.dep<=n->a'.good js us->b'.good js us->(∀u v:Bd,u.good js us->v.good js us->MN a' u->MN b' v->N' [some (.tup (.str t.hd::t.tl)),some (.ref a),some (.tup [u.pv,v.pv])] S)->
    au 2 (ay [ab s0 [af ae (v3 0) (d0 bD (c3 (.int 2))),v3 1],ab s0 [af ae (v3 0) (d0 bD (c3 (.int 1))),v3 1]]) { nx:=N',rt:=Q,ex:=d4 } [some (.tup (.str t.hd::t.tl)),some (.ref a),none] S:=by
   intro a' b' hd2 N' e1 da db ga gb kk
   simp only[au,ay,aq,ab,af,v3,lk,c3,ae,d0,bD,(sides hd2 a' b' e1).2]
   refine ih da ga ha hk fun u gu ku=>?_
   simp only[(sides hd2 a' b' e1).1]
   exact ih db gb ha hk fun v gv kv=>kk u v gu gv ku kv
  refine ak fun N2 HA=>?_
  cases t with
  |F9 x y=>
   simp only[Bd.dep]at hd
   refine two x y [.str "then"] _ rfl (by omega) (by omega) hg.1 hg.2 fun u v gu gv ku kv=>HA _ _ (ak fun N3 Ka=>?_)
   have en:decide (("then":Str) = "take")=false:=by decide
   simp only[bg,aO,af,v3,lk,c3,ae,cu,a_,Bool.false_bne,Bd.hd,en,Bool.false_eq_true,if_false,aN]
   refine Ka _ _ ?_
   simp only[Bd.hd,Bd.tl,aw,af,bN,oO,ni,oP,v3,lk,c3,tR,aS]
   refine⟨bd (by simp),?_⟩
   exact k (.F9 u v) ⟨gu,gv⟩ ⟨by simp only[Bd.dep,ku.dp,kv.dp],by simp only[Bd.size,ku.sz,kv.sz],by simp only[Bd.F5,ku.pc,kv.pc],by simp only[Bd.F7,ku.rc,kv.rc]⟩
  |Gu x y=>
   simp only[Bd.dep]at hd
   refine two x y [.str "either"] _ rfl (by omega) (by omega) hg.1 hg.2 fun u v gu gv ku kv=>HA _ _ (ak fun N3 Ka=>?_)
   have en:decide (("either":Str) = "take")=false:=by decide
   simp only[bg,aO,af,v3,lk,c3,ae,cu,a_,Bool.false_bne,Bd.hd,en,Bool.false_eq_true,if_false,aN]
   refine Ka _ _ ?_
   simp only[Bd.hd,Bd.tl,aw,af,bN,oO,ni,oP,v3,lk,c3,tR,aS]
   refine⟨bd (by simp),?_⟩
   exact k (.Gu u v) ⟨gu,gv⟩ ⟨by simp only[Bd.dep,ku.dp,kv.dp],by simp only[Bd.size,ku.sz,kv.sz],by simp only[Bd.F5,ku.pc,kv.pc],by simp only[Bd.F7,ku.rc,kv.rc]⟩
  |Gp z m x y=>
   simp only[Bd.dep]at hd
   refine two x y [.str "take",.str z,.int m] _ rfl (by omega) (by omega) hg.2.2.2.1 hg.2.2.2.2 fun u v gu gv ku kv=>HA _ _ (ak fun N3 Ka=>?_)
   obtain⟨y',hy,ey⟩:=hk.get hg.1
   simp only[bg,aO,af,v3,lk,c3,ae,cu,a_,Bool.false_bne,Bd.hd,decide_true,if_true]
   simp only[Bd.hd,Bd.tl,aw,ay,aq,qp,af,v3,lk,c3,ae,dH,qC,ha,kD,ey,aS]
   refine⟨bd (by simp),?_⟩
   exact k (.Gp y' m u v) ⟨hy,hg.2.1,hg.2.2.1,gu,gv⟩ ⟨by simp only[Bd.dep,ku.dp,kv.dp],by simp only[Bd.size,ku.sz,kv.sz],by simp only[Bd.F5,ku.pc,kv.pc],by simp only[Bd.F7,ku.rc,kv.rc]⟩
  |_=>simp[Bd.hd,aA]at h3
 ·rw[decide_eq_false h3]
  simp only[Bool.false_eq_true,if_false,aN]
  refine hN _ _ ?_
  simp only[aw,v3,lk]
  rw[<-Bd.Hk]
  exact k t hg ⟨rfl,rfl,rfl,rfl⟩
structure HP (js:Vs) (ds:List (Str×Bd)):Prop extends HG js ds where
 pc:∀p∈ds,p.2.F5+p.2.F7<=1000
def HP.of{js:Vs}{ds es:List (Str×Bd)}(h:HP js ds)(l:es.length<=1000)(hs:∀p∈es,∃q∈ds,p.2.good js []/\MN q.2 p.2):HP js es where
 jw:=h.jw
 jl:=h.jl
 dl:=l
 gd:=fun p hp=>by obtain⟨q,hq,g,k⟩:=hs p hp;exact g
 dp:=fun p hp=>by obtain⟨q,hq,g,k⟩:=hs p hp;rw[k.dp];exact h.dp q hq
 sz:=fun p hp=>by obtain⟨q,hq,g,k⟩:=hs p hp;rw[k.sz];exact h.sz q hq
 pc:=fun p hp=>by obtain⟨q,hq,g,k⟩:=hs p hp;rw[k.pc,k.rc];exact h.pc q hq
def MN.refl(t:Bd):MN t t:=⟨rfl,rfl,rfl,rfl⟩
def qM{α:Type}{xs:List α}{y:α}:G2 (xs++[y]) (-1)=some y:=by
 unfold G2 sW
 rw[if_neg (by omega),if_pos (by simp;omega)]
 have:(-1+((xs++[y]).length:Int)).toNat=xs.length:=by simp;omega
 rw[this]
 show(xs++[y])[xs.length]?=some y
 simp
def BY{α:Type}{xs:List α}:Hh xs none (some (-1))=xs.take (xs.length - 1):=by
 unfold Hh
 rw[HT.lV,List.drop_zero,Nat.sub_zero]
 congr 1
 have:HT.Gz xs.length xs.length (some (-1))=if (-1:Int) < 0 then (-1+((xs.length:Nat):Int)).toNat else min (-1:Int).toNat xs.length:=rfl
 rw[this,if_pos (by decide)]
 omega
def uZ{js:Vs}{a b:Str}(ha:a∈js)(hb:b∈js):NN js (eL [] [(.inr a,.str b),(.inr b,.str a)]):=by
 intro z v h
 have e1:kG [] (Sum.inr a:bI) (.str b)=[(.inr a,.str b)]:=rfl
 have:eL [] [(.inr a,.str b),(.inr b,.str a)]=kG (kG [] (Sum.inr a:bI) (.str b)) (.inr b) (.str a):=rfl
 rw[this,e1]at h
 unfold kG at h
 split at h
 ·simp only[List.map_cons,List.map_nil]at h
  split at h
  ·simp only[fK]at h
   split at h
   ·cases h;exact⟨a,ha,rfl⟩
   ·cases h
  ·simp only[fK]at h
   split at h
   ·cases h;exact⟨b,hb,rfl⟩
   ·cases h
 ·simp only[List.cons_append,List.nil_append,fK]at h
  split at h
  ·cases h;exact⟨b,hb,rfl⟩
  ·split at h
   ·cases h;exact⟨a,ha,rfl⟩
   ·cases h
abbrev mS(w:ax):Prop:=∀{S:aC} {js:Vs} {ds:List (Str×Bd)} {Q:bJ} {E:b6},HP js ds->
  (∀p (hs:List (List (Str×Bd))) S',S p=none->Ext S S'->S' p=some (.lst (hs.map (GN js)))->hs.length<=4->(∀h∈hs,HP js h)->Q (.ref p) S')->w [GN js ds] S Q E
def zp{xs:ax}(LD:pD 6 xs):mS (F_ 6 (jp xs)):=by
 intro S js ds Q E hP k
 unfold jp
 refine cP ?_
 rw[show av 6 [GN js ds]=[some (.tup [.tup (js.map PV.str),.tup (ds.map dX)]),none,none,none,none,none] from rfl]
 refine ak fun N hN=>?_
 walk_at "x"
 refine hN _ _ (ak fun N hN=>?_)
 walk_at "x"
 intro pk hpk
 have X0:Ext S (F3 S pk (.lst [GN js ds])):=.new hpk
 have f0:(F3 S pk (.lst [GN js ds])) pk=some (.lst ([ds].map (GN js))):=aa
 rw[show PV.tup [.tup (js.map PV.str),.tup (ds.map dX)]=GN js ds from rfl]
 generalize F3 S pk (.lst [GN js ds])=S0 at X0 f0
 refine hN _ _ (ak fun N hN=>?_)
 -- what comes behind the first if
 have Ml:∀(x4 x5:Option PV) (hs:List (List (Str×Bd))) (S1:aC),Ext S S1->S1 pk=some (.lst (hs.map (GN js)))->hs.length<=3->(∀h∈hs,HP js h)->N [some (GN js ds),some (.tup (js.map PV.str)),some (.tup (ds.map dX)),some (.ref pk),x4,x5] S1:=by
  intro x4 x5 hs S1 X1 f1 l1 g1
  refine hN _ _ (ak fun N hN=>?_)
  have last:∀(x4 x5:Option PV) (hs:List (List (Str×Bd))) (S1:aC),Ext S S1->S1 pk=some (.lst (hs.map (GN js)))->hs.length<=4->(∀h∈hs,HP js h)->N [some (GN js ds),some (.tup (js.map PV.str)),some (.tup (ds.map dX)),some (.ref pk),x4,x5] S1:=by
   intro x4 x5 hs S1 X1 f1 l1 g1
   refine hN _ _ ?_
   walk_at "x"
   exact k pk hs S1 hpk X1 f1 l1 g1
  simp only[bg,aO,af,ao,aq,v3,lk,c3,cr,sg,fT,decide_eq_true_eq,List.length_map]
  split
  ·rename_i hj
   refine ak fun N2 HA=>?_
   obtain⟨ja,PU⟩:∃a,js[0]?=some a:=⟨js[0]'(by omega),List.getElem?_eq_getElem (by omega)⟩
   have OQ:G2 (js.map PV.str) 0=some (.str ja):=mG (n:=0) (by rw[List.getElem?_map,PU];rfl)
   have hne:js≠[]:=fun h=>by rw[h]at hj;simp at hj
   obtain⟨jr,jb,PX⟩:∃r b,js=r++[b]:=⟨js.dropLast,js.getLast hne,(List.dropLast_concat_getLast hne).symm⟩
   have OR:G2 (js.map PV.str) (-1)=some (.str jb):=by rw[PX,List.map_append];exact qM
   simp only[au,mr,je,af,v3,lk,c3,ae,d0,bD,OQ,OR]
   intro pd KG
   simp only[aa,true_and,nX,kD]
   have X2:Ext S1 (F3 (F3 S1 pd (.dct [])) pd (.dct (eL [] [(.inr ja,.str jb),(.inr jb,.str ja)]))):=fun a o h=>by
    have n:a≠pd:=fun e=>by rw[e,KG]at h;cases h
    rw[al n,al n];exact h
   have f2:(F3 (F3 S1 pd (.dct [])) pd (.dct (eL [] [(.inr ja,.str jb),(.inr jb,.str ja)]))) pd=some (.dct (eL [] [(.inr ja,.str jb),(.inr jb,.str ja)])):=aa
   generalize (F3 (F3 S1 pd (.dct [])) pd (.dct (eL [] [(.inr ja,.str jb),(.inr jb,.str ja)])))=S2 at X2 f2
   have sw:=uZ (js:=js) (a:=ja) (b:=jb) (List.mem_of_getElem? PU) (by rw[PX];simp)
   generalize eL [] [(.inr ja,.str jb),(.inr jb,.str ja)]=kvs at f2 sw
   have MO:=X2 _ _ f1
   have QS:=X1.trans X2
   refine HA _ _ ?_
   simp only[List.set_cons_zero,List.set_cons_succ,aP,dj,mj,aq,ay,ao,v3,lk,MO,true_and,aF,aD,bt]
   refine dU (fun done ys S'=>S'=S2/\∃es:List (Str×Bd),ys=es.map dX/\es.length=done.length/\done.length<=ds.length/\∀p∈es,∃q∈ds,p.2.good js []/\MN q.2 p.2) ⟨rfl,[],rfl,rfl,Nat.zero_le _,by simp⟩ ?_ ?_ ?_
   ·rintro done ys S' ⟨_,es,rfl,e,l,_⟩
    exact⟨trivial,bd (by rw[List.length_map,e];have:=hP.dl;omega)⟩
   ·rintro done x rest ys S' K e ⟨rfl,es,rfl,e2,l,he⟩ hK
    obtain⟨q,hq,rfl⟩:∃q∈ds,dX q=x:=List.mem_map.mp (by rw[e];simp)
    simp only[dX,Tg.put,Tg.F8,eg,List.reduceReplicate,List.map_cons,List.map_nil,List.cons_append,List.nil_append,List.set_cons_zero,List.set_cons_succ,lk,bm,if_true,ay,aq,ab,v3,List.getElem?_cons_zero,List.getElem?_cons_succ,Option.join]
    refine LD (hP.dp q hq) (hP.gd q hq) f2 sw fun u gu ku=>hK _ _ ⟨rfl,es++[(q.1,u)],by rw[List.map_append];rfl,by rw[List.length_append,List.length_append,e2];rfl,?_,?_⟩
    ·have:(ds.map dX).length=done.length+(rest.length+1):=by rw[e,List.length_append,List.length_cons]
     rw[List.length_map]at this
     rw[List.length_append,List.length_singleton];omega
    ·intro p hp
     rcases List.mem_append.mp hp with h|h
     ·exact he p h
     ·rw[List.mem_singleton.mp h];exact⟨q,hq,gu,ku⟩
   ·rintro ys S' ⟨rfl,es,rfl,e,_,he⟩ pl hpl
    rw[List.length_map]at e
    simp only[bh,oN,aa]
    have nk:pk≠pl:=fun h=>by rw[h,hpl]at MO;cases MO
    have hle:hs.length+1<=4:=by omega
    simp only[bp,al nk,MO]
    refine⟨Nat.lt_of_lt_of_le (show(hs.map (GN js)).length < 5 by rw[List.length_map];omega) (by decide),?_⟩
    refine last _ _ (hs++[es]) _ ((QS.trans (.new hpl)).put hpk) (by rw[aa,List.map_append];rfl) (by rw[List.length_append];exact hle) fun h hh=>?_
    rcases List.mem_append.mp hh with hh|hh
    ·exact g1 h hh
    ·rw[List.mem_singleton.mp hh];exact hP.of (by rw[e];exact hP.dl) he
  ·simp only[aN]
   exact last _ _ hs S1 X1 f1 (by omega) g1
 simp only[bg,aO,af,ao,aq,v3,lk,c3,cr,sg,fT,decide_eq_true_eq,List.length_map]
 split
 ·rename_i hd
  have hd':1 < ds.length:=by omega
  refine ak fun N2 HA=>?_
  simp only[au,aF,aD,v3,lk,bt]
  have dl:=hP.dl
  refine aU (fun p:Str×Bd=>dX p) (fun p=>.str p.1) trivial ds [] (fun x hx=>⟨_,rfl,fun Q q=>q⟩) (by rw[List.length_nil,Nat.zero_add];exact bd dl) ?_
  intro pn M4
  rw[List.nil_append]
  have X1:Ext S0 (F3 S0 pn (.lst (ds.map fun p=>.str p.1))):=.new M4
  have Ki:(F3 S0 pn (.lst (ds.map fun p=>.str p.1))) pn=some (.lst (ds.map fun p=>.str p.1)):=aa
  generalize (F3 S0 pn (.lst (ds.map fun p=>.str p.1)))=S1 at X1 Ki
  refine HA _ _ (ak fun N2 HA=>?_)
  simp only[au,aF,aD,v3,lk,bt,List.set_cons_zero,List.set_cons_succ]
  refine aU (fun p:Str×Bd=>dX p) (fun p=>p.2.pv) trivial ds [] (fun x hx=>⟨_,rfl,fun Q q=>q⟩) (by rw[List.length_nil,Nat.zero_add];exact bd dl) ?_
  intro pb JX
  rw[List.nil_append]
  have X2:Ext S1 (F3 S1 pb (.lst (ds.map fun p=>p.2.pv))):=.new JX
  have Nq:(F3 S1 pb (.lst (ds.map fun p=>p.2.pv))) pb=some (.lst (ds.map fun p=>p.2.pv)):=aa
  have JY:=X2 _ _ Ki
  generalize (F3 S1 pb (.lst (ds.map fun p=>p.2.pv)))=S2 at X2 Nq JY
  refine HA _ _ ?_
  have MO:=X2 _ _ (X1 _ _ f0)
  have LU:=X0.trans (X1.trans X2)
  simp only[List.set_cons_zero,List.set_cons_succ,aP,dj,mj,aq,ay,bC,wx,af,bN,oO,ni,oP,c3,d0,bD,v3,lk,MO,JY,Nq,true_and]
  intro p1 hp1
  have n1:pb≠p1:=fun h=>by rw[h,hp1]at Nq;cases Nq
  simp only[al n1,Nq]
  intro p2 hp2
  have hp2':S2 p2=none:=by
   by_cases e:p2=p1
   ·rw[e,aa]at hp2;cases hp2
   ·rw[al e]at hp2;exact hp2
  have QT:p1≠p2:=fun h=>by rw[<-h,aa]at hp2;cases hp2
  simp only[aS,aa,al QT]
  have hlb:1<=(ds.map fun p=>p.2.pv).length:=by rw[List.length_map];omega
  have PY:Hh (ds.map fun p=>p.2.pv) (some 1) none=((ds.map Prod.snd).drop 1).map Bd.pv:=by rw[show(1:Int)=((1:Nat):Int)from rfl,BU hlb,List.map_drop,List.map_map];rfl
  have QU:Hh (ds.map fun p=>p.2.pv) none (some 1)=((ds.map Prod.snd).take 1).map Bd.pv:=by rw[show(1:Int)=((1:Nat):Int)from rfl,o0 hlb,List.map_take,List.map_map];rfl
  simp only[PY,QU]
  have PZ:((ds.map Prod.snd).drop 1).length+((ds.map Prod.snd).take 1).length=ds.length:=by simp only[List.length_drop,List.length_take,List.length_map];omega
  refine⟨bd (by rw[List.length_map,List.length_map,PZ];exact dl),?_⟩
  intro p3 hp3
  rw[<-List.map_append] 
  have X3:Ext S2 (F3 (F3 (F3 S2 p1 (.lst (((ds.map Prod.snd).drop 1).map Bd.pv))) p2 (.lst (((ds.map Prod.snd).take 1).map Bd.pv))) p3 (.lst (((ds.map Prod.snd).drop 1++(ds.map Prod.snd).take 1).map Bd.pv))):=(Ext.new hp1).trans ((Ext.new (by rw[PY]at hp2;exact hp2)).trans (.new hp3))
  have f3:(F3 (F3 (F3 S2 p1 (.lst (((ds.map Prod.snd).drop 1).map Bd.pv))) p2 (.lst (((ds.map Prod.snd).take 1).map Bd.pv))) p3 (.lst (((ds.map Prod.snd).drop 1++(ds.map Prod.snd).take 1).map Bd.pv))) p3=some (.lst (((ds.map Prod.snd).drop 1++(ds.map Prod.snd).take 1).map Bd.pv)):=aa
  generalize F3 (F3 (F3 S2 p1 (.lst (((ds.map Prod.snd).drop 1).map Bd.pv))) p2 (.lst (((ds.map Prod.snd).take 1).map Bd.pv))) p3 (.lst (((ds.map Prod.snd).drop 1++(ds.map Prod.snd).take 1).map Bd.pv))=S3 at X3 f3
  have F_:=X3 _ _ JY
  have OS:=X3 _ _ MO
  simp only[F_,f3]
  refine⟨by rw[List.length_map,List.length_map,List.length_append,PZ],by rw[List.length_map];omega,?_⟩
  have ez:bj (ds.map fun p=>PV.str p.1) (((ds.map Prod.snd).drop 1++(ds.map Prod.snd).take 1).map Bd.pv)=((ds.map Prod.fst).zip ((ds.map Prod.snd).drop 1++(ds.map Prod.snd).take 1)).map dX:=by
   unfold bj
   rw[show(ds.map fun p=>PV.str p.1)=(ds.map Prod.fst).map PV.str by rw[List.map_map];rfl,List.zip_map,List.map_map]
   rfl
  rw[ez,BY,<-List.map_take]
  intro p4 NM
  have n4:pk≠p4:=fun h=>by rw[h,NM]at OS;cases OS
  simp only[aQ,aa,al n4,OS]
  refine⟨bd (by simp),?_⟩
  refine Ml _ _ [ds,ds.take (ds.length - 1),(ds.map Prod.fst).zip ((ds.map Prod.snd).drop 1++(ds.map Prod.snd).take 1)] _ ((LU.trans (X3.trans (.new NM))).put hpk) (by rw[aa,List.length_map];rfl) (by simp) fun h hh=>?_
  simp only[List.mem_cons,List.not_mem_nil,or_false]at hh
  rcases hh with rfl|rfl|rfl
  ·exact hP
  ·exact hP.of (Nat.le_trans (List.length_take_le _ _) (by omega)) fun p hp=>⟨p,List.mem_of_mem_take hp,hP.gd p (List.mem_of_mem_take hp),.refl _⟩
  ·refine hP.of (by rw[List.length_zip,List.length_map];omega) fun p hp=>?_
   have h2:=(List.of_mem_zip hp).2
   have h3:p.2∈ds.map Prod.snd:=by
    rcases List.mem_append.mp h2 with h|h
    ·exact List.mem_of_mem_drop h
    ·exact List.mem_of_mem_take h
   obtain⟨q,hq,e⟩:=List.mem_map.mp h3
   exact⟨q,hq,by rw[<-e];exact hP.gd q hq,by rw[<-e];exact .refl _⟩
 ·simp only[aN]
  exact Ml _ _ [ds] S0 X0 f0 (by simp) fun h hh=>by rw[List.mem_singleton.mp hh];exact hP
def FZ{r n:Nat}(h:r < n):seqIndex? (r:Int) n=some r:=by
 unfold seqIndex?
 simp
 omega
theorem on{α β:Type}(f:α->β):∀(xs:List α) (i:Nat),(xs.map f).eraseIdx i=(xs.eraseIdx i).map f
 |[],_=>rfl
 |_::_,0=>rfl
 |x::r,i+1=>by simp only[List.map_cons,List.eraseIdx_cons_succ,on f r i]
def u4{xs:List PV}{i:Nat}(h:i < xs.length):∃y∈xs,G2 xs ((i:Int) - 1)=some y:=by
 cases i with
 |zero=>
  have hne:xs≠[]:=fun e=>by rw[e]at h;cases h
  refine⟨xs.getLast hne,List.getLast_mem hne,?_⟩
  have:=qM (xs:=xs.dropLast) (y:=xs.getLast hne)
  rw[List.dropLast_concat_getLast hne]at this
  exact this
 |succ i=>
  have e:(((i+1:Nat):Int) - 1)=(i:Int):=by omega
  exact⟨xs[i],List.getElem_mem _,by rw[e];exact mG (List.getElem?_eq_getElem (by omega))⟩
structure CB (js:Vs) (t:Bd):Prop where
 g:t.good js []
 d:t.dep<=3
 s:t.size<=5
 p:t.F5+t.F7<=9
structure CI (js:Vs) (t:Bd):Prop where
 g:t.good js []
 d:t.dep<=2
 s:t.size<=3
 p:t.F5<=2
 r:t.F7=0
def Bd.HW{t:Bd}(h:t.leaf):t.F5=1/\t.F7=0:=by cases t<;>first|exact⟨rfl,rfl⟩|exact h.elim
theorem CI.put{js:Vs}{z:Str}{m:Int}(hz:z∈js)(h0:1<=m)(h1:m<=9):CI js (.put z m):=⟨⟨hz,h0,h1⟩,by simp[Bd.dep],by simp[Bd.size],by simp[Bd.F5],rfl⟩
theorem CI.Gp{js:Vs}{z y:Str}{m m':Int}{f:Bd}(hz:z∈js)(h0:1<=m)(h1:m<=9)(hy:y∈js)(h2:1<=m')(h3:m'<=9)(hl:f.leaf)(hg:f.good js []):CI js (.Gp y m' (.put z m) f):=
 ⟨⟨hy,h2,h3,⟨hz,h0,h1⟩,hg⟩,by simp only[Bd.dep,(Bd.GE hl).1];decide,by simp only[Bd.size,(Bd.GE hl).2];decide,by simp only[Bd.F5,(Bd.HW hl).1];decide,by simp only[Bd.F7,(Bd.HW hl).2]⟩
def CI.cb{js:Vs}{t:Bd}(h:CI js t):CB js t:=⟨h.g,by have:=h.d;omega,by have:=h.s;omega,by have:=h.p;have:=h.r;omega⟩
theorem CI.F9{js:Vs}{t f:Bd}(h:CI js t)(hl:f.leaf)(hg:f.good js []):CB js (.F9 f t):=
 ⟨⟨hg,h.g⟩,by have:=h.d;have:=(Bd.GE hl).1;simp only[Bd.dep];omega,by have:=h.s;have:=(Bd.GE hl).2;simp only[Bd.size];omega,by have:=h.p;simp only[Bd.F5,Bd.F7,(Bd.HW hl).1,(Bd.HW hl).2,h.r];omega⟩
theorem CI.Gu{js:Vs}{t f:Bd}(h:CI js t)(hl:f.leaf)(hg:f.good js []):CB js (.Gu f t):=
 ⟨⟨hg,h.g⟩,by have:=h.d;have:=(Bd.GE hl).1;simp only[Bd.dep];omega,by have:=h.s;have:=(Bd.GE hl).2;simp only[Bd.size];omega,by have:=h.p;simp only[Bd.F5,Bd.F7,(Bd.HW hl).1,(Bd.HW hl).2,h.r];omega⟩
theorem CI.Gn{js:Vs}{t:Bd}(h:CI js t):CB js (.Gn t):=
 ⟨h.g,by have:=h.d;simp only[Bd.dep];omega,by have:=h.s;simp only[Bd.size];omega,by have:=h.p;have:=h.r;simp only[Bd.F5,Bd.F7];omega⟩
def Ll.ok{js:Vs}{ds:List (Str×Bd)}{hs:Vs}(h:Ll js ds hs)(hj:j3 js):j3 hs:=fun z hz=>hj z (h.2.2.1 z hz)
def lO{js:Vs}{ds:List (Str×Bd)}{hs:Vs}(h:Ll js ds hs):mq (held ds js.length)=mq hs:=zn h.1 h.2.1 h.2.2.1 h.2.2.2
noncomputable def Bd.Hb:Bd->Bd | .Gn a=>a|t=>t
noncomputable def Bd.Ia(q:Qs)(t:Bd)(r:Bool):List (Bd×Bool):=(t.pr q r).filter fun p=>p.1.JM
abbrev Nb:=(Bd×Bool)×Nat
noncomputable def come(q:Qs)(t:Bd):List Nb:=(t.Ia q true).zipIdx.filter fun c=>c.1.2
noncomputable def rh(q:Qs)(c:Nb):List PV:=(c.1.1.Hb.ps q).map fun x=>.tup [.int (c.2:Int),x]
noncomputable def Bd.Kj(q:Qs)(t:Bd):List PV:=(come q t).flatMap (rh q)
theorem eA(q:Qs):∀(t:Bd) (r:Bool),((t.Ia q r).map fun p=>p.1.Hb.F5).sum=t.F7
 | .rest,_=>rfl
 | .pay _ _,_=>rfl
 | .put _ _,_=>rfl
 | .use _,_=>rfl
 | .Gn a,r=>by
  show(((Bd.Gn a,r)::a.Ia q r).map fun p=>p.1.Hb.F5).sum=a.F5+a.F7
  rw[List.map_cons,List.sum_cons,eA q a r];rfl
 | .F9 a b,r=>by
  show((((a.pr q r++b.pr q r).filter fun p=>p.1.JM)).map fun p=>p.1.Hb.F5).sum=a.F7+b.F7
  rw[List.filter_append,List.map_append,List.sum_append_nat]
  have h1:=eA q a r;have h2:=eA q b r;unfold Bd.Ia at h1 h2;rw[h1,h2]
 | .Gu a b,r=>by
  show((((a.pr q r++b.pr q r).filter fun p=>p.1.JM)).map fun p=>p.1.Hb.F5).sum=a.F7+b.F7
  rw[List.filter_append,List.map_append,List.sum_append_nat]
  have h1:=eA q a r;have h2:=eA q b r;unfold Bd.Ia at h1 h2;rw[h1,h2]
 | .Gp z m a b,r=>by
  show((((a.pr q (r&&q z)++b.pr q r).filter fun p=>p.1.JM)).map fun p=>p.1.Hb.F5).sum=a.F7+b.F7
  rw[List.filter_append,List.map_append,List.sum_append_nat]
  have h1:=eA q a (r&&q z);have h2:=eA q b r;unfold Bd.Ia at h1 h2;rw[h1,h2]
theorem qN(q:Qs):∀(l:List (Bd×Bool)) (n:Nat),(((l.zipIdx n).filter fun c=>c.1.2).flatMap (rh q)).length<=(l.map fun p=>p.1.Hb.F5).sum
 |[],_=>Nat.zero_le _
 |p::l,n=>by
  rw[List.zipIdx_cons,List.map_cons,List.sum_cons]
  have h1:=qN q l (n+1)
  have h2:(rh q (p,n)).length<=p.1.Hb.F5:=by unfold rh;rw[List.length_map];exact Bd.Ge q _
  rw[List.filter_cons]
  split
  ·rw[List.flatMap_cons,List.length_append];omega
  ·omega
def mT{α:Type}(f:α->List PV)(xs:List α)(k:Nat):((xs.take k).flatMap f).length<=(xs.flatMap f).length:=by
 have e:xs.flatMap f=(xs.take k).flatMap f++(xs.drop k).flatMap f:=by rw[<-List.flatMap_append,List.take_append_drop]
 rw[e,List.length_append];omega
def Bd.JR(q:Qs)(t:Bd):(t.Kj q).length<=t.F7:=by
 have:=qN q (t.Ia q true) 0
 rw[eA]at this
 exact this
def lP{q:Qs}{t:Bd}{r:Bool}{p:Bd×Bool}(h:p∈t.Ia q r):∃a,p.1 = .Gn a:=by
 have:=(List.mem_filter.mp h).2
 cases e:p.1<;>rw[e]at this<;>first|exact⟨_,rfl⟩|cases this
theorem i4(q:Qs)(js us:Vs):∀(t:Bd) (r:Bool) (p:Bd×Bool),p∈t.pr q r->(t.good js us->p.1.good js us)/\p.1.dep<=t.dep/\p.1.size<=t.size
 | .rest,r,p,h=>by rw[List.mem_singleton.mp h];exact⟨id,Nat.le_refl _,Nat.le_refl _⟩
 | .pay _ _,r,p,h=>by rw[List.mem_singleton.mp h];exact⟨id,Nat.le_refl _,Nat.le_refl _⟩
 | .put _ _,r,p,h=>by rw[List.mem_singleton.mp h];exact⟨id,Nat.le_refl _,Nat.le_refl _⟩
 | .use _,r,p,h=>by rw[List.mem_singleton.mp h];exact⟨id,Nat.le_refl _,Nat.le_refl _⟩
 | .Gn a,r,p,h=>by
  rcases List.mem_cons.mp h with rfl|h
  ·exact⟨id,Nat.le_refl _,Nat.le_refl _⟩
  ·obtain⟨h1,h2,h3⟩:=i4 q js us a r p h
   exact⟨fun g=>h1 g,by simp only[Bd.dep];omega,by simp only[Bd.size];omega⟩
 | .F9 a b,r,p,h=>by
  rcases List.mem_cons.mp h with rfl|h
  ·exact⟨id,Nat.le_refl _,Nat.le_refl _⟩
  rcases List.mem_append.mp h with h|h
  ·obtain⟨h1,h2,h3⟩:=i4 q js us a r p h
   exact⟨fun g=>h1 g.1,by simp only[Bd.dep];omega,by simp only[Bd.size];omega⟩
  ·obtain⟨h1,h2,h3⟩:=i4 q js us b r p h
   exact⟨fun g=>h1 g.2,by simp only[Bd.dep];omega,by simp only[Bd.size];omega⟩
 | .Gu a b,r,p,h=>by
  rcases List.mem_cons.mp h with rfl|h
  ·exact⟨id,Nat.le_refl _,Nat.le_refl _⟩
  rcases List.mem_append.mp h with h|h
  ·obtain⟨h1,h2,h3⟩:=i4 q js us a r p h
   exact⟨fun g=>h1 g.1,by simp only[Bd.dep];omega,by simp only[Bd.size];omega⟩
  ·obtain⟨h1,h2,h3⟩:=i4 q js us b r p h
   exact⟨fun g=>h1 g.2,by simp only[Bd.dep];omega,by simp only[Bd.size];omega⟩
 | .Gp z m a b,r,p,h=>by
  rcases List.mem_cons.mp h with rfl|h
  ·exact⟨id,Nat.le_refl _,Nat.le_refl _⟩
  rcases List.mem_append.mp h with h|h
  ·obtain⟨h1,h2,h3⟩:=i4 q js us a _ p h
   exact⟨fun g=>h1 g.2.2.2.1,by simp only[Bd.dep];omega,by simp only[Bd.size];omega⟩
  ·obtain⟨h1,h2,h3⟩:=i4 q js us b r p h
   exact⟨fun g=>h1 g.2.2.2.2,by simp only[Bd.dep];omega,by simp only[Bd.size];omega⟩
theorem w4:∀{xs:List Nat} {x:Nat},x∈xs->x<=xs.sum
 |y::r,x,h=>by
  rw[List.sum_cons]
  rcases List.mem_cons.mp h with rfl|h
  ·omega
  ·have:=w4 h;omega
def sB{q:Qs}{js us:Vs}{t:Bd}{r:Bool}{p:Bd×Bool}(h:p∈t.Ia q r)(g:t.good js us):p.1.Hb.good js us/\p.1.Hb.dep<=t.dep/\p.1.Hb.F5<=t.F7:=by
 obtain⟨a,ea⟩:=lP h
 obtain⟨h1,h2,_⟩:=i4 q js us t r p (List.mem_filter.mp h).1
 refine⟨by have:=h1 g;rw[ea]at this ⊢;exact this,by rw[ea]at h2 ⊢;simp only[Bd.dep]at h2;simp only[Bd.Hb];omega,?_⟩
 rw[<-eA q t r]
 exact w4 (List.mem_map.mpr ⟨p,h,rfl⟩)
theorem eP{α:Type}{g:Tg}{tc:li}{te:aY}{σ':cM}{keep:aC->Prop}{fin:List PV->aC->Prop}{S:aC}(enc f:α->PV)(c:α->Bool)(hk:keep S):∀(xs:List α) (ys:List PV),
  (∀x∈xs,∃σ2,g.put (enc x) σ'=some σ2/\(∀K:Bool->aC->Prop,K (c x) S->tc σ2 S K d4)/\(c x=true->∀Q:bJ,Q (f x) S->te σ2 S Q d4))->ys.length+xs.length<=sizeLine->fin (ys++(xs.filter c).map f) S->de g tc te σ' keep fin (xs.map enc) ys S
 |[],ys,_,hl,hf=>⟨hk,by simpa using hl,by simpa using hf⟩
 |x::r,ys,h,hl,hf=>by
  obtain⟨σ2,e,h1,h2⟩:=h x (by simp)
  refine⟨hk,by simp at hl;omega,?_⟩
  rw[e]
  refine h1 _ ?_
  by_cases hc:c x=true
  ·rw[if_pos hc]
   refine h2 hc _ (eP enc f c hk r (ys++[f x]) (fun y hy=>h y (by simp[hy])) (by simp at hl ⊢;omega) ?_)
   rw[List.filter_cons_of_pos hc]at hf
   simpa using hf
  ·rw[if_neg hc]
   refine eP enc f c hk r ys (fun y hy=>h y (by simp[hy])) (by simp at hl;omega) ?_
   rw[List.filter_cons_of_neg hc]at hf
   exact hf
def j5{α:Type}(enc:α->PV)(xs:List α):L3.aR (xs.map enc)=xs.zipIdx.map fun c=>.tup [.int (c.2:Int),enc c.1]:=by
 unfold L3.aR
 rw[List.mapIdx_eq_zipIdx_map,List.zipIdx_map,List.map_map]
 rfl
noncomputable def w5(c:Nb):PV:=.tup [.int (c.2:Int),c.1.1.Hb.pv]
abbrev mU(w:ax):Prop:=∀{S:aC} {t:Bd} {js us hs:Vs} {nm:Addr} {Q:bJ} {E:b6},t.dep<=6->t.size<=900->t.good js us->j3 js->j3 hs->S nm=some (.lst (hs.map PV.str))->
  (∀p S',S p=none->Ext S S'->S' p=some (.lst ((come (mq hs) t).map w5))->Q (.ref p) S')->w [t.pv,.ref nm] S Q E
def Kk{xp:ax}(KF:mP 6 xp):mU (F_ 3 (dr xp)):=by
 intro S t js us hs nm Q E hd hz hg hj hh hn k
 unfold dr
 refine cP ?_
 rw[show av 3 [t.pv,.ref nm]=[some t.pv,some (.ref nm),none] from rfl]
 refine ak fun N hN=>?_
 simp only[au,aF,aD,kK,aq,v3,lk,List.cons_append,List.nil_append]
 refine KF hd hz hg hj hh hn fun p S1 hp X1 f1=>?_
 simp only[bt,f1]
 have hpl:=t.Hl (mq hs) true
 refine eP gq gq (fun p=>p.1.JM) f1 (t.pr (mq hs) true) [] (fun x hx=>⟨_,rfl,?_,fun _ Q q=>q⟩) (bd (by rw[List.length_nil,Nat.zero_add,hpl];omega)) ?_
 ·intro K hK
  have e:gq x = .tup [.tup (.str x.1.hd::x.1.tl),.bl x.2]:=by unfold gq;rw[Bd.Hk]
  simp only[aO,af,v3,lk,c3,ae,e,eg,List.reduceReplicate,List.map_nil,List.append_nil,List.set_cons_zero,cu,a_,Bool.false_bne]
  have e2:decide (x.1.hd=("often":Str))=x.1.JM:=by cases x.1<;>simp[Bd.hd,aA,Bd.JM]
  rw[e2]
  exact hK
 intro p2 hp2
 rw[List.nil_append]
 have X2:Ext S1 (F3 S1 p2 (.lst ((t.Ia (mq hs) true).map gq))):=.new hp2
 have f2:(F3 S1 p2 (.lst ((t.Ia (mq hs) true).map gq))) p2=some (.lst ((t.Ia (mq hs) true).map gq)):=aa
 show N _ (F3 S1 p2 (.lst ((t.Ia (mq hs) true).map gq)))
 generalize F3 S1 p2 (.lst ((t.Ia (mq hs) true).map gq))=S2 at X2 f2
 refine hN _ _ ?_
 simp only[aw,aF,cw,v3,lk,List.set_cons_zero,List.set_cons_succ,f2]
 rw[j5]
 have hol:(t.Ia (mq hs) true).length<=900:=Nat.le_trans (List.length_filter_le _ _) (by rw[hpl];exact hz)
 refine eP (fun c:Nb=>.tup [.int (c.2:Int),gq c.1]) w5 (fun c=>c.1.2) f2 (t.Ia (mq hs) true).zipIdx [] (fun c hc=>⟨_,rfl,?_,?_⟩) (bd (by rw[List.length_nil,Nat.zero_add,List.length_zipIdx];omega)) ?_
 ·intro K hK
  simp only[aO,af,v3,lk,c3,ae,gq,eg,List.reduceReplicate,List.map_nil,List.append_nil,List.set_cons_zero,List.set_cons_succ,dH]
  exact hK
 ·intro hc2 Q q
  obtain⟨a,ea⟩:=lP (p:=c.1) (List.fst_mem_of_mem_zipIdx hc)
  simp only[ay,aq,af,v3,lk,c3,ae,gq,eg,List.reduceReplicate,List.map_nil,List.append_nil,List.set_cons_zero,List.set_cons_succ,cu,dH,ea,Bd.pv]
  have:w5 c = .tup [.int (c.2:Int),a.pv]:=by unfold w5;rw[ea];rfl
  rw[this]at q
  exact q
 intro p3 hp3
 rw[List.nil_append]
 exact k p3 _ ((X1.trans X2).free hp3) ((X1.trans X2).trans (.new hp3)) aa
def w9{S S1 S2:aC}{q:Qs}{c:Nb}{σ:cM}{j:Nat}{nm pf:Addr}{os:List PV}{xp:ax}{js us hs:Vs}{K:aC->Prop}(H_:bZ 6 xp)(hq:q=mq hs)(ga:c.1.1.Hb.good js us)(da:c.1.1.Hb.dep<=6)(pa:c.1.1.Hb.F5<=1000)(hj:j3 js)(hh:j3 hs)(hn:S2 nm=some (.lst (hs.map PV.str)))
  (hpf:S pf=none) (X2:Ext S S2) (XB:Hm pf S1 S2) (f2:S2 pf=some (.lst os)) (hl:os.length+(rh q c).length<=1000) (eb:eg 1 [j] σ=[none,some (.int (c.2:Int))])
  (k:∀S3,Ext S S3->Hm pf S1 S3->S3 pf=some (.lst (os++rh q c))->K S3) :
  xp [c.1.1.Hb.pv,.ref nm] S2 (fun v S4=>match bt S4 v with
   |some src=>de (.n 0) bm (ay [v3 1,v3 0]) (eg 1 [j] σ) src.keep (fun zs S5=>∀q,S5 q=none->aQ (.ref pf) [.ref q] (F3 S5 q (.lst zs)) fun _ S6=>K S6) src.items [] S4
   |none=>False) d4:=by
 subst hq
 refine H_ da pa ga hj hh hn fun pp S4 hpp X4 f4=>?_
 simp only[bt,f4,eb]
 have OT:=X4 _ _ f2
 have NK:=Bd.Ge (mq hs) c.1.1.Hb
 have key:=aU (g:=.n 0) (te:=ay [v3 1,v3 0]) (σ':=[none,some (.int (c.2:Int))]) (keep:=fun S'=>S' pp=some (.lst (c.1.1.Hb.ps (mq hs)))) (fin:=fun zs S5=>∀q,S5 q=none->aQ (.ref pf) [.ref q] (F3 S5 q (.lst zs)) fun _ S6=>K S6) (fun y:PV=>y) (fun y=>.tup [.int (c.2:Int),y]) f4 (c.1.1.Hb.ps (mq hs)) [] (fun y hy=>⟨_,rfl,fun Q q=>q⟩) (by rw[List.length_nil,Nat.zero_add];exact bd (by omega)) (by
  intro pq hpq
  rw[List.nil_append]
  have nq:pf≠pq:=fun h=>by rw[h,hpq]at OT;cases OT
  simp only[aQ,al nq,OT,aa]
  refine⟨bd hl,k _ ((X2.trans (X4.trans (.new hpq))).put hpf) (fun a o h n=>?_) aa⟩
  have h2:=X4 _ _ (XB a o h n)
  rw[al n,al (fun h'=>by rw[h',hpq]at h2;cases h2)]
  exact h2)
 rw[List.map_id']at key
 exact key
noncomputable def e_(p:Bd×Bool):PV:=if p.2 then p.1.Hb.pv else .non
def sC{t:Bd}{S:aC}{Q:bJ}:vb true t.pv .non S Q=Q (.bl true) S:=by cases t<;>rfl
def zq{S:aC}{Q:bJ}:vb true .non .non S Q=Q (.bl false) S:=rfl
abbrev eQ(n:Nat)(w:ax):Prop:=∀{S:aC} {t:Bd} {js us hs:Vs} {nm:Addr} {r:Bool} {Q:bJ} {E:b6},t.dep<=n->t.size<=900->t.good js us->j3 js->j3 hs->S nm=some (.lst (hs.map PV.str))->
  (∀p S',S p=none->Ext S S'->S' p=some (.lst ((t.Ia (mq hs) r).map e_))->Q (.ref p) S')->w [t.pv,.ref nm,.bl r] S Q E
def lQ(q:Qs)(t:Bd)(r:Bool):(t.Ia q r).length<=t.size:=Nat.le_trans (List.length_filter_le _ _) (Nat.le_of_eq (t.Hl q r))
def zr{s0:ax}(n:Nat)(ih:eQ n s0):eQ (n+1) (F_ 4 (fy s0)):=by
 intro S t js us hs nm r Q E hd hz hg hj hh hn k
 unfold fy
 refine cP ?_
 rw[Bd.Hk,show av 4 [.tup (.str t.hd::t.tl),.ref nm,.bl r]=[some (.tup (.str t.hd::t.tl)),some (.ref nm),some (.bl r),none] from rfl]
 refine ak fun N hN=>?_
 simp only[au,bC,aq,List.set_cons_zero,List.set_cons_succ]
 intro pf hpf
 have X0:Ext S (F3 S pf (.lst [])):=.new hpf
 have f0:(F3 S pf (.lst [])) pf=some (.lst []):=aa
 generalize F3 S pf (.lst [])=S0 at X0 f0
 have hn0:=X0 _ _ hn
 refine hN _ _ (ak fun N hN=>?_)
 -- one more call behind what is found
 have call:∀(a:Bd) (r':Bool) (os:List (Bd×Bool)) (S1:aC) (N':aC->Prop),a.dep<=n->a.size<=900->os.length+a.size<=900->a.good js us->Ext S S1->S1 pf=some (.lst (os.map e_))->(∀S2,Ext S S2->S2 pf=some (.lst ((os++a.Ia (mq hs) r').map e_))->N' S2)->
   s0 [a.pv,.ref nm,.bl r'] S1 (fun v S2=>aQ (.ref pf) [v] S2 fun _ S3=>N' S3) d4:=by
  intro a r' os S1 N' da za ho ga X1 f1 kk
  refine ih da za ga hj hh (X1 _ _ hn) fun p2 S2 hp2 X2 f2=>?_
  have QV:=X2 _ _ f1
  simp only[aQ,QV,f2]
  refine⟨bd (by rw[List.length_map,List.length_map];have:=lQ (mq hs) a r';omega),kk _ ((X1.trans X2).put hpf) (by rw[aa,List.map_append])⟩
 have last:∀(os:List (Bd×Bool)) (S1:aC),Ext S S1->S1 pf=some (.lst (os.map e_))->t.Ia (mq hs) r=os->aw (v3 3) { nx:=fun _ S'=>Q .non S',rt:=Q,ex:=d4 } [some (.tup (.str t.hd::t.tl)),some (.ref nm),some (.bl r),some (.ref pf)] S1:=by
  intro os S1 X1 f1 e
  simp only[aw,v3,lk]
  exact k pf S1 hpf X1 (by rw[f1,e])
 simp only[bg,aO,af,v3,lk,c3,ae,cu,a_,Bool.false_bne,decide_eq_true_eq]
 by_cases h1:t.hd=("often":Str)
 ·rw[if_pos h1]
  cases t with
  |Gn a=>
   simp only[Bd.dep]at hd
   simp only[Bd.size]at hz
   refine ak fun N2 HA=>?_
   simp only[Bd.hd,Bd.tl,aP,dj,mj,aq,af,bC,ao,v3,lk,c3,ae,dH,f0,true_and]
   intro p1 hp1
   have n1:pf≠p1:=fun h=>by rw[h,hp1]at f0;cases f0
   simp only[iZ,aa]
   have hat:G2 [PV.non,a.pv] (if r=true then 1 else 0)=some (e_ (.Gn a,r)):=by cases r<;>rfl
   rw[hat]
   simp only[bp,al n1,f0]
   refine⟨by decide,?_⟩
   have X1:Ext S (F3 (F3 S0 p1 (.lst [.non,a.pv])) pf (.lst ([]++[e_ (.Gn a,r)]))):=(X0.trans (.new hp1)).put hpf
   have f1:(F3 (F3 S0 p1 (.lst [.non,a.pv])) pf (.lst ([]++[e_ (.Gn a,r)]))) pf=some (.lst ([(Bd.Gn a,r)].map e_)):=aa
   generalize F3 (F3 S0 p1 (.lst [.non,a.pv])) pf (.lst ([]++[e_ (.Gn a,r)]))=S1 at X1 f1
   refine HA _ _ ?_
   simp only[aP,dj,mj,aq,af,ab,v3,lk,c3,ae,dH,f1,true_and]
   refine call a r [(.Gn a,r)] S1 (fun S'=>N [some (.tup (.str (Bd.Gn a).hd::(Bd.Gn a).tl)),some (.ref nm),some (.bl r),some (.ref pf)] S') (by omega) (by omega) (by rw[List.length_singleton];omega) hg X1 f1 fun S2 X2 f2=>?_
   refine hN _ _ (ak fun N hN=>?_)
   simp only[bg,aO,af,v3,lk,c3,ae,cu,ay,aq]
   rw[show([PV.str "then",PV.str "either",PV.str "take"]:List PV)=(["then","either","take"]:Vs).map PV.str from rfl]
   refine bH (Bd.Gn a).Jz eN ?_
   rw[show decide ((Bd.Gn a).hd∈(["then","either","take"]:Vs))=false by simp[Bd.hd,aA]]
   simp only[Bool.false_bne,Bool.false_eq_true,if_false,aN]
   refine hN _ _ ?_
   exact last _ S2 X2 f2 rfl
  |_=>simp[Bd.hd,aA]at h1
 rw[if_neg h1]
 simp only[aN]
 refine hN _ _ (ak fun N hN=>?_)
 simp only[bg,aO,af,v3,lk,c3,ae,cu,ay,aq]
 rw[show([PV.str "then",PV.str "either",PV.str "take"]:List PV)=(["then","either","take"]:Vs).map PV.str from rfl]
 refine bH t.Jz eN ?_
 rw[Bool.false_bne]
 by_cases h3:t.hd∈(["then","either","take"]:Vs)
 ·rw[decide_eq_true h3]
  simp only[if_true]
  have sides:∀(hd2:List PV) (a b:Bd),(.str t.hd::t.tl)=hd2++[a.pv,b.pv]->G2 (.str t.hd::t.tl) (-1)=some b.pv/\G2 (.str t.hd::t.tl) (-2)=some a.pv:=fun hd2 a b e1=>⟨by rw[e1];have:=cV (a:=a.pv) (b:=b.pv) (hd:=hd2) (i:=1) (.inr rfl);simpa using this,by rw[e1];have:=cV (a:=a.pv) (b:=b.pv) (hd:=hd2) (i:=0) (.inl rfl);simpa using this⟩
  have both:∀(a b:Bd) (hd2:List PV) (r':Bool),(.str t.hd::t.tl)=hd2++[a.pv,b.pv]->a.dep<=n->b.dep<=n->a.size+b.size<=900->a.good js us->b.good js us->t.Ia (mq hs) r=a.Ia (mq hs) r'++b.Ia (mq hs) r->
    (∀(S1:aC) (Q1:bJ),S1 nm=some (.lst (hs.map PV.str))->Q1 (.bl r') S1->bX (v3 2) (ma (af (a_ true) (af ae (v3 0) (c3 (.int 0))) (c3 (.str "take"))) (af (jF false) (af ae (v3 0) (c3 (.int 1))) (v3 1))) [some (.tup (.str t.hd::t.tl)),some (.ref nm),some (.bl r),some (.ref pf)] S1 Q1 d4)->
    ah (aP (dj "list" aQ (v3 3) [ab s0 [af ae (v3 0) (d0 bD (c3 (.int 2))),v3 1,bX (v3 2) (ma (af (a_ true) (af ae (v3 0) (c3 (.int 0))) (c3 (.str "take"))) (af (jF false) (af ae (v3 0) (c3 (.int 1))) (v3 1)))]]))
     (aP (dj "list" aQ (v3 3) [ab s0 [af ae (v3 0) (d0 bD (c3 (.int 1))),v3 1,v3 2]])) { nx:=N,rt:=Q,ex:=d4 } [some (.tup (.str t.hd::t.tl)),some (.ref nm),some (.bl r),some (.ref pf)] S0:=by
   intro a b hd2 r' e1 da db NB ga gb et hr
   obtain⟨sb,sa⟩:=sides hd2 a b e1
   refine ak fun N2 HA=>?_
   simp only[aP,dj,mj,aq,ab,af,d0,bD,v3,lk,c3,ae,f0,true_and,sa]
   refine hr S0 _ hn0 ?_
   refine call a r' [] S0 (fun S'=>N2 [some (.tup (.str t.hd::t.tl)),some (.ref nm),some (.bl r),some (.ref pf)] S') da (by omega) (by rw[List.length_nil];omega) ga X0 f0 fun S1 X1 f1=>?_
   refine HA _ _ ?_
   simp only[aP,dj,mj,aq,ab,af,d0,bD,v3,lk,c3,ae,f1,true_and,sb]
   refine call b r _ S1 (fun S'=>N [some (.tup (.str t.hd::t.tl)),some (.ref nm),some (.bl r),some (.ref pf)] S') db (by omega) (by rw[List.nil_append];have:=lQ (mq hs) a r';omega) gb X1 f1 fun S2 X2 f2=>?_
   refine hN _ _ ?_
   exact last _ S2 X2 f2 (by rw[et,List.nil_append])
  cases t with
  |F9 a b=>
   simp only[Bd.dep]at hd
   simp only[Bd.size]at hz
   refine both a b [.str "then"] r rfl (by omega) (by omega) (by omega) hg.1 hg.2 (by show((a.pr (mq hs) r++b.pr (mq hs) r).filter _)=_;rw[List.filter_append];rfl) fun S1 Q1 h1 q1=>?_
   have en:decide (("then":Str) = "take")=false:=by decide
   simp only[bX,ma,af,v3,lk,c3,ae,cu,a_,Bd.hd,en,Bool.true_bne,Bool.not_false,if_true]
   cases r
   ·exact q1
   ·exact q1
  |Gu a b=>
   simp only[Bd.dep]at hd
   simp only[Bd.size]at hz
   refine both a b [.str "either"] r rfl (by omega) (by omega) (by omega) hg.1 hg.2 (by show((a.pr (mq hs) r++b.pr (mq hs) r).filter _)=_;rw[List.filter_append];rfl) fun S1 Q1 h1 q1=>?_
   have en:decide (("either":Str) = "take")=false:=by decide
   simp only[bX,ma,af,v3,lk,c3,ae,cu,a_,Bd.hd,en,Bool.true_bne,Bool.not_false,if_true]
   cases r
   ·exact q1
   ·exact q1
  |Gp z m a b=>
   simp only[Bd.dep]at hd
   simp only[Bd.size]at hz
   refine both a b [.str "take",.str z,.int m] (r&&mq hs z) rfl (by omega) (by omega) (by omega) hg.2.2.2.1 hg.2.2.2.2 (by show((a.pr (mq hs) (r&&mq hs z)++b.pr (mq hs) r).filter _)=_;rw[List.filter_append];rfl) fun S1 Q1 h1 q1=>?_
   simp only[bX,ma,af,v3,lk,c3,ae,cu,dH,a_,Bd.hd,Bd.tl,decide_true,Bool.true_bne,Bool.not_true,Bool.false_eq_true,if_false]
   cases r
   ·exact q1
   ·simp only[if_true]
    refine dI h1 (hj z hg.1) hh ?_
    rw[Bool.false_bne]
    exact q1
  |_=>simp[Bd.hd,aA]at h3
 ·rw[decide_eq_false h3]
  simp only[Bool.false_eq_true,if_false,aN]
  refine hN _ _ ?_
  refine last [] S0 X0 f0 ?_
  cases t<;>first|rfl|exact absurd rfl h1|simp[Bd.hd]at h3
abbrev ir(w:ax):Prop:=∀{S:aC} {t:Bd} {js us hs:Vs} {nm:Addr} {Q:bJ} {E:b6},t.dep<=6->t.size<=60->t.F5+t.F7<=1000->t.good js us->j3 js->j3 hs->S nm=some (.lst (hs.map PV.str))->
  (∀p S',S p=none->Ext S S'->S' p=some (.lst (t.Kj (mq hs)))->Q (.ref p) S')->w [t.pv,.ref nm] S Q E
def IQ{xo xp:ax}(JS:eQ 6 xo)(H_:bZ 6 xp):ir (F_ 5 (fz xo xp)):=by
 intro S t js us hs nm Q E Lj hsz MM hgd hj hh hn k
 unfold fz
 refine cP ?_
 rw[show av 5 [t.pv,.ref nm]=[some t.pv,some (.ref nm),none,none,none] from rfl]
 refine ak fun N hN=>?_
 simp only[au,bC,aq,List.set_cons_zero,List.set_cons_succ]
 intro pf hpf
 have X2:Ext S (F3 S pf (.lst [])):=.new hpf
 have f2:(F3 S pf (.lst [])) pf=some (.lst []):=aa
 have JY:=X2 _ _ hn
 generalize F3 S pf (.lst [])=S2 at X2 f2 JY
 refine hN _ _ (ak fun N hN=>?_)
 simp only[bM,cw,ab,aq,v3,lk,c3]
 refine JS Lj (by omega) hgd hj hh JY fun pc S3 Nr X3 f3=>?_
 simp only[f3]
 rw[j5]
 have QW:Ext S S3:=X2.trans X3
 have QX:pc≠pf:=fun h=>by rw[h,f2]at Nr;cases Nr
 have Lm:nm≠pf:=fun h=>by rw[h,hpf]at hn;cases hn
 have hcl:(t.Kj (mq hs)).length<=1000:=Nat.le_trans (t.JR (mq hs)) (by omega)
 refine bx (fun done σ S'=>∃(x3 x4:Option PV),σ=[some t.pv,some (.ref nm),some (.ref pf),x3,x4]/\Ext S S'/\Hm pf S3 S'/\S' pf=some (.lst ((((t.Ia (mq hs) true).zipIdx.take done.length).filter fun c=>c.1.2).flatMap (rh (mq hs))))) ⟨_,_,rfl,QW,.refl,X3 _ _ f2⟩ (fun _ _ _ ⟨_,_,_,_,XB,_⟩=>XB _ _ f3 QX) ?_ ?_
 ·rintro done x rest σ S4 K e ⟨x3,x4,rfl,X4,XB,f4⟩ hK
  have hget:((t.Ia (mq hs) true).zipIdx.map fun c=>PV.tup [.int (c.2:Int),e_ c.1])[done.length]?=some x:=by rw[e];simp
  obtain⟨c,hc,rfl⟩:∃c,(t.Ia (mq hs) true).zipIdx[done.length]?=some c/\PV.tup [.int (c.2:Int),e_ c.1]=x:=by rw[List.getElem?_map]at hget;exact Option.map_eq_some_iff.mp hget
  obtain⟨gi,di,pi⟩:=sB (List.fst_mem_of_mem_zipIdx (List.mem_of_getElem? hc)) hgd
  have MP:(t.Ia (mq hs) true).zipIdx.take (done.length+1)=(t.Ia (mq hs) true).zipIdx.take done.length++[c]:=by rw[List.take_succ,hc];rfl
  simp only[Tg.put,Tg.F8,List.set_cons_zero,List.set_cons_succ]
  simp only[bg,aO,af,v3,lk,c3]
  by_cases hc2:c.1.2=true
  ·have el:e_ c.1=c.1.1.Hb.pv:=by unfold e_;rw[if_pos hc2]
   rw[el,sC]
   simp only[if_true]
   have P0:(((t.Ia (mq hs) true).zipIdx.take (done.length+1)).filter fun c=>c.1.2).flatMap (rh (mq hs))=(((t.Ia (mq hs) true).zipIdx.take done.length).filter fun c=>c.1.2).flatMap (rh (mq hs))++rh (mq hs) c:=by
    rw[MP,List.filter_append,List.flatMap_append,List.filter_cons_of_pos (p:=fun c:Nb=>c.1.2) hc2];simp
   have hl:((((t.Ia (mq hs) true).zipIdx.take done.length).filter fun c=>c.1.2).flatMap (rh (mq hs))).length+(rh (mq hs) c).length<=1000:=by
    rw[<-List.length_append,<-P0]
    refine Nat.le_trans ?_ hcl
    have e0:t.Kj (mq hs)=(((t.Ia (mq hs) true).zipIdx.take (done.length+1)).filter fun c=>c.1.2).flatMap (rh (mq hs))++(((t.Ia (mq hs) true).zipIdx.drop (done.length+1)).filter fun c=>c.1.2).flatMap (rh (mq hs)):=by
     rw[<-List.flatMap_append,<-List.filter_append,List.take_append_drop];rfl
    rw[e0,List.length_append];omega
   simp only[aP,dj,mj,aq,v3,lk,f4,true_and,aF,aD,ab]
   refine w9 (K:=fun S6=>K _ S6) H_ rfl gi (by omega) (by omega) hj hh (XB _ _ (X3 _ _ JY) Lm) hpf X4 XB f4 hl rfl fun S5 X5 QY f5=>?_
   exact hK _ _ ⟨_,_,rfl,X5,QY,by rw[f5,List.length_append,List.length_singleton,P0]⟩
  ·have el:e_ c.1 = .non:=by unfold e_;rw[if_neg hc2]
   rw[el,zq]
   simp only[Bool.false_eq_true,if_false,aN]
   refine hK _ _ ⟨_,_,rfl,X4,XB,?_⟩
   rw[f4,List.length_append,List.length_singleton,MP,List.filter_append,List.filter_cons_of_neg (p:=fun c:Nb=>c.1.2) hc2,List.filter_nil,List.append_nil]
 ·rintro σ S4 ⟨x3,x4,rfl,X4,XB,f4⟩
  refine hN _ _ ?_
  simp only[aw,v3,lk]
  rw[List.length_map,List.take_length]at f4
  exact k pf S4 hpf X4 f4
def Ah{n:Nat}(h:n<=1000000):n<=sizeLine:=Nat.le_trans h (by decide)
inductive Kv (S:aC):Nat->PV->PV->Prop
 |non {n:Nat}:Kv S (n+1) .non .non
 |int {n:Nat} (i:Int):Kv S (n+1) (.int i) (.int i)
 |bl {n:Nat} (b:Bool):Kv S (n+1) (.bl b) (.bl b)
 |str {n:Nat} (z:Str):Kv S (n+1) (.str z) (.str z)
 |tup {n:Nat} {xs ys:List PV}:xs.length=ys.length->xs.length<=1000000->(∀p∈xs.zip ys,Kv S n p.1 p.2)->Kv S (n+1) (.tup xs) (.tup ys)
 |lst {n:Nat} {a b:Addr} {xs ys:List PV}:S a=some (.lst xs)->S b=some (.lst ys)->xs.length=ys.length->xs.length<=1000000->(∀p∈xs.zip ys,Kv S n p.1 p.2)->Kv S (n+1) (.ref a) (.ref b)
def Kv.mono{S S':aC}{n:Nat}{v w:PV}(h:Kv S n v w)(X:Ext S S'):Kv S' n v w:=by
 induction h with
 |non=>exact .non
 |int i=>exact .int i
 |bl b=>exact .bl b
 |str z=>exact .str z
 |tup e l _ ih=>exact .tup e l fun p hp=>ih p hp
 |lst h1 h2 e l _ ih=>exact .lst (X _ _ h1) (X _ _ h2) e l fun p hp=>ih p hp
abbrev cH(n:Nat)(f:ax):Prop:=∀{S:aC} {v w:PV} {Q:bJ} {E:b6},Kv S n v w->(∀S',Ext S S'->Q (.bl true) S')->f [v,w] S Q E
def sD{s0:ax}{n:Nat}(ih:cH n s0){S:aC}{xs ys:List PV}{σ:cM}{keep:aC->Prop}{Q:bJ}(hk:∀S',Ext S S'->keep S')(hl:xs.length<=1000000)(hx:∀p∈xs.zip ys,Kv S n p.1 p.2)(k:∀S',Ext S S'->Q (.bl true) S') :
  de (.tp (.cons (.n 0) (.cons (.n 1) .nil))) bm (ab s0 [v3 0,v3 1]) (eg 2 [] σ) keep (fun zs S2=>∀p,S2 p=none->r9 [.ref p] (F3 S2 p (.lst zs)) Q) (bj xs ys) [] S:=by
 have hlz:(bj xs ys).length<=xs.length:=by simp[bj];omega
 refine dU (fun done zs S'=>Ext S S'/\done.length<=(bj xs ys).length/\zs=List.replicate done.length (.bl true)) ⟨.refl,Nat.zero_le _,rfl⟩ (fun done zs S' ⟨X,l,e⟩=>⟨hk S' X,Ah (by rw[e,List.length_replicate];omega)⟩) ?_ ?_
 ·rintro done x rest zs S' K e ⟨X,l,rfl⟩ hK
  have hm:x∈bj xs ys:=by rw[e];simp
  obtain⟨p,hp,rfl⟩:=List.mem_map.mp hm
  simp only[Tg.put,Tg.F8,eg,List.reduceReplicate,List.map_nil,List.append_nil,List.set_cons_zero,List.set_cons_succ,bm,if_true,ab,aq,v3,lk]
  refine ih ((hx p hp).mono X) fun S2 X2=>hK _ _ ⟨X.trans X2,?_,?_⟩
  ·have:(bj xs ys).length=done.length+(rest.length+1):=by rw[e,List.length_append,List.length_cons]
   rw[List.length_append,List.length_singleton];omega
  ·rw[List.length_append,List.length_singleton,List.replicate_succ']
 ·rintro zs S' ⟨X,_,rfl⟩ p hp
  simp only[r9,aa,om]
  rw[show(List.replicate (bj xs ys).length true).all id=true by simp]
  exact k _ (X.trans (.new hp))
def fg{s0:ax}{S:aC}{v:PV}{t:String}{Q:bJ}(h:r_ S v=some t)(hn:(iR t "list" || (iR t "tuple" || false))=false)(q:∀Q2:bJ,Q2 (.bl true) S->a_ false v v S Q2)(k:Q (.bl true) S) :
  ci s0 { nx:=fun _ S'=>Q .non S',rt:=Q,ex:=d4 } [some v,some v] S:=by
 unfold ci
 refine ak fun N hN=>?_
 simp only[bg,aO,ao,aq,v3,lk,c3,ay]
 refine wY h ?_
 rw[hn]
 simp only[Bool.false_eq_true,if_false,aN]
 refine hN _ _ ?_
 simp only[aw,bX,af,ao,aq,v3,lk,c3]
 refine iN h (by decide +kernel) (iN h (by decide +kernel) ?_)
 refine(show a_ false (.bl (iR t "bool")) (.bl (iR t "bool")) S _ from ?_)
 rw[show ∀(b:Bool) (Q3:bJ),a_ false (.bl b) (.bl b) S Q3=Q3 (.bl (false != decide (b=b))) S from fun b Q3=>rfl]
 rw[Bool.false_bne,decide_eq_true rfl]
 dsimp only
 rw[if_pos rfl]
 exact q _ k
def mV{s0:ax}{n:Nat}(ih:cH n s0){S:aC}{v w:PV}{xs ys:List PV}{t:String}{Q:bJ}(h1:r_ S v=some t)(h2:r_ S w=some t)(ht:t = "list" \/ t = "tuple")(l1:∀Q2:bJ,Q2 (.int xs.length) S->cr [v] S Q2)(l2:∀Q2:bJ,Q2 (.int ys.length) S->cr [w] S Q2)
  {keep:aC->Prop} (hz:∀R:Ej->aC->Prop,R ⟨bj xs ys,keep⟩ S->mz (v3 0) (v3 1) [some v,some w] S R d4) (hk:∀S',Ext S S'->keep S') (e:xs.length=ys.length) (l:xs.length<=1000000) (hx:∀p∈xs.zip ys,Kv S n p.1 p.2) (k:∀S',Ext S S'->Q (.bl true) S') :
  ci s0 { nx:=fun _ S'=>Q .non S',rt:=Q,ex:=d4 } [some v,some w] S:=by
 unfold ci
 refine ak fun N hN=>?_
 simp only[bg,aO,ao,aq,v3,lk,c3,ay]
 refine wY h2 ?_
 rw[show(iR t "list" || (iR t "tuple" || false))=true by rcases ht with rfl|rfl<;>decide +kernel]
 simp only[if_true]
 refine ak fun N2 HA=>?_
 simp only[bg,ll,aO,af,ao,aq,v3,lk,c3]
 refine iN h1 (by decide +kernel) (iN h2 (by decide +kernel) ?_)
 simp only[a_,decide_true,Bool.true_bne,Bool.not_true,Bool.false_eq_true,if_false]
 refine iN h1 (by decide +kernel) (iN h2 (by decide +kernel) ?_)
 simp only[a_,decide_true,Bool.true_bne,Bool.not_true,Bool.false_eq_true,if_false,aN]
 refine HA _ _ ?_
 simp only[aw,bX,af,ao,aq,v3,lk]
 refine l1 _ (l2 _ ?_)
 simp only[e,a_,Bool.false_bne,decide_true,if_true,aF]
 refine hz _ ?_
 exact sD ih hk l hx k
def u5{s0:ax}(n:Nat)(ih:cH n s0):cH (n+1) (F_ 2 (ci s0)):=by
 intro S v w Q E h k
 refine cP ?_
 rw[show av 2 [v,w]=[some v,some w] from rfl]
 cases h with
 |non=>exact fg (t:="NoneType") rfl (by decide +kernel) (fun Q2 q=>⟨.none,.none,.non,.non,by decide +kernel,by decide +kernel,by decide +kernel,q⟩) (k _ .refl)
 |int i=>exact fg (t:="int") rfl (by decide +kernel) (fun Q2 q=>by simp only[a_,decide_true];exact q) (k _ .refl)
 |bl b=>exact fg (t:="bool") rfl (by decide +kernel) (fun Q2 q=>by simp only[a_,decide_true];exact q) (k _ .refl)
 |str z=>exact fg (t:="str") rfl (by decide +kernel) (fun Q2 q=>by simp only[a_,decide_true];exact q) (k _ .refl)
 |@tup _ xs ys e l hx=>exact mV ih (t:="tuple") rfl rfl (.inr rfl) (fun Q2 q=>q) (fun Q2 q=>q) (fun R r=>r) (fun _ _=>trivial) e l hx k
 |@lst _ a b xs ys h1 h2 e l hx=>
  refine mV ih (t:="list") (keep:=fun S'=>S' a=some (.lst xs)/\S' b=some (.lst ys)) (by simp only[r_,h1]) (by simp only[r_,h2]) (.inl rfl) (fun Q2 q=>by simp only[cr,h1];exact q) (fun Q2 q=>by simp only[cr,h2];exact q) (fun R r=>?_) (fun S' X=>⟨X _ _ h1,X _ _ h2⟩) e l hx k
  simp only[mz,v3,lk,h1,h2]
  exact r
def Kv.same{S:aC}{L n:Nat}{v:PV}(h:Mi L n v)(hL:L<=1000000):Kv S (n+1) v v:=by
 induction h with
 |int i=>exact .int i
 |@tup n xs l _ ih=>
  refine .tup rfl (Nat.le_trans l hL) fun p hp=>?_
  obtain⟨hm,e⟩:=ip hp
  rw[e]
  exact ih _ hm
structure Ln (S0 S:aC) (d l p po pb:Addr) (W O B:List PV):Prop where
 D:Gc S d l
 w:S p=some (.lst W)
 o:S po=some (.lst O)
 b:S pb=some (.lst B)
 n:p≠d/\p≠l/\po≠d/\po≠l/\pb≠d/\pb≠l/\p≠pb/\po≠pb
 x:GV d l S0 S
 f:S0 pb=none
def Ln.IF{S0 S S':aC}{d l p po pb:Addr}{W O B:List PV}(h:Ln S0 S d l p po pb W O B)(D':Gc S' d l)(X:GV d l S S'):Ln S0 S' d l p po pb W O B:=
 ⟨D',X _ _ h.w h.n.1 h.n.2.1,X _ _ h.o h.n.2.2.1 h.n.2.2.2.1,X _ _ h.b h.n.2.2.2.2.1 h.n.2.2.2.2.2.1,h.n,h.x.trans X,h.f⟩
theorem Ln.new{S0 S:aC}{d l p po pb q:Addr}{W O B:List PV}{o:SO}(h:Ln S0 S d l p po pb W O B)(hq:S q=none):Ln S0 (F3 S q o) d l p po pb W O B:=
 h.IF (h.D.new hq) (.new hq)
theorem Ln.put{S0 S:aC}{d l p po pb:Addr}{W O B B':List PV}(h:Ln S0 S d l p po pb W O B):Ln S0 (F3 S pb (.lst B')) d l p po pb W O B':=
 ⟨h.D.upd h.n.2.2.2.2.1 h.n.2.2.2.2.2.1,by rw[al h.n.2.2.2.2.2.2.1];exact h.w,by rw[al h.n.2.2.2.2.2.2.2];exact h.o,aa,h.n,h.x.put h.f,h.f⟩
abbrev dv(w:ax):Prop:=∀{S:aC} {d l:Addr} {Q:bJ} {E:b6},Gc S d l->(∀js ds S',HP js ds->Gc S' d l->GV d l S S'->Q (GN js ds) S')->w [.ref d] S Q E
def u6{xw xd xl:ax}(Hj:fL xw)(F6:bY xd)(G0:kW xl):dv (F_ 10 (f_ xw xd xl)):=by
 intro S0 d l Q E D0 k
 unfold f_
 refine cP ?_
 rw[show av 10 [PV.ref d]=[some (.ref d),none,none,none,none,none,none,none,none,none] from rfl]
 refine ak fun N hN=>?_
 walk_at "x"
 refine Hj D0 (by decide) (by decide) fun p ns S hl hnd hw0 _ KG hpl hp D O0=>?_
 have PN:ns.length=8:=hl
 refine hN _ _ (ak fun N hN=>?_)
 walk_at "x"
 refine F6 D (by decide) (by decide) fun r S1 r0 r1 D1 O1=>?_
 obtain⟨j,ej⟩:∃j:Nat,1+r=(j:Int):=⟨(1+r).toNat,by omega⟩
 have hp1:=O1 _ _ hp KG hpl
 dsimp only
 rw[ej,hp1]
 dsimp only
 rw[o0 (by rw[List.length_map];omega),<-List.map_take]
 have hj4:j<=4:=by omega
 have hj1:1<=j:=by omega
 intro p2 hp2
 have n2:=D1.free hp2
 have D2:Gc (F3 S1 p2 (.lst ((ns.take j).map PV.str))) d l:=D1.new hp2
 have f2:(F3 S1 p2 (.lst ((ns.take j).map PV.str))) p2=some (.lst ((ns.take j).map PV.str)):=aa
 have NO:p≠p2:=fun h=>by rw[h,hp2]at hp1;cases hp1
 have hp2':(F3 S1 p2 (.lst ((ns.take j).map PV.str))) p=some (.lst (ns.map PV.str)):=by rw[al NO];exact hp1
 have OU:=(O0.trans O1).free hp2 n2.1 n2.2
 have P1:GV d l S0 (F3 S1 p2 (.lst ((ns.take j).map PV.str))):=O0.trans (O1.trans (.new hp2))
 generalize F3 S1 p2 (.lst ((ns.take j).map PV.str))=S2 at D2 f2 hp2' P1
 have OV:(ns.take j).length=j:=by rw[List.length_take];omega
 have P2:∀z∈ns.take j,IsW z:=fun z hz=>(hw0 z (List.mem_of_mem_take hz)).1
 generalize ns.take j=js at f2 OV P2
 refine hN _ _ (ak fun N hN=>?_)
 walk_at "x"
 simp only[f2]
 refine hN _ _ (ak fun N hN=>?_)
 simp only[List.set_cons_zero,List.set_cons_succ,au,aF,aD,v3,lk,bt]
 refine dU (fun done ys S'=>∃os rs:List Str,ys=os.map PV.str/\os.length=done.length/\rs.length+done.length=j/\(∀z∈os,z∈js)/\(∀z∈rs,z∈js)/\Gc S' d l/\S' p2=some (.lst (rs.map PV.str))/\S' p=some (.lst (ns.map PV.str))/\GV d l S0 S') ⟨[],js,rfl,rfl,OV,by simp,fun z h=>h,D2,f2,hp2',P1⟩ ?_ ?_ ?_
 ·rintro done ys S' ⟨os,rs,rfl,e,l1,_⟩
  exact⟨trivial,bd (by rw[List.length_map,e];omega)⟩
 ·rintro done x rest ys S' K e ⟨os,rs,rfl,e1,e2,ho,hr,D',f',w',O'⟩ hK
  have hlen:done.length < j:=by
   have:(js.map PV.str).length=done.length+(rest.length+1):=by rw[e,List.length_append,List.length_cons]
   rw[List.length_map]at this
   omega
  simp only[Tg.put,eg,List.reduceReplicate,List.map_cons,List.map_nil,List.cons_append,List.nil_append,List.set_cons_zero,List.set_cons_succ,lk,bm,if_true,dj,mj,aq,ab,ao,v3,cr,f',true_and,List.length_map,List.getElem?_cons_zero,List.getElem?_cons_succ,Option.join]
  refine F6 D' (by omega) (by omega) fun r S3 r0 r1 D3 O3=>?_
  obtain⟨i,rfl⟩:∃i:Nat,r=(i:Int):=⟨r.toNat,by omega⟩
  have hi:i < rs.length:=by omega
  have f3:=O3 _ _ f' n2.1 n2.2
  simp only[qm,f3,List.length_map,FZ hi,List.getElem?_map,List.getElem?_eq_getElem hi,Option.map_some]
  refine⟨by omega,by omega,hK _ _ ⟨os++[rs[i]],rs.eraseIdx i,by rw[List.map_append];rfl,by rw[List.length_append,List.length_append,e1];rfl,?_,?_,?_,D3.upd n2.1 n2.2,?_,?_,(O'.trans O3).put OU⟩⟩
  ·rw[List.length_eraseIdx_of_lt hi,List.length_append,List.length_singleton];omega
  ·intro z hz
   rcases List.mem_append.mp hz with h|h
   ·exact ho z h
   ·rw[List.mem_singleton.mp h];exact hr _ (List.getElem_mem hi)
  ·exact fun z hz=>hr z (List.mem_of_mem_eraseIdx hz)
  ·rw[aa,on]
  ·rw[al NO];exact O3 _ _ w' KG hpl
 rintro ys S3 ⟨os,rs,rfl,eo,_,ho,_,D3,_,w3,O3⟩ po Kh
 rw[List.length_map,OV]at eo
 have OW:=D3.free Kh
 have OX:p≠po:=fun h=>by rw[h,Kh]at w3;cases w3
 refine hN _ _ (ak fun N hN=>?_)
 walk_at "x"
 intro pb JX
 have D4:=(D3.new (o:=.lst (os.map PV.str)) Kh)
 have M6:=D4.free JX
 have H0:Ln S0 (F3 (F3 S3 po (.lst (os.map PV.str))) pb (.lst [])) d l p po pb (ns.map PV.str) (os.map PV.str) (([]:List Bd).map Bd.pv):=by
  have a:(F3 S3 po (.lst (os.map PV.str))) p=some (.lst (ns.map PV.str)):=by rw[al OX];exact w3
  have b:(F3 S3 po (.lst (os.map PV.str))) po=some (.lst (os.map PV.str)):=aa
  have n1:p≠pb:=fun h=>by rw[h,JX]at a;cases a
  have n2:po≠pb:=fun h=>by rw[<-h,b]at JX;cases JX
  exact⟨D4.new JX,by rw[al n1];exact a,by rw[al n2];exact b,aa,⟨KG,hpl,OW.1,OW.2,M6.1,M6.2,n1,n2⟩,(O3.trans (.new Kh)).trans (.new JX),(O3.trans (.new Kh)).free JX M6.1 M6.2⟩
 generalize F3 (F3 S3 po (.lst (os.map PV.str))) pb (.lst [])=S4 at H0
 refine hN _ _ (ak fun N hN=>?_)
 simp only[bM,cw,v3,lk,List.set_cons_zero,List.set_cons_succ,H0.o]
 refine bx (fun done σ S'=>∃(bs:List Bd) (x4 x7 x8 x9:Option PV),σ=[some (.ref d),some (.ref p),some (.ref p2),some (.tup (js.map PV.str)),x4,some (.ref po),some (.ref pb),x7,x8,x9]/\Ln S0 S' d l p po pb (ns.map PV.str) (os.map PV.str) (bs.map Bd.pv)/\bs.length=done.length/\done.length<=j/\∀t∈bs,CB js t) ⟨[],_,_,_,_,rfl,H0,rfl,Nat.zero_le _,by simp⟩ (fun _ _ _ ⟨_,_,_,_,_,_,H,_⟩=>H.o) ?_ ?_
 ·rintro done x rest σ S' K e ⟨bs,x4,x7,x8,x9,rfl,H,lb,lj,hb⟩ hK
  obtain⟨y,rfl,hy⟩:=eO e
  obtain⟨z,hz,rfl⟩:∃z,os[done.length]?=some z/\.str z=y:=by rw[List.getElem?_map]at hy;exact Option.map_eq_some_iff.mp hy
  have hlt:done.length < os.length:=(List.getElem?_eq_some_iff.mp hz).1
  have ML:z∈js:=ho z (List.mem_of_getElem? hz)
  simp only[Tg.put,Tg.F8,List.set_cons_zero,List.set_cons_succ]
  refine ak fun N2 HA=>?_
  simp only[au,ay,aq,af,ab,v3,lk,c3]
  refine F6 H.D (by decide) (by decide) fun r1 S1 a0 a1 D1 O1=>?_
  have H1:=H.IF D1 O1
  simp only[aS,List.set_cons_zero,List.set_cons_succ]
  refine HA _ _ (ak fun N2 HA=>?_)
  have next:∀(t:Bd) (S2:aC),CI js t->Ln S0 S2 d l p po pb (ns.map PV.str) (os.map PV.str) (bs.map Bd.pv)->N2 [some (.ref d),some (.ref p),some (.ref p2),some (.tup (js.map PV.str)),some (.str z),some (.ref po),some (.ref pb),some (.int done.length),some t.pv,x9] S2:=by
   intro t S2 ht H2
   refine HA _ _ (ak fun N3 Ka=>?_)
   simp only[au,bC,ay,aq,ab,v3,lk,c3]
   intro e1 Ma
   have n1:=H2.D.free Ma
   refine G0 (js:=js) (H2.new Ma).D aa n1.1 n1.2 fun f1 S3 l1 g1 D3 O3=>?_
   have H3:=(H2.new Ma).IF D3 O3
   intro e2 OY
   have n2:=H3.D.free OY
   refine G0 (js:=js) (H3.new OY).D aa n2.1 n2.2 fun f2 S4 l2 g2 D4 O4=>?_
   have H4:=(H3.new OY).IF D4 O4
   intro p9 hp9
   have n9:=H4.D.free hp9
   have H5:=H4.new (o:=.lst [.tup [.str "then",f1.pv,t.pv],.tup [.str "often",t.pv],.tup [.str "either",f2.pv,t.pv]]) hp9
   have f5:(F3 S4 p9 (.lst [.tup [.str "then",f1.pv,t.pv],.tup [.str "often",t.pv],.tup [.str "either",f2.pv,t.pv]])) p9=some (.lst [.tup [.str "then",f1.pv,t.pv],.tup [.str "often",t.pv],.tup [.str "either",f2.pv,t.pv]]):=aa
   refine Ka _ _ ?_
   generalize F3 S4 p9 (.lst [.tup [.str "then",f1.pv,t.pv],.tup [.str "often",t.pv],.tup [.str "either",f2.pv,t.pv]])=S5 at H5 f5
   simp only[List.set_cons_zero,List.set_cons_succ,aP,dj,mj,aq,af,ab,ao,bC,v3,lk,c3,cr,aS,H5.b,true_and,List.length_map]
   refine F6 (m:=(bs.length:Int)+1) H5.D (by omega) (by omega) fun r6 S6 b0 b1 D6 O6=>?_
   have H6:=H5.IF D6 O6
   have f6:=O6 _ _ f5 n9.1 n9.2
   simp only[ae,f6,cu,dH,qC]
   intro p10 MQ
   have P3:=H6.D.free MQ
   refine F6 (H6.new MQ).D (by decide) (by decide) fun r7 S7 c0 c1 D7 O7=>?_
   have H7:=(H6.new MQ).IF D7 O7
   have f7:=O7 _ _ (aa (S:=S6)) P3.1 P3.2
   simp only[f7]
   obtain⟨v,hv,hm⟩:=gg (xs:=[t.pv,.tup [.str "then",f1.pv,t.pv],.tup [.str "often",t.pv],.tup [.str "either",f2.pv,t.pv]]) c0 (by simpa using c1)
   rw[hv]
   obtain⟨u,hu,rfl⟩:∃u,CB js u/\u.pv=v:=by
    simp only[List.mem_cons,List.not_mem_nil,or_false]at hm
    rcases hm with rfl|rfl|rfl|rfl
    ·exact⟨t,ht.cb,rfl⟩
    ·exact⟨_,ht.F9 l1 g1,rfl⟩
    ·exact⟨_,ht.Gn,rfl⟩
    ·exact⟨_,ht.Gu l2 g2,rfl⟩
   simp only[lL,H7.b]
   refine⟨b0,by rw[List.length_map];omega,Nat.lt_of_lt_of_le (show(bs.map Bd.pv).length < 5 by rw[List.length_map];omega) (by decide),?_⟩
   refine hK _ _ ⟨bs.take r6.toNat++u::bs.drop r6.toNat,_,_,_,_,rfl,?_,?_,?_,?_⟩
   ·rw[List.map_append,List.map_cons,List.map_take,List.map_drop]
    exact H7.put
   ·rw[List.length_append,List.length_cons,List.length_take,List.length_drop,List.length_append,List.length_singleton];omega
   ·rw[List.length_append,List.length_singleton];omega
   ·intro w hw
    rcases List.mem_append.mp hw with h|h
    ·exact hb w (List.mem_of_mem_take h)
    ·rcases List.mem_cons.mp h with rfl|h
     ·exact hu
     ·exact hb w (List.mem_of_mem_drop h)
  have take:∀(S2:aC),Ln S0 S2 d l p po pb (ns.map PV.str) (os.map PV.str) (bs.map Bd.pv)->au 8 (ay [c3 (.str "take"),af ae (v3 5) (af bR (v3 7) (c3 (.int 1))),af aS (c3 (.int 1)) (ab xd [v3 0,c3 (.int 9)]),v3 8,ab xl [v3 0,bC []]]) { nx:=N2,rt:=Q,ex:=d4,ct:=K,bk:=N } [some (.ref d),some (.ref p),some (.ref p2),some (.tup (js.map PV.str)),some (.str z),some (.ref po),some (.ref pb),some (.int done.length),some (.tup [.str "put",.str z,.int (1+r1)]),x9] S2:=by
   intro S2 H2
   obtain⟨y,hy,ey⟩:=u4 (xs:=os.map PV.str) (i:=done.length) (by rw[List.length_map];exact hlt)
   obtain⟨y,QZ,rfl⟩:=List.mem_map.mp hy
   simp only[au,ay,aq,af,ab,bC,v3,lk,c3,bR,ae,fT,H2.o,ey]
   refine F6 H2.D (by decide) (by decide) fun r2 S3 b0 b1 D3 O3=>?_
   have H3:=H2.IF D3 O3
   simp only[aS]
   intro e1 Ma
   have n1:=H3.D.free Ma
   refine G0 (js:=js) (H3.new Ma).D aa n1.1 n1.2 fun f S4 Q0 hgf D4 O4=>?_
   have H4:=(H3.new Ma).IF D4 O4
   exact next (.Gp y (1+r2) (.put z (1+r1)) f) S4 (.Gp ML (by omega) (by omega) (ho y QZ) (by omega) (by omega) Q0 hgf) H4
  simp only[bg,ll,aO,af,ao,aq,ab,v3,lk,c3,sg,fT,decide_eq_true_eq]
  split
  ·rw[if_pos trivial];exact take S1 H1
  ·refine F6 H1.D (by decide) (by decide) fun r2 S2 b0 b1 D2 O2=>?_
   have H2:=H1.IF D2 O2
   simp only[a_,Bool.false_bne,decide_eq_true_eq]
   split
   ·exact take S2 H2
   ·simp only[aN]
    exact next (.put z (1+r1)) S2 (.put ML (by omega) (by omega)) H2
 ·rintro σ S5 ⟨bs,x4,x7,x8,x9,rfl,H,lb,lj,hb⟩
  refine hN _ _ ?_
  have LN:bs.length<=4:=by omega
  simp only[aw,ay,aq,ao,aF,cw,v3,lk,H.b]
  refine dU (fun done ys S'=>S'=S5/\∃es:List (Str×Bd),ys=es.map dX/\es.length=done.length/\done.length<=bs.length/\∀q∈es,q.2∈bs) ⟨rfl,[],rfl,rfl,Nat.zero_le _,by simp⟩ ?_ ?_ ?_
  ·rintro done ys S' ⟨rfl,es,rfl,e,l1,_⟩
   exact⟨H.b,bd (by rw[List.length_map,e];omega)⟩
  ·rintro done x rest ys S' K e ⟨rfl,es,rfl,e2,l1,he⟩ hK
   obtain⟨y,rfl,hy⟩:=eO e
   obtain⟨t,ht,rfl⟩:∃t,bs[done.length]?=some t/\t.pv=y:=by rw[List.getElem?_map]at hy;exact Option.map_eq_some_iff.mp hy
   have hlt:done.length < bs.length:=(List.getElem?_eq_some_iff.mp ht).1
   have h8:4+done.length < ns.length:=by omega
   have hat:G2 (ns.map PV.str) (4+(done.length:Int))=some (.str ns[4+done.length]):=by
    rw[show(4+(done.length:Int))=((4+done.length:Nat):Int) by omega]
    exact mG (by rw[List.getElem?_map,List.getElem?_eq_getElem h8];rfl)
   simp only[Tg.put,Tg.F8,eg,List.reduceReplicate,List.map_cons,List.map_nil,List.cons_append,List.nil_append,List.set_cons_zero,List.set_cons_succ,lk,bm,if_true,ay,aq,af,c3,v3,aS,ae,List.getElem?_cons_zero,List.getElem?_cons_succ,Option.join,H.w,hat]
   refine hK _ _ ⟨rfl,es++[(ns[4+done.length],t)],by rw[List.map_append];rfl,by rw[List.length_append,List.length_append,e2];rfl,by rw[List.length_append,List.length_singleton];omega,fun q hq=>?_⟩
   rcases List.mem_append.mp hq with h|h
   ·exact he q h
   ·rw[List.mem_singleton.mp h];exact List.mem_of_getElem? ht
  ·rintro ys S' ⟨rfl,es,rfl,e,_,he⟩ pl hpl
   simp only[bh,oN,aa]
   have hel:es.length<=1000:=by
    rw[e];unfold L3.aR;rw[List.length_mapIdx,List.length_map];omega
   refine k js es _ ⟨⟨fun z hz=>kN (P2 z hz),by omega,hel,fun q hq=>(hb _ (he q hq)).g,fun q hq=>by have:=(hb _ (he q hq)).d;omega,fun q hq=>by have:=(hb _ (he q hq)).s;omega⟩,fun q hq=>by have:=(hb _ (he q hq)).p;omega⟩ (H.D.new hpl) (H.x.trans (.new hpl))
end C
namespace G32
open PySem L2 L3
noncomputable def bc(i:Nat):Stmt:=PySem.Challenge.pw_dueworth_k32_lines_and_their_count.main.body.getD i (.Pass ⟨0,0,0,0⟩)
structure Txt (P:Program) (w:World) (K:Vo) (mg:Vr):Prop where
 o_sides_of:aZ K mg "sides_of" (bc 2) ["body"]
 o_parts_in:aZ K mg "parts_in" (bc 3) ["body"]
 o_parts:aZ K mg "parts" (bc 4) ["body"]
 o_chosen:aZ K mg "chosen" (bc 6) ["body","trace"]
 o_plain_trace:aZ K mg "plain_trace" (bc 7) ["body"]
 o_led_to_part:aZ K mg "led_to_part" (bc 8) ["body","place","trace"]
 o_parts_reached:qx K mg "parts_reached" (bc 10) ["body","names","reached"]
 o_next_step:aZ K mg "next_step" (bc 11) ["house","names"]
 o_filling:aZ K mg "filling" (bc 12) ["house"]
 o_fillable:aZ K mg "fillable" (bc 13) ["house"]
 o_passes_of_then:aZ K mg "passes_of_then" (bc 15) ["body","names"]
 o_passes_of:aZ K mg "passes_of" (bc 16) ["body","names"]
 o_oftens_come_to:aZ K mg "oftens_come_to" (bc 17) ["body","names"]
 o_common:aZ K mg "common" (bc 19) ["one","other"]
 o_fraction:aZ K mg "fraction" (bc 20) ["top","bottom"]
 o_plus:aZ K mg "plus" (bc 21) ["one","other"]
 o_times:aZ K mg "times" (bc 22) ["one","other"]
 o_things_of:aZ K mg "things_of" (bc 24) ["jars","name","things"]
 o_added:aZ K mg "added" (bc 25) ["one","other"]
 o_multiplied:aZ K mg "multiplied" (bc 26) ["one","many"]
 o_no_tally:aZ K mg "no_tally" (bc 27) ["jars"]
 o_behind:aZ K mg "behind" (bc 28) ["one","other"]
 o_again:aZ K mg "again" (bc 29) ["one","many"]
 o_tally_of_often:aZ K mg "tally_of_often" (bc 30) ["jars","body","goings"]
 o_tally_of_take:aZ K mg "tally_of_take" (bc 31) ["jars","body"]
 o_tally_of:aZ K mg "tally_of" (bc 32) ["jars","body","trace"]
 o_numbered_bodies:aZ K mg "numbered_bodies" (bc 34) ["body","names"]
 o_lines:aZ K mg "lines" (bc 35) ["house"]
 o_pass_count:aZ K mg "pass_count" (bc 36) ["body","names"]
 o_line_count:aZ K mg "line_count" (bc 37) ["house"]
 o__law_deal:aZ K mg "_law_deal" (bc 39) ["_law_script","_law_base"]
 o__law_draw:aZ K mg "_law_draw" (bc 40) ["_law_deal_here","_law_many_here"]
 o__law_words:aZ K mg "_law_words" (bc 41) ["_law_deal_here","_law_many_here"]
 o__law_low:aZ K mg "_law_low" (bc 42) ["_law_top","_law_bottom"]
 o__law_plus:aZ K mg "_law_plus" (bc 43) ["_law_one","_law_other"]
 o__law_times:aZ K mg "_law_times" (bc 44) ["_law_one","_law_many_here"]
 o__law_cost:aZ K mg "_law_cost" (bc 45) ["_law_deal_here"]
 o__law_leaf:aZ K mg "_law_leaf" (bc 46) ["_law_deal_here","_law_jars"]
 o__law_body:aZ K mg "_law_body" (bc 47) ["_law_deal_here","_law_jars","_law_left","_law_down"]
 o__law_pass_count:aZ K mg "_law_pass_count" (bc 48) ["_law_body_here"]
 o__law_round_count:aZ K mg "_law_round_count" (bc 49) ["_law_body_here"]
 o__law_deed_body:aZ K mg "_law_deed_body" (bc 50) ["_law_deal_here","_law_jars","_law_most_parts","_law_most_lines"]
 o__law_house:aZ K mg "_law_house" (bc 51) ["_law_deal_here","_law_most_jars","_law_most_deeds","_law_most_parts"]
 o__law_puts:aZ K mg "_law_puts" (bc 52) ["_law_body_here","_law_held","_law_found"]
 o__law_fillable:aZ K mg "_law_fillable" (bc 53) ["_law_house_here"]
 o__law_alike:aZ K mg "_law_alike" (bc 54) ["_law_found","_law_due"]
 o__law_sum:aZ K mg "_law_sum" (bc 55) ["_law_one","_law_other"]
 o__law_many:aZ K mg "_law_many" (bc 56) ["_law_one","_law_many_here"]
 o__law_tally:aZ K mg "_law_tally" (bc 57) ["_law_names","_law_body_here","_law_trace"]
 o__law_passes:aZ K mg "_law_passes" (bc 58) ["_law_body_here","_law_held"]
 o__law_oftens:aZ K mg "_law_oftens" (bc 59) ["_law_body_here","_law_held","_law_there"]
 o__law_rounds:aZ K mg "_law_rounds" (bc 60) ["_law_body_here","_law_held"]
 o__law_lines:aZ K mg "_law_lines" (bc 61) ["_law_house_here"]
 o__law_chain:aZ K mg "_law_chain" (bc 62) ["_law_deal_here"]
 o__law_any_house:aZ K mg "_law_any_house" (bc 63) ["_law_deal_here"]
 o__law_pass_many:aZ K mg "_law_pass_many" (bc 64) ["_law_body_here","_law_held"]
 o__law_swapped:aZ K mg "_law_swapped" (bc 65) ["_law_body_here","_law_names"]
 o__law_kin:aZ K mg "_law_kin" (bc 66) ["_law_house_here"]
 o__law_line_many:aZ K mg "_law_line_many" (bc 67) ["_law_house_here"]
 o__law_great_house:aZ K mg "_law_great_house" (bc 68) ["_law_deal_here"]
 o__law_right:aZ K mg "_law_right" (bc 69) ["_law_house_here"]
 Nt:mg "abs" = none
 Mm:mg "all" = none
 LF:mg "bool" = none
 Gh:mg "enumerate" = none
 Le:mg "int" = none
 Gm:mg "isinstance" = none
 GW:mg "len" = none
 Kl:mg "list" = none
 J4:mg "max" = none
 Jc:mg "range" = none
 KS:mg "reversed" = none
 Mn:mg "sum" = none
 Gb:mg "tuple" = none
 JA:mg "zip" = none
 Km:∃a,mg "SIDES_FROM" = some (.ref a)/\KD P w K a (C.k_SIDES_FROM.map fun kv=>(kv.1,V.int kv.2))
section
variable {P:Program} {w:World} {K:Vo} {mg:Vr} {base:Heap}
def Fj:(["step","house"]:Vs).Nodup:=by decide +kernel
def Fk:(["other","one"]:Vs).Nodup:=by decide +kernel
def DF:(["trace"]:Vs).Nodup:=by decide +kernel
def Fl:(["found"]:Vs).Nodup:=by decide +kernel
def DG:(["number","found"]:Vs).Nodup:=by decide +kernel
def Fm:(["jar","name","things"]:Vs).Nodup:=by decide +kernel
def DH:(["left","right"]:Vs).Nodup:=by decide +kernel
def Fn:(["number","many"]:Vs).Nodup:=by decide +kernel
def BZ:(["effect","first","second"]:Vs).Nodup:=by decide +kernel
def DI:(["effect","asked","many"]:Vs).Nodup:=by decide +kernel
def Ai:(["number","body","names"]:Vs).Nodup:=by decide +kernel
def qO:(["_law_one"]:Vs).Nodup:=by decide +kernel
def DJ:(["_law_k","_law_deal_here","_law_letters"]:Vs).Nodup:=by decide +kernel
def DK:(["_law_j","_law_deal_here","_law_letters"]:Vs).Nodup:=by decide +kernel
def DL:(["_law_k","_law_deal_here","_law_first","_law_jars","_law_many_here","_law_most_parts","_law_words_here"]:Vs).Nodup:=by decide +kernel
def Aj:(["_law_one","_law_other"]:Vs).Nodup:=by decide +kernel
def Ak:(["_law_a","_law_b"]:Vs).Nodup:=by decide +kernel
def w_:(["_law_a","_law_b","_law_c"]:Vs).Nodup:=by decide +kernel
def Al:(["_law_a","_law_b","_law_many_here"]:Vs).Nodup:=by decide +kernel
def DM:(["_law_b","_law_many_here"]:Vs).Nodup:=by decide +kernel
def oo:(["_law_name","_law_body_here"]:Vs).Nodup:=by decide +kernel
def DN:(["_law_other","_law_one"]:Vs).Nodup:=by decide +kernel
def DO:(["_law_one","_law_number"]:Vs).Nodup:=by decide +kernel
def DP:(["_law_one","_law_body_here"]:Vs).Nodup:=by decide +kernel
def Am:(["_law_number","_law_one","_law_inside"]:Vs).Nodup:=by decide +kernel
def DQ:(["_law_jar","_law_deal_here","_law_left"]:Vs).Nodup:=by decide +kernel
def An:(["_law_k","_law_body_here","_law_words_here"]:Vs).Nodup:=by decide +kernel
def Ao:(["_law_name","_law_body_here","_law_names"]:Vs).Nodup:=by decide +kernel
def DR:(["_law_one","_law_held"]:Vs).Nodup:=by decide +kernel
def DS:(["_law_k","_law_deal_here","_law_jars","_law_words_here"]:Vs).Nodup:=by decide +kernel
def DT:(["_law_house_here"]:Vs).Nodup:=by decide +kernel
def gr:ax:=F_ 1 C.jh
def ls(T:Txt P w K mg):Gj P w K mg base 1 "sides_of" 1 gr:=cO ["body"] T.o_sides_of (fun _ _ _ _ _ _ _ hr nd=>(aj (am (cz (ad 0) (dh (FV hr T.Km (aJ hr (ad 0)) (cB c_ T.GW (l1 (ad 0))))) eJ)))) rfl
noncomputable def gw:Nat->ax
 |0=>mB
 |n+1=>F_ 3 (C.ji gr (gw n))
def mW:ax:=gw 12
def qP(T:Txt P w K mg):Gj P w K mg base 13 "parts_in" 1 mW:=jq (b:=1) (r:=gw) T.o_parts_in (fun n R0=>cO ["body","found","side"] T.o_parts_in (fun _ _ _ _ _ _ _ hr nd=>(ac (s4 1 nd (bw (l1 (ad 0))))
  (ac (cx PassesOwn.never rfl (bi (c4 (ls T) hr (l1 (ad 0)))) (gn 2 nd) (aj (bE (lF bP b7 (ad 1) (l1 (c4 R0 hr (l1 (ad 2))))))))
  (aj (am (ad 1)))))) rfl) rfl rfl 12
def pE:ax:=F_ 1 (C.oW mW)
def xg(T:Txt P w K mg):Gj P w K mg base 14 "parts" 1 pE:=cO ["body"] T.o_parts (fun _ _ _ _ _ _ _ hr nd=>(aj (am (cB c_ T.GW (l1 (c4 (qP T) hr (l1 (ad 0)))))))) rfl
def mX:ax:=F_ 2 C.mv
def u7(T:Txt P w K mg):Gj P w K mg base 1 "chosen" 2 mX:=cO ["body","trace"] T.o_chosen (fun _ _ _ _ _ _ _ hr nd=>(aj (am (er hr (ad 0) (aE aK (dg bn ai) (aJ hr (ad 1))))))) rfl
noncomputable def dJ:Nat->ax
 |0=>mB
 |n+1=>F_ 1 (C.fu (dJ n))
def i5:ax:=dJ 12
def iu(T:Txt P w K mg):Gj P w K mg base 12 "plain_trace" 1 i5:=jq (b:=0) (r:=dJ) T.o_plain_trace (fun n R0=>cO ["body"] T.o_plain_trace (fun _ _ _ _ _ _ _ hr nd=>(ac (aX (dS hr (aJ hr (ad 0)) ar) (aj (am (az (lc (c4 R0 hr (l1 (aJ hr (ad 0)))) (l1 (c4 R0 hr (l1 (aJ hr (ad 0))))))))) aH)
  (ac (aX (dS hr (aJ hr (ad 0)) ar) (aj (am (az (lc ai (l1 (c4 R0 hr (l1 (aJ hr (ad 0))))))))) aH)
  (ac (aX (dS hr (aJ hr (ad 0)) ar) (aj (am (az (lc ai (l1 (c4 R0 hr (l1 (aJ hr (ad 0))))))))) aH)
  (aj (am (az cv))))))) rfl) rfl rfl 12
noncomputable def dL:Nat->ax
 |0=>mB
 |n+1=>F_ 8 (C.fw pE i5 (dL n))
def i6:ax:=dL 12
def mY(T:Txt P w K mg):Gj P w K mg base 26 "led_to_part" 3 i6:=jq (b:=14) (r:=dL) T.o_led_to_part (fun n R0=>cO ["body","place","trace","one","other","second","side","inner"] T.o_led_to_part (fun _ _ _ _ _ _ _ hr nd=>(ac (aX (dS hr (ad 1) ai) (aj (am (ad 2))) aH)
  (ac (aX (dS hr (aJ hr (ad 0)) ar) (aj (am (az (l1 (az (lc ai (l1 (c4 R0 hr (lc (aJ hr (ad 0)) (lc (aE cS (ad 1) ai) (l1 (ad 2)))))))))))) aH)
  (ac (s4 3 nd (er hr (ad 0) (dg bn ai)))
  (ac (s4 4 nd (er hr (ad 0) (dg bn ai)))
  (ac (s4 5 nd (aE aK ai (c4 (xg T) hr (l1 (ad 3)))))
  (ac (s4 6 nd (v6 (bq qr (ad 1) (ad 5) (bb _)) ai ai))
  (ac (s4 7 nd (v6 (dS hr (ad 6) ai) (c4 R0 hr (lc (ad 3) (lc (aE cS (ad 1) ai) (l1 (ad 2))))) (c4 R0 hr (lc (ad 4) (lc (aE cS (ad 1) (ad 5)) (l1 (ad 2)))))))
  (ac (aX (Dz hr (aJ hr (ad 0)) ar) (aj (am (az (lc (ad 6) (l1 (ad 7)))))) aH)
  (ac (aX (dS hr (ad 6) ai) (aj (am (az (lc (ad 7) (l1 (c4 (iu T) hr (l1 (ad 4)))))))) aH)
  (aj (am (az (lc (c4 (iu T) hr (l1 (ad 3))) (l1 (ad 7)))))))))))))))) rfl) rfl rfl 12
noncomputable def cA:Nat->ax
 |0=>mB
 |n+1=>F_ 7 (C.d8 gr (cA n))
def d9:ax:=cA 12
def fO(T:Txt P w K mg):L9 P w K mg base 13 "parts_reached" 3 d9:=DA (b:=1) (r:=cA) T.o_parts_reached (fun n R0=>FW ["body","names","reached","found","number","side","shut"] T.o_parts_reached (fun _ _ _ _ _ _ _ hr nd=>(ac (s4 3 nd (bw (l1 (az (lc (ad 0) (l1 (ad 2)))))))
  (ac (cx PassesOwn.never rfl (fU rfl rfl T.Gh (by decide +kernel) (l1 (c4 (ls T) hr (l1 (ad 0))))) (jM rfl (aB (gn 4 nd) (aB (gn 5 nd) bL))) (ac (s4 6 nd (lm (fJ (iX (gR hr)) (aJ hr (ad 0)) ar (bb _)) (lm (fJ (iX (gR hr)) (ad 4) ai (bb _)) (jK (fJ (eI (dQ hr)) (aJ hr (ad 0)) (ad 1) rfl)))))
  (aj (bE (lF bP b7 (ad 3) (l1 (FX R0 hr (lc (ad 5) (lc (ad 1) (l1 (lm (ad 2) (jK (C7 (ad 6))))))))))))))
  (aj (am (ad 3)))))) rfl) rfl rfl 12
def iw:ax:=F_ 7 (C.ik d9 i6)
def j6(T:Txt P w K mg):Gj P w K mg base 27 "next_step" 2 iw:=cO ["house","names","d","deed","place","found","part"] T.o_next_step (fun _ _ _ _ _ _ _ hr nd=>(ac (cx PassesOwn.never rfl (fU rfl rfl T.Gh (by decide +kernel) (l1 (aJ hr (ad 0)))) (jM rfl (aB (gn 2 nd) (aB (gn 3 nd) bL))) (aj (cx PassesOwn.never rfl (fU rfl rfl T.Gh (by decide +kernel) (l1 (cD (fO T) hr (lc (aJ hr (ad 3)) (l1 (ad 1)))))) (jM rfl (aB (gn 4 nd) (aB (gn 5 nd) bL))) (ac (s4 6 nd (aJ hr (ad 5)))
  (aj (aX (qk (l_ (qj (aJ hr (ad 5))) (l_ (dS hr (aJ hr (ad 6)) ar) (kC (bq (eI (dQ hr)) (aJ hr (ad 6)) (ad 1) rfl))))) (aj (am (az (lc (Dy PySem.F.plainAttrs_tuple PySem.F.slot_tuple_index PySem.F.type_tuple_index wy rfl (aJ hr (ad 0)) (l1 (aJ hr (ad 6)))) (lc (ad 2) (l1 (c4 (mY T) hr (lc (aJ hr (ad 3)) (lc (ad 4) (l1 (az cv))))))))))) aH))))))
  (aj (am l9)))) rfl
def oq:ax:=F_ 4 (C.kL iw)
def sE(T:Txt P w K mg):Gj P w K mg base 28 "filling" 1 oq:=cO ["house","found","names","step"] T.o_filling (fun _ _ _ _ _ _ _ hr nd=>(ac (s4 1 nd (bw cv))
  (ac (s4 2 nd (bw cv))
  (ac (s4 3 nd (c4 (j6 T) hr (lc (ad 0) (l1 (ad 2)))))
  (ac (jO PassesOwn.never (bq md (ad 3) l9 (bb _)) (ac (bE (lF cj cR (ad 1) (l1 (ad 3))))
  (ac (bE (lF cj cR (ad 2) (l1 (er hr (aJ hr (ad 0)) (aJ hr (ad 3))))))
  (aj (s4 3 nd (c4 (j6 T) hr (lc (ad 0) (l1 (ad 2)))))))))
  (aj (am (ad 1)))))))) rfl
def gy:ax:=F_ 1 (C.jo oq)
def lv(T:Txt P w K mg):Gj P w K mg base 29 "fillable" 1 gy:=cO ["house"] T.o_fillable (fun _ _ _ _ _ _ _ hr nd=>(aj (am (lG ["house"] 1 [0] ["step","house"] (bi (c4 (sE T) hr (l1 (ad 0)))) (fun _=>(gn 0 Fj)) (fun _=>bu) (fun _=>(er hr (aJ hr (ad 1)) (aJ hr (ad 0)))))))) rfl
noncomputable def bz:Nat->ax×ax
 |0=>(mB,mB)
 |n+1=>(F_ 5 (C.cg (bz n).1 (bz n).2),F_ 3 (C.fc (bz n).1 (bz n).2))
def dy(n:Nat):ax:=(bz n).1
def iz(n:Nat):ax:=(bz n).2
def j7(T:Txt P w K mg)(n:Nat){s0 s1:ax}(R0:Gj P w K mg base (0+n) "passes_of_then" 2 s0)(R1:Gj P w K mg base (0+n) "passes_of" 2 s1):Gj P w K mg base (0+n+1) "passes_of_then" 2 (F_ 5 (C.cg s0 s1)):=cO ["body","names","found","seconds","one"] T.o_passes_of_then (fun _ _ _ _ _ _ _ hr nd=>(ac (s4 2 nd (bw cv))
  (ac (s4 3 nd (c4 R1 hr (lc (aJ hr (ad 0)) (l1 (ad 1)))))
  (ac (cx PassesOwn.never rfl (bi (c4 R1 hr (lc (aJ hr (ad 0)) (l1 (ad 1))))) (gn 4 nd) (aj (bE (lF bP b7 (ad 2) (l1 (lG ["one"] 1 [4] ["other","one"] (bi (ad 3)) (fun _=>(gn 0 Fk)) (fun _=>bu) (fun _=>(az (lc (ad 1) (l1 (ad 0)))))))))))
  (aj (am (ad 2))))))) rfl
def pF(T:Txt P w K mg)(n:Nat){s0 s1:ax}(R0:Gj P w K mg base (0+n) "passes_of_then" 2 s0)(R1:Gj P w K mg base (0+n) "passes_of" 2 s1):Gj P w K mg base (0+n+1) "passes_of" 2 (F_ 3 (C.fc s0 s1)):=cO ["body","names","others"] T.o_passes_of (fun _ _ _ _ _ _ _ hr nd=>(ac (aX (dS hr (aJ hr (ad 0)) ar) (aj (am (c4 R0 hr (lc (ad 0) (l1 (ad 1)))))) aH)
  (ac (aX (bq (eI (dQ hr)) (aJ hr (ad 0)) (az (lc ar (l1 ar))) rfl) (aj (am (bw (l1 (az cv))))) aH)
  (ac (tK [] 1 [] ["trace"] 2 nd (bi (c4 R1 hr (lc (er hr (ad 0) (dg bn ai)) (l1 (ad 1))))) (fun _=>(gn 0 DF)) (fun _=>bu) (fun _=>(az (lc ai (l1 (ad 0))))))
  (ac (aX (qk (l_ (dS hr (aJ hr (ad 0)) ar) (kC (bq (eI (dQ hr)) (aJ hr (ad 0)) (ad 1) rfl)))) (aj (am (ad 2))) aH)
  (aj (am (aE aK (lG [] 1 [] ["trace"] (bi (c4 R1 hr (lc (er hr (ad 0) (dg bn ai)) (l1 (ad 1))))) (fun _=>(gn 0 DF)) (fun _=>bu) (fun _=>(az (lc ai (l1 (ad 0)))))) (ad 2))))))))) rfl
theorem eR(T:Txt P w K mg):∀n:Nat,Gj P w K mg base (0+n) "passes_of_then" 2 (dy n)/\Gj P w K mg base (0+n) "passes_of" 2 (iz n)
 |0=>⟨.zero T.o_passes_of_then,.zero T.o_passes_of⟩
 |n+1=>let ⟨h0,h1⟩:=eR T n;⟨j7 T n h0 h1,pF T n h0 h1⟩
def lw:ax:=iz 12
def pG(T:Txt P w K mg):Gj P w K mg base 12 "passes_of" 2 lw:=(eR T 12).2
def dz:ax:=F_ 3 (C.dr d9)
def j8(T:Txt P w K mg):Gj P w K mg base 14 "oftens_come_to" 2 dz:=cO ["body","names","oftens"] T.o_oftens_come_to (fun _ _ _ _ _ _ _ hr nd=>(ac (tK [] 1 [] ["found"] 2 nd (bi (cD (fO T) hr (lc (ad 0) (l1 (ad 1))))) (fun _=>(gn 0 Fl)) (fun _=>(tD (dS hr (aJ hr (aJ hr (ad 0))) ar))) (fun _=>(ad 0)))
  (aj (am (lG [] 2 [] ["number","found"] (fU rfl rfl T.Gh (by decide +kernel) (l1 (ad 2))) (fun _=>(jM rfl (aB (gn 0 DG) (aB (gn 1 DG) bL)))) (fun _=>(tD (qj (aJ hr (ad 1))))) (fun _=>(az (lc (ad 0) (l1 (aJ hr (aJ hr (ad 1)))))))))))) rfl
def qQ:ax:=F_ 3 C.ms
def u8(T:Txt P w K mg):Gj P w K mg base 1 "common" 2 qQ:=cO ["one","other","left"] T.o_common (fun _ _ _ _ _ _ _ hr nd=>(ac (jO PassesOwn.never (Dz hr (ad 1) ai) (ac (s4 2 nd (aE gQ (ad 0) (ad 1)))
  (ac (s4 0 nd (ad 1))
  (aj (s4 1 nd (ad 2))))))
  (aj (am (cB Dh T.Nt (l1 (ad 0))))))) rfl
def jv:ax:=F_ 3 (C.jj qQ)
def lx(T:Txt P w K mg):Gj P w K mg base 2 "fraction" 2 jv:=cO ["top","bottom","part"] T.o_fraction (fun _ _ _ _ _ _ _ hr nd=>(ac (s4 2 nd (c4 (u8 T) hr (lc (ad 0) (l1 (ad 1)))))
  (ac (aX (bq qr (ad 1) ai (bb _)) (aj (s4 2 nd (dg bn (ad 2)))) aH)
  (aj (am (az (lc (aE kI (ad 0) (ad 2)) (l1 (aE kI (ad 1) (ad 2)))))))))) rfl
def sF:ax:=F_ 2 (C.si jv)
def zt(T:Txt P w K mg):Gj P w K mg base 3 "plus" 2 sF:=cO ["one","other"] T.o_plus (fun _ _ _ _ _ _ _ hr nd=>(aj (am (c4 (lx T) hr (lc (aE aK (aE br (aJ hr (ad 0)) (aJ hr (ad 1))) (aE br (aJ hr (ad 1)) (aJ hr (ad 0)))) (l1 (aE br (aJ hr (ad 0)) (aJ hr (ad 1))))))))) rfl
def pH:ax:=F_ 2 (C.oS jv)
def xh(T:Txt P w K mg):Gj P w K mg base 3 "times" 2 pH:=cO ["one","other"] T.o_times (fun _ _ _ _ _ _ _ hr nd=>(aj (am (c4 (lx T) hr (lc (aE br (aJ hr (ad 0)) (aJ hr (ad 1))) (l1 (aE br (aJ hr (ad 0)) (aJ hr (ad 1))))))))) rfl
def fh:ax:=F_ 3 C.ie
def gA(T:Txt P w K mg):Gj P w K mg base 1 "things_of" 3 fh:=cO ["jars","name","things"] T.o_things_of (fun _ _ _ _ _ _ _ hr nd=>(aj (am (cT bS T.Gb (l1 (lG ["things","name"] 1 [1,2] ["jar","name","things"] (bi (ad 0)) (fun _=>(gn 0 Fm)) (fun _=>bu) (fun _=>(v6 (dS hr (ad 0) (ad 1)) (ad 2) ai)))))))) rfl
def tS:ax:=F_ 2 C.oU
def xi(T:Txt P w K mg):Gj P w K mg base 1 "added" 2 tS:=cO ["one","other"] T.o_added (fun _ _ _ _ _ _ _ hr nd=>(aj (am (cT bS T.Gb (l1 (lG [] 2 [] ["left","right"] (Ac rfl rfl rfl T.JA (by decide +kernel) (lc (ad 0) (l1 (ad 1)))) (fun _=>(jM rfl (aB (gn 0 DH) (aB (gn 1 DH) bL)))) (fun _=>bu) (fun _=>(aE aK (ad 0) (ad 1))))))))) rfl
def j9:ax:=F_ 2 C.fX
def nl(T:Txt P w K mg):Gj P w K mg base 1 "multiplied" 2 j9:=cO ["one","many"] T.o_multiplied (fun _ _ _ _ _ _ _ hr nd=>(aj (am (cT bS T.Gb (l1 (lG ["many"] 1 [1] ["number","many"] (bi (ad 0)) (fun _=>(gn 0 Fn)) (fun _=>bu) (fun _=>(aE br (ad 0) (ad 1))))))))) rfl
def eU:ax:=F_ 1 C.jk
def ly(T:Txt P w K mg):Gj P w K mg base 1 "no_tally" 1 eU:=cO ["jars"] T.o_no_tally (fun _ _ _ _ _ _ _ hr nd=>(aj (am (az (lc (az (lc ai (l1 ai))) (lc (aE tG (az (l1 ai)) (cB c_ T.GW (l1 (ad 0)))) (l1 (aE tG (az (l1 ai)) (cB c_ T.GW (l1 (ad 0))))))))))) rfl
def fP:ax:=F_ 3 (C.mx tS sF)
def kX(T:Txt P w K mg):Gj P w K mg base 4 "behind" 2 fP:=cO ["one","other","demand"] T.o_behind (fun _ _ _ _ _ _ _ hr nd=>(ac (tK [] 3 [] ["effect","first","second"] 2 nd (BM rfl rfl rfl T.JA (by decide +kernel) (lc (aJ hr (ad 0)) (lc (aJ hr (ad 0)) (l1 (aJ hr (ad 1)))))) (fun _=>(jM rfl (aB (gn 0 BZ) (aB (gn 1 BZ) (aB (gn 2 BZ) bL))))) (fun _=>bu) (fun _=>(cB (kE rfl) T.J4 (lc (ad 1) (l1 (aE cS (ad 2) (ad 0)))))))
  (aj (am (az (lc (c4 (zt T) hr (lc (aJ hr (ad 0)) (l1 (aJ hr (ad 1))))) (lc (c4 (xi T) hr (lc (aJ hr (ad 0)) (l1 (aJ hr (ad 1))))) (l1 (cT bS T.Gb (l1 (ad 2))))))))))) rfl
def lR:ax:=F_ 3 (C.oV j9 pH)
def xq(T:Txt P w K mg):Gj P w K mg base 4 "again" 2 lR:=cO ["one","many","demand"] T.o_again (fun _ _ _ _ _ _ _ hr nd=>(ac (tK ["many"] 2 [1] ["effect","asked","many"] 2 nd (Ac rfl rfl rfl T.JA (by decide +kernel) (lc (aJ hr (ad 0)) (l1 (aJ hr (ad 0))))) (fun _=>(jM rfl (aB (gn 0 DI) (aB (gn 1 DI) bL)))) (fun _=>bu) (fun _=>(aE aK (ad 1) (cB (kE rfl) T.J4 (lc ai (l1 (aE br (dg bn (ad 0)) (aE cS (ad 2) ai))))))))
  (aj (am (az (lc (c4 (xh T) hr (lc (aJ hr (ad 0)) (l1 (az (lc (ad 1) (l1 ai)))))) (lc (c4 (nl T) hr (lc (aJ hr (ad 0)) (l1 (ad 1)))) (l1 (cT bS T.Gb (l1 (ad 2))))))))))) rfl
def cC:ax:=F_ 2 (C.d5 fh)
def kY(T:Txt P w K mg):Gj P w K mg base 2 "tally_of_take" 2 cC:=cO ["jars","body"] T.o_tally_of_take (fun _ _ _ _ _ _ _ hr nd=>(aj (am (az (lc (az (lc ai (l1 ai))) (lc (c4 (gA T) hr (lc (ad 0) (lc (aJ hr (ad 1)) (l1 (dg bn (aJ hr (ad 1))))))) (l1 (c4 (gA T) hr (lc (ad 0) (lc (aJ hr (ad 1)) (l1 (aJ hr (ad 1))))))))))))) rfl
noncomputable def bA:Nat->ax×ax
 |0=>(mB,mB)
 |n+1=>(F_ 5 (C.b_ eU fP lR (bA n).1 (bA n).2),F_ 6 (C.fY eU fh fP mX cC (bA n).1 (bA n).2))
def dA(n:Nat):ax:=(bA n).1
def jx(n:Nat):ax:=(bA n).2
def j_(T:Txt P w K mg)(n:Nat){s0 s1:ax}(R0:Gj P w K mg base (4+n) "tally_of_often" 3 s0)(R1:Gj P w K mg base (4+n) "tally_of" 3 s1):Gj P w K mg base (4+n+1) "tally_of_often" 3 (F_ 5 (C.b_ eU fP lR s0 s1)):=cO ["jars","body","goings","found","going"] T.o_tally_of_often (fun _ _ _ _ _ _ _ hr nd=>(ac (s4 3 nd (c4 (ly T) hr (l1 (ad 0))))
  (ac (cx PassesOwn.never rfl (bi (ad 2)) (gn 4 nd) (aj (s4 3 nd (c4 (kX T) hr (lc (ad 3) (l1 (c4 (xq T) hr (lc (c4 R1 hr (lc (ad 0) (lc (aJ hr (ad 1)) (l1 (aJ hr (ad 4)))))) (l1 (aJ hr (ad 4)))))))))))
  (aj (am (ad 3)))))) rfl
def qR(T:Txt P w K mg)(n:Nat){s0 s1:ax}(R0:Gj P w K mg base (4+n) "tally_of_often" 3 s0)(R1:Gj P w K mg base (4+n) "tally_of" 3 s1):Gj P w K mg base (4+n+1) "tally_of" 3 (F_ 6 (C.fY eU fh fP mX cC s0 s1)):=cO ["jars","body","trace","head","nothing","side"] T.o_tally_of (fun _ _ _ _ _ _ _ hr nd=>(ac (s4 3 nd (aJ hr (ad 1)))
  (ac (s4 4 nd (c4 (ly T) hr (l1 (ad 0))))
  (ac (aX (dS hr (ad 3) ar) (aj (am (az (lc (aJ hr (ad 1)) (lc (aJ hr (ad 4)) (l1 (aJ hr (ad 4)))))))) aH)
  (ac (aX (dS hr (ad 3) ar) (aj (am (az (lc (aJ hr (ad 4)) (lc (c4 (gA T) hr (lc (ad 0) (lc (aJ hr (ad 1)) (l1 (aJ hr (ad 1)))))) (l1 (aJ hr (ad 4)))))))) aH)
  (ac (aX (dS hr (ad 3) ar) (aj (am (c4 (kX T) hr (lc (c4 R1 hr (lc (ad 0) (lc (aJ hr (ad 1)) (l1 (aJ hr (ad 2)))))) (l1 (c4 R1 hr (lc (ad 0) (lc (aJ hr (ad 1)) (l1 (aJ hr (ad 2))))))))))) aH)
  (ac (aX (dS hr (ad 3) ar) (aj (am (c4 R0 hr (lc (ad 0) (lc (ad 1) (l1 (ad 2))))))) aH)
  (ac (aX (bq (eI (dQ hr)) (ad 3) (az (lc ar (l1 ar))) rfl) (aj (am (ad 4))) aH)
  (ac (s4 5 nd (c4 R1 hr (lc (ad 0) (lc (c4 (u7 T) hr (lc (ad 1) (l1 (ad 2)))) (l1 (aJ hr (ad 2)))))))
  (ac (aX (qk (l_ (dS hr (ad 3) ar) (kC (dS hr (aJ hr (ad 2)) ai)))) (aj (am (c4 (kX T) hr (lc (c4 (kY T) hr (lc (ad 0) (l1 (ad 1)))) (l1 (ad 5)))))) aH)
  (aj (am (ad 5))))))))))))) rfl
theorem eV(T:Txt P w K mg):∀n:Nat,Gj P w K mg base (4+n) "tally_of_often" 3 (dA n)/\Gj P w K mg base (4+n) "tally_of" 3 (jx n)
 |0=>⟨.zero T.o_tally_of_often,.zero T.o_tally_of⟩
 |n+1=>let ⟨h0,h1⟩:=eV T n;⟨j_ T n h0 h1,qR T n h0 h1⟩
def mZ:ax:=jx 12
def qS(T:Txt P w K mg):Gj P w K mg base 16 "tally_of" 3 mZ:=(eV T 12).2
def cW(Jq:ax):bF:=(aw (af aS (bC [(ay [(c3 .non),(v3 0)])]) (ab Jq [(v3 0),(v3 1)])))
def b3:ax:=F_ 2 (cW dz)
def eW(T:Txt P w K mg):Gj P w K mg base 15 "numbered_bodies" 2 b3:=cO ["body","names"] T.o_numbered_bodies (fun _ _ _ _ _ _ _ hr nd=>(aj (am (aE aK (bw (l1 (az (lc l9 (l1 (ad 0)))))) (c4 (j8 T) hr (lc (ad 0) (l1 (ad 1)))))))) rfl
def pI(IR GR KH KU:ax):bF:=(ah (au 1 (ab IR [(v3 0)]))
  (ah (au 2 (bC []))
  (ah (bM (cw (af ae (v3 0) (c3 (.int 1)))) (.tp (.cons (.n 3) (.cons (.n 4) .nil))) (bM (aD (ab GR [(af ae (v3 4) (c3 (.int 1))),(v3 1)])) (.tp (.cons (.n 5) (.cons (.n 6) .nil))) (bM (aD (ab KH [(v3 6),(v3 1)])) (.n 7) (ah (au 8 (ab KU [(af ae (v3 0) (c3 (.int 0))),(v3 6),(v3 7)]))
  (aP (dj "list" bp (v3 2) [(ay [(v3 3),(v3 5),(af ae (v3 8) (c3 (.int 0))),(af ae (v3 8) (c3 (.int 1))),(v3 7)])]))))))
  (aw (ao bh [(v3 2)])))))
def pJ:ax:=F_ 9 (pI gy b3 lw mZ)
def xu(T:Txt P w K mg):Gj P w K mg base 30 "lines" 1 pJ:=cO ["house","names","found","d","deed","number","body","trace","gone"] T.o_lines (fun _ _ _ _ _ _ _ hr nd=>(ac (s4 1 nd (c4 (lv T) hr (l1 (ad 0))))
  (ac (s4 2 nd (bw cv))
  (ac (cx PassesOwn.never rfl (fU rfl rfl T.Gh (by decide +kernel) (l1 (aJ hr (ad 0)))) (jM rfl (aB (gn 3 nd) (aB (gn 4 nd) bL))) (aj (cx PassesOwn.never rfl (bi (c4 (eW T) hr (lc (aJ hr (ad 4)) (l1 (ad 1))))) (jM rfl (aB (gn 5 nd) (aB (gn 6 nd) bL))) (aj (cx PassesOwn.never rfl (bi (c4 (pG T) hr (lc (ad 6) (l1 (ad 1))))) (gn 7 nd) (ac (s4 8 nd (c4 (qS T) hr (lc (aJ hr (ad 0)) (lc (ad 6) (l1 (ad 7))))))
  (aj (bE (lF cj cR (ad 2) (l1 (az (lc (ad 3) (lc (ad 5) (lc (aJ hr (ad 8)) (lc (aJ hr (ad 8)) (l1 (ad 7)))))))))))))))))
  (aj (am (cT bS T.Gb (l1 (ad 2))))))))) rfl
def cX(s0:ax):bF:=(ah (bg (aO (af (a_ false) (af ae (v3 0) (c3 (.int 0))) (c3 (.str "then")))) (aw (af cF (ab s0 [(af ae (v3 0) (c3 (.int 1))),(v3 1)]) (ab s0 [(af ae (v3 0) (c3 (.int 2))),(v3 1)]))) aN)
  (ah (bg (aO (af (jF true) (af ae (v3 0) (c3 (.int 0))) (ay [(c3 (.str "either")),(c3 (.str "take"))]))) (aw (c3 (.int 1))) aN)
  (ah (au 2 (ab s0 [(af ae (v3 0) (d0 bD (c3 (.int 1)))),(v3 1)]))
  (ah (bg (jJ (aO (af (a_ false) (af ae (v3 0) (c3 (.int 0))) (c3 (.str "take")))) (aO (af (jF true) (af ae (v3 0) (c3 (.int 1))) (v3 1)))) (aw (v3 2)) aN)
  (aw (af aS (ab s0 [(af ae (v3 0) (d0 bD (c3 (.int 2)))),(v3 1)]) (v3 2)))))))
noncomputable def eB:Nat->ax
 |0=>mB
 |n+1=>F_ 3 (cX (eB n))
def kc:ax:=eB 12
def nu(T:Txt P w K mg):Gj P w K mg base 12 "pass_count" 2 kc:=jq (b:=0) (r:=eB) T.o_pass_count (fun n R0=>cO ["body","names","others"] T.o_pass_count (fun _ _ _ _ _ _ _ hr nd=>(ac (aX (dS hr (aJ hr (ad 0)) ar) (aj (am (aE br (c4 R0 hr (lc (aJ hr (ad 0)) (l1 (ad 1)))) (c4 R0 hr (lc (aJ hr (ad 0)) (l1 (ad 1))))))) aH)
  (ac (aX (bq (eI (dQ hr)) (aJ hr (ad 0)) (az (lc ar (l1 ar))) rfl) (aj (am ai)) aH)
  (ac (s4 2 nd (c4 R0 hr (lc (er hr (ad 0) (dg bn ai)) (l1 (ad 1)))))
  (ac (aX (qk (l_ (dS hr (aJ hr (ad 0)) ar) (kC (bq (eI (dQ hr)) (aJ hr (ad 0)) (ad 1) rfl)))) (aj (am (ad 2))) aH)
  (aj (am (aE aK (c4 R0 hr (lc (er hr (ad 0) (dg bn ai)) (l1 (ad 1)))) (ad 2))))))))) rfl) rfl rfl 12
def gB(IR GR Kn:ax):bF:=(ah (au 1 (ab IR [(v3 0)]))
  (ah (au 2 (c3 (.int 0)))
  (ah (bM (aD (af ae (v3 0) (c3 (.int 1)))) (.n 3) (Dp 2 (ao uG [(aF (aD (ab GR [(af ae (v3 3) (c3 (.int 1))),(v3 1)])) (.tp (.cons (.n 0) (.cons (.n 1) .nil))) bm (ab Kn [(v3 1),(v3 2)]) 2 [1])])))
  (aw (v3 2)))))
def eC:ax:=F_ 4 (gB gy b3 kc)
def i7(T:Txt P w K mg):Gj P w K mg base 30 "line_count" 1 eC:=cO ["house","names","count","deed"] T.o_line_count (fun _ _ _ _ _ _ _ hr nd=>(ac (s4 1 nd (c4 (lv T) hr (l1 (ad 0))))
  (ac (s4 2 nd ai)
  (ac (cx PassesOwn.never rfl (bi (aJ hr (ad 0))) (gn 3 nd) (aj (Dm (i:=2) nd rfl (Or.inl rfl) (cB (Ad rfl) T.Mn (l1 (lG ["names"] 2 [1] ["number","body","names"] (bi (c4 (eW T) hr (lc (aJ hr (ad 3)) (l1 (ad 1))))) (fun _=>(jM rfl (aB (gn 0 Ai) (aB (gn 1 Ai) bL)))) (fun _=>bu) (fun _=>(c4 (nu T) hr (lc (ad 1) (l1 (ad 2)))))))))))
  (aj (am (ad 2))))))) rfl
def lA:ax:=F_ 5 C.hV
def ke(T:Txt P w K mg):Gj P w K mg base 1 "_law_deal" 2 lA:=cO ["_law_script","_law_base","_law_one","_law_some","_law_number"] T.o__law_deal (fun _ _ _ _ _ _ _ hr nd=>(ac (tK [] 1 [] ["_law_one"] 3 nd (bi (cz (ad 0) (dh (ad 1)) (dh ai))) (fun _=>(gn 0 qO)) (fun _=>bu) (fun _=>(cB (kE rfl) T.J4 (lc (ad 0) (l1 (aE cS ai (ad 0)))))))
  (ac (s4 4 nd (aE aK ai (ad 1)))
  (ac (cx PassesOwn.never rfl (bi (ad 3)) (gn 2 nd) (aj (s4 4 nd (aE gQ (aE aK (aE br (ad 4) ai) (aE gQ (ad 2) ai)) ai))))
  (aj (am (wm (jP ar (ad 4) (jP ar ai (jP ar (BL ur rfl (lG [] 1 [] ["_law_one"] (bi (ad 3)) (fun _=>(gn 0 qO)) (fun _=>(tD (bq Fb (ad 0) (aE Do ai ai) (bb _)))) (fun _=>(ad 0))) rfl T.Kl rfl T.KS) wk)))))))))) rfl
def w__law_draw:ax:=F_ 5 C.hW
def ap(T:Txt P w K mg):Gj P w K mg base 1 "_law_draw" 2 w__law_draw:=cO ["_law_deal_here","_law_many_here","_law_number","_law_one","_law_other"] T.o__law_draw (fun _ _ _ _ _ _ _ hr nd=>(ac (jO PassesOwn.never (qk (l_ (dS hr (er hr (ad 0) ar) ai) (kC (bq sh (cB c_ T.GW (l1 (er hr (ad 0) ar))) ai (bb _))))) (aj (qo (xV hr) (Fi wA z_ (er hr (ad 0) ar)) (ad 0) ar)))
  (ac (s4 2 nd (er hr (ad 0) ar))
  (ac (aX (bq sh (ad 2) ai (bb _)) (ac (qo (xV hr) (aE kI (ad 2) (ad 1)) (ad 0) ar)
  (aj (am (aE gQ (ad 2) (ad 1))))) aH)
  (ac (s4 3 nd (aE gQ (aE aK (aE br (er hr (ad 0) ar) ai) ai) ai))
  (ac (qo (xV hr) (aE gQ (aE aK (aE br (ad 3) ai) ai) ai) (ad 0) ar)
  (ac (s4 4 nd (aE gQ (aE br (er hr (ad 0) ar) (er hr (ad 0) ar)) ai))
  (aj (am (aE gQ (aE aK (aE br (aE gQ (aE br (ad 3) (ad 3)) ai) ai) (ad 4)) (ad 1))))))))))) rfl
def cY:ax:=F_ 11 (C.fV w__law_draw)
def fA(T:Txt P w K mg):Gj P w K mg base 2 "_law_words" 2 cY:=cO ["_law_deal_here","_law_many_here","_law_letters","_law_taken","_law_k","_law_core","_law_at","_law_turn","_law_near","_law_found","_law_name"] T.o__law_words (fun _ _ _ _ _ _ _ hr nd=>(ac (s4 2 nd ar)
  (ac (s4 3 nd (bw (lc ar (lc ar (lc ar (lc ar (lc ar (lc ar (lc ar (lc ar (lc ar (l1 ar))))))))))))
  (ac (s4 5 nd (lF tJ wb ar (l1 (lG ["_law_letters","_law_deal_here"] 1 [0,2] ["_law_k","_law_deal_here","_law_letters"] (g_ rfl rfl T.Jc (l1 (c4 (ap T) hr (lc (ad 0) (l1 ai))))) (fun _=>(gn 0 DJ)) (fun _=>bu) (fun _=>(er hr (ad 2) (c4 (ap T) hr (lc (ad 1) (l1 ai)))))))))
  (ac (yU (i:=6) (j:=7) (k:=8) rfl nd rfl rfl rfl rfl rfl rfl (az (lc (c4 (ap T) hr (lc (ad 0) (l1 (aE aK (cB c_ T.GW (l1 (ad 5))) ai)))) (lc (c4 (ap T) hr (lc (ad 0) (l1 ai))) (l1 (fJ (iX (gR hr)) (c4 (ap T) hr (lc (ad 0) (l1 ai))) ai (bb _)))))))
  (ac (s4 9 nd (bw cv))
  (ac (cx PassesOwn.never rfl (g_ rfl rfl T.Jc (l1 (ad 1))) (gn 4 nd) (ac (s4 10 nd (aE aK (aE aK (cz (ad 5) eJ (dh (ad 6))) (er hr (ad 2) (aE gQ (aE aK (ad 7) (ad 4)) ai))) (cz (ad 5) (dh (ad 6)) eJ)))
  (ac (aX (zX (qj (ad 8))) (aj (s4 10 nd (lF tJ wb ar (l1 (lG ["_law_letters","_law_deal_here"] 1 [0,2] ["_law_j","_law_deal_here","_law_letters"] (g_ rfl rfl T.Jc (l1 (aE aK ai (c4 (ap T) hr (lc (ad 0) (l1 ai)))))) (fun _=>(gn 0 DK)) (fun _=>bu) (fun _=>(er hr (ad 2) (c4 (ap T) hr (lc (ad 1) (l1 ai)))))))))) aH)
  (ac (jO PassesOwn.never (qk (lE (bq (iY (dQ hr)) (ad 10) (ad 3) rfl) (gX (bq (iY (dQ hr)) (ad 10) (ad 9) rfl)))) (aj (s4 10 nd (aE aK (er hr (ad 2) (aE gQ (aE aK (lF wB yT (ad 2) (l1 (aJ hr (ad 10)))) ai) ai)) (cz (ad 10) (dh ai) eJ)))))
  (aj (bE (lF cj cR (ad 9) (l1 (ad 10)))))))))
  (aj (am (ad 9)))))))))) rfl
def eX:ax:=F_ 4 C.jg
def iA(T:Txt P w K mg):Gj P w K mg base 1 "_law_low" 2 eX:=cO ["_law_top","_law_bottom","_law_one","_law_other"] T.o__law_low (fun _ _ _ _ _ _ _ hr nd=>(ac (Aa (i:=2) (j:=3) rfl nd rfl rfl (by decide) rfl rfl (lc (cB (kE rfl) T.J4 (lc (ad 0) (l1 (aE cS ai (ad 0))))) (l1 (ad 1))))
  (ac (jO PassesOwn.never (bq sh (ad 3) ai (bb _)) (aj (Aa (i:=2) (j:=3) rfl nd rfl rfl (by decide) rfl rfl (lc (ad 3) (l1 (aE gQ (ad 2) (ad 3)))))))
  (aj (am (az (lc (aE kI (ad 0) (ad 2)) (l1 (aE kI (ad 1) (ad 2)))))))))) rfl
def iB:ax:=F_ 2 (C.ig eX)
def pK(T:Txt P w K mg):Gj P w K mg base 2 "_law_plus" 2 iB:=cO ["_law_one","_law_other"] T.o__law_plus (fun _ _ _ _ _ _ _ hr nd=>(aj (am (c4 (iA T) hr (lc (aE aK (aE br (aJ hr (ad 0)) (aJ hr (ad 1))) (aE br (aJ hr (ad 1)) (aJ hr (ad 0)))) (l1 (aE br (aJ hr (ad 0)) (aJ hr (ad 1))))))))) rfl
def pL(Hi:ax):bF:=(aw (ab Hi [(af cF (af ae (v3 0) (c3 (.int 0))) (v3 1)),(af ae (v3 0) (c3 (.int 1)))]))
def kf:ax:=F_ 2 (pL eX)
def nv(T:Txt P w K mg):Gj P w K mg base 2 "_law_times" 2 kf:=cO ["_law_one","_law_many_here"] T.o__law_times (fun _ _ _ _ _ _ _ hr nd=>(aj (am (c4 (iA T) hr (lc (aE br (aJ hr (ad 0)) (ad 1)) (l1 (aJ hr (ad 0)))))))) rfl
def iC:ax:=F_ 2 (C.hZ w__law_draw eX)
def pM(T:Txt P w K mg):Gj P w K mg base 2 "_law_cost" 1 iC:=cO ["_law_deal_here","_law_form"] T.o__law_cost (fun _ _ _ _ _ _ _ hr nd=>(ac (s4 1 nd (c4 (ap T) hr (lc (ad 0) (l1 ai))))
  (ac (aX (dS hr (ad 1) ai) (aj (am (az (lc ai (l1 ai))))) aH)
  (ac (aX (bq qr (ad 1) ai (bb _)) (aj (am (az (lc (aE aK ai (c4 (ap T) hr (lc (ad 0) (l1 ai)))) (l1 ai))))) aH)
  (aj (am (c4 (iA T) hr (lc (c4 (ap T) hr (lc (ad 0) (l1 ai))) (l1 (aE aK ai (c4 (ap T) hr (lc (ad 0) (l1 ai))))))))))))) rfl
def cL:ax:=F_ 4 (C.dR w__law_draw iC)
def ck(T:Txt P w K mg):Gj P w K mg base 3 "_law_leaf" 2 cL:=cO ["_law_deal_here","_law_jars","_law_form","_law_many_here"] T.o__law_leaf (fun _ _ _ _ _ _ _ hr nd=>(ac (s4 2 nd (c4 (ap T) hr (lc (ad 0) (l1 ai))))
  (ac (aX (dS hr (ad 2) ai) (aj (am (az (l1 ar)))) aH)
  (ac (aX (qk (lE (bq qr (ad 2) ai (bb _)) (gX (dS hr (cB c_ T.GW (l1 (ad 1))) ai)))) (aj (am (az (lc ar (l1 (c4 (pM T) hr (l1 (ad 0)))))))) aH)
  (ac (s4 3 nd (er hr (bw (lc ai (lc ai (l1 (aE aK ai (c4 (ap T) hr (lc (ad 0) (l1 ai)))))))) (c4 (ap T) hr (lc (ad 0) (l1 ai)))))
  (aj (am (az (lc ar (lc (er hr (ad 1) (c4 (ap T) hr (lc (ad 0) (l1 (cB c_ T.GW (l1 (ad 1))))))) (l1 (ad 3)))))))))))) rfl
noncomputable def fi:Nat->ax
 |0=>mB
 |n+1=>F_ 8 (C.h_ w__law_draw cL (fi n))
def iD:ax:=fi 12
def kg(T:Txt P w K mg):Gj P w K mg base 15 "_law_body" 4 iD:=jq (b:=3) (r:=fi) T.o__law_body (fun n R0=>cO ["_law_deal_here","_law_jars","_law_left","_law_down","_law_form","_law_one","_law_other","_law_many_here"] T.o__law_body (fun _ _ _ _ _ _ _ hr nd=>(ac (s4 4 nd (c4 (ap T) hr (lc (ad 0) (l1 ai))))
  (ac (aX (qk (lE (dS hr (ad 3) ai) (lE (bq qr (aJ hr (ad 2)) ai (bb _)) (gX (bq qr (ad 4) ai (bb _)))))) (aj (am (c4 (ck T) hr (lc (ad 0) (l1 (ad 1)))))) aH)
  (ac (aX (bq qr (ad 4) ai (bb _)) (ac (qo (xV hr) (aE cS (aJ hr (ad 2)) ai) (ad 2) ai)
  (aj (am (az (lc ar (l1 (c4 R0 hr (lc (ad 0) (lc (ad 1) (lc (ad 2) (l1 (aE cS (ad 3) ai)))))))))))) aH)
  (ac (qo (xV hr) (aE cS (aJ hr (ad 2)) ai) (ad 2) ai)
  (ac (s4 5 nd (c4 R0 hr (lc (ad 0) (lc (ad 1) (lc (ad 2) (l1 (aE cS (ad 3) ai)))))))
  (ac (s4 6 nd (c4 R0 hr (lc (ad 0) (lc (ad 1) (lc (ad 2) (l1 (aE cS (ad 3) ai)))))))
  (ac (aX (bq qr (ad 4) ai (bb _)) (aj (am (az (lc ar (lc (ad 5) (l1 (ad 6))))))) aH)
  (ac (aX (qk (lE (dS hr (ad 4) ai) (gX (dS hr (cB c_ T.GW (l1 (ad 1))) ai)))) (aj (am (az (lc ar (lc (ad 5) (l1 (ad 6))))))) aH)
  (ac (s4 7 nd (er hr (bw (lc ai (lc ai (lc ai (l1 (aE aK ai (c4 (ap T) hr (lc (ad 0) (l1 ai))))))))) (c4 (ap T) hr (lc (ad 0) (l1 ai)))))
  (aj (am (az (lc ar (lc (er hr (ad 1) (c4 (ap T) hr (lc (ad 0) (l1 (cB c_ T.GW (l1 (ad 1))))))) (lc (ad 7) (lc (ad 5) (l1 (ad 6))))))))))))))))))) rfl) rfl rfl 12
noncomputable def b4:Nat->ax
 |0=>mB
 |n+1=>F_ 1 (C.cU (b4 n))
def b5:ax:=b4 12
def eY(T:Txt P w K mg):Gj P w K mg base 12 "_law_pass_count" 1 b5:=jq (b:=0) (r:=b4) T.o__law_pass_count (fun n R0=>cO ["_law_body_here"] T.o__law_pass_count (fun _ _ _ _ _ _ _ hr nd=>(ac (aX (dS hr (aJ hr (ad 0)) ar) (aj (am (aE br (c4 R0 hr (l1 (aJ hr (ad 0)))) (c4 R0 hr (l1 (aJ hr (ad 0))))))) aH)
  (ac (aX (qk (lE (dS hr (aJ hr (ad 0)) ar) (gX (dS hr (aJ hr (ad 0)) ar)))) (aj (am (aE aK (c4 R0 hr (l1 (er hr (ad 0) (dg bn ai)))) (c4 R0 hr (l1 (er hr (ad 0) (dg bn ai))))))) aH)
  (aj (am ai))))) rfl) rfl rfl 12
noncomputable def bV:Nat->ax
 |0=>mB
 |n+1=>F_ 1 (C.cG b5 (bV n))
def eZ:ax:=bV 12
def iS(T:Txt P w K mg):Gj P w K mg base 24 "_law_round_count" 1 eZ:=jq (b:=12) (r:=bV) T.o__law_round_count (fun n R0=>cO ["_law_body_here"] T.o__law_round_count (fun _ _ _ _ _ _ _ hr nd=>(ac (aX (dS hr (aJ hr (ad 0)) ar) (aj (am (aE aK (c4 (eY T) hr (l1 (aJ hr (ad 0)))) (c4 R0 hr (l1 (aJ hr (ad 0))))))) aH)
  (ac (aX (bq (iY (dQ hr)) (aJ hr (ad 0)) (az (lc ar (lc ar (l1 ar)))) rfl) (aj (am (aE aK (c4 R0 hr (l1 (er hr (ad 0) (dg bn ai)))) (c4 R0 hr (l1 (er hr (ad 0) (dg bn ai))))))) aH)
  (aj (am ai))))) rfl) rfl rfl 12
def dB:ax:=F_ 5 (C.dk iD b5 eZ cL)
def kh(T:Txt P w K mg):Gj P w K mg base 25 "_law_deed_body" 4 dB:=cO ["_law_deal_here","_law_jars","_law_most_parts","_law_most_lines","_law_body_here"] T.o__law_deed_body (fun _ _ _ _ _ _ _ hr nd=>(ac (s4 4 nd (c4 (kg T) hr (lc (ad 0) (lc (ad 1) (lc (bw (l1 (aE cS (ad 2) ai))) (l1 ai))))))
  (ac (aX (bq sh (aE aK (c4 (eY T) hr (l1 (ad 4))) (c4 (iS T) hr (l1 (ad 4)))) (ad 3) (bb _)) (aj (s4 4 nd (az (lc ar (lc (az (lc ar (l1 (c4 (ck T) hr (lc (ad 0) (l1 (ad 1))))))) (l1 (c4 (ck T) hr (lc (ad 0) (l1 (ad 1)))))))))) aH)
  (aj (am (ad 4)))))) rfl
def gC:ax:=F_ 9 (C.fW cY w__law_draw dB)
def nw(T:Txt P w K mg):Gj P w K mg base 26 "_law_house" 4 gC:=cO ["_law_deal_here","_law_most_jars","_law_most_deeds","_law_most_parts","_law_words_here","_law_jars","_law_first","_law_many_here","_law_deeds"] T.o__law_house (fun _ _ _ _ _ _ _ hr nd=>(ac (s4 4 nd (c4 (fA T) hr (lc (ad 0) (l1 ai))))
  (ac (s4 5 nd (cT bS T.Gb (l1 (cz (ad 4) eJ (dh (c4 (ap T) hr (lc (ad 0) (l1 (aE aK (ad 1) ai)))))))))
  (ac (s4 6 nd (er hr (bw (lc ai (l1 ai))) (c4 (ap T) hr (lc (ad 0) (l1 ai)))))
  (ac (s4 7 nd (aE aK ai (c4 (ap T) hr (lc (ad 0) (l1 (ad 2))))))
  (ac (tK ["_law_words_here","_law_most_parts","_law_many_here","_law_jars","_law_first","_law_deal_here"] 1 [0,6,5,7,3,4] ["_law_k","_law_deal_here","_law_first","_law_jars","_law_many_here","_law_most_parts","_law_words_here"] 8 nd (g_ rfl rfl T.Jc (l1 (ad 7))) (fun _=>(gn 0 DL)) (fun _=>bu) (fun _=>(az (lc (er hr (ad 6) (aE aK (ad 2) (ad 0))) (l1 (c4 (kh T) hr (lc (ad 1) (lc (ad 3) (lc (ad 5) (l1 (aE kI ai (ad 4))))))))))))
  (aj (am (az (lc (ad 5) (l1 (cT bS T.Gb (l1 (ad 8)))))))))))))) rfl
noncomputable def fj:Nat->ax
 |0=>mB
 |n+1=>F_ 3 (C.ij (fj n))
def lB:ax:=fj 12
def pN(T:Txt P w K mg):Gj P w K mg base 12 "_law_puts" 3 lB:=jq (b:=0) (r:=fj) T.o__law_puts (fun n R0=>cO ["_law_body_here","_law_held","_law_found"] T.o__law_puts (fun _ _ _ _ _ _ _ hr nd=>(ac (aX (dS hr (aJ hr (ad 0)) ar) (aj (bE (lF cj cR (ad 2) (l1 (aJ hr (ad 0)))))) aH)
  (ac (aX (dS hr (aJ hr (ad 0)) ar) (aj (bE (c4 R0 hr (lc (aJ hr (ad 0)) (lc (ad 1) (l1 (ad 2))))))) aH)
  (aj (aX (bq (iY (dQ hr)) (aJ hr (ad 0)) (az (lc ar (lc ar (l1 ar)))) rfl) (ac (aX (qk (lE (Dz hr (aJ hr (ad 0)) ar) (gX (bq (iY (dQ hr)) (aJ hr (ad 0)) (ad 1) rfl)))) (aj (bE (c4 R0 hr (lc (er hr (ad 0) (dg bn ai)) (lc (ad 1) (l1 (ad 2))))))) aH)
  (aj (bE (c4 R0 hr (lc (er hr (ad 0) (dg bn ai)) (lc (ad 1) (l1 (ad 2)))))))) aH))))) rfl) rfl rfl 12
def cE:ax:=F_ 6 (C.d6 lB)
def fQ(T:Txt P w K mg):Gj P w K mg base 13 "_law_fillable" 1 cE:=cO ["_law_house_here","_law_held","_law_turn","_law_found","_law_name","_law_body_here"] T.o__law_fillable (fun _ _ _ _ _ _ _ hr nd=>(ac (s4 1 nd (bw cv))
  (ac (cx PassesOwn.never rfl (bi (aJ hr (ad 0))) (gn 2 nd) (ac (s4 3 nd (bw cv))
  (ac (cx PassesOwn.never rfl (bi (aJ hr (ad 0))) (jM rfl (aB (gn 4 nd) (aB (gn 5 nd) bL))) (aj (bE (c4 (pN T) hr (lc (ad 5) (lc (ad 1) (l1 (ad 3))))))))
  (aj (s4 1 nd (ad 3))))))
  (aj (am (ad 1)))))) rfl
noncomputable def eE:Nat->ax
 |0=>mB
 |n+1=>F_ 2 (C.ci (eE n))
def gD:ax:=eE 12
def fB(T:Txt P w K mg):Gj P w K mg base 12 "_law_alike" 2 gD:=jq (b:=0) (r:=eE) T.o__law_alike (fun n R0=>cO ["_law_found","_law_due"] T.o__law_alike (fun _ _ _ _ _ _ _ hr nd=>(ac (aX (qj (cB mi T.Gm (lc (ad 1) (l1 (az (lc (Af T.Kl) (l1 (Af T.Gb)))))))) (ac (aX (qk (lE (Dz hr (cB mi T.Gm (lc (ad 0) (l1 (Af T.Kl)))) (cB mi T.Gm (lc (ad 1) (l1 (Af T.Kl))))) (gX (Dz hr (cB mi T.Gm (lc (ad 0) (l1 (Af T.Gb)))) (cB mi T.Gm (lc (ad 1) (l1 (Af T.Gb)))))))) (aj (am vY)) aH)
  (aj (am (lm (fJ (iX (gR hr)) (cB c_ T.GW (l1 (ad 0))) (cB c_ T.GW (l1 (ad 1))) (bb _)) (jK (cB (zZ rfl) T.Mm (l1 (lG [] 2 [] ["_law_one","_law_other"] (sn rfl rfl rfl T.JA (by decide +kernel) (lc (ad 0) (l1 (ad 1)))) (fun _=>(jM rfl (aB (gn 0 Aj) (aB (gn 1 Aj) bL)))) (fun _=>bu) (fun _=>(c4 R0 hr (lc (ad 0) (l1 (ad 1))))))))))))) aH)
  (aj (am (lm (fJ (iX (gR hr)) (cB mi T.Gm (lc (ad 0) (l1 (Af T.LF)))) (cB mi T.Gm (lc (ad 1) (l1 (Af T.LF)))) (bb _)) (jK (fJ (iX (gR hr)) (ad 0) (ad 1) (bb _)))))))) rfl) rfl rfl 12
def jy(KJ:ax):bF:=(ah (au 2 (ab KJ [(af ae (v3 0) (c3 (.int 0))),(af ae (v3 1) (c3 (.int 0)))]))
  (ah (au 3 (aF (mz (af ae (v3 0) (c3 (.int 1))) (af ae (v3 1) (c3 (.int 1)))) (.tp (.cons (.n 0) (.cons (.n 1) .nil))) bm (af aS (v3 0) (v3 1)) 2 []))
  (ah (au 4 (aF (sr (af ae (v3 0) (c3 (.int 2))) (af ae (v3 1) (c3 (.int 2))) (af ae (v3 0) (c3 (.int 1)))) (.tp (.cons (.n 0) (.cons (.n 1) (.cons (.n 2) .nil)))) bm (ao gY [(v3 0),(af bR (v3 1) (v3 2))]) 3 []))
  (aw (ay [(v3 2),(v3 3),(v3 4)])))))
def jz:ax:=F_ 5 (jy iB)
def iE(T:Txt P w K mg):Gj P w K mg base 3 "_law_sum" 2 jz:=cO ["_law_one","_law_other","_law_cost_here","_law_effect","_law_demand"] T.o__law_sum (fun _ _ _ _ _ _ _ hr nd=>(ac (s4 2 nd (c4 (pK T) hr (lc (aJ hr (ad 0)) (l1 (aJ hr (ad 1))))))
  (ac (tK [] 2 [] ["_law_a","_law_b"] 3 nd (sn rfl rfl rfl T.JA (by decide +kernel) (lc (aJ hr (ad 0)) (l1 (aJ hr (ad 1))))) (fun _=>(jM rfl (aB (gn 0 Ak) (aB (gn 1 Ak) bL)))) (fun _=>bu) (fun _=>(aE aK (ad 0) (ad 1))))
  (ac (tK [] 3 [] ["_law_a","_law_b","_law_c"] 4 nd (zd rfl rfl rfl T.JA (by decide +kernel) (lc (aJ hr (ad 0)) (lc (aJ hr (ad 1)) (l1 (aJ hr (ad 0)))))) (fun _=>(jM rfl (aB (gn 0 w_) (aB (gn 1 w_) (aB (gn 2 w_) bL))))) (fun _=>bu) (fun _=>(cB (kE rfl) T.J4 (lc (ad 0) (l1 (aE cS (ad 1) (ad 2)))))))
  (aj (am (az (lc (ad 2) (lc (ad 3) (l1 (ad 4))))))))))) rfl
def qT(Ko:ax):bF:=(ah (au 2 (aF (mz (af ae (v3 0) (c3 (.int 2))) (af ae (v3 0) (c3 (.int 1)))) (.tp (.cons (.n 0) (.cons (.n 1) .nil))) bm (ao gY [(v3 0),(af bR (v3 0) (af cF (af bR (v3 2) (c3 (.int 1))) (v3 1)))]) 2 [1]))
  (aw (ay [(ab Ko [(af ae (v3 0) (c3 (.int 0))),(v3 1)]),(aF (aD (af ae (v3 0) (c3 (.int 1)))) (.n 0) bm (af cF (v3 1) (v3 0)) 1 [1]),(v3 2)])))
def lC:ax:=F_ 3 (qT kf)
def pO(T:Txt P w K mg):Gj P w K mg base 3 "_law_many" 2 lC:=cO ["_law_one","_law_many_here","_law_demand"] T.o__law_many (fun _ _ _ _ _ _ _ hr nd=>(ac (tK ["_law_many_here"] 2 [1] ["_law_a","_law_b","_law_many_here"] 2 nd (sn rfl rfl rfl T.JA (by decide +kernel) (lc (aJ hr (ad 0)) (l1 (aJ hr (ad 0))))) (fun _=>(jM rfl (aB (gn 0 Al) (aB (gn 1 Al) bL)))) (fun _=>bu) (fun _=>(cB (kE rfl) T.J4 (lc (ad 0) (l1 (aE cS (ad 0) (aE br (aE cS (ad 2) ai) (ad 1))))))))
  (aj (am (az (lc (c4 (nv T) hr (lc (aJ hr (ad 0)) (l1 (ad 1)))) (lc (lG ["_law_many_here"] 1 [1] ["_law_b","_law_many_here"] (bi (aJ hr (ad 0))) (fun _=>(gn 0 DM)) (fun _=>bu) (fun _=>(aE br (ad 1) (ad 0)))) (l1 (ad 2))))))))) rfl
def gE(IS KK s0:ax):bF:=(ah (au 3 (af cF (bC [(c3 (.int 0))]) (ao cr [(v3 0)])))
  (ah (bg (aO (af (a_ false) (af ae (v3 1) (c3 (.int 0))) (c3 (.str "pay")))) (aw (ay [(af ae (v3 1) (c3 (.int 1))),(v3 3),(v3 3)])) aN)
  (ah (bg (aO (af (a_ false) (af ae (v3 1) (c3 (.int 0))) (c3 (.str "put")))) (aw (ay [(ay [(c3 (.int 0)),(c3 (.int 1))]),(aF (aD (v3 0)) (.n 0) bm (af cF (af ae (v3 1) (c3 (.int 2))) (ao iZ [(af (a_ false) (v3 0) (af ae (v3 1) (c3 (.int 1))))])) 1 [1]),(v3 3)])) aN)
  (ah (bg (aO (af (a_ false) (af ae (v3 1) (c3 (.int 0))) (c3 (.str "then")))) (aw (ab IS [(ab s0 [(v3 0),(af ae (v3 1) (c3 (.int 1))),(af ae (v3 2) (c3 (.int 0)))]),(ab s0 [(v3 0),(af ae (v3 1) (c3 (.int 2))),(af ae (v3 2) (c3 (.int 1)))])])) aN)
  (ah (au 4 (ay [(ay [(c3 (.int 0)),(c3 (.int 1))]),(v3 3),(v3 3)]))
  (ah (bg (aO (af (a_ false) (af ae (v3 1) (c3 (.int 0))) (c3 (.str "often")))) (ah (bM (aD (v3 2)) (.tp (.cons (.n 5) (.cons (.n 6) .nil))) (au 4 (ab IS [(v3 4),(ab KK [(ab s0 [(v3 0),(af ae (v3 1) (c3 (.int 1))),(v3 6)]),(v3 5)])])))
  (aw (v3 4))) aN)
  (ah (bg (jJ (aO (af (a_ false) (af ae (v3 1) (c3 (.int 0))) (c3 (.str "take")))) (aO (af (a_ false) (af ae (v3 2) (c3 (.int 0))) (c3 (.int 0))))) (ah (au 7 (aF (aD (v3 0)) (.n 0) bm (af cF (af ae (v3 1) (c3 (.int 2))) (ao iZ [(af (a_ false) (v3 0) (af ae (v3 1) (c3 (.int 1))))])) 1 [1]))
  (au 4 (ay [(ay [(c3 (.int 0)),(c3 (.int 1))]),(aF (aD (v3 7)) (.n 0) bm (af bR (c3 (.int 0)) (v3 0)) 1 []),(v3 7)]))) aN)
  (ah (bg (aO (af (a_ false) (af ae (v3 1) (c3 (.int 0))) (c3 (.str "rest")))) (aw (v3 4)) aN)
  (aw (ab IS [(v3 4),(ab s0 [(v3 0),(af ae (v3 1) (af bR (af ae (v3 2) (c3 (.int 0))) (c3 (.int 2)))),(af ae (v3 2) (c3 (.int 1)))])]))))))))))
noncomputable def eF:Nat->ax
 |0=>mB
 |n+1=>F_ 8 (gE jz lC (eF n))
def ki:ax:=eF 12
def ny(T:Txt P w K mg):Gj P w K mg base 15 "_law_tally" 3 ki:=jq (b:=3) (r:=eF) T.o__law_tally (fun n R0=>cO ["_law_names","_law_body_here","_law_trace","_law_none","_law_found","_law_many_here","_law_one","_law_out"] T.o__law_tally (fun _ _ _ _ _ _ _ hr nd=>(ac (s4 3 nd (aE br (bw (l1 ai)) (cB c_ T.GW (l1 (ad 0)))))
  (ac (aX (dS hr (aJ hr (ad 1)) ar) (aj (am (az (lc (aJ hr (ad 1)) (lc (ad 3) (l1 (ad 3))))))) aH)
  (ac (aX (dS hr (aJ hr (ad 1)) ar) (aj (am (az (lc (az (lc ai (l1 ai))) (lc (lG ["_law_body_here"] 1 [1] ["_law_name","_law_body_here"] (bi (ad 0)) (fun _=>(gn 0 oo)) (fun _=>bu) (fun _=>(aE br (aJ hr (ad 1)) (cT tq T.Le (l1 (fJ (iX (gR hr)) (ad 0) (aJ hr (ad 1)) (bb _))))))) (l1 (ad 3))))))) aH)
  (ac (aX (dS hr (aJ hr (ad 1)) ar) (aj (am (c4 (iE T) hr (lc (c4 R0 hr (lc (ad 0) (lc (aJ hr (ad 1)) (l1 (aJ hr (ad 2)))))) (l1 (c4 R0 hr (lc (ad 0) (lc (aJ hr (ad 1)) (l1 (aJ hr (ad 2))))))))))) aH)
  (ac (s4 4 nd (az (lc (az (lc ai (l1 ai))) (lc (ad 3) (l1 (ad 3))))))
  (ac (aX (dS hr (aJ hr (ad 1)) ar) (ac (cx PassesOwn.never rfl (bi (ad 2)) (jM rfl (aB (gn 5 nd) (aB (gn 6 nd) bL))) (aj (s4 4 nd (c4 (iE T) hr (lc (ad 4) (l1 (c4 (pO T) hr (lc (c4 R0 hr (lc (ad 0) (lc (aJ hr (ad 1)) (l1 (ad 6))))) (l1 (ad 5))))))))))
  (aj (am (ad 4)))) aH)
  (ac (aX (qk (l_ (dS hr (aJ hr (ad 1)) ar) (kC (dS hr (aJ hr (ad 2)) ai)))) (ac (tK ["_law_body_here"] 1 [1] ["_law_name","_law_body_here"] 7 nd (bi (ad 0)) (fun _=>(gn 0 oo)) (fun _=>bu) (fun _=>(aE br (aJ hr (ad 1)) (cT tq T.Le (l1 (fJ (iX (gR hr)) (ad 0) (aJ hr (ad 1)) (bb _)))))))
  (aj (s4 4 nd (az (lc (az (lc ai (l1 ai))) (lc (lG [] 1 [] ["_law_one"] (bi (ad 7)) (fun _=>(gn 0 qO)) (fun _=>bu) (fun _=>(aE cS ai (ad 0)))) (l1 (ad 7)))))))) aH)
  (ac (aX (dS hr (aJ hr (ad 1)) ar) (aj (am (ad 4))) aH)
  (aj (am (c4 (iE T) hr (lc (ad 4) (l1 (c4 R0 hr (lc (ad 0) (lc (er hr (ad 1) (aE cS (aJ hr (ad 2)) ai)) (l1 (aJ hr (ad 2)))))))))))))))))))) rfl) rfl rfl 12
noncomputable def dM:Nat->ax
 |0=>mB
 |n+1=>F_ 5 (C.fx (dM n))
def dN:ax:=dM 12
def iF(T:Txt P w K mg):Gj P w K mg base 12 "_law_passes" 2 dN:=jq (b:=0) (r:=dM) T.o__law_passes (fun n R0=>cO ["_law_body_here","_law_held","_law_found","_law_others","_law_one"] T.o__law_passes (fun _ _ _ _ _ _ _ hr nd=>(ac (s4 2 nd (bw cv))
  (ac (aX (dS hr (aJ hr (ad 0)) ar) (ac (s4 3 nd (c4 R0 hr (lc (aJ hr (ad 0)) (l1 (ad 1)))))
  (ac (cx PassesOwn.never rfl (bi (c4 R0 hr (lc (aJ hr (ad 0)) (l1 (ad 1))))) (gn 4 nd) (aj (bE (lF bP b7 (ad 2) (l1 (lG ["_law_one"] 1 [4] ["_law_other","_law_one"] (bi (ad 3)) (fun _=>(gn 0 DN)) (fun _=>bu) (fun _=>(az (lc (ad 1) (l1 (ad 0)))))))))))
  (aj (am (ad 2))))) aH)
  (ac (aX (qk (lE (dS hr (aJ hr (ad 0)) ar) (gX (dS hr (aJ hr (ad 0)) ar)))) (ac (aX (qk (lE (dS hr (aJ hr (ad 0)) ar) (gX (bq (iY (dQ hr)) (aJ hr (ad 0)) (ad 1) rfl)))) (aj (tK [] 1 [] ["_law_one"] 2 nd (bi (c4 R0 hr (lc (er hr (ad 0) (dg bn ai)) (l1 (ad 1))))) (fun _=>(gn 0 qO)) (fun _=>bu) (fun _=>(az (lc ai (l1 (ad 0))))))) aH)
  (aj (am (aE aK (ad 2) (lG [] 1 [] ["_law_one"] (bi (c4 R0 hr (lc (er hr (ad 0) (dg bn ai)) (l1 (ad 1))))) (fun _=>(gn 0 qO)) (fun _=>bu) (fun _=>(az (lc ai (l1 (ad 0)))))))))) aH)
  (aj (am (bw (l1 (az cv))))))))) rfl) rfl rfl 12
noncomputable def dO:Nat->ax
 |0=>mB
 |n+1=>F_ 4 (C.fy (dO n))
def cy:ax:=dO 12
def e8(T:Txt P w K mg):Gj P w K mg base 12 "_law_oftens" 3 cy:=jq (b:=0) (r:=dO) T.o__law_oftens (fun n R0=>cO ["_law_body_here","_law_held","_law_there","_law_found"] T.o__law_oftens (fun _ _ _ _ _ _ _ hr nd=>(ac (s4 3 nd (bw cv))
  (ac (aX (dS hr (aJ hr (ad 0)) ar) (ac (bE (lF cj cR (ad 3) (l1 (er hr (bw (lc l9 (l1 (aJ hr (ad 0))))) (cT tq T.Le (l1 (ad 2)))))))
  (aj (bE (lF bP b7 (ad 3) (l1 (c4 R0 hr (lc (aJ hr (ad 0)) (lc (ad 1) (l1 (ad 2)))))))))) aH)
  (ac (aX (bq (iY (dQ hr)) (aJ hr (ad 0)) (az (lc ar (lc ar (l1 ar)))) rfl) (ac (bE (lF bP b7 (ad 3) (l1 (c4 R0 hr (lc (er hr (ad 0) (dg bn ai)) (lc (ad 1) (l1 (lm (ad 2) (jK (C6 (fJ (zY (gR hr)) (aJ hr (ad 0)) ar (bb _)) (jK (fJ (iY (dQ hr)) (aJ hr (ad 0)) (ad 1) rfl))))))))))))
  (aj (bE (lF bP b7 (ad 3) (l1 (c4 R0 hr (lc (er hr (ad 0) (dg bn ai)) (lc (ad 1) (l1 (ad 2)))))))))) aH)
  (aj (am (ad 3))))))) rfl) rfl rfl 12
def fD:ax:=F_ 5 (C.fz cy dN)
def m4(T:Txt P w K mg):Gj P w K mg base 13 "_law_rounds" 2 fD:=cO ["_law_body_here","_law_held","_law_found","_law_number","_law_inside"] T.o__law_rounds (fun _ _ _ _ _ _ _ hr nd=>(ac (s4 2 nd (bw cv))
  (ac (cx PassesOwn.never rfl (fU rfl rfl T.Gh (by decide +kernel) (l1 (c4 (e8 T) hr (lc (ad 0) (lc (ad 1) (l1 vY)))))) (jM rfl (aB (gn 3 nd) (aB (gn 4 nd) bL))) (aj (aX (bq md (ad 4) l9 (bb _)) (aj (bE (lF bP b7 (ad 2) (l1 (lG ["_law_number"] 1 [3] ["_law_one","_law_number"] (bi (c4 (iF T) hr (lc (ad 4) (l1 (ad 1))))) (fun _=>(gn 0 DO)) (fun _=>bu) (fun _=>(az (lc (ad 1) (l1 (ad 0)))))))))) aH)))
  (aj (am (ad 2)))))) rfl
def gF(G6 HE GD JZ Kp:ax):bF:=(ah (au 1 (ab G6 [(v3 0)]))
  (ah (au 2 (bC []))
  (ah (bM (cw (af ae (v3 0) (c3 (.int 1)))) (.tp (.cons (.n 3) (.cons (.tp (.cons (.n 4) (.cons (.n 5) .nil))) .nil))) (ah (au 7 (aF (aD (ab HE [(v3 5),(v3 1)])) (.n 0) bm (ay [(c3 .non),(v3 1),(v3 0)]) 1 [5]))
  (ah (au 8 (ab GD [(v3 5),(v3 1),(c3 (.bl true))]))
  (ah (aP (dj "list" aQ (v3 7) [(aF (aD (ab JZ [(v3 5),(v3 1)])) (.tp (.cons (.n 0) (.cons (.n 1) .nil))) bm (ay [(v3 0),(af ae (v3 2) (v3 0)),(v3 1)]) 2 [8])]))
  (bM (aD (v3 7)) (.tp (.cons (.n 9) (.cons (.n 6) (.cons (.n 10) .nil)))) (ah (se (ab Kp [(af ae (v3 0) (c3 (.int 0))),(v3 6),(v3 10)]) (.tp (.cons (.n 11) (.cons (.n 12) (.cons (.n 13) .nil)))))
  (aP (dj "list" bp (v3 2) [(ay [(v3 3),(v3 9),(v3 11),(ao bh [(v3 12)]),(v3 10)])]))))))))
  (aw (ao bh [(v3 2)])))))
def gG:ax:=F_ 14 (gF cE dN cy fD ki)
def nz(T:Txt P w K mg):Gj P w K mg base 16 "_law_lines" 1 gG:=cO ["_law_house_here","_law_held","_law_found","_law_d","_law_name","_law_body_here","_law_one","_law_some","_law_inside","_law_number","_law_trace","_law_cost_here","_law_effect","_law_demand"] T.o__law_lines (fun _ _ _ _ _ _ _ hr nd=>(ac (s4 1 nd (c4 (fQ T) hr (l1 (ad 0))))
  (ac (s4 2 nd (bw cv))
  (ac (cx PassesOwn.never rfl (fU rfl rfl T.Gh (by decide +kernel) (l1 (aJ hr (ad 0)))) (jM rfl (aB (gn 3 nd) (aB (jM rfl (aB (gn 4 nd) (aB (gn 5 nd) bL))) bL))) (ac (tK ["_law_body_here"] 1 [5] ["_law_one","_law_body_here"] 7 nd (bi (c4 (iF T) hr (lc (ad 5) (l1 (ad 1))))) (fun _=>(gn 0 DP)) (fun _=>bu) (fun _=>(az (lc l9 (lc (ad 1) (l1 (ad 0)))))))
  (ac (s4 8 nd (c4 (e8 T) hr (lc (ad 5) (lc (ad 1) (l1 vY)))))
  (ac (bE (lF bP b7 (ad 7) (l1 (lG ["_law_inside"] 2 [8] ["_law_number","_law_one","_law_inside"] (bi (c4 (m4 T) hr (lc (ad 5) (l1 (ad 1))))) (fun _=>(jM rfl (aB (gn 0 Am) (aB (gn 1 Am) bL)))) (fun _=>bu) (fun _=>(az (lc (ad 0) (lc (er hr (ad 2) (ad 0)) (l1 (ad 1))))))))))
  (aj (cx PassesOwn.never rfl (bi (ad 7)) (jM rfl (aB (gn 9 nd) (aB (gn 6 nd) (aB (gn 10 nd) bL)))) (ac (Ab (c4 (ny T) hr (lc (aJ hr (ad 0)) (lc (ad 6) (l1 (ad 10))))) (jM rfl (aB (gn 11 nd) (aB (gn 12 nd) (aB (gn 13 nd) bL)))))
  (aj (bE (lF cj cR (ad 2) (l1 (az (lc (ad 3) (lc (ad 9) (lc (ad 11) (lc (cT bS T.Gb (l1 (ad 12))) (l1 (ad 10))))))))))))))))))
  (aj (am (cT bS T.Gb (l1 (ad 2))))))))) rfl
def gH:ax:=F_ 10 (C.f_ cY w__law_draw cL)
def nA(T:Txt P w K mg):Gj P w K mg base 4 "_law_chain" 1 gH:=cO ["_law_deal_here","_law_words_here","_law_left","_law_jars","_law_jar","_law_order","_law_bodies","_law_k","_law_body_here","_law_more"] T.o__law_chain (fun _ _ _ _ _ _ _ hr nd=>(ac (s4 1 nd (c4 (fA T) hr (lc (ad 0) (l1 ai))))
  (ac (s4 2 nd (cz (ad 1) eJ (dh (aE aK ai (c4 (ap T) hr (lc (ad 0) (l1 ai)))))))
  (ac (s4 3 nd (cT bS T.Gb (l1 (ad 2))))
  (ac (tK ["_law_left","_law_deal_here"] 1 [0,2] ["_law_jar","_law_deal_here","_law_left"] 5 nd (bi (ad 3)) (fun _=>(gn 0 DQ)) (fun _=>bu) (fun _=>(lF wA z_ (ad 2) (l1 (c4 (ap T) hr (lc (ad 1) (l1 (cB c_ T.GW (l1 (ad 2))))))))))
  (ac (s4 6 nd (bw cv))
  (ac (cx PassesOwn.never rfl (fU rfl rfl T.Gh (by decide +kernel) (l1 (ad 5))) (jM rfl (aB (gn 7 nd) (aB (gn 4 nd) bL))) (ac (s4 8 nd (az (lc ar (lc (ad 4) (l1 (aE aK ai (c4 (ap T) hr (lc (ad 0) (l1 ai)))))))))
  (ac (aX (qk (lE (bq sh (ad 7) ai (bb _)) (gX (dS hr (c4 (ap T) hr (lc (ad 0) (l1 ai))) ai)))) (aj (s4 8 nd (az (lc ar (lc (er hr (ad 5) (aE cS (ad 7) ai)) (lc (aE aK ai (c4 (ap T) hr (lc (ad 0) (l1 ai)))) (lc (ad 8) (l1 (c4 (ck T) hr (lc (ad 0) (l1 (bw cv)))))))))))) aH)
  (ac (s4 9 nd (bw (lc (az (lc ar (lc (c4 (ck T) hr (lc (ad 0) (l1 (bw cv)))) (l1 (ad 8))))) (lc (az (lc ar (l1 (ad 8)))) (l1 (az (lc ar (lc (c4 (ck T) hr (lc (ad 0) (l1 (bw cv)))) (l1 (ad 8))))))))))
  (aj (bE (lF uL wq (ad 6) (lc (c4 (ap T) hr (lc (ad 0) (l1 (aE aK (cB c_ T.GW (l1 (ad 6))) ai)))) (l1 (er hr (bw (lc (ad 8) (lc (aJ hr (ad 9)) (lc (aJ hr (ad 9)) (l1 (aJ hr (ad 9))))))) (c4 (ap T) hr (lc (ad 0) (l1 ai)))))))))))))
  (aj (am (az (lc (ad 3) (l1 (cT bS T.Gb (l1 (lG ["_law_words_here"] 2 [1] ["_law_k","_law_body_here","_law_words_here"] (fU rfl rfl T.Gh (by decide +kernel) (l1 (ad 6))) (fun _=>(jM rfl (aB (gn 0 An) (aB (gn 1 An) bL)))) (fun _=>bu) (fun _=>(az (lc (er hr (ad 2) (aE aK ai (ad 0))) (l1 (ad 1)))))))))))))))))))) rfl
def dC(F4 Kq Kr:ax):bF:=(ah (bg (aO (af (a_ false) (ab F4 [(v3 0),(c3 (.int 3))]) (c3 (.int 0)))) (aw (ab Kq [(v3 0)])) aN)
  (aw (ab Kr [(v3 0),(c3 (.int 4)),(c3 (.int 4)),(c3 (.int 20))])))
def dD:ax:=F_ 1 (dC w__law_draw gH gC)
def fk(T:Txt P w K mg):Gj P w K mg base 27 "_law_any_house" 1 dD:=cO ["_law_deal_here"] T.o__law_any_house (fun _ _ _ _ _ _ _ hr nd=>(ac (aX (dS hr (c4 (ap T) hr (lc (ad 0) (l1 ai))) ai) (aj (am (c4 (nA T) hr (l1 (ad 0))))) aH)
  (aj (am (c4 (nw T) hr (lc (ad 0) (lc ai (lc ai (l1 ai))))))))) rfl
def bo(s0:ax):bF:=(ah (bg (aO (af (a_ false) (af ae (v3 0) (c3 (.int 0))) (c3 (.str "then")))) (aw (af cF (ab s0 [(af ae (v3 0) (c3 (.int 1))),(v3 1)]) (ab s0 [(af ae (v3 0) (c3 (.int 2))),(v3 1)]))) aN)
  (ah (bg (ll (aO (af (a_ false) (af ae (v3 0) (c3 (.int 0))) (c3 (.str "either")))) (aO (af (a_ false) (af ae (v3 0) (c3 (.int 0))) (c3 (.str "take"))))) (ah (au 2 (af cF (ab s0 [(af ae (v3 0) (d0 bD (c3 (.int 2)))),(v3 1)]) (ao iZ [(ma (af (a_ false) (af ae (v3 0) (c3 (.int 0))) (c3 (.str "either"))) (af (jF false) (af ae (v3 0) (c3 (.int 1))) (v3 1)))])))
  (aw (af aS (v3 2) (ab s0 [(af ae (v3 0) (d0 bD (c3 (.int 1)))),(v3 1)])))) aN)
  (aw (c3 (.int 1)))))
noncomputable def cm:Nat->ax
 |0=>mB
 |n+1=>F_ 3 (bo (cm n))
def fR:ax:=cm 12
def fm(T:Txt P w K mg):Gj P w K mg base 12 "_law_pass_many" 2 fR:=jq (b:=0) (r:=cm) T.o__law_pass_many (fun n R0=>cO ["_law_body_here","_law_held","_law_one"] T.o__law_pass_many (fun _ _ _ _ _ _ _ hr nd=>(ac (aX (dS hr (aJ hr (ad 0)) ar) (aj (am (aE br (c4 R0 hr (lc (aJ hr (ad 0)) (l1 (ad 1)))) (c4 R0 hr (lc (aJ hr (ad 0)) (l1 (ad 1))))))) aH)
  (ac (aX (qk (lE (dS hr (aJ hr (ad 0)) ar) (gX (dS hr (aJ hr (ad 0)) ar)))) (ac (s4 2 nd (aE br (c4 R0 hr (lc (er hr (ad 0) (dg bn ai)) (l1 (ad 1)))) (cT tq T.Le (l1 (C6 (fJ (iX (gR hr)) (aJ hr (ad 0)) ar (bb _)) (jK (fJ (iY (dQ hr)) (aJ hr (ad 0)) (ad 1) rfl)))))))
  (aj (am (aE aK (ad 2) (c4 R0 hr (lc (er hr (ad 0) (dg bn ai)) (l1 (ad 1)))))))) aH)
  (aj (am ai))))) rfl) rfl rfl 12
noncomputable def cZ:Nat->ax
 |0=>mB
 |n+1=>F_ 3 (C.eM (cZ n))
def iG:ax:=cZ 12
def lH(T:Txt P w K mg):Gj P w K mg base 12 "_law_swapped" 2 iG:=jq (b:=0) (r:=cZ) T.o__law_swapped (fun n R0=>cO ["_law_body_here","_law_names","_law_sides"] T.o__law_swapped (fun _ _ _ _ _ _ _ hr nd=>(ac (aX (dS hr (aJ hr (ad 0)) ar) (aj (am (az (lc ar (lc (wn (xV hr) (ad 1) (aJ hr (ad 0)) (aJ hr (ad 0)) ⟨rfl,rfl,rfl,rfl⟩) (l1 (aJ hr (ad 0)))))))) aH)
  (ac (aX (dS hr (aJ hr (ad 0)) ar) (aj (am (az (lc ar (l1 (c4 R0 hr (lc (aJ hr (ad 0)) (l1 (ad 1))))))))) aH)
  (ac (aX (bq (iY (dQ hr)) (aJ hr (ad 0)) (az (lc ar (lc ar (l1 ar)))) rfl) (ac (s4 2 nd (az (lc (c4 R0 hr (lc (er hr (ad 0) (dg bn ai)) (l1 (ad 1)))) (l1 (c4 R0 hr (lc (er hr (ad 0) (dg bn ai)) (l1 (ad 1))))))))
  (ac (aX (dS hr (aJ hr (ad 0)) ar) (aj (am (aE aK (az (lc ar (lc (wn (xV hr) (ad 1) (aJ hr (ad 0)) (aJ hr (ad 0)) ⟨rfl,rfl,rfl,rfl⟩) (l1 (aJ hr (ad 0)))))) (ad 2)))) aH)
  (aj (am (aE aK (cz (ad 0) eJ (dh ai)) (ad 2)))))) aH)
  (aj (am (ad 0))))))) rfl) rfl rfl 12
def jA:ax:=F_ 6 (C.jp iG)
def qU(T:Txt P w K mg):Gj P w K mg base 13 "_law_kin" 1 jA:=cO ["_law_house_here","_law_jars","_law_deeds","_law_found","_law_names","_law_bodies"] T.o__law_kin (fun _ _ _ _ _ _ _ hr nd=>(ac (Ab (ad 0) (jM rfl (aB (gn 1 nd) (aB (gn 2 nd) bL))))
  (ac (s4 3 nd (bw (l1 (ad 0))))
  (ac (aX (bq sh (cB c_ T.GW (l1 (ad 2))) ai (bb _)) (ac (s4 4 nd (lG [] 2 [] ["_law_name","_law_body_here"] (bi (ad 2)) (fun _=>(jM rfl (aB (gn 0 oo) (aB (gn 1 oo) bL)))) (fun _=>bu) (fun _=>(ad 0))))
  (ac (tK [] 2 [] ["_law_name","_law_body_here"] 5 nd (bi (ad 2)) (fun _=>(jM rfl (aB (gn 0 oo) (aB (gn 1 oo) bL)))) (fun _=>bu) (fun _=>(ad 1)))
  (aj (bE (lF bP b7 (ad 3) (l1 (bw (lc (az (lc (ad 1) (l1 (cz (ad 2) eJ (dh (dg bn ai)))))) (l1 (az (lc (ad 1) (l1 (BN rfl rfl rfl rfl T.Gb rfl T.JA (lc (ad 4) (l1 (aE aK (cz (ad 5) (dh ai) eJ) (cz (ad 5) eJ (dh ai)))))))))))))))))) aH)
  (ac (aX (bq sh (cB c_ T.GW (l1 (ad 1))) ai (bb _)) (ac (s4 4 nd (wm (jP (aJ hr (ad 1)) (er hr (ad 1) (dg bn ai)) (jP (er hr (ad 1) (dg bn ai)) (aJ hr (ad 1)) wk))))
  (aj (bE (lF cj cR (ad 3) (l1 (az (lc (ad 1) (l1 (cT bS T.Gb (l1 (lG ["_law_names"] 2 [4] ["_law_name","_law_body_here","_law_names"] (bi (ad 2)) (fun _=>(jM rfl (aB (gn 0 Ao) (aB (gn 1 Ao) bL)))) (fun _=>bu) (fun _=>(az (lc (ad 0) (l1 (c4 (lH T) hr (lc (ad 1) (l1 (ad 2))))))))))))))))))) aH)
  (aj (am (ad 3)))))))) rfl
def dE(G6 HX GD:ax):bF:=(ah (au 1 (ab G6 [(v3 0)]))
  (ah (au 2 (bC []))
  (ah (bM (aD (af ae (v3 0) (c3 (.int 1)))) (.tp (.cons (.n 3) (.cons (.n 4) .nil))) (ah (aP (dj "list" bp (v3 2) [(ab HX [(v3 4),(v3 1)])]))
  (aP (dj "list" aQ (v3 2) [(aF (aD (ab GD [(v3 4),(v3 1),(c3 (.bl true))])) (.n 0) (aO (af (vb true) (v3 0) (c3 .non))) (ab HX [(v3 0),(v3 1)]) 1 [1])]))))
  (aw (ao uG [(v3 2)])))))
def dF:ax:=F_ 5 (dE cE fR cy)
def kj(T:Txt P w K mg):Gj P w K mg base 14 "_law_line_many" 1 dF:=cO ["_law_house_here","_law_held","_law_found","_law_name","_law_body_here"] T.o__law_line_many (fun _ _ _ _ _ _ _ hr nd=>(ac (s4 1 nd (c4 (fQ T) hr (l1 (ad 0))))
  (ac (s4 2 nd (bw cv))
  (ac (cx PassesOwn.never rfl (bi (aJ hr (ad 0))) (jM rfl (aB (gn 3 nd) (aB (gn 4 nd) bL))) (ac (bE (lF cj cR (ad 2) (l1 (c4 (fm T) hr (lc (ad 4) (l1 (ad 1)))))))
  (aj (bE (lF bP b7 (ad 2) (l1 (lG ["_law_held"] 1 [1] ["_law_one","_law_held"] (bi (c4 (e8 T) hr (lc (ad 4) (lc (ad 1) (l1 vY))))) (fun _=>(gn 0 DR)) (fun _=>(tD (bq md (ad 0) l9 (bb _)))) (fun _=>(c4 (fm T) hr (lc (ad 0) (l1 (ad 1))))))))))))
  (aj (am (cB (Ad rfl) T.Mn (l1 (ad 2))))))))) rfl
def cI(GP F4 Ir:ax):bF:=(ah (au 1 (ab GP [(v3 0),(c3 (.int 8))]))
  (ah (au 2 (ao bh [(bN (v3 1) oO (ni (ab F4 [(v3 0),(c3 (.int 5))])))]))
  (ah (au 3 (af aS (c3 (.int 1)) (ab F4 [(v3 0),(c3 (.int 4))])))
  (aw (ay [(v3 2),(ao bh [(aF (nj (v3 3)) (.n 0) bm (ay [(af ae (v3 3) (af aS (c3 (.int 4)) (v3 0))),(ab Ir [(v3 1),(v3 2),(bC [(c3 (.int 19))]),(c3 (.int 5))])]) 1 [0,2,1])])])))))
def cJ:ax:=F_ 4 (cI cY w__law_draw iD)
def iT(T:Txt P w K mg):Gj P w K mg base 16 "_law_great_house" 1 cJ:=cO ["_law_deal_here","_law_words_here","_law_jars","_law_many_here"] T.o__law_great_house (fun _ _ _ _ _ _ _ hr nd=>(ac (s4 1 nd (c4 (fA T) hr (lc (ad 0) (l1 ai))))
  (ac (s4 2 nd (cT bS T.Gb (l1 (cz (ad 1) eJ (dh (c4 (ap T) hr (lc (ad 0) (l1 ai))))))))
  (ac (s4 3 nd (aE aK ai (c4 (ap T) hr (lc (ad 0) (l1 ai)))))
  (aj (am (az (lc (ad 2) (l1 (cT bS T.Gb (l1 (lG ["_law_words_here","_law_jars","_law_deal_here"] 1 [0,2,1] ["_law_k","_law_deal_here","_law_jars","_law_words_here"] (g_ rfl rfl T.Jc (l1 (ad 3))) (fun _=>(gn 0 DS)) (fun _=>bu) (fun _=>(az (lc (er hr (ad 3) (aE aK ai (ad 0))) (l1 (c4 (kg T) hr (lc (ad 1) (lc (ad 2) (lc (bw (l1 ai)) (l1 ai))))))))))))))))))))) rfl
def gJ(Ks Hc Mb Ib:ax):bF:=(ah (au 1 (ab Ks [(v3 0)]))
  (aw (bX (ab Hc [(ab Mb [(v3 0)]),(v3 1)]) (ab Hc [(ab Ib [(v3 0)]),(ao cr [(v3 1)])]))))
def gK:ax:=F_ 2 (gJ gG gD pJ eC)
def i8(T:Txt P w K mg):Gj P w K mg base 31 "_law_right" 1 gK:=cO ["_law_house_here","_law_due"] T.o__law_right (fun _ _ _ _ _ _ _ hr nd=>(ac (s4 1 nd (c4 (nz T) hr (l1 (ad 0))))
  (aj (am (lm (c4 (fB T) hr (lc (c4 (xu T) hr (l1 (ad 0))) (l1 (ad 1)))) (jK (c4 (fB T) hr (lc (c4 (i7 T) hr (l1 (ad 0))) (l1 (cB c_ T.GW (l1 (ad 1)))))))))))) rfl
def xv(JB HY IU KW Jd Hc Ib Jr:ax):bF:=(ah (au 1 (ab JB [(v3 0),(c3 (.int 0))]))
  (ah (au 2 (ab HY [(v3 1)]))
  (ah (au 3 (ab HY [(ab JB [(v3 0),(c3 (.int 1))])]))
  (ah (au 4 (ab IU [(v3 1)]))
  (ah (bg (rV (aO (ao r9 [(aF (aD (af aS (ab KW [(v3 2)]) (bC [(v3 3)]))) (.n 0) bm (ab Jd [(v3 0)]) 1 [])]))) (aw (c3 (.bl false))) aN)
  (aw (bX (ab Hc [(ab Ib [(v3 4)]),(ab Jr [(v3 4)])]) (ab Jd [(v3 2)]))))))))
def qV:ax:=F_ 5 (xv lA dD cJ jA gK gD eC dF)
def B1(T:Txt P w K mg){f:Addr}{fd:FuncData}(O:El K mg "law" (bc 70) ["_law_script"] f fd):LP P w K mg base 32 f fd ["_law_script"] qV:=FU ["_law_script","_law_deal_here","_law_one","_law_other","_law_great"] O (fun _ _ _ _ _ _ _ hr nd=>(ac (s4 1 nd (c4 (ke T) hr (lc (ad 0) (l1 ai))))
  (ac (s4 2 nd (c4 (fk T) hr (l1 (ad 1))))
  (ac (s4 3 nd (c4 (fk T) hr (l1 (c4 (ke T) hr (lc (ad 0) (l1 ai))))))
  (ac (s4 4 nd (c4 (iT T) hr (l1 (ad 1))))
  (ac (aX (zX (qj (cB (zZ rfl) T.Mm (l1 (lG [] 1 [] ["_law_house_here"] (bi (aE aK (c4 (qU T) hr (l1 (ad 2))) (bw (l1 (ad 3))))) (fun _=>(gn 0 DT)) (fun _=>bu) (fun _=>(c4 (i8 T) hr (l1 (ad 0))))))))) (aj (am vY)) aH)
  (aj (am (lm (c4 (fB T) hr (lc (c4 (i7 T) hr (l1 (ad 4))) (l1 (c4 (kj T) hr (l1 (ad 4)))))) (jK (c4 (i8 T) hr (l1 (ad 2))))))))))))) rfl
end
end G32
namespace G32
open PySem L2 L3 Wd
open C
theorem tT{α β:Type}(a:α->PV)(b:β->PV):∀(xs:List α) (ys:List β),bj (xs.map a) (ys.map b)=(xs.zip ys).map fun z=>.tup [a z.1,b z.2]
 |[],_=>rfl
 |_::_,[]=>rfl
 |x::xs,y::ys=>by
  have ih:=tT a b xs ys
  unfold bj at ih ⊢
  simp only[List.map_cons,List.zip_cons_cons]
  rw[ih]
theorem tU{α β:Type}(a c:α->PV)(b:β->PV):∀(xs:List α) (ys:List β),bT (xs.map a) (ys.map b) (xs.map c)=(xs.zip ys).map fun z=>.tup [a z.1,b z.2,c z.1]
 |[],_=>rfl
 |_::_,[]=>rfl
 |x::xs,y::ys=>by
  have ih:=tU a c b xs ys
  unfold bT at ih ⊢
  simp only[List.map_cons,List.zip_cons_cons]
  rw[ih]
  rfl
def zu{xp:ax}(Jb:fN xp):kT (F_ 5 (jy xp)):=by
 intro S n t u v v' Q E hn ht hu ht0 Q4 hv hv' k
 obtain⟨pe,pd,rfl,e1,d1⟩:=hv
 obtain⟨qe,qd,rfl,e2,d2⟩:=hv'
 unfold jy
 refine cP ?_
 rw[show av 5 [.tup [cf t.1,.ref pe,.ref pd],.tup [cf u.1,.ref qe,.ref qd]]=[some (.tup [cf t.1,.ref pe,.ref pd]),some (.tup [cf u.1,.ref qe,.ref qd]),none,none,none] from rfl]
 have lz:(t.2.zip u.2).length=n:=by rw[List.length_zip,ht,hu,Nat.min_self]
 refine ak fun N hN=>?_
 walk_at "x"
 simp only[cu]
 refine Jb ht0 Q4 ?_
 refine hN _ _ (ak fun N hN=>?_)
 simp only[au,aF,mz,af,v3,c3,lk,ae,dH,e1,e2]
 rw[show bj t.es u.es=(t.2.zip u.2).map (fun z=>.tup [.int z.1.1,.int z.2.1])from tT _ _ _ _]
 refine aU (fun z:(Int×Int)×(Int×Int)=>PV.tup [.int z.1.1,.int z.2.1]) (fun z=>.int (z.1.1+z.2.1)) ⟨e1,e2⟩ (t.2.zip u.2) [] (fun z hz=>⟨_,rfl,fun Q q=>?_⟩) (by rw[List.length_nil,Nat.zero_add,lz];exact bd hn) fun p hp=>?_
 ·walk_at "x"
  exact q
 rw[List.nil_append,tN]
 have X1:Ext S (F3 S p (.lst (t.join u).es)):=.new hp
 have hp1:(F3 S p (.lst (t.join u).es)) p=some (.lst (t.join u).es):=aa
 generalize F3 S p (.lst (t.join u).es)=S1 at X1 hp1
 refine hN _ _ (ak fun N hN=>?_)
 simp only[au,aF,sr,af,v3,c3,lk,ae,dH,qC,List.set_cons_succ,List.set_cons_zero,X1 _ _ d1,X1 _ _ d2,X1 _ _ e1]
 rw[show bT t.dm u.dm t.es=(t.2.zip u.2).map (fun z=>.tup [.int z.1.2,.int z.2.2,.int z.1.1])from tU _ _ _ _ _]
 refine⟨by unfold Ty.dm;rw[List.length_map,List.length_map,ht,hu];exact Nat.le_refl _,by unfold Ty.dm Ty.es;rw[List.length_map,List.length_map];exact Nat.le_refl _,?_⟩
 refine aU (fun z:(Int×Int)×(Int×Int)=>PV.tup [.int z.1.2,.int z.2.2,.int z.1.1]) (fun z=>.int (jn z.1 z.2).2) ⟨X1 _ _ d1,X1 _ _ d2,X1 _ _ e1⟩ (t.2.zip u.2) [] (fun z hz=>⟨_,rfl,fun Q q=>?_⟩) (by rw[List.length_nil,Nat.zero_add,lz];exact bd hn) fun p2 hp2=>?_
 ·walk_at "x"
  exact q
 rw[List.nil_append,tO]
 refine hN _ _ ?_
 walk_at "x"
 have NO:p≠p2:=fun e=>by rw[<-e,hp1]at hp2;cases hp2
 exact k _ _ (X1.trans (.new hp2)) ⟨p,p2,rfl,by rw[al NO];exact hp1,aa⟩
theorem fo(q:Qs):∀(t:Bd) (v:PV),v∈t.ps q->bU t v=true/\jY (2 ^ 60) v=true
 | .rest,v,h=>by rw[List.mem_singleton.mp h];exact⟨rfl,rfl⟩
 | .pay _ _,v,h=>by rw[List.mem_singleton.mp h];exact⟨rfl,rfl⟩
 | .put _ _,v,h=>by rw[List.mem_singleton.mp h];exact⟨rfl,rfl⟩
 | .use _,v,h=>by rw[List.mem_singleton.mp h];exact⟨rfl,rfl⟩
 | .Gn _,v,h=>by rw[List.mem_singleton.mp h];exact⟨rfl,rfl⟩
 | .F9 a b,v,h=>by
  unfold Bd.ps at h
  obtain⟨x,hx,hv⟩:=List.mem_flatMap.mp h
  obtain⟨y,hy,rfl⟩:=List.mem_map.mp hv
  obtain⟨a1,a2⟩:=fo q a x hx
  obtain⟨b1,b2⟩:=fo q b y hy
  refine⟨?_,by simp only[jY,intBs,a2,b2,Bool.and_true]⟩
  rw[qF,a1,b1]
  rfl
 | .Gu a b,v,h=>by
  unfold Bd.ps at h
  rcases List.mem_append.mp h with h|h
  ·obtain⟨x,hx,rfl⟩:=List.mem_map.mp h
   obtain⟨a1,a2⟩:=fo q a x hx
   exact⟨by rw[mH,if_pos rfl];exact a1,by simp only[jY,intBs,a2,Bool.and_true];decide⟩
  ·obtain⟨x,hx,rfl⟩:=List.mem_map.mp h
   obtain⟨a1,a2⟩:=fo q b x hx
   exact⟨by rw[mH,if_neg (by decide),if_pos rfl];exact a1,by simp only[jY,intBs,a2,Bool.and_true];decide⟩
 | .Gp z m a b,v,h=>by
  unfold Bd.ps at h
  rcases List.mem_append.mp h with h|h
  ·split at h
   ·obtain⟨x,hx,rfl⟩:=List.mem_map.mp h
    obtain⟨a1,a2⟩:=fo q a x hx
    exact⟨by rw[mI,if_pos rfl];exact a1,by simp only[jY,intBs,a2,Bool.and_true];decide⟩
   ·cases h
  ·obtain⟨x,hx,rfl⟩:=List.mem_map.mp h
   obtain⟨a1,a2⟩:=fo q b x hx
   exact⟨by rw[mI,if_neg (by decide),if_pos rfl];exact a1,by simp only[jY,intBs,a2,Bool.and_true];decide⟩
def Ap(js:Vs):js.map (fun _=>PV.int 0)=(z0 js).es:=by
 unfold z0 zl Ty.es
 rw[List.map_map]
 rfl
def Aq(js:Vs):js.map (fun _=>PV.int 0)=(z0 js).dm:=by
 unfold z0 zl Ty.dm
 rw[List.map_map]
 rfl
def zw(js:Vs)(z:Str)(m:Int):js.map (fun _=>PV.int 0)=Ty.dm (0,qI js z m 0):=by
 rw[<-sx js z m 0]
 exact List.map_congr_left fun j _=>by split<;>rfl
abbrev iO(n:Nat)(w:ax):Prop:=∀{S:aC} {js:Vs} {t:Bd} {q:Qs} {v:PV} {Q:bJ} {E:b6},js.length<=1000->t.good js []->v∈t.ps q->t.dep<=n->(∀x S',Ext S S'->Lk S' (t.IM js v) x->Q x S')->w [gS js,t.pv,v] S Q E
def xx{xj xm s0:ax}(Mc:kT xj)(n:Nat)(ih:iO n s0):iO (n+1) (F_ 8 (gE xj xm s0)):=by
 intro S js t q v Q E hj hg hv hd k
 have join:∀{S1:aC} {t1 u1:Ty} {x y:PV} {Q:bJ} {E:b6},t1.Ok js->u1.Ok js->Lk S1 t1 x->Lk S1 u1 y->(∀w S',Ext S1 S'->Lk S' (t1.join u1) w->Q w S')->xj [x,y] S1 Q E:=fun h1 h2 l1 l2 q=>Mc (n:=js.length) hj h1.1 h2.1 h1.2.1 h2.2.1 l1 l2 q
 unfold gE
 refine cP ?_
 rw[Bd.Hk,show av 8 [gS js,.tup (.str t.hd::t.tl),v]=[some (gS js),some (.tup (.str t.hd::t.tl)),some v,none,none,none,none,none] from rfl]
 refine ak fun N hN=>?_
 unfold gS
 walk_at "x"
 intro p0 hp0
 rw[aa]
 dsimp only
 rw[List.length_map,Int.toNat_natCast]
 refine⟨by omega,by omega,bd (by simp only[List.length_singleton];omega),fun pz Q5=>?_⟩
 have ez:(List.replicate js.length [PV.int 0]).flatten=js.map (fun _=>PV.int 0):=by
  clear hj hg k join
  induction js with
  |nil=>rfl
  |cons j r ih=>rw[List.length_cons,List.replicate_succ,List.flatten_cons,ih];rfl
 rw[ez]
 have X1:Ext S (F3 (F3 S p0 (.lst [.int 0])) pz (.lst (js.map fun _=>.int 0))):=.trans (.new hp0) (.new Q5)
 have hz:(F3 (F3 S p0 (.lst [.int 0])) pz (.lst (js.map fun _=>.int 0))) pz=some (.lst (js.map fun _=>.int 0)):=aa
 generalize F3 (F3 S p0 (.lst [.int 0])) pz (.lst (js.map fun _=>.int 0))=S1 at X1 hz
 have L1:Lk S1 (z0 js) (.tup [.tup [.int 0,.int 1],.ref pz,.ref pz]):=⟨pz,pz,by rw[jZ];rfl,by rw[hz,Ap],by rw[hz,Aq]⟩
 refine hN _ _ (ak fun N hN=>?_)
 simp only[bg,aO,af,v3,lk,c3,ae,cu,a_,Bool.false_bne,decide_eq_true_eq]
 by_cases h1:t.hd=("pay":Str)
 ·rw[if_pos h1]
  obtain⟨x,y,rfl⟩:=(Bd.Lz t).mp h1
  walk_at "x"
  simp only[Bd.tl,dH]
  rw[tL hg]
  exact k _ S1 X1 ⟨pz,pz,rfl,by rw[hz,Ap];rfl,by rw[hz,Aq];rfl⟩
 rw[if_neg h1]
 refine hN _ _ (ak fun N hN=>?_)
 simp only[bg,aO,af,v3,lk,c3,ae,cu,a_,Bool.false_bne,decide_eq_true_eq]
 by_cases h2:t.hd=("put":Str)
 ·rw[if_pos h2]
  obtain⟨z,m,rfl⟩:=(Bd.Kd t).mp h2
  walk_at "x"
  simp only[Bd.tl,dH,qC]
  refine aU PV.str (fun j=>.int (if j=z then m else 0)) trivial js [] (fun j hj=>⟨_,rfl,fun Q q=>?_⟩) (by simpa using bd hj) fun p hp=>?_
  ·walk_at "x"
   simp only[dH,qC]
   walk_at "x"
   simp only[Bool.false_bne,decide_eq_true_eq]
   refine⟨by split<;>exact jR (by decide) (by decide),?_⟩
   split
   ·rename_i h;rw[if_pos h]at q;rw[Int.mul_one];exact q
   ·rename_i h;rw[if_neg h]at q;rw[Int.mul_zero];exact q
  ·rw[List.nil_append,ph js z m 0]
   have np:pz≠p:=fun e=>by rw[<-e,hz]at hp;cases hp
   refine k _ _ (X1.trans (.new hp)) ⟨p,pz,by rw[jZ];rfl,aa,by rw[al np,hz,zw js z m];rfl⟩
 rw[if_neg h2]
 refine hN _ _ (ak fun N hN=>?_)
 simp only[bg,aO,af,v3,lk,c3,ae,cu,a_,Bool.false_bne,decide_eq_true_eq]
 by_cases h3:t.hd=("then":Str)
 ·rw[if_pos h3]
  obtain⟨a,b,rfl⟩:=(Bd.Kb t).mp h3
  unfold Bd.ps at hv
  obtain⟨x,hx,hv⟩:=List.mem_flatMap.mp hv
  obtain⟨y,hy,rfl⟩:=List.mem_map.mp hv
  simp only[Bd.dep]at hd
  walk_at "x"
  simp only[Bd.tl,cu,dH,qC]
  refine ih hj hg.1 hx (by omega) fun x2 S2 X2 L2=>?_
  refine ih hj hg.2 hy (by omega) fun x3 S3 X3 L3=>?_
  refine join (bQ a x hg.1 (fo q a x hx).1) (bQ b y hg.2 (fo q b y hy).1) (L2.mono X3) L3 fun x4 S4 X4 L4=>?_
  exact k _ S4 (X1.trans (X2.trans (X3.trans X4))) L4
 rw[if_neg h3]
 refine hN _ _ (ak fun N hN=>?_)
 walk_at "x"
 refine hN _ _ (ak fun N hN=>?_)
 simp only[bg,aO,af,v3,lk,c3,ae,cu,a_,Bool.false_bne,decide_eq_true_eq]
 by_cases h6:t.hd=("often":Str)
 ·rw[if_pos h6]
  obtain⟨a,rfl⟩:=(Bd.KP t).mp h6
  rw[List.mem_singleton.mp hv]at k ⊢
  refine ak fun N2 HA=>?_
  simp only[bM,aD,v3,lk,bt]
  refine bx (fun done σ S'=>σ=[some (.tup (js.map PV.str)),some (.tup (.str (Bd.Gn a).hd::(Bd.Gn a).tl)),some (.tup []),some (.ref pz),some (.tup [.tup [.int 0,.int 1],.ref pz,.ref pz]),none,none,none]/\S'=S1) ⟨rfl,rfl⟩ (fun _ _ _ _=>trivial) ?_ ?_
  ·rintro done x rest σ S2 K e ⟨rfl,rfl⟩ hK
   cases done<;>cases e
  ·rintro σ S2 ⟨rfl,rfl⟩
   refine HA _ _ ?_
   walk_at "x"
   exact k _ S2 X1 L1
 rw[if_neg h6]
 refine hN _ _ (ak fun N hN=>?_)
 have two:∀(hd2:List PV) (a b c:Bd) (i:Int) (y f2:PV) (x7:Option PV) (u:Ty) (S2:aC) (N':cM->aC->Prop),(.str t.hd::t.tl)=hd2++[a.pv,b.pv]->v = .tup [.int i,y]->(i=0\/i=1)->(if i=0 then a.pv else b.pv)=c.pv->c.good js []->y∈c.ps q->c.dep<=n->Ext S S2->u.Ok js->Lk S2 u f2->t.IM js v=u.join (c.IM js y)->
   aw (ab xj [v3 4,ab s0 [v3 0,af ae (v3 1) (af bR (af ae (v3 2) (c3 (.int 0))) (c3 (.int 2))),af ae (v3 2) (c3 (.int 1))]]) { nx:=N',rt:=Q,ex:=d4 } [some (.tup (js.map PV.str)),some (.tup (.str t.hd::t.tl)),some v,some (.ref pz),some f2,none,none,x7] S2:=by
  intro hd2 a b c i y f2 x7 u S2 N' e1 e3 hi e4 g1 g2 g3 X2 hu L2 ee
  subst e3
  rw[e1]
  walk_at "x"
  simp only[cu,dH]
  rw[cV hi]
  simp only[e4]
  refine ih hj g1 g2 g3 fun x3 S3 X3 L3=>?_
  refine join hu (bQ c y g1 (fo q c y g2).1) (L2.mono X3) L3 fun x4 S4 X4 L4=>?_
  rw[<-ee]at L4
  exact k _ S4 (X2.trans (X3.trans X4)) L4
 have OZ:∀{u:Ty},u.Ok js->u=(z0 js).join u:=fun h=>(uT h).symm
 cases t with
 |rest=>
  simp only[Bd.hd]
  walk_at "y"
  refine hN _ _ (ak fun N hN=>?_)
  walk_at "y"
  exact k _ S1 X1 L1
 |Gu a b=>
  simp only[Bd.dep]at hd
  unfold Bd.ps at hv
  simp only[Bd.hd]
  walk_at "y"
  refine hN _ _ (ak fun N hN=>?_)
  walk_at "y"
  refine hN _ _ ?_
  rcases List.mem_append.mp hv with h|h
  ·obtain⟨y,hy,rfl⟩:=List.mem_map.mp h
   exact two [.str "either"] a b a 0 y _ _ (z0 js) S1 _ rfl rfl (.inl rfl) (if_pos rfl) hg.1 hy (by omega) X1 (j0 js) L1 (OZ (bQ a y hg.1 (fo q a y hy).1))
  ·obtain⟨y,hy,rfl⟩:=List.mem_map.mp h
   exact two [.str "either"] a b b 1 y _ _ (z0 js) S1 _ rfl rfl (.inr rfl) (if_neg (by decide)) hg.2 hy (by omega) X1 (j0 js) L1 (OZ (bQ b y hg.2 (fo q b y hy).1))
 |Gp z m a b=>
  simp only[Bd.dep]at hd
  unfold Bd.ps at hv
  simp only[Bd.hd,Bd.tl]
  rcases List.mem_append.mp hv with h|h
  ·split at h
   ·obtain⟨y,hy,rfl⟩:=List.mem_map.mp h
    simp only[bg,jJ,aO,af,v3,lk,c3,ae,cu,a_,Bool.false_bne,aA,decide_true,if_true]
    refine ak fun N2 HA=>?_
    walk_at "x"
    refine aU PV.str (fun j=>.int (if j=z then m else 0)) trivial js [] (fun j hj=>⟨_,rfl,fun Q q=>?_⟩) (by simpa using bd hj) fun p hp=>?_
    ·walk_at "x"
     simp only[dH,qC]
     walk_at "x"
     simp only[Bool.false_bne,decide_eq_true_eq]
     refine⟨by split<;>exact jR (by decide) (by decide),?_⟩
     split
     ·rename_i h;rw[if_pos h]at q;rw[Int.mul_one];exact q
     ·rename_i h;rw[if_neg h]at q;rw[Int.mul_zero];exact q
    rw[List.nil_append]
    have X2:Ext S1 (F3 S1 p (.lst (js.map fun j=>.int (if j=z then m else 0)))):=.new hp
    have h2':(F3 S1 p (.lst (js.map fun j=>PV.int (if j=z then m else 0)))) p=some (.lst (js.map fun j=>.int (if j=z then m else 0))):=aa
    generalize F3 S1 p (.lst (js.map fun j=>PV.int (if j=z then m else 0)))=S2 at X2 h2'
    refine HA _ _ ?_
    walk_at "x"
    simp only[h2']
    refine aU (fun j:Str=>PV.int (if j=z then m else 0)) (fun j=>.int (if j=z then -m else 0)) h2' js [] (fun j hj=>⟨_,rfl,fun Q q=>?_⟩) (by simpa using bd hj) fun p3 hp3=>?_
    ·walk_at "x"
     have e:(0:Int) - (if j=z then m else 0)=if j=z then -m else 0:=by split<;>omega
     rw[e]
     exact q
    rw[List.nil_append,ph js z (-m) m]
    have np:p≠p3:=fun e=>by rw[<-e,h2']at hp3;cases hp3
    have L3:Lk (F3 S2 p3 (.lst (Ty.es (0,qI js z (-m) m)))) (0,qI js z (-m) m) (.tup [.tup [.int 0,.int 1],.ref p3,.ref p]):=⟨p3,p,by rw[jZ],aa,by rw[al np,h2',sx js z (-m) m]⟩
    have X3:Ext S (F3 S2 p3 (.lst (Ty.es (0,qI js z (-m) m)))):=X1.trans (X2.trans (.new hp3))
    generalize F3 S2 p3 (.lst (Ty.es (0,qI js z (-m) m)))=S3 at L3 X3
    refine hN _ _ (ak fun N hN=>?_)
    walk_at "y"
    refine hN _ _ ?_
    exact two [.str "take",.str z,.int m] a b a 0 y _ _ (0,qI js z (-m) m) S3 _ rfl rfl (.inl rfl) (if_pos rfl) hg.2.2.2.1 hy (by omega) X3 (pA (by have:=hg.2.1;omega)) L3 rfl
   ·cases h
  ·obtain⟨y,hy,rfl⟩:=List.mem_map.mp h
   walk_at "y"
   refine hN _ _ (ak fun N hN=>?_)
   walk_at "y"
   refine hN _ _ ?_
   exact two [.str "take",.str z,.int m] a b b 1 y _ _ (z0 js) S1 _ rfl rfl (.inr rfl) (if_neg (by decide)) hg.2.2.2.2 hy (by omega) X1 (j0 js) L1 (OZ (bQ b y hg.2.2.2.2 (fo q b y hy).1))
 |use z=>exact absurd hg (by simp[Bd.good])
 |pay x y=>exact absurd rfl h1
 |put z m=>exact absurd rfl h2
 |F9 a b=>exact absurd rfl h3
 |Gn a=>exact absurd rfl h6
noncomputable def m7(q:Qs)(t:Bd):List (PV×Bd):=(.non,t)::(come q t).map fun c=>(.int (c.2:Int),c.1.1.Hb)
noncomputable def u9(x:PV×Bd):PV:=.tup [x.1,x.2.pv]
def zx(q:Qs)(t:Bd):(m7 q t).map u9 = .tup [.non,t.pv]::(come q t).map w5:=by
 unfold m7
 rw[List.map_cons,List.map_map]
 rfl
def lS{q:Qs}{t:Bd}{js us:Vs}(g:t.good js us){x:PV×Bd}(h:x∈m7 q t):x.2.good js us/\x.2.dep<=t.dep/\x.2.F5<=t.F5+t.F7:=by
 rcases List.mem_cons.mp h with rfl|h
 ·exact⟨g,Nat.le_refl _,Nat.le_add_right _ _⟩
 ·obtain⟨c,hc,rfl⟩:=List.mem_map.mp h
  obtain⟨a,b,e⟩:=sB (List.fst_mem_of_mem_zipIdx (List.mem_filter.mp hc).1) g
  exact⟨a,b,by show c.1.1.Hb.F5<=_;omega⟩
def iP(q:Qs)(t:Bd):(come q t).length<=t.size:=by
 unfold come
 refine Nat.le_trans (List.length_filter_le _ _) ?_
 rw[List.length_zipIdx]
 exact lQ q t true
abbrev pP(w:ax):Prop:=∀{S:aC} {t:Bd} {js us hs:Vs} {nm:Addr} {Q:bJ} {E:b6},t.dep<=6->t.size<=900->t.good js us->j3 js->j3 hs->S nm=some (.lst (hs.map PV.str))->
  (∀p S',S p=none->Ext S S'->S' p=some (.lst ((m7 (mq hs) t).map u9))->Q (.ref p) S')->w [t.pv,.ref nm] S Q E
def KL{xo:ax}(Kk:mU xo):pP (F_ 2 (cW xo)):=by
 intro S t js us hs nm Q E hd hz hg hj hh hn k
 unfold cW
 refine cP ?_
 rw[show av 2 [t.pv,.ref nm]=[some t.pv,some (.ref nm)] from rfl]
 simp only[aw,af,bC,ay,ab,aq,v3,c3,lk]
 intro p1 hp1
 have X1:Ext S (F3 S p1 (.lst [.tup [.non,t.pv]])):=.new hp1
 have f1:(F3 S p1 (.lst [.tup [.non,t.pv]])) p1=some (.lst [.tup [.non,t.pv]]):=aa
 generalize F3 S p1 (.lst [.tup [.non,t.pv]])=S1 at X1 f1
 refine Kk hd hz hg hj hh (X1 _ _ hn) fun p2 S2 hp2 X2 f2=>?_
 simp only[aS,X2 _ _ f1,f2]
 refine⟨bd (by have:=iP (mq hs) t;simp only[List.length_cons,List.length_nil,List.length_map];omega),fun p3 hp3=>?_⟩
 exact k p3 _ ((X1.trans X2).free hp3) (X1.trans (X2.trans (.new hp3))) (by rw[aa,zx];rfl)
noncomputable def nB(js:Vs)(d:Nat)(x:PV×Bd)(v:PV):PV:=.tup [.int (d:Int),x.1,cf (x.2.IM js v).1,.tup (x.2.IM js v).es,v]
noncomputable def xy(q:Qs)(js:Vs)(d:Nat)(x:PV×Bd):List PV:=(x.2.ps q).map (nB js d x)
noncomputable def bW(q:Qs)(js:Vs)(d:Nat)(t:Bd):List PV:=(m7 q t).flatMap (xy q js d)
noncomputable def DU(q:Qs)(js:Vs)(ds:List (Str×Bd)):List PV:=ds.zipIdx.flatMap fun p=>bW q js p.2 p.1.2
def m5(q:Qs)(js:Vs)(d:Nat)(t:Bd):(bW q js d t).length<=t.F5+t.F7:=by
 unfold bW m7
 rw[List.flatMap_cons,List.length_append]
 have h1:(xy q js d (.non,t)).length<=t.F5:=by unfold xy;rw[List.length_map];exact t.Ge q
 have h2:(((come q t).map fun c=>((.int (c.2:Int),c.1.1.Hb):PV×Bd)).flatMap (xy q js d)).length=(t.Kj q).length:=by
  unfold Bd.Kj
  rw[List.flatMap_map,List.length_flatMap,List.length_flatMap]
  congr 1
  refine List.map_congr_left fun c _=>?_
  unfold xy rh
  rw[List.length_map,List.length_map]
 have:=t.JR q
 omega
def kZ{α:Type}(f:α->List PV){xs:List α}{k:Nat}{x:α}(h:xs[k]?=some x):(xs.take (k+1)).flatMap f=(xs.take k).flatMap f++f x:=by
 rw[List.take_succ,h,List.flatMap_append]
 simp
theorem pQ{α:Type}(f:α->List PV)(m:Nat):∀xs:List α,(∀x∈xs,(f x).length<=m)->(xs.flatMap f).length<=xs.length * m
 |[],_=>by simp
 |x::r,h=>by
  rw[List.flatMap_cons,List.length_append,List.length_cons,Nat.succ_mul]
  have:=h x (by simp)
  have:=pQ f m r fun y hy=>h y (by simp[hy])
  omega
def pR{q:Qs}{js:Vs}{ds:List (Str×Bd)}(hP:HP js ds):(DU q js ds).length<=1000000:=by
 unfold DU
 refine Nat.le_trans (pQ _ 1000 _ fun p hp=>?_) ?_
 ·have hm:=List.fst_mem_of_mem_zipIdx hp
  exact Nat.le_trans (m5 q js p.2 p.1.2) (hP.pc _ hm)
 ·rw[List.length_zipIdx];have:=hP.dl;omega
abbrev k4(w:ax):Prop:=∀{S:aC} {js:Vs} {ds:List (Str×Bd)} {Q:bJ} {E:b6},HP js ds->(∀hs S',Ll js ds hs->Ext S S'->Q (.tup (DU (mq hs) js ds)) S')->w [GN js ds] S Q E
def JT{xf xn xp xt:ax}(Kt:eu xf)(KL:pP xn)(H_:bZ 6 xp)(KQ:j1 6 xt):k4 (F_ 9 (pI xf xn xp xt)):=by
 intro S js ds Q E hP k
 unfold pI
 refine cP ?_
 rw[show av 9 [GN js ds]=[some (.tup [.tup (js.map PV.str),.tup (ds.map dX)]),none,none,none,none,none,none,none,none] from rfl]
 refine ak fun N hN=>?_
 simp only[au,ab,aq,v3,lk]
 refine Kt hP.toHG fun nm hs S1 hnm X1 Ki hf=>?_
 have hh:=hf.ok hP.jw
 refine hN _ _ (ak fun N hN=>?_)
 simp only[au,bC,aq,List.set_cons_zero,List.set_cons_succ]
 intro pf hpf
 have X2:Ext S1 (F3 S1 pf (.lst [])):=.new hpf
 have f2:(F3 S1 pf (.lst [])) pf=some (.lst []):=aa
 have JY:=X2 _ _ Ki
 have Kg:=X1.free hpf
 have Lm:nm≠pf:=fun h=>by rw[h,hpf]at Ki;cases Ki
 have LU:Ext S (F3 S1 pf (.lst [])):=X1.trans X2
 generalize F3 S1 pf (.lst [])=S2 at X2 f2 JY LU
 have tot:=pR (q:=mq hs) hP
 refine hN _ _ (ak fun N hN=>?_)
 simp only[bM,cw,af,v3,lk,c3,ae,dH]
 refine bx (fun done σ S'=>∃(x3 x4 x5 x6 x7 x8:Option PV),σ=[some (.tup [.tup (js.map PV.str),.tup (ds.map dX)]),some (.ref nm),some (.ref pf),x3,x4,x5,x6,x7,x8]/\Ext S S'/\Hm pf S2 S'/\S' pf=some (.lst ((ds.zipIdx.take done.length).flatMap fun p=>bW (mq hs) js p.2 p.1.2))) ⟨_,_,_,_,_,_,rfl,LU,.refl,f2⟩ (fun _ _ _ _=>trivial) ?_ ?_
 ·rintro done x rest σ S3 K e ⟨x3,x4,x5,x6,x7,x8,rfl,X3,B3,f3⟩ hK
  obtain⟨y,rfl,hy⟩:=eO e
  obtain⟨⟨z,t⟩,ht,rfl⟩:∃q,ds[done.length]?=some q/\dX q=y:=by rw[List.getElem?_map]at hy;exact Option.map_eq_some_iff.mp hy
  have hm:(z,t)∈ds:=List.mem_of_getElem? ht
  have hgd:t.good js []:=hP.gd _ hm
  have Lj:t.dep<=6:=hP.dp _ hm
  have MM:t.F5+t.F7<=1000:=hP.pc _ hm
  have hsz:t.size<=60:=hP.sz _ hm
  have O8:ds.zipIdx[done.length]?=some ((z,t),done.length):=by rw[List.getElem?_zipIdx,ht];simp
  have MR:=kZ (fun p:(Str×Bd)×Nat=>bW (mq hs) js p.2 p.1.2) O8
  have KY:((ds.zipIdx.take (done.length+1)).flatMap fun p=>bW (mq hs) js p.2 p.1.2).length<=1000000:=Nat.le_trans (mT _ _ _) tot
  rw[MR,List.length_append]at KY
  generalize (ds.zipIdx.take done.length).flatMap (fun p=>bW (mq hs) js p.2 p.1.2)=acc at f3 KY MR
  simp only[dX,Tg.put,Tg.F8,List.set_cons_zero,List.set_cons_succ,aD,ab,aq,af,v3,lk,c3,ae,dH]
  refine KL Lj (by omega) hgd hP.jw hh (B3 _ _ JY Lm) fun pb S4 JX X4 f4=>?_
  have M6:pb≠pf:=fun h=>by rw[h,f3]at JX;cases JX
  have Q6:=X4 _ _ f3
  simp only[bt,f4]
  refine bx (fun Gg σ S'=>∃(x5 x6 x7 x8:Option PV),σ=[some (.tup [.tup (js.map PV.str),.tup (ds.map dX)]),some (.ref nm),some (.ref pf),some (.int (done.length:Int)),some (.tup [.str z,t.pv]),x5,x6,x7,x8]/\Ext S S'/\Hm pf S4 S'/\S' pf=some (.lst (acc++((m7 (mq hs) t).take Gg.length).flatMap (xy (mq hs) js done.length)))) ⟨_,_,_,_,rfl,X3.trans X4,.refl,by simpa using Q6⟩ (fun _ _ _ ⟨_,_,_,_,_,_,B,_⟩=>B _ _ f4 M6) ?_ ?_
  ·rintro Gg x LA σ S5 K5 e5 ⟨x5,x6,x7,x8,rfl,X5,B5,f5⟩ Q7
   have hget:((m7 (mq hs) t).map u9)[Gg.length]?=some x:=by rw[e5];simp
   obtain⟨c,hc,rfl⟩:∃c,(m7 (mq hs) t)[Gg.length]?=some c/\u9 c=x:=by rw[List.getElem?_map]at hget;exact Option.map_eq_some_iff.mp hget
   obtain⟨gc,dc,pc⟩:=lS hgd (List.mem_of_getElem? hc)
   have O_:=kZ (xy (mq hs) js done.length) hc
   have P4:(((m7 (mq hs) t).take (Gg.length+1)).flatMap (xy (mq hs) js done.length)).length<=(bW (mq hs) js done.length t).length:=mT _ _ _
   rw[O_,List.length_append]at P4
   generalize ((m7 (mq hs) t).take Gg.length).flatMap (xy (mq hs) js done.length)=P5 at f5 O_ P4
   simp only[u9,Tg.put,Tg.F8,List.set_cons_zero,List.set_cons_succ,aD,ab,aq,v3,lk]
   refine H_ (by omega) (by omega) gc hP.jw hh (B5 _ _ (X4 _ _ (B3 _ _ JY Lm)) Lm) fun pp S6 hpp X6 f6=>?_
   have OX:pp≠pf:=fun h=>by rw[h,f5]at hpp;cases hpp
   have NP:=X6 _ _ f5
   simp only[bt,f6]
   have Q8:(xy (mq hs) js done.length c).length=(c.2.ps (mq hs)).length:=List.length_map _
   refine bx (fun Lf σ S'=>∃(x7 x8:Option PV),σ=[some (.tup [.tup (js.map PV.str),.tup (ds.map dX)]),some (.ref nm),some (.ref pf),some (.int (done.length:Int)),some (.tup [.str z,t.pv]),some c.1,some c.2.pv,x7,x8]/\Lf.length<=(c.2.ps (mq hs)).length/\Ext S S'/\Hm pf S6 S'/\S' pf=some (.lst (acc++P5++Lf.map (nB js done.length c)))) ⟨_,_,rfl,Nat.zero_le _,X5.trans X6,.refl,by simpa using NP⟩ (fun _ _ _ ⟨_,_,_,_,_,B,_⟩=>B _ _ f6 OX) ?_ ?_
   ·rintro Lf v P6 σ S7 K7 e7 ⟨x7,x8,rfl,l7,X7,B7,f7⟩ Q9
    have hv:v∈c.2.ps (mq hs):=by rw[e7];simp
    have Q_:Lf.length+1<=(c.2.ps (mq hs)).length:=by rw[e7,List.length_append,List.length_cons];omega
    obtain⟨v1,v2⟩:=fo (mq hs) c.2 v hv
    simp only[Tg.put,List.set_cons_zero,List.set_cons_succ]
    refine ak fun N7 Ra=>?_
    simp only[au,ab,aq,af,v3,lk,c3,ae,cu]
    refine KQ (by have:=hP.jl;omega) gc v1 v2 (by omega) fun S8 X8=>?_
    refine Ra _ _ ?_
    have Rb:=X8 _ _ f7
    simp only[aP,dj,mj,ay,aq,af,v3,lk,c3,ae,Ty.pv,cu,dH,List.set_cons_zero,List.set_cons_succ,Rb,true_and,bp]
    refine⟨Nat.lt_of_le_of_lt (show _<=1000000 by simp only[List.length_append,List.length_map];dsimp only at KY;omega) (by decide),Q9 _ _ ⟨_,_,rfl,by rw[List.length_append];exact Q_,(X7.trans X8).put Kg,(B7.trans fun a o h n=>X8 a o h).trans .upd,?_⟩⟩
    rw[aa,List.map_append,<-List.append_assoc]
    rfl
   ·rintro σ S7 ⟨x7,x8,rfl,l7,X7,B7,f7⟩
    refine Q7 _ _ ⟨_,_,_,_,rfl,X7,(B5.trans fun a o h n=>X6 a o h).trans B7,?_⟩
    rw[f7,List.length_append,List.length_singleton,O_,List.append_assoc]
    rfl
  ·rintro σ S5 ⟨x5,x6,x7,x8,rfl,X5,B5,f5⟩
   refine hK _ _ ⟨_,_,_,_,_,_,rfl,X5,(B3.trans fun a o h n=>X4 a o h).trans B5,?_⟩
   rw[f5,List.length_map,List.take_length,List.length_append,List.length_singleton,MR]
   rfl
 ·rintro σ S3 ⟨x3,x4,x5,x6,x7,x8,rfl,X3,B3,f3⟩
  refine hN _ _ ?_
  walk_at "x"
  simp only[f3]
  have:(L3.aR (ds.map dX)).length=ds.zipIdx.length:=by simp[L3.aR]
  rw[this,List.take_length]
  exact k hs S3 hf X3
noncomputable def cn(q:Qs)(t:Bd):Int:=((t.ps q).length:Int)
def tV{q:Qs}{t:Bd}(h:t.size<=60):-(2 ^ 64) < cn q t/\cn q t < 2 ^ 64:=by
 have h1:=t.Ge q
 have h2:=Bd.J3 (t:=t) (by omega)
 unfold cn
 omega
def xz(q:Qs)(a b:Bd):cn q (.F9 a b)=cn q a * cn q b:=by
 unfold cn
 show((((a.ps q).flatMap fun x=>(b.ps q).map fun y=>PV.tup [x,y])).length:Int)=_
 rw[mR,Int.natCast_mul]
def xA(q:Qs)(a b:Bd):cn q (.Gu a b)=cn q a+cn q b:=by
 unfold cn
 show((((a.ps q).map (fun x=>PV.tup [.int 0,x])++(b.ps q).map fun x=>PV.tup [.int 1,x])).length:Int)=_
 rw[List.length_append,List.length_map,List.length_map,Int.natCast_add]
def xB(q:Qs)(z:Str)(m:Int)(a b:Bd):cn q (.Gp z m a b)=(if q z then cn q a else 0)+cn q b:=by
 unfold cn
 show(((if q z then (a.ps q).map (fun x=>PV.tup [.int 0,x]) else [])++(b.ps q).map fun x=>PV.tup [.int 1,x]).length:Int)=_
 rw[List.length_append,List.length_map,Int.natCast_add]
 split
 ·rw[List.length_map]
 ·rfl
abbrev fq(n:Nat)(w:ax):Prop:=∀{S:aC} {t:Bd} {js hs:Vs} {nm:Addr} {Q:bJ} {E:b6},t.dep<=n->t.size<=60->t.good js []->j3 js->j3 hs->S nm=some (.lst (hs.map PV.str))->Q (.int (cn (mq hs) t)) S->w [t.pv,.ref nm] S Q E
def KZ{s0:ax}(n:Nat)(ih:fq n s0):fq (n+1) (F_ 3 (cX s0)):=by
 intro S t js hs nm Q E hd hz hg hj hh hn k
 unfold cX
 refine cP ?_
 rw[show av 3 [t.pv,.ref nm]=[some t.pv,some (.ref nm),none] from rfl]
 have K0:∀y∈([("either":Str),"take"]:Vs),PyData.strOk y=true:=by decide +kernel
 have e2:(.tup [.str "either",.str "take"]:PV) = .tup ((["either","take"]:Vs).map PV.str):=rfl
 have leaf:∀{hd:Str} {tl:List PV},PyData.strOk hd=true->¬hd=("then":Str)->hd ∉ ([("either":Str),"take"]:Vs)->Q (.int 1) S->cX s0 { nx:=fun _ S'=>Q .non S',rt:=Q,ex:=d4 } [some (.tup (.str hd::tl)),some (.ref nm),none] S:=by
  intro hd tl h0 h1 h2 q
  unfold cX
  refine ak fun N hN=>?_
  simp only[bg,aO,af,v3,lk,c3,ae,cu,a_,Bool.false_bne,decide_eq_true_eq]
  rw[if_neg h1]
  refine hN _ _ (ak fun N hN=>?_)
  simp only[bg,aO,af,v3,lk,c3,ae,cu,ay,aq]
  rw[e2]
  refine bH h0 K0 ?_
  rw[decide_eq_false h2]
  exact q
 cases t with
 |F9 a b=>
  simp only[Bd.dep,Bd.size]at hd hz
  simp only[Bd.pv]
  refine ak fun N hN=>?_
  walk_at "y"
  refine ih (by omega) (by omega) hg.1 hj hh hn (ih (by omega) (by omega) hg.2 hj hh hn ⟨wD (tV (by omega)).1 (tV (by omega)).2,?_⟩)
  rw[xz]at k
  exact k
 |Gu a b=>
  simp only[Bd.dep,Bd.size]at hd hz
  simp only[Bd.pv]
  refine ak fun N hN=>?_
  walk_at "y"
  refine hN _ _ (ak fun N hN=>?_)
  simp only[bg,aO,af,v3,lk,c3,ae,cu,ay,aq]
  rw[e2]
  refine bH (by decide +kernel) K0 ?_
  rw[show decide ((Str.ofString "either")∈([("either":Str),"take"]:Vs))=true by decide +kernel]
  refine hN _ _ (ak fun N hN=>?_)
  walk_at "y"
  refine ih (by omega) (by omega) hg.2 hj hh hn ?_
  refine hN _ _ (ak fun N hN=>?_)
  walk_at "y"
  refine hN _ _ ?_
  walk_at "y"
  refine ih (by omega) (by omega) hg.1 hj hh hn ?_
  rw[xA]at k
  exact k
 |Gp z m a b=>
  simp only[Bd.dep,Bd.size]at hd hz
  simp only[Bd.pv]
  refine ak fun N hN=>?_
  walk_at "y"
  refine hN _ _ (ak fun N hN=>?_)
  simp only[bg,aO,af,v3,lk,c3,ae,cu,ay,aq]
  rw[e2]
  refine bH (by decide +kernel) K0 ?_
  rw[show decide ((Str.ofString "take")∈([("either":Str),"take"]:Vs))=true by decide +kernel]
  refine hN _ _ (ak fun N hN=>?_)
  walk_at "y"
  refine ih (by omega) (by omega) hg.2.2.2.2 hj hh hn ?_
  refine hN _ _ (ak fun N hN=>?_)
  walk_at "y"
  refine dI hn (hj z hg.1) hh ?_
  rw[xB,show mq hs z=decide (z∈hs)from rfl]at k
  by_cases h:z∈hs
  ·rw[decide_eq_true h,if_pos rfl]at k
   rw[decide_eq_true h]
   refine hN _ _ ?_
   walk_at "y"
   exact ih (by omega) (by omega) hg.2.2.2.1 hj hh hn k
  ·rw[decide_eq_false h,if_neg (by decide),Int.zero_add]at k
   rw[decide_eq_false h]
   exact k
 |rest=>exact leaf (by decide +kernel) (by decide +kernel) (by decide +kernel) k
 |pay x y=>exact leaf (by decide +kernel) (by decide +kernel) (by decide +kernel) k
 |put z m=>exact leaf (by decide +kernel) (by decide +kernel) (by decide +kernel) k
 |use z=>exact leaf (by decide +kernel) (by decide +kernel) (by decide +kernel) k
 |Gn a=>exact leaf (by decide +kernel) (by decide +kernel) (by decide +kernel) k
noncomputable def qW(q:Qs)(t:Bd):List Int:=(m7 q t).map fun x=>cn q x.2
noncomputable def xC(q:Qs)(ds:List (Str×Bd)):Int:=(ds.map fun p=>(qW q p.2).sum).sum
def tW(xs:Vu):jf (xs.map PV.int)=some xs:=by
 induction xs with
 |nil=>rfl
 |cons x r ih=>rw[List.map_cons];show(jf (r.map PV.int)).map _=_;rw[ih];rfl
def xD{q:Qs}{t:Bd}{x:PV×Bd}(h:x∈m7 q t):x.2.size<=t.size:=by
 rcases List.mem_cons.mp h with rfl|h
 ·exact Nat.le_refl _
 ·obtain⟨c,hc,rfl⟩:=List.mem_map.mp h
  have hm:=List.fst_mem_of_mem_zipIdx (List.mem_filter.mp hc).1
  obtain⟨a,ea⟩:=lP hm
  have:=(i4 q [] [] t true c.1 (List.mem_filter.mp hm).1).2.2
  show c.1.1.Hb.size<=t.size
  rw[ea]at this ⊢
  simp only[Bd.size]at this
  simp only[Bd.Hb]
  omega
abbrev kl(w:ax):Prop:=∀{S:aC} {js:Vs} {ds:List (Str×Bd)} {Q:bJ} {E:b6},HG js ds->(∀hs S',Ll js ds hs->Ext S S'->Q (.int (xC (mq hs) ds)) S')->w [GN js ds] S Q E
def Je{xf xn xp:ax}(Kt:eu xf)(KL:pP xn)(KZ:fq 6 xp):kl (F_ 4 (gB xf xn xp)):=by
 intro S js ds Q E hP k
 unfold gB
 refine cP ?_
 rw[show av 4 [GN js ds]=[some (.tup [.tup (js.map PV.str),.tup (ds.map dX)]),none,none,none] from rfl]
 refine ak fun N hN=>?_
 simp only[au,ab,aq,v3,lk]
 refine Kt hP fun nm hs S1 hnm X1 Ki hf=>?_
 have hh:=hf.ok hP.jw
 refine hN _ _ (ak fun N hN=>?_)
 walk_at "x"
 refine hN _ _ (ak fun N hN=>?_)
 simp only[bM,aD,af,v3,lk,c3,ae,dH,bt]
 refine bx (fun done σ S'=>∃(x3:Option PV),σ=[some (.tup [.tup (js.map PV.str),.tup (ds.map dX)]),some (.ref nm),some (.int (xC (mq hs) (ds.take done.length))),x3]/\Ext S1 S') ⟨_,rfl,.refl⟩ (fun _ _ _ _=>trivial) ?_ ?_
 ·rintro done x rest σ S2 K e ⟨x3,rfl,X2⟩ hK
  have hy:(ds.map dX)[done.length]?=some x:=by rw[e];simp
  obtain⟨⟨z,t⟩,ht,rfl⟩:∃q,ds[done.length]?=some q/\dX q=x:=by rw[List.getElem?_map]at hy;exact Option.map_eq_some_iff.mp hy
  have hm:(z,t)∈ds:=List.mem_of_getElem? ht
  have hgd:t.good js []:=hP.gd _ hm
  have Lj:t.dep<=6:=hP.dp _ hm
  have hsz:t.size<=60:=hP.sz _ hm
  have MP:xC (mq hs) (ds.take (done.length+1))=xC (mq hs) (ds.take done.length)+(qW (mq hs) t).sum:=by
   unfold xC
   rw[List.take_succ,ht,List.map_append,List.sum_append]
   simp
  simp only[dX,Tg.put,List.set_cons_zero,List.set_cons_succ,Dp,lk,ao,aq,aF,aD,ab,af,v3,c3,ae,dH]
  refine KL Lj (by omega) hgd hP.jw hh (X2 _ _ Ki) fun pb S3 JX X3 f3=>?_
  simp only[bt,f3]
  refine aU u9 (fun x=>.int (cn (mq hs) x.2)) f3 (m7 (mq hs) t) [] (fun x hx=>⟨_,rfl,fun Q q=>?_⟩) (bd (by have:=iP (mq hs) t;simp only[m7,List.length_nil,List.length_cons,List.length_map];omega)) fun p hp=>?_
  ·walk_at "x"
   obtain⟨gc,dc,_⟩:=lS hgd hx
   exact KZ (by omega) (Nat.le_trans (xD hx) hsz) gc hP.jw hh (X3 _ _ (X2 _ _ Ki)) q
  rw[List.nil_append]
  simp only[uG,aa]
  rw[show(m7 (mq hs) t).map (fun x=>PV.int (cn (mq hs) x.2))=(qW (mq hs) t).map PV.int by unfold qW;rw[List.map_map];rfl,tW]
  refine hK _ _ ⟨some (.tup [.str z,t.pv]),?_,X2.trans (X3.trans (.new hp))⟩
  rw[List.length_append,List.length_singleton,MP]
 ·rintro σ S2 ⟨x3,rfl,X2⟩
  refine hN _ _ ?_
  walk_at "x"
  rw[List.length_map,List.take_length]
  exact k hs S2 hf (X1.trans X2)
def B2{s0:ax}(n:Nat)(ih:fq n s0):fq (n+1) (F_ 3 (bo s0)):=by
 intro S t js hs nm Q E hd hz hg hj hh hn k
 have leaf:∀u:Bd,u.hd≠("then":Str)->u.hd≠("either":Str)->u.hd≠("take":Str)->Q (.int 1) S->F_ 3 (bo s0) [u.pv,.ref nm] S Q E:=by
  intro u h1 h2 h3 q
  unfold bo
  refine cP ?_
  rw[Bd.Hk,show av 3 [.tup (.str u.hd::u.tl),.ref nm]=[some (.tup (.str u.hd::u.tl)),some (.ref nm),none] from rfl]
  simp only[ah,bg,ll,aO,af,v3,lk,c3,ae,cu,a_,h1,h2,h3,decide_false,Bool.false_bne,Bool.false_eq_true,if_false,aN,aw]
  exact q
 cases t with
 |rest=>exact leaf _ (by simp[Bd.hd,aA]) (by simp[Bd.hd,aA]) (by simp[Bd.hd,aA]) k
 |pay x y=>exact leaf _ (by simp[Bd.hd,aA]) (by simp[Bd.hd,aA]) (by simp[Bd.hd,aA]) k
 |put z m=>exact leaf _ (by simp[Bd.hd,aA]) (by simp[Bd.hd,aA]) (by simp[Bd.hd,aA]) k
 |use z=>exact leaf _ (by simp[Bd.hd,aA]) (by simp[Bd.hd,aA]) (by simp[Bd.hd,aA]) k
 |Gn a=>exact leaf _ (by simp[Bd.hd,aA]) (by simp[Bd.hd,aA]) (by simp[Bd.hd,aA]) k
 |F9 a b=>
  unfold bo
  refine cP ?_
  rw[show av 3 [(Bd.F9 a b).pv,.ref nm]=[some (Bd.F9 a b).pv,some (.ref nm),none] from rfl]
  simp only[Bd.dep,Bd.size]at hd hz
  simp only[Bd.pv]
  refine ak fun N hN=>?_
  walk_at "y"
  refine ih (by omega) (by omega) hg.1 hj hh hn (ih (by omega) (by omega) hg.2 hj hh hn ⟨wD (tV (by omega)).1 (tV (by omega)).2,?_⟩)
  rw[xz]at k
  exact k
 |Gu a b=>
  unfold bo
  refine cP ?_
  rw[show av 3 [(Bd.Gu a b).pv,.ref nm]=[some (Bd.Gu a b).pv,some (.ref nm),none] from rfl]
  simp only[Bd.dep,Bd.size]at hd hz
  simp only[Bd.pv]
  refine ak fun N hN=>?_
  walk_at "y"
  refine hN _ _ (ak fun N hN=>?_)
  simp only[bg,ll,aO,af,v3,lk,c3,ae,cu,a_,Bool.false_bne,decide_true,if_true]
  refine ak fun N2 HA=>?_
  walk_at "y"
  refine ih (by omega) (by omega) hg.1 hj hh hn ⟨jR (by decide) (by decide),?_⟩
  refine HA _ _ ?_
  walk_at "y"
  refine ih (by omega) (by omega) hg.2 hj hh hn ?_
  rw[xA]at k
  rw[Int.mul_one]
  exact k
 |Gp z m a b=>
  unfold bo
  refine cP ?_
  rw[show av 3 [(Bd.Gp z m a b).pv,.ref nm]=[some (Bd.Gp z m a b).pv,some (.ref nm),none] from rfl]
  simp only[Bd.dep,Bd.size]at hd hz
  simp only[Bd.pv]
  refine ak fun N hN=>?_
  walk_at "y"
  refine hN _ _ (ak fun N hN=>?_)
  walk_at "y"
  refine ih (by omega) (by omega) hg.2.2.2.1 hj hh hn ?_
  refine dI hn (hj z hg.1) hh ?_
  rw[xB,show mq hs z=decide (z∈hs)from rfl]at k
  by_cases h:z∈hs
  ·rw[decide_eq_true h,if_pos rfl]at k
   rw[decide_eq_true h]
   refine⟨jR (by decide) (by decide),ih (by omega) (by omega) hg.2.2.2.2 hj hh hn ?_⟩
   rw[show cn (mq hs) a * (if (false != true)=true then 1 else 0)=cn (mq hs) a by simp]
   exact k
  ·rw[decide_eq_false h,if_neg (by decide)]at k
   rw[decide_eq_false h]
   refine⟨jR (by decide) (by decide),ih (by omega) (by omega) hg.2.2.2.2 hj hh hn ?_⟩
   rw[show cn (mq hs) a * (if (false != false)=true then 1 else 0)=0 by simp]
   exact k
def xE(q:Qs)(t:Bd):(come q t).map (fun c=>c.1)=(t.Ia q true).filter fun p=>p.2:=by
 unfold come
 generalize t.Ia q true=l
 have:∀(l:List (Bd×Bool)) (n:Nat),((l.zipIdx n).filter fun c=>c.1.2).map (fun c=>c.1)=l.filter fun p=>p.2:=by
  intro l
  induction l with
  |nil=>intro n;rfl
  |cons p r ih=>
   intro n
   rw[List.zipIdx_cons,List.filter_cons,List.filter_cons]
   split
   ·rw[List.map_cons,ih]
   ·exact ih _
 exact this l 0
abbrev jB(w:ax):Prop:=∀{S:aC} {js:Vs} {ds:List (Str×Bd)} {Q:bJ} {E:b6},HG js ds->(∀S',Ext S S'->Q (.int (xC (mq (held ds js.length)) ds)) S')->w [GN js ds] S Q E
theorem qX(q:Qs):∀ds:List (Str×Bd),xC q ds=(ds.flatMap fun p=>qW q p.2).sum
 |[]=>rfl
 |p::r=>by
  unfold xC
  rw[List.map_cons,List.sum_cons,List.flatMap_cons,List.sum_append,<-qX q r]
  rfl
def K1{xf xp xo:ax}(Iu:iM xf)(Mo:fq 6 xp)(JS:eQ 6 xo):jB (F_ 5 (dE xf xp xo)):=by
 intro S js ds Q E hP k
 unfold dE
 refine cP ?_
 rw[show av 5 [GN js ds]=[some (.tup [.tup (js.map PV.str),.tup (ds.map dX)]),none,none,none,none] from rfl]
 refine ak fun N hN=>?_
 simp only[au,ab,aq,v3,lk]
 refine Iu hP fun nm S1 hnm X1 Ki=>?_
 have hh:j3 (held ds js.length):=fun w hw=>hP.jw w (pC hP _ w hw)
 generalize held ds js.length=hs at Ki hh k
 refine hN _ _ (ak fun N hN=>?_)
 simp only[au,bC,aq,List.set_cons_zero,List.set_cons_succ]
 intro pf hpf
 have X2:Ext S1 (F3 S1 pf (.lst [])):=.new hpf
 have f2:(F3 S1 pf (.lst [])) pf=some (.lst []):=aa
 have JY:=X2 _ _ Ki
 have Kg:=X1.free hpf
 have Lm:nm≠pf:=fun h=>by rw[h,hpf]at Ki;cases Ki
 have LU:Ext S (F3 S1 pf (.lst [])):=X1.trans X2
 generalize F3 S1 pf (.lst [])=S2 at X2 f2 JY LU
 refine hN _ _ (ak fun N hN=>?_)
 simp only[bM,aD,af,v3,lk,c3,ae,dH,bt]
 refine bx (fun done σ S'=>∃(x3 x4:Option PV),σ=[some (.tup [.tup (js.map PV.str),.tup (ds.map dX)]),some (.ref nm),some (.ref pf),x3,x4]/\done.length<=ds.length/\Ext S S'/\Hm pf S2 S'/\S' pf=some (.lst (((ds.take done.length).flatMap fun p=>qW (mq hs) p.2).map PV.int))) ⟨_,_,rfl,Nat.zero_le _,LU,.refl,f2⟩ (fun _ _ _ _=>trivial) ?_ ?_
 ·rintro done x rest σ S3 K e ⟨x3,x4,rfl,l3,X3,B3,f3⟩ hK
  have hy:(ds.map dX)[done.length]?=some x:=by rw[e];simp
  obtain⟨⟨z,t⟩,ht,rfl⟩:∃q,ds[done.length]?=some q/\dX q=x:=by rw[List.getElem?_map]at hy;exact Option.map_eq_some_iff.mp hy
  have hm:(z,t)∈ds:=List.mem_of_getElem? ht
  have hl3:done.length+1<=ds.length:=(List.getElem?_eq_some_iff.mp ht).1
  have hgd:t.good js []:=hP.gd _ hm
  have Lj:t.dep<=6:=hP.dp _ hm
  have hsz:t.size<=60:=hP.sz _ hm
  have hnc:∀p∈ds,(qW (mq hs) p.2).length<=61:=fun p hp=>by
   unfold qW m7
   rw[List.length_map,List.length_cons,List.length_map]
   have:=iP (mq hs) p.2
   have:=hP.sz p hp
   omega
  have hacc:((ds.take done.length).flatMap fun p=>qW (mq hs) p.2).length<=61000:=by
   have h1:=pQ (fun p:Str×Bd=>(qW (mq hs) p.2).map PV.int) 61 (ds.take done.length) fun p hp=>by rw[List.length_map];exact hnc p (List.mem_of_mem_take hp)
   rw[List.length_flatMap]at h1 ⊢
   simp only[List.length_map]at h1
   have h2:=hP.dl
   rw[List.length_take]at h1
   have:min done.length ds.length * 61<=61000:=by omega
   omega
  have P7:(ds.take (done.length+1)).flatMap (fun p=>qW (mq hs) p.2)=(ds.take done.length).flatMap (fun p=>qW (mq hs) p.2)++qW (mq hs) t:=by
   rw[List.take_succ,ht,List.flatMap_append]
   simp
  generalize (ds.take done.length).flatMap (fun p=>qW (mq hs) p.2)=acc at f3 hacc P7
  simp only[dX,Tg.put,Tg.F8,List.set_cons_zero,List.set_cons_succ]
  refine ak fun N3 Ka=>?_
  simp only[aP,dj,mj,aq,ab,v3,lk,f3,true_and]
  refine Mo Lj hsz hgd hP.jw hh (B3 _ _ JY Lm) ?_
  simp only[bp,f3]
  refine⟨Nat.lt_of_le_of_lt (show _<=1000000 by rw[List.length_map];omega) (by decide),?_⟩
  refine Ka _ _ ?_
  have f4:(F3 S3 pf (.lst (acc.map PV.int++[.int (cn (mq hs) t)]))) pf=some (.lst (acc.map PV.int++[.int (cn (mq hs) t)])):=aa
  have X4:Ext S (F3 S3 pf (.lst (acc.map PV.int++[.int (cn (mq hs) t)]))):=X3.put Kg
  have B4:Hm pf S2 (F3 S3 pf (.lst (acc.map PV.int++[.int (cn (mq hs) t)]))):=B3.trans .upd
  generalize F3 S3 pf (.lst (acc.map PV.int++[.int (cn (mq hs) t)]))=S4 at f4 X4 B4
  simp only[aP,dj,mj,aq,ab,v3,lk,c3,f4,true_and,aF,aD]
  refine JS Lj (by omega) hgd hP.jw hh (B4 _ _ JY Lm) fun po S5 Kh X5 f5=>?_
  have OW:po≠pf:=fun h=>by rw[h,f4]at Kh;cases Kh
  simp only[bt,f5]
  have hol:=lQ (mq hs) t true
  refine eP e_ (fun p=>.int (cn (mq hs) p.1.Hb)) (fun p=>p.2) f5 (t.Ia (mq hs) true) [] (fun p hp=>⟨_,rfl,fun K q=>?_,fun hc Q q=>?_⟩) (bd (by rw[List.length_nil];omega)) ?_
  ·obtain⟨b,r⟩:=p
   cases r
   ·rw[show e_ (b,false) = .non from rfl]
    walk_at "x"
    simpa using q
   ·rw[show e_ (b,true)=b.Hb.pv from rfl,Bd.Hk b.Hb]
    walk_at "x"
    simpa using q
  ·obtain⟨b,r⟩:=p
   cases (show r=true from hc)
   rw[show e_ (b,true)=b.Hb.pv from rfl]
   obtain⟨gc,dc,_⟩:=sB hp hgd
   walk_at "x"
   have dc':b.Hb.dep<=t.dep:=dc
   refine Mo (by omega) ?_ gc hP.jw hh (X5 _ _ (B4 _ _ JY Lm)) q
   obtain⟨a,ea⟩:=lP hp
   have:=(i4 (mq hs) [] [] t true (b,true) (List.mem_filter.mp hp).1).2.2
   have ea':b = .Gn a:=ea
   subst ea'
   simp only[Bd.size]at this
   simp only[Bd.Hb]
   omega
  ·intro p hp
   have np:pf≠p:=fun h=>by rw[<-h,X5 _ _ f4]at hp;cases hp
   have ec:(t.Ia (mq hs) true).filter (fun p=>p.2)=(come (mq hs) t).map fun c=>c.1:=(xE (mq hs) t).symm
   rw[List.nil_append,ec,List.map_map]
   simp only[aQ,al np,X5 _ _ f4,aa]
   have hcl:=iP (mq hs) t
   refine⟨Ah (by simp only[List.length_append,List.length_map,List.length_singleton];omega),hK _ _ ⟨_,_,rfl,by rw[List.length_append];exact hl3,((X4.trans X5).trans (.new hp)).put Kg,(B4.trans fun a o h n=>Ext.new hp a o (X5 a o h)).trans .upd,?_⟩⟩
   rw[aa,List.length_append,List.length_singleton,P7,List.map_append,List.append_assoc]
   unfold qW m7
   rw[List.map_cons,List.map_cons,List.map_map,List.map_map]
   rfl
 ·rintro σ S3 ⟨x3,x4,rfl,l3,X3,B3,f3⟩
  refine hN _ _ ?_
  simp only[aw,ao,aq,v3,lk,uG,f3]
  rw[List.length_map,List.take_length,tW]
  have:=k S3 X3
  rw[qX]at this
  exact this
abbrev k5(w:ax):Prop:=∀{S:aC} {d l:Addr} {Q:bJ} {E:b6},Gc S d l->(∀js ds S',HG js ds->GV d l S S'->Q (GN js ds) S')->w [.ref d] S Q E
def JU{xw xd xb:ax}(Hj:fL xw)(F6:bY xd)(n:Nat)(hn6:6<=n)(Ja:im n xb):k5 (F_ 4 (cI xw xd xb)):=by
 intro S d l Q E D k
 unfold cI
 refine cP ?_
 rw[show av 4 [PV.ref d]=[some (.ref d),none,none,none] from rfl]
 refine ak fun N hN=>?_
 walk_at "x"
 refine Hj D (by decide) (by decide) fun p ns S1 hl hnd hw0 hp KG hpl Rc D1 O1=>?_
 have PN:ns.length=8:=hl
 have hw:∀z∈ns,IsW z:=fun z hz=>(hw0 z hz).1
 refine hN _ _ (ak fun N hN=>?_)
 walk_at "x"
 refine F6 D1 (by decide) (by decide) fun r S2 r0 r1 D2 O2=>?_
 have hp2:=O2 _ _ Rc KG hpl
 rw[hp2]
 dsimp only
 rw[qA]
 have hjl:=qB ns none (some r)
 have P8:∀z∈Hh ns none (some r),z∈ns:=fun z hz=>List.mem_of_mem_drop (List.mem_of_mem_take hz)
 generalize Hh ns none (some r)=js at hjl P8
 intro p3 hp3
 rw[aa]
 dsimp only
 have D3:Gc (F3 S2 p3 (.lst (js.map PV.str))) d l:=D2.new hp3
 have h3:=GV.new (o:=.lst (js.map PV.str)) hp3 _ _ hp2 KG hpl
 have O3:GV d l S (F3 S2 p3 (.lst (js.map PV.str))):=O1.trans (O2.trans (.new hp3))
 generalize F3 S2 p3 (.lst (js.map PV.str))=S3 at D3 h3 O3
 refine hN _ _ (ak fun N hN=>?_)
 walk_at "x"
 refine F6 D3 (by decide) (by decide) fun m S4 m0 m1 D4 O4=>?_
 have h4:=O4 _ _ h3 KG hpl
 obtain⟨mm,em⟩:∃mm:Nat,1+m=(mm:Int):=⟨(1+m).toNat,by omega⟩
 dsimp only
 rw[em]
 refine hN _ _ ?_
 walk_at "x"
 refine⟨by omega,by omega,?_⟩
 rw[Int.toNat_natCast]
 refine dU (fun done ys S'=>∃ds:List (Str×Bd),ys=ds.map dX/\ds.length=done.length/\done.length<=mm/\(∀q∈ds,q.2.good js []/\q.2.dep<=6/\q.2.size<=60)/\Gc S' d l/\GV d l S4 S') ⟨[],rfl,rfl,Nat.zero_le _,by simp,D4,.refl⟩ ?_ ?_ ?_
 ·rintro done ys S' ⟨ds,rfl,e,hd,_⟩
  exact⟨trivial,dG (by rw[List.length_map,e];omega)⟩
 ·rintro done x rest ys S' K e ⟨ds,rfl,e2,hd,hc,D',O'⟩ hK
  have hlen:done.length+1<=mm:=by
   have:=congrArg List.length e
   rw[dW,List.length_append,List.length_cons]at this
   omega
  obtain⟨i,rfl,hi⟩:∃i:Nat,x = .int i/\i < mm:=by
   have:x∈bO 0 mm:=by rw[e];simp
   unfold bO at this
   obtain⟨i,hi,rfl⟩:=List.mem_map.mp this
   exact⟨i,by simp,List.mem_range.mp hi⟩
  walk_at "x"
  simp only[bm,if_true,O' _ _ h4 KG hpl]
  obtain⟨v,hv,NL⟩:=gg (xs:=ns.map PV.str) (r:=(4:Int)+i) (by omega) (by rw[List.length_map];omega)
  rw[hv]
  obtain⟨z,hz,rfl⟩:=List.mem_map.mp NL
  dsimp only
  intro px hx
  have dx:=D'.free hx
  refine Ja (js:=js) (D'.new hx) aa dx.1 dx.2 (by omega) (by omega) (by omega) (by decide) (by omega) fun t S9 l1 tg td q0 q1 D9 hx9 O9=>?_
  have Re:GV d l S' S9:=fun a o ha h1 h2=>O9 a o (by rw[al (fun e=>by rw[e,hx]at ha;cases ha)];exact ha) h1 h2 (fun e=>by rw[e,hx]at ha;cases ha)
  refine hK _ _ ⟨ds++[(z,t)],by simp[dX],by simp[e2],by simpa using hlen,fun y hy=>?_,D9,O'.trans Re⟩
  rcases List.mem_append.mp hy with hy|hy
  ·exact hc y hy
  ·rw[List.mem_singleton.mp hy]
   refine⟨tg,show t.dep<=6 by omega,show t.size<=60 by omega⟩
 ·rintro ys S5 ⟨ds,rfl,e,_,hds,D5,O5⟩
  rw[dW]at e
  intro p9 hp9
  rw[aa]
  dsimp only
  exact k js ds _ ⟨fun z hz=>kN (hw z (P8 z hz)),by omega,by omega,fun q hq=>(hds q hq).1,fun q hq=>(hds q hq).2.1,fun q hq=>(hds q hq).2.2⟩ (O3.trans (O4.trans (O5.trans (.new hp9))))
noncomputable def zy(x:PV×Bd)(v:PV):PV:=.tup [x.1,x.2.pv,v]
noncomputable def HZ(q:Qs)(t:Bd):List ((PV×Bd)×PV):=(m7 q t).flatMap fun x=>(x.2.ps q).map fun v=>(x,v)
def sG(q:Qs)(t:Bd):(HZ q t).map (fun y=>zy y.1 y.2)=(t.ps q).map (fun v=>.tup [.non,t.pv,v])++(come q t).flatMap fun c=>(c.1.1.Hb.ps q).map fun v=>.tup [.int (c.2:Int),c.1.1.Hb.pv,v]:=by
 unfold HZ m7
 rw[List.map_flatMap,List.flatMap_cons,List.flatMap_map,List.map_map]
 congr 1
 refine congrArg List.flatten (List.map_congr_left fun c _=>?_)
 rw[List.map_map]
 rfl
def ot(q:Qs)(js:Vs)(d:Nat)(t:Bd):(HZ q t).map (fun y=>nB js d y.1 y.2)=bW q js d t:=by
 unfold HZ bW
 rw[List.map_flatMap]
 refine congrArg List.flatten (List.map_congr_left fun c _=>?_)
 rw[List.map_map]
 rfl
def xF(q:Qs)(t:Bd):(HZ q t).length<=t.F5+t.F7:=by
 have h:=congrArg List.length (ot q [] 0 t)
 rw[List.length_map]at h
 rw[h]
 exact m5 q [] 0 t
def xG{q:Qs}{t:Bd}{y:(PV×Bd)×PV}(h:y∈HZ q t):y.1∈m7 q t/\y.2∈y.1.2.ps q:=by
 obtain⟨x,hx,hy⟩:=List.mem_flatMap.mp h
 obtain⟨v,hv,rfl⟩:=List.mem_map.mp hy
 exact⟨hx,hv⟩
def u_{q:Qs}{t:Bd}{c:Nb}(h:c∈come q t):G2 ((t.Ia q true).map e_) (c.2:Int)=some c.1.1.Hb.pv:=by
 obtain⟨h1,h2⟩:=List.mem_filter.mp h
 have h3:(t.Ia q true)[c.2]?=some c.1:=by
  have:=List.mem_zipIdx_iff_getElem?.mp (show(c.1,c.2)∈_ from h1)
  exact this
 refine mG ?_
 rw[List.getElem?_map,h3]
 show some (e_ c.1)=_
 unfold e_
 rw[if_pos h2]
abbrev jC(w:ax):Prop:=∀{S:aC} {js:Vs} {ds:List (Str×Bd)} {Q:bJ} {E:b6},HP js ds->(∀S',Ext S S'->Q (.tup (DU (mq (held ds js.length)) js ds)) S')->w [GN js ds] S Q E
def Js{xf xp xo xr xt:ax}(Iu:iM xf)(JQ:bZ 6 xp)(JS:eQ 6 xo)(IQ:ir xr)(Md:iO 12 xt):jC (F_ 14 (gF xf xp xo xr xt)):=by
 intro S js ds Q E hP k
 unfold gF
 refine cP ?_
 rw[show av 14 [GN js ds]=[some (.tup [.tup (js.map PV.str),.tup (ds.map dX)]),none,none,none,none,none,none,none,none,none,none,none,none,none] from rfl]
 refine ak fun N hN=>?_
 simp only[au,ab,aq,v3,lk]
 refine Iu hP.toHG fun nm S1 hnm X1 Ki=>?_
 have hh:j3 (held ds js.length):=fun w hw=>hP.jw w (pC hP.toHG _ w hw)
 generalize held ds js.length=hs at Ki hh k
 refine hN _ _ (ak fun N hN=>?_)
 simp only[au,bC,aq,List.set_cons_zero,List.set_cons_succ]
 intro pf hpf
 have X2:Ext S1 (F3 S1 pf (.lst [])):=.new hpf
 have f2:(F3 S1 pf (.lst [])) pf=some (.lst []):=aa
 have JY:=X2 _ _ Ki
 have Kg:=X1.free hpf
 have Lm:nm≠pf:=fun h=>by rw[h,hpf]at Ki;cases Ki
 have LU:Ext S (F3 S1 pf (.lst [])):=X1.trans X2
 generalize F3 S1 pf (.lst [])=S2 at X2 f2 JY LU
 have tot:=pR (q:=mq hs) hP
 refine hN _ _ (ak fun N hN=>?_)
 simp only[bM,cw,af,v3,lk,c3,ae,dH]
 refine bx (fun done σ S'=>∃(x3 x4 x5 x6 x7 x8 x9 MS MT MU MV:Option PV),σ=[some (.tup [.tup (js.map PV.str),.tup (ds.map dX)]),some (.ref nm),some (.ref pf),x3,x4,x5,x6,x7,x8,x9,MS,MT,MU,MV]/\Ext S S'/\Hm pf S2 S'/\S' pf=some (.lst ((ds.zipIdx.take done.length).flatMap fun p=>bW (mq hs) js p.2 p.1.2))) ⟨_,_,_,_,_,_,_,_,_,_,_,rfl,LU,.refl,f2⟩ (fun _ _ _ _=>trivial) ?_ ?_
 ·rintro done x rest σ S3 K e ⟨x3,x4,x5,x6,x7,x8,x9,MS,MT,MU,MV,rfl,X3,B3,f3⟩ hK
  obtain⟨y,rfl,hy⟩:=eO e
  obtain⟨⟨z,t⟩,ht,rfl⟩:∃q,ds[done.length]?=some q/\dX q=y:=by rw[List.getElem?_map]at hy;exact Option.map_eq_some_iff.mp hy
  have hm:(z,t)∈ds:=List.mem_of_getElem? ht
  have hgd:t.good js []:=hP.gd _ hm
  have Lj:t.dep<=6:=hP.dp _ hm
  have MM:t.F5+t.F7<=1000:=hP.pc _ hm
  have hsz:t.size<=60:=hP.sz _ hm
  have O8:ds.zipIdx[done.length]?=some ((z,t),done.length):=by rw[List.getElem?_zipIdx,ht];simp
  have MR:=kZ (fun p:(Str×Bd)×Nat=>bW (mq hs) js p.2 p.1.2) O8
  have KY:((ds.zipIdx.take (done.length+1)).flatMap fun p=>bW (mq hs) js p.2 p.1.2).length<=1000000:=Nat.le_trans (mT _ _ _) tot
  rw[MR,List.length_append]at KY
  generalize (ds.zipIdx.take done.length).flatMap (fun p=>bW (mq hs) js p.2 p.1.2)=acc at f3 KY MR
  simp only[dX,Tg.put,Tg.F8,List.set_cons_zero,List.set_cons_succ]
  refine ak fun N3 Ka=>?_
  simp only[au,aF,aD,ab,aq,v3,lk]
  refine JQ Lj (by omega) hgd hP.jw hh (B3 _ _ JY Lm) fun pp S4 hpp X4 f4=>?_
  simp only[bt,f4]
  have hpl:=t.Ge (mq hs)
  refine oa (fun v=>.tup [.non,t.pv,v]) f4 (fun v hv=>⟨_,rfl,fun Q q=>?_⟩) (bd (by omega)) ?_
  ·walk_at "x"
   exact q
  intro ps hps
  have X5:Ext S4 (F3 S4 ps (.lst ((t.ps (mq hs)).map fun v=>.tup [.non,t.pv,v]))):=.new hps
  have f5:(F3 S4 ps (.lst ((t.ps (mq hs)).map fun v=>.tup [.non,t.pv,v]))) ps=some (.lst ((t.ps (mq hs)).map fun v=>.tup [.non,t.pv,v])):=aa
  have Pa:=(X4.free hps)
  generalize F3 S4 ps (.lst ((t.ps (mq hs)).map fun v=>.tup [.non,t.pv,v]))=S5 at X5 f5
  have Pb:Ext S3 S5:=X4.trans X5
  refine Ka _ _ (ak fun N3 Ka=>?_)
  simp only[au,ab,aq,v3,c3,lk,List.set_cons_zero,List.set_cons_succ]
  refine JS Lj (by omega) hgd hP.jw hh (Pb _ _ (B3 _ _ JY Lm)) fun pi S6 hpi X6 f6=>?_
  refine Ka _ _ (ak fun N3 Ka=>?_)
  have NP:=X6 _ _ f5
  simp only[aP,dj,mj,aq,v3,lk,List.set_cons_zero,List.set_cons_succ,NP,true_and,aF,aD,ab]
  refine IQ Lj hsz MM hgd hP.jw hh (X6 _ _ (Pb _ _ (B3 _ _ JY Lm))) fun pr S7 M5 X7 f7=>?_
  simp only[bt,f7]
  have Rf:=X7 _ _ f6
  have P9:=X7 _ _ NP
  have hrl:=t.JR (mq hs)
  have P_:t.Kj (mq hs)=((come (mq hs) t).flatMap fun c=>(c.1.1.Hb.ps (mq hs)).map fun v=>(c,v)).map fun y=>.tup [.int (y.1.2:Int),y.2]:=by
   unfold Bd.Kj
   rw[List.map_flatMap]
   refine congrArg List.flatten (List.map_congr_left fun c _=>?_)
   unfold rh
   rw[List.map_map]
   rfl
  have hel:((come (mq hs) t).flatMap fun c=>(c.1.1.Hb.ps (mq hs)).map fun v=>(c,v)).length=(t.Kj (mq hs)).length:=by rw[P_,List.length_map]
  rw[P_]at f7 ⊢
  refine aU (fun y:Nb×PV=>PV.tup [.int (y.1.2:Int),y.2]) (fun y=>.tup [.int (y.1.2:Int),y.1.1.1.Hb.pv,y.2]) f7 _ [] (fun y hy=>⟨_,rfl,fun Q q=>?_⟩) (bd (by rw[List.length_nil,hel];omega)) fun pe Pc=>?_
  ·obtain⟨c,hc,Rg⟩:=List.mem_flatMap.mp hy
   obtain⟨v,hv,rfl⟩:=List.mem_map.mp Rg
   walk_at "x"
   simp only[Rf,u_ hc]
   exact q
  rw[List.nil_append,List.map_flatMap]
  have Rh:ps≠pe:=fun h=>by rw[<-h,P9]at Pc;cases Pc
  have No:ps≠pf:=fun h=>by rw[h,X4 _ _ f3]at hps;cases hps
  simp only[aQ,al Rh,P9,aa]
  have Ri:=sG (mq hs) t
  have htl:=xF (mq hs) t
  have Nu:(t.ps (mq hs)).map (fun v=>PV.tup [.non,t.pv,v])++((come (mq hs) t).flatMap fun c=>((c.1.1.Hb.ps (mq hs)).map fun v=>(c,v)).map fun y=>PV.tup [.int (y.1.2:Int),y.1.1.1.Hb.pv,y.2])=(HZ (mq hs) t).map fun y=>zy y.1 y.2:=by
   rw[Ri]
   congr 1
   refine congrArg List.flatten (List.map_congr_left fun c _=>?_)
   rw[List.map_map]
   rfl
  have Rj:((t.ps (mq hs)).map (fun v=>PV.tup [.non,t.pv,v])).length+((come (mq hs) t).flatMap fun c=>((c.1.1.Hb.ps (mq hs)).map fun v=>(c,v)).map fun y=>PV.tup [.int (y.1.2:Int),y.1.1.1.Hb.pv,y.2]).length<=1000:=by
   rw[<-List.length_append,Nu,List.length_map]
   omega
  refine⟨bd Rj,?_⟩
  rw[Nu]
  have Pd:S3 ps=none:=Pa
  have Rk:Ext S3 S7:=Pb.trans (X6.trans X7)
  have NQ:Ext S3 (F3 (F3 S7 pe (.lst ((come (mq hs) t).flatMap fun c=>((c.1.1.Hb.ps (mq hs)).map fun v=>(c,v)).map fun y=>PV.tup [.int (y.1.2:Int),y.1.1.1.Hb.pv,y.2]))) ps (.lst ((HZ (mq hs) t).map fun y=>zy y.1 y.2))):=(Rk.trans (.new Pc)).put Pd
  have f8:(F3 (F3 S7 pe (.lst ((come (mq hs) t).flatMap fun c=>((c.1.1.Hb.ps (mq hs)).map fun v=>(c,v)).map fun y=>PV.tup [.int (y.1.2:Int),y.1.1.1.Hb.pv,y.2]))) ps (.lst ((HZ (mq hs) t).map fun y=>zy y.1 y.2))) ps=some (.lst ((HZ (mq hs) t).map fun y=>zy y.1 y.2)):=aa
  generalize F3 (F3 S7 pe (.lst ((come (mq hs) t).flatMap fun c=>((c.1.1.Hb.ps (mq hs)).map fun v=>(c,v)).map fun y=>PV.tup [.int (y.1.2:Int),y.1.1.1.Hb.pv,y.2]))) ps (.lst ((HZ (mq hs) t).map fun y=>zy y.1 y.2))=S8 at NQ f8
  have Rl:=NQ _ _ f3
  refine Ka _ _ ?_
  simp only[bM,aD,v3,lk,bt,f8]
  have Qa:=ot (mq hs) js done.length t
  refine bx (fun Gg σ S'=>∃(x6 x9 MS MT MU MV:Option PV),σ=[some (.tup [.tup (js.map PV.str),.tup (ds.map dX)]),some (.ref nm),some (.ref pf),some (.int (done.length:Int)),some (.str z),some t.pv,x6,some (.ref ps),some (.ref pi),x9,MS,MT,MU,MV]/\Ext S S'/\Hm pf S8 S'/\S' pf=some (.lst (acc++((HZ (mq hs) t).take Gg.length).map fun y=>nB js done.length y.1 y.2))) ⟨_,_,_,_,_,_,rfl,X3.trans NQ,.refl,by simpa using Rl⟩ (fun _ _ _ ⟨_,_,_,_,_,_,_,_,B,_⟩=>B _ _ f8 No) ?_ ?_
  ·rintro Gg x LA σ S9 K9 e9 ⟨x6,x9,MS,MT,MU,MV,rfl,X9,B9,f9⟩ Rm
   have hget:((HZ (mq hs) t).map fun y=>zy y.1 y.2)[Gg.length]?=some x:=by rw[e9];simp
   obtain⟨⟨c,v⟩,hc,rfl⟩:∃y,(HZ (mq hs) t)[Gg.length]?=some y/\zy y.1 y.2=x:=by rw[List.getElem?_map]at hget;exact Option.map_eq_some_iff.mp hget
   obtain⟨hc1,hv⟩:=xG (List.mem_of_getElem? hc)
   obtain⟨gc,dc,_⟩:=lS hgd hc1
   have MP:((HZ (mq hs) t).take (Gg.length+1)).map (fun y=>nB js done.length y.1 y.2)=((HZ (mq hs) t).take Gg.length).map (fun y=>nB js done.length y.1 y.2)++[nB js done.length c v]:=by
    rw[List.take_succ,hc,List.map_append]
    rfl
   have Rn:(((HZ (mq hs) t).take Gg.length).map fun y=>nB js done.length y.1 y.2).length < (HZ (mq hs) t).length:=by
    rw[List.length_map,List.length_take]
    have:=(List.getElem?_eq_some_iff.mp hc).1
    omega
   have hdl:(bW (mq hs) js done.length t).length=(HZ (mq hs) t).length:=by rw[<-Qa,List.length_map]
   generalize ((HZ (mq hs) t).take Gg.length).map (fun y=>nB js done.length y.1 y.2)=P5 at f9 MP Rn
   simp only[zy,Tg.put,Tg.F8,List.set_cons_zero,List.set_cons_succ]
   refine ak fun N9 Ro=>?_
   simp only[se,ab,aq,af,v3,lk,c3,ae,cu]
   refine Md (by have:=hP.jl;omega) gc hv (by have:c.2.dep<=t.dep:=dc;omega) fun y Qb Pe Rp=>?_
   obtain⟨qe,qd,rfl,Rq,d10⟩:=Rp
   simp only[Tg.put,Tg.F8,List.set_cons_zero,List.set_cons_succ]
   refine Ro _ _ ?_
   have Rr:=Pe _ _ f9
   simp only[aP,dj,mj,ay,aq,ao,v3,lk,List.set_cons_zero,List.set_cons_succ,Rr,true_and,bh,oN,Rq,bp]
   refine⟨Nat.lt_of_le_of_lt (show _<=1000000 by rw[List.length_append];dsimp only at KY;omega) (by decide),Rm _ _ ⟨_,_,_,_,_,_,rfl,(X9.trans Pe).put Kg,(B9.trans fun a o h n=>Pe a o h).trans .upd,?_⟩⟩
   rw[aa,List.length_append,List.length_singleton,MP,<-List.append_assoc]
   rfl
  ·rintro σ S9 ⟨x6,x9,MS,MT,MU,MV,rfl,X9,B9,f9⟩
   refine hK _ _ ⟨_,_,_,_,_,_,_,_,_,_,_,rfl,X9,(B3.trans fun a o h n=>NQ a o h).trans B9,?_⟩
   rw[f9,List.length_map,List.take_length,Qa,List.length_append,List.length_singleton,MR]
 ·rintro σ S3 ⟨x3,x4,x5,x6,x7,x8,x9,MS,MT,MU,MV,rfl,X3,B3,f3⟩
  refine hN _ _ ?_
  walk_at "x"
  simp only[f3]
  have:(L3.aR (ds.map dX)).length=ds.zipIdx.length:=by simp[L3.aR]
  rw[this,List.take_length]
  exact k S3 X3
def zz(q:Qs)(js:Vs)(ds:List (Str×Bd)):xC q ds=((DU q js ds).length:Int):=by
 have one:∀(d:Nat) (t:Bd),(qW q t).sum=((bW q js d t).length:Int):=by
  intro d t
  unfold qW bW
  induction m7 q t with
  |nil=>rfl
  |cons x r ih=>rw[List.map_cons,List.sum_cons,List.flatMap_cons,List.length_append,Int.natCast_add,ih];unfold xy cn;rw[List.length_map]
 have all:∀(ds:List (Str×Bd)) (n:Nat),xC q ds=(((ds.zipIdx n).flatMap fun p=>bW q js p.2 p.1.2).length:Int):=by
  intro ds
  induction ds with
  |nil=>intro n;rfl
  |cons p r ih=>
   intro n
   have:=ih (n+1)
   unfold xC at this ⊢
   rw[List.map_cons,List.sum_cons,List.zipIdx_cons,List.flatMap_cons,List.length_append,Int.natCast_add,<-this,one n p.2]
 exact all ds 0
def zA{S:aC}{q:Qs}{js:Vs}{t:Bd}(hg:t.good js [])(hd:t.dep<=6)(hj:js.length<=1000){d:Nat}{r:PV}(hr:r∈bW q js d t):Kv S 11 r r:=by
 obtain⟨x,hx,hr⟩:=List.mem_flatMap.mp hr
 obtain⟨v,hv,rfl⟩:=List.mem_map.mp hr
 obtain⟨gx,dx,_⟩:=lS hg hx
 have hn:Kv S 10 x.1 x.1:=by
  rcases List.mem_cons.mp hx with rfl|h
  ·exact .non
  ·obtain⟨c,_,rfl⟩:=List.mem_map.mp h
   exact .int _
 have ok:=bQ x.2 v gx (fo q x.2 v hv).1
 have hes:(x.2.IM js v).es.length<=1000:=by unfold Ty.es;rw[List.length_map,ok.1];exact hj
 unfold nB
 refine .tup rfl (show 5<=1000000 by decide) fun p hp=>?_
 obtain⟨hm,e⟩:=ip hp
 rw[e]
 simp only[List.mem_cons,List.not_mem_nil,or_false]at hm
 rcases hm with h|h|h|h|h
 ·rw[h];exact .int _
 ·rw[h];exact hn
 ·rw[h]
  unfold cf
  refine .tup rfl (show 2<=1000000 by decide) fun p hp=>?_
  obtain⟨hm,e⟩:=ip hp
  rw[e]
  simp only[List.mem_cons,List.not_mem_nil,or_false]at hm
  rcases hm with h|h<;>rw[h]<;>exact .int _
 ·rw[h]
  refine .tup rfl (by omega) fun p hp=>?_
  obtain⟨hm,e⟩:=ip hp
  rw[e]
  obtain⟨y,_,hy⟩:=List.mem_map.mp hm
  rw[<-hy]
  exact .int _
 ·rw[h]
  exact .same ((x.2.IP q v hv).mono (Nat.le_refl _) (show x.2.dep<=9 by omega)) (by decide)
abbrev k6(w:ax):Prop:=∀{S:aC} {js:Vs} {ds:List (Str×Bd)} {Q:bJ} {E:b6},HP js ds->(∀S',Ext S S'->Q (.bl true) S')->w [GN js ds] S Q E
def Jf{x0 x1 x2 x3:ax}(Js:jC x0)(Jg:cH 12 x1)(JT:k4 x2)(Je:kl x3):k6 (F_ 2 (gJ x0 x1 x2 x3)):=by
 intro S js ds Q E hP k
 unfold gJ
 refine cP ?_
 rw[show av 2 [GN js ds]=[some (GN js ds),none] from rfl]
 refine ak fun N hN=>?_
 simp only[au,ab,aq,v3,lk]
 refine Js hP fun S1 X1=>?_
 refine hN _ _ ?_
 simp only[aw,bX,ab,aq,ao,v3,lk,List.set_cons_zero,List.set_cons_succ]
 refine JT hP fun hs S2 hf X2=>?_
 rw[lO hf]
 refine Jg (.tup rfl (pR hP) fun p hp=>?_) fun S3 X3=>?_
 ·obtain⟨hm,e⟩:=ip hp
  rw[e]
  obtain⟨y,hy,hr⟩:=List.mem_flatMap.mp hm
  have hm2:=List.fst_mem_of_mem_zipIdx hy
  exact zA (hP.gd _ hm2) (hP.dp _ hm2) hP.jl hr
 simp only[if_true]
 refine Je hP.toHG fun hs2 S4 hf2 X4=>?_
 simp only[cr]
 rw[show mq hs2=mq hs from (lO hf2).symm.trans (lO hf),zz (mq hs) js ds]
 exact Jg (.int _) fun S5 X5=>k S5 (X1.trans (X2.trans (X3.trans (X4.trans X5))))
def Ku{x0 x1 x2:ax}(F6:bY x0)(LG:dv x1)(LH:iq x2):dv (F_ 1 (dC x0 x1 x2)):=by
 intro S d l Q E D k
 unfold dC
 refine cP ?_
 rw[show av 1 [PV.ref d]=[some (.ref d)] from rfl]
 refine ak fun N hN=>?_
 simp only[bg,aO,af,ab,aq,v3,lk,c3]
 refine F6 D (by decide) (by decide) fun r S1 r0 r1 D1 O1=>?_
 simp only[a_,Bool.false_bne,decide_eq_true_eq]
 split
 ·walk_at "x"
  exact LG D1 fun js ds S2 h D2 O2=>k js ds S2 h D2 (O1.trans O2)
 ·simp only[aN]
  refine hN _ _ ?_
  walk_at "x"
  exact LH (most:=4) (many:=4) (size:=20) D1 (by decide) (by decide) (by decide) (by decide) (by decide) fun js ds S2 h h1 h4 hj hp D2 O2=>k js ds S2 ⟨⟨fun z hz=>kN (h.jw z hz),by omega,by omega,h.gd,h.dq,h.sz⟩,hp⟩ D2 (O1.trans O2)
def sH{S S':aC}{d l d' l':Addr}(D:Gc S d l)(O:GV d' l' S S')(h1:S d'=none)(h2:S l'=none):Gc S' d l:=
 D.ext fun a o h=>O a o h (fun e=>by rw[e,h1]at h;cases h) fun e=>by rw[e,h2]at h;cases h
abbrev zB(w:ax):Prop:=∀{ns:Vu} {S:aC} {Q:bJ} {E:b6},ns.length<=63->(∀S',Q (.bl true) S')->w [.cl (ns.map PV.int)] S Q E
def B6{x0 x1 x2 x3 x4 x5 x6 x7:ax}(JG:qD x0)(Ku:dv x1)(JU:k5 x2)(MW:mS x3)(Jf:k6 x4)(Jg:cH 12 x5)(K1:jB x7)(Je:kl x6):zB (F_ 5 (xv x0 x1 x2 x3 x4 x5 x6 x7)):=by
 intro ns S Q E hl k
 unfold xv
 refine cP ?_
 rw[show av 5 [PV.cl (ns.map PV.int)]=[some (.cl (ns.map PV.int)),none,none,none,none] from rfl]
 refine ak fun N hN=>?_
 walk_at "x"
 refine JG hl (by decide) (by decide) fun d l S1 _ _ D1 _=>?_
 refine hN _ _ (ak fun N hN=>?_)
 walk_at "x"
 refine Ku D1 fun js ds S2 hP D2 O2=>?_
 refine hN _ _ (ak fun N hN=>?_)
 walk_at "x"
 refine JG hl (by decide) (by decide) fun d' l' S3 e1 e2 D3 X3=>?_
 refine Ku D3 fun Me ds' S4 hP' D4 O4=>?_
 have Rs:Gc S4 d l:=sH D2 (fun a o h n1 n2=>O4 a o (X3 a o h) n1 n2) e1 e2
 refine hN _ _ (ak fun N hN=>?_)
 walk_at "x"
 refine JU Rs fun Rt Ru S5 hG O5=>?_
 refine hN _ _ (ak fun N hN=>?_)
 have fin:∀S6,N [some (.cl (ns.map PV.int)),some (.ref d),some (GN js ds),some (GN Me ds'),some (GN Rt Ru)] S6:=by
  intro S6
  refine hN _ _ ?_
  simp only[aw,bX,ab,aq,v3,lk]
  refine Je hG fun hs S7 hf X7=>?_
  refine K1 hG fun S8 X8=>?_
  rw[lO hf]
  refine Jg (.int _) fun S9 X9=>?_
  simp only[if_true]
  exact Jf hP fun Qb _=>k Qb
 simp only[bg,rV,aO,ao,aq,aF,aD,af,ab,bC,v3,lk,List.set_cons_zero,List.set_cons_succ]
 refine MW hP fun p hs S5 hp X5 f5 hl4 Rv=>?_
 intro p2 hp2
 have n2:p≠p2:=fun h=>by rw[h,hp2]at f5;cases f5
 simp only[aS,al n2,f5,aa]
 refine⟨bd (by rw[List.length_map];simp;omega),fun p3 hp3=>?_⟩
 have f6:(F3 (F3 S5 p2 (.lst [GN Me ds'])) p3 (.lst (hs.map (GN js)++[GN Me ds']))) p3=some (.lst (hs.map (GN js)++[GN Me ds'])):=aa
 generalize F3 (F3 S5 p2 (.lst [GN Me ds'])) p3 (.lst (hs.map (GN js)++[GN Me ds']))=S6 at f6
 simp only[bt,f6]
 have good:∀v∈hs.map (GN js)++[GN Me ds'],∃j e,v=GN j e/\HP j e:=by
  intro v hv
  rcases List.mem_append.mp hv with h|h
  ·obtain⟨e,he,rfl⟩:=List.mem_map.mp h;exact⟨js,e,rfl,Rv e he⟩
  ·rw[List.mem_singleton.mp h];exact⟨_,_,rfl,hP'⟩
 have hlen:(hs.map (GN js)++[GN Me ds']).length<=6:=by rw[List.length_append,List.length_map];simp;omega
 generalize hs.map (GN js)++[GN Me ds']=vs at f6 good hlen
 refine dU (fun done ys S'=>Ext S6 S'/\done.length<=vs.length/\ys=List.replicate done.length (.bl true)) ⟨.refl,Nat.zero_le _,rfl⟩ (fun done ys S' ⟨X,l,e⟩=>⟨X _ _ f6,bd (by rw[e,List.length_replicate];omega)⟩) ?_ ?_
 ·rintro done x rest ys S' K e ⟨X,l,rfl⟩ hK
  obtain⟨j,ee,rfl,hg⟩:=good x (by rw[e];simp)
  simp only[Tg.put,eg,List.reduceReplicate,List.map_nil,List.append_nil,List.set_cons_zero,bm,if_true,ab,aq,v3,lk]
  refine Jf hg fun S7 X7=>hK _ _ ⟨X.trans X7,?_,?_⟩
  ·have:vs.length=done.length+(rest.length+1):=by rw[e,List.length_append,List.length_cons]
   rw[List.length_append,List.length_singleton];omega
  ·rw[List.length_append,List.length_singleton,List.replicate_succ']
 ·rintro ys S' ⟨X,_,rfl⟩ p hp
  simp only[r9,aa,om]
  rw[show(List.replicate vs.length true).all id=true by simp]
  simp only[if_true,Bool.not_true,Bool.false_eq_true,if_false,aN]
  exact fin _
def gL:bY w__law_draw:=F6
def Ar:lN eX:=JJ
def pS:fL cY:=Hj gL
def xH:jS iC:=I_ gL Ar
def xI:jT cL:=G0 gL xH
def zC:kW cL:=wZ gL xH
theorem sI:∀n,im n (fi n)
 |0=>fun _ _ _ _ _ _ _ h0 h1 _=>by omega
 |n+1=>Ja gL xI n (sI n)
theorem qY:∀n,du n (b4 n)
 |0=>fun h _ _=>absurd h (by have:=Bd.Gf;exact Nat.not_le.mpr (this _))
 |n+1=>uO n (qY n)
def qZ:du 12 b5:=qY 12
theorem q_:∀n,n<=12->gh n (bV n)
 |0,_=>fun h _ _=>absurd h (by have:=Bd.Gf;exact Nat.not_le.mpr (this _))
 |n+1,hn=>uP n 12 qZ (q_ n (by omega)) (by omega)
def Fo:gj dB:=oZ 12 (by decide) (sI 12) qZ (q_ 12 (by decide)) xI
def zD:iq gC:=sA pS gL Fo
def zE:dv gH:=u6 pS gL zC
def DV:dv dD:=Ku gL zE zD
theorem DW:∀n,pD n (cZ n)
 |0=>fun h _ _ _ _=>absurd h (by have:=Bd.Gf;exact Nat.not_le.mpr (this _))
 |n+1=>LD n (DW n)
def DX:mS jA:=zp fun h g a b c=>DW 12 (Nat.le_trans h (by decide)) g a b c
theorem pU:∀n,cH n (eE n)
 |0=>fun h _=>by cases h
 |n+1=>u5 n (pU n)
theorem pV:∀n,bZ n (dM n)
 |0=>fun h _ _ _ _ _ _=>absurd h (by have:=Bd.Gf;exact Nat.not_le.mpr (this _))
 |n+1=>JQ n (pV n)
theorem xJ:∀n,iL n (fj n)
 |0=>fun h _ _ _ _ _ _ _ _=>absurd h (by have:=Bd.Gf;exact Nat.not_le.mpr (this _))
 |n+1=>wV n (xJ n)
def tX:iM cE:=Iu fun h a b c e f g i j=>xJ 12 (Nat.le_trans h (by decide)) a b c e f g i j
def tY:iJ gr:=Is
theorem tZ:∀n,fe n (gw n)
 |0=>fun h _ _=>absurd h (by have:=Bd.Gf;exact Nat.not_le.mpr (this _))
 |n+1=>JL tY n (tZ n)
def xK:kP 12 pE:=uR 12 (tZ 12)
theorem t4:∀n,iK n (dJ n)
 |0=>fun h _=>absurd h (by have:=Bd.Gf;exact Nat.not_le.mpr (this _))
 |n+1=>wJ n (t4 n)
theorem As:∀n,n<=12->jX n (dL n)
 |0,_=>fun h _ _ _=>absurd h (by have:=Bd.Gf;exact Nat.not_le.mpr (this _))
 |n+1,hn=>zh n 12 (by omega) xK (t4 12) (As n (by omega))
theorem B8:∀n,mP n (cA n)
 |0=>fun h _ _ _ _ _ _=>absurd h (by have:=Bd.Gf;exact Nat.not_le.mpr (this _))
 |n+1=>KF tY n (B8 n)
def B_:mQ iw:=Ke (fun h a b c d e f=>B8 12 (Nat.le_trans h (by decide)) a b c d e f) (fun h a b c=>As 12 (by decide) (Nat.le_trans h (by decide)) a b c)
def m6:eu gy:=qL (IN B_)
theorem xL:∀n,bZ ((n+1) / 2) (iz n)/\kU (n / 2) (dy n)
 |0=>⟨fun h _ _ _ _ _ _=>absurd h (by have:=Bd.Gf;exact Nat.not_le.mpr (this _)),fun h _ _ _ _ _ _ _=>absurd h (by have:=Bd.Gf;exact Nat.not_le.mpr (this _))⟩
 |n+1=>by
  obtain⟨a,b⟩:=xL n
  refine⟨?_,?_⟩
  ·rw[show(n+1+1) / 2=n / 2+1 by omega]
   exact fun{S t js us hs nm Q E} h1 h2 h3 h4 h5 h6 h7=>H_ (n / 2) b (fun g1 g2 g3 g4 g5 g6 g7=>a (Nat.le_trans g1 (by omega)) g2 g3 g4 g5 g6 g7) (S:=S) (t:=t) (js:=js) (us:=us) (hs:=hs) (nm:=nm) (Q:=Q) (E:=E) h1 h2 h3 h4 h5 h6 h7
  ·exact fun{S x y js us hs nm Q E} h1 h2 h3 h4 h5 h6 h7 h8=>wX (s0:=dy n) ((n+1) / 2) a (S:=S) (a:=x) (b:=y) (js:=js) (us:=us) (hs:=hs) (nm:=nm) (Q:=Q) (E:=E) h1 h2 h3 h4 h5 h6 h7 h8
def Ca:mU dz:=Kk fun h a b c d e f=>B8 12 (Nat.le_trans h (by decide)) a b c d e f
theorem sJ:∀n,eQ n (dO n)
 |0=>fun h _ _ _ _ _ _=>absurd h (by have:=Bd.Gf;exact Nat.not_le.mpr (this _))
 |n+1=>zr n (sJ n)
def va:ir fD:=IQ (fun h a b c d e f=>sJ 12 (Nat.le_trans h (by decide)) a b c d e f) (fun h a b c d e f=>pV 12 (Nat.le_trans h (by decide)) a b c d e f)
def Cb:fN sF:=Jb (Iz Iy)
def zF:kR pH:=JN (Iz Iy)
def re:gm fP:=Hd JO Cb
def zG:kS lR:=JP Kc zF
def xM:ju cC:=Jo GY
theorem At:∀n,j1 ((n+1) / 2) (jx n)/\mN (n / 2) (dA n)
 |0=>⟨fun _ _ _ _ h _=>absurd h (by have:=Bd.Gf;exact Nat.not_le.mpr (this _)),fun _ _ _ _ h _=>absurd h (by have:=Bd.Gf;exact Nat.not_le.mpr (this _))⟩
 |n+1=>by
  obtain⟨a,b⟩:=At n
  refine⟨?_,?_⟩
  ·rw[show(n+1+1) / 2=n / 2+1 by omega]
   exact fun{S js us t v Q E} h1 h2 h3 h4 h5 h6=>KQ IA GY re Jn xM (n / 2) b (fun g1 g2 g3 g4 g5 g6=>a g1 g2 g3 g4 (Nat.le_trans g5 (by omega)) g6) (S:=S) (js:=js) (us:=us) (t:=t) (v:=v) (Q:=Q) (E:=E) h1 h2 h3 h4 h5 h6
  ·exact fun{S js us t v Q E} h1 h2 h3 h4 h5 h6=>uX (s0:=dA n) IA re zG ((n+1) / 2) a (S:=S) (js:=js) (us:=us) (a:=t) (v:=v) (Q:=Q) (E:=E) h1 h2 h3 h4 h5 h6
def zH:fN iB:=wL Ar
def Cc:kT jz:=zu zH
theorem xN:∀n,iO n (eF n)
 |0=>fun _ _ _ h _=>absurd h (by have:=Bd.Gf;exact Nat.not_le.mpr (this _))
 |n+1=>xx Cc n (xN n)
def DY:pP b3:=KL Ca
def zI:k4 pJ:=JT m6 DY (xL 12).1 (At 12).1
theorem Au:∀n,fq n (eB n)
 |0=>fun h _ _ _ _ _ _=>absurd h (by have:=Bd.Gf;exact Nat.not_le.mpr (this _))
 |n+1=>KZ n (Au n)
def xO:kl eC:=Je m6 DY fun h a b c d e f=>Au 12 (Nat.le_trans h (by decide)) a b c d e f
theorem Av:∀n,fq n (cm n)
 |0=>fun h _ _ _ _ _ _=>absurd h (by have:=Bd.Gf;exact Nat.not_le.mpr (this _))
 |n+1=>B2 n (Av n)
def Aw:eQ 6 cy:=fun h a b c d e f=>sJ 12 (Nat.le_trans h (by decide)) a b c d e f
def zJ:bZ 6 dN:=fun h a b c d e f=>pV 12 (Nat.le_trans h (by decide)) a b c d e f
def DZ:jB dF:=K1 tX (fun h a b c d e f=>Av 12 (Nat.le_trans h (by decide)) a b c d e f) Aw
def zK:k5 cJ:=JU pS gL 12 (by decide) (sI 12)
def xP:jC gG:=Js tX zJ Aw va (xN 12)
def zL:k6 gK:=Jf xP (pU 12) zI xO
def xQ:∀ns:List Int,ns.length<=63->qV [.cl (ns.map PV.int)] (fun _=>none) (fun v _=>v = .bl true) d4:=fun ns h=>B6 JG DV zK DX zL (pU 12) DZ xO h fun _=>rfl
end G32
namespace L3
open PySem L2 Xc
def nC{P:List Value->Prop}(h:∀a,P [a])(us:Vv)(hl:us.length=1):P us:=match us,hl with|[_],_=>h _
def jD{P:List Value->Prop}(h:∀a b,P [a,b])(us:Vv)(hl:us.length=2):P us:=match us,hl with|[_,_],_=>h _ _
def Ax{P:List Value->Prop}(h:∀a b c,P [a,b,c])(us:Vv)(hl:us.length=3):P us:=match us,hl with|[_,_,_],_=>h _ _ _
def Fp{P:List Value->Prop}(h:∀a b c d,P [a,b,c,d])(us:Vv)(hl:us.length=4):P us:=match us,hl with|[_,_,_,_],_=>h _ _ _ _
section
variable {K:Vo} {h:Heap} {mg:Vr} {x c m q:Str} {st:Stmt} {ps fl:Vs}
noncomputable def zM:Option (Option Value)->Bool
 |some none=>true
 |_=>false
def zN{o:Option (Option Value)}(h:zM o=true):o=some none:=by
 unfold zM at h;split at h
 ·rfl
 ·cases h
def FnAt(K:Vo)(f:Addr)(m q:Str)(st:Stmt):Prop:=∃(oc kV doc pm cdv ct:Value) (od an:Option Addr) (osl:Array (Option Value)),
 K.lookup f=some ⟨oc,od,.func (PySem.W.fnOf m q (b8 st) (bv st) (aM st) .none kV doc pm an cdv ct),osl⟩/\PySem.W.codeIn K cdv q=true/\PySem.W.keepIn K (.ref f)=true
abbrev xR(m q:Str)(st:Stmt)(ps:Vs):Prop:=∀(kV doc pm:Value) (an:Option Addr) (cdv ct:Value) (us:Vv),us.length=ps.length->bindArgs (PySem.W.fnOf m q (b8 st) (bv st) (aM st) .none kV doc pm an cdv ct) ⟨us,[]⟩=pure (ps.zip us)
def FnAt.mk{f:Addr}(a:FnAt K f m q st)(hb:xR m q st ps):∃fd,Mf K m q st f fd/\Binds K fd ps []/\PySem.W.keepIn K (.ref f)=true:=by
 obtain⟨oc,kV,doc,pm,cdv,ct,od,an,osl,l,cc,k⟩:=a
 exact⟨_,oD l cc k,(oD l cc k).binds hb,k⟩
def GC(K:Vo)(x:Str)(st:Stmt):Prop:=∃f,PySem.W.nsIn K mainGlobals x=some (some (.ref f))/\FnAt K f x x st
def GC.own(X:K.In h)(G:h.Ns mainGlobals mg)(a:GC K x st)(hb:xR x x st ps):aZ K mg x st ps:=by
 obtain⟨f,n,a⟩:=a
 obtain⟨fd,F,b,k⟩:=a.mk hb
 exact⟨f,fd,F,b,k,PySem.W.mg_of X G n⟩
def GC.law{fa:Addr}(X:K.In h)(G:h.Ns mainGlobals mg)(a:GC K x st)(hfa:mg x=some (.ref fa))(hb:xR x x st ps):∃kV doc pm an cdv ct,El K mg x st ps fa (PySem.W.fnOf x x (b8 st) (bv st) (aM st) .none kV doc pm an cdv ct):=by
 obtain⟨f,n,oc,kV,doc,pm,cdv,ct,od,an,osl,l,cc,k⟩:=a
 cases hfa.symm.trans (PySem.W.mg_of X G n)
 exact⟨kV,doc,pm,an,cdv,ct,oD l cc k,(oD l cc k).binds hb,k,hfa⟩
def NR(P:Program)(w:World)(K:Vo)(x:Str)(kvs:List (bI×V)):Prop:=∃a o,PySem.W.nsIn K mainGlobals x=some (some (.ref a))/\K.lookup a=some o/\(a == sysModules)=false/\∃vs,KV kvs vs/\Obj.IsDictOf (bf P w) o vs
def NR.kd{P:Program}{w:World}{kvs:List (bI×V)}(X:K.In h)(G:h.Ns mainGlobals mg)(a:NR P w K x kvs):∃a,mg x=some (.ref a)/\KD P w K a kvs:=by
 obtain⟨a,o,n,l,s,vs,h1,h2⟩:=a
 exact⟨a,PySem.W.mg_of X G n,s,o,vs,l,h1,h2⟩
def km(X:K.In h)(G:h.Ns mainGlobals mg){l:Vs}(a:(l.all fun x=>zM (PySem.W.nsIn K mainGlobals x))=true)(hx:x∈l:=by decide):mg x=none:=PySem.W.mg_none_of X G (zN (List.all_eq_true.mp a x hx))
section
variable {f C:Addr} {oc kV doc pm cdv ct:Value} {od an:Option Addr} {osl:Array (Option Value)}
def F0(n:PySem.W.nsIn K mainGlobals x=some (some (.ref f)))(l:K.lookup f=some ⟨oc,od,.func (PySem.W.fnOf x x (b8 st) (bv st) (aM st) .none kV doc pm an cdv ct),osl⟩)(cc:PySem.W.codeIn K cdv x=true)(k:PySem.W.keepIn K (.ref f)=true):GC K x st:=⟨f,n,oc,kV,doc,pm,cdv,ct,od,an,osl,l,cc,k⟩
def F1{P:Program}{w:World}{kvs:List (bI×V)}{o:Obj}(n:PySem.W.nsIn K mainGlobals x=some (some (.ref f)))(l:K.lookup f=some o)(s:(f == sysModules)=false)(v:∃vs,KV kvs vs/\Obj.IsDictOf (bf P w) o vs):NR P w K x kvs:=⟨f,o,n,l,s,v⟩
end
end
section
variable {K:Vo} {h:Heap} {mg:Vr} {x:Str} {st:Stmt} {ps:Vs}
def NS(K:Vo)(x:Str)(st:Stmt):Prop:=∃(f T:Addr) (oc kV doc pm cdv ct:Value) (od an:Option Addr) (osl:Array (Option Value)) (oT:Obj) (nT:Nat),PySem.W.nsIn K mainGlobals x=some (some (.ref f))/\
 K.lookup f=some ⟨oc,od,.func (PySem.W.fnOf x x (b8 st) (bv st) (aM st) (.ref T) kV doc pm an cdv ct),osl⟩/\PySem.W.codeIn K cdv x=true/\PySem.W.keepIn K (.ref f)=true/\K.lookup T=some oT/\oT.data = .seq #[.bool true] nT
abbrev Ay(x:Str)(st:Stmt)(ps:Vs):Prop:=∀(s:Shared) (T:Addr) (oT:Obj) (nT:Nat) (kV doc pm cdv ct:Value) (an:Option Addr) (us:Vv),oT.data = .seq #[.bool true] nT->us.length=ps.length->s.heap.get? T=some oT->BindsTo s (PySem.W.fnOf x x (b8 st) (bv st) (aM st) (.ref T) kV doc pm an cdv ct) ⟨us,[]⟩ (ps.zip us)
abbrev Az(x:Str)(st:Stmt)(ps:Vs):Prop:=∀(s:Shared) (T:Addr) (oT:Obj) (nT:Nat) (kV doc pm cdv ct:Value) (an:Option Addr) (us:Vv),oT.data = .seq #[.bool true] nT->us.length+1=ps.length->s.heap.get? T=some oT->BindsTo s (PySem.W.fnOf x x (b8 st) (bv st) (aM st) (.ref T) kV doc pm an cdv ct) ⟨us,[]⟩ (ps.zip (us++[.bool true]))
def NS.own(X:K.In h)(G:h.Ns mainGlobals mg)(a:NS K x st)(hb:Ay x st ps)(hd:Az x st ps):qx K mg x st ps:=by
 obtain⟨f,T,oc,kV,doc,pm,cdv,ct,od,an,osl,oT,nT,n,l,c,k,lT,sT⟩:=a
 exact⟨T,f,_,⟨⟨oc,od,kV,doc,pm,an,cdv,ct,osl,rfl,l,c⟩,k⟩,fun s us KI hl=>by rw[List.append_nil]at hl ⊢;exact hb _ _ _ _ _ _ _ _ _ _ us sT hl (KI T oT lT),fun s us KI hl=>hd _ _ _ _ _ _ _ _ _ _ us sT (by rw[List.length_append]at hl;exact hl) (KI T oT lT),k,PySem.W.mg_of X G n⟩
def F2{f T:Addr}{oc kV doc pm cdv ct:Value}{od an:Option Addr}{osl:Array (Option Value)}{oT:Obj}{nT:Nat}(n:PySem.W.nsIn K mainGlobals x=some (some (.ref f)))(l:K.lookup f=some ⟨oc,od,.func (PySem.W.fnOf x x (b8 st) (bv st) (aM st) (.ref T) kV doc pm an cdv ct),osl⟩)(c:PySem.W.codeIn K cdv x=true)(k:PySem.W.keepIn K (.ref f)=true)
  (lT:K.lookup T=some oT) (sT:oT.data = .seq #[.bool true] nT):NS K x st:=⟨f,T,oc,kV,doc,pm,cdv,ct,od,an,osl,oT,nT,n,l,c,k,lT,sT⟩
end
end L3
namespace G32
open PySem L2 L3
def k7:Ay "parts_reached" (bc 10) ["body","names","reached"]:=fun _ _ _ _ _ _ _ _ _ _ us sT hl hT=>Ax (P:=fun us=>BindsTo _ _ ⟨us,[]⟩ ((["body","names","reached"]:Vs).zip us)) (fun _ _ _=>by refine BindsTo.of_defaults rfl hT sT rfl ?_;rfl) us hl
def k8:Az "parts_reached" (bc 10) ["body","names","reached"]:=fun _ _ _ _ _ _ _ _ _ _ us sT hl hT=>jD (P:=fun us=>BindsTo _ _ ⟨us,[]⟩ ((["body","names","reached"]:Vs).zip (us++[.bool true]))) (fun _ _=>by refine BindsTo.of_defaults rfl hT sT rfl ?_;rfl) us (Nat.succ.inj hl)
def Cd{l:PySem.W.OpenLaw}{w:World}{K:Vo}{h:Heap}{mg:Vr}{fa:Addr}(X:K.In h)(G:h.Ns mainGlobals mg)(hfa:mg "law" = some (.ref fa))
  (Ic:GC K "sides_of" (bc 2))
  (Ie:GC K "parts_in" (bc 3))
  (Jt:GC K "parts" (bc 4))
  (IV:GC K "chosen" (bc 6))
  (G7:GC K "plain_trace" (bc 7))
  (G8:GC K "led_to_part" (bc 8))
  (GS:NS K "parts_reached" (bc 10))
  (HF:GC K "next_step" (bc 11))
  (Iw:GC K "filling" (bc 12))
  (Ig:GC K "fillable" (bc 13))
  (GF:GC K "passes_of_then" (bc 15))
  (HH:GC K "passes_of" (bc 16))
  (GG:GC K "oftens_come_to" (bc 17))
  (IW:GC K "common" (bc 19))
  (Ih:GC K "fraction" (bc 20))
  (JV:GC K "plus" (bc 21))
  (Ju:GC K "times" (bc 22))
  (HI:GC K "things_of" (bc 24))
  (Jv:GC K "added" (bc 25))
  (Hn:GC K "multiplied" (bc 26))
  (Ii:GC K "no_tally" (bc 27))
  (IY:GC K "behind" (bc 28))
  (Jw:GC K "again" (bc 29))
  (GH:GC K "tally_of_often" (bc 30))
  (GT:GC K "tally_of_take" (bc 31))
  (Ij:GC K "tally_of" (bc 32))
  (GA:GC K "numbered_bodies" (bc 34))
  (Jx:GC K "lines" (bc 35))
  (Ho:GC K "pass_count" (bc 36))
  (Hq:GC K "line_count" (bc 37))
  (HJ:GC K "_law_deal" (bc 39))
  (HK:GC K "_law_draw" (bc 40))
  (Hr:GC K "_law_words" (bc 41))
  (Ik:GC K "_law_low" (bc 42))
  (HL:GC K "_law_plus" (bc 43))
  (Hs:GC K "_law_times" (bc 44))
  (HM:GC K "_law_cost" (bc 45))
  (HN:GC K "_law_leaf" (bc 46))
  (HQ:GC K "_law_body" (bc 47))
  (GB:GC K "_law_pass_count" (bc 48))
  (Gr:GC K "_law_round_count" (bc 49))
  (GI:GC K "_law_deed_body" (bc 50))
  (Ht:GC K "_law_house" (bc 51))
  (HR:GC K "_law_puts" (bc 52))
  (GU:GC K "_law_fillable" (bc 53))
  (Hu:GC K "_law_alike" (bc 54))
  (Il:GC K "_law_sum" (bc 55))
  (HS:GC K "_law_many" (bc 56))
  (Hv:GC K "_law_tally" (bc 57))
  (G9:GC K "_law_passes" (bc 58))
  (G_:GC K "_law_oftens" (bc 59))
  (Ha:GC K "_law_rounds" (bc 60))
  (Hw:GC K "_law_lines" (bc 61))
  (Hx:GC K "_law_chain" (bc 62))
  (GJ:GC K "_law_any_house" (bc 63))
  (GK:GC K "_law_pass_many" (bc 64))
  (GZ:GC K "_law_swapped" (bc 65))
  (Im:GC K "_law_kin" (bc 66))
  (GL:GC K "_law_line_many" (bc 67))
  (Gs:GC K "_law_great_house" (bc 68))
  (Hy:GC K "_law_right" (bc 69))
  (Hz:NR l.prog w K "SIDES_FROM" (C.k_SIDES_FROM.map fun kv=>(kv.1,V.int kv.2)))
  (KN:((["abs","all","bool","enumerate","int","isinstance","len","list","max","range","reversed","sum","tuple","zip"]:Vs).all fun x=>zM (PySem.W.nsIn K mainGlobals x))=true)
  (LJ:GC K "law" (bc 70))
  : ∃fd:FuncData,(∀(s:Shared) (v:Value),BindsTo s fd ⟨[v],[]⟩ [("_law_script",v)])/\∀base:Heap,K.In base->base.Ns mainGlobals mg->m9 l.prog w K mg base xT 32 fa fd ["_law_script"] (Dk K 1 qV):=by
 obtain⟨kV,doc,pm,an,cdv,ct,O⟩:=LJ.law X G hfa (ps:=["_law_script"]) (fun _ _ _ _ _ _=>nC fun _=>rfl)
 exact⟨_,fun s v=>.of_eq rfl,fun base _ _=>(B1 (P:=l.prog) (w:=w) (base:=base) ⟨Ic.own X G (fun _ _ _ _ _ _=>nC fun _=>rfl),
  Ie.own X G (fun _ _ _ _ _ _=>nC fun _=>rfl),
  Jt.own X G (fun _ _ _ _ _ _=>nC fun _=>rfl),
  IV.own X G (fun _ _ _ _ _ _=>jD fun _ _=>rfl),
  G7.own X G (fun _ _ _ _ _ _=>nC fun _=>rfl),
  G8.own X G (fun _ _ _ _ _ _=>Ax fun _ _ _=>rfl),
  GS.own X G k7 k8,
  HF.own X G (fun _ _ _ _ _ _=>jD fun _ _=>rfl),
  Iw.own X G (fun _ _ _ _ _ _=>nC fun _=>rfl),
  Ig.own X G (fun _ _ _ _ _ _=>nC fun _=>rfl),
  GF.own X G (fun _ _ _ _ _ _=>jD fun _ _=>rfl),
  HH.own X G (fun _ _ _ _ _ _=>jD fun _ _=>rfl),
  GG.own X G (fun _ _ _ _ _ _=>jD fun _ _=>rfl),
  IW.own X G (fun _ _ _ _ _ _=>jD fun _ _=>rfl),
  Ih.own X G (fun _ _ _ _ _ _=>jD fun _ _=>rfl),
  JV.own X G (fun _ _ _ _ _ _=>jD fun _ _=>rfl),
  Ju.own X G (fun _ _ _ _ _ _=>jD fun _ _=>rfl),
  HI.own X G (fun _ _ _ _ _ _=>Ax fun _ _ _=>rfl),
  Jv.own X G (fun _ _ _ _ _ _=>jD fun _ _=>rfl),
  Hn.own X G (fun _ _ _ _ _ _=>jD fun _ _=>rfl),
  Ii.own X G (fun _ _ _ _ _ _=>nC fun _=>rfl),
  IY.own X G (fun _ _ _ _ _ _=>jD fun _ _=>rfl),
  Jw.own X G (fun _ _ _ _ _ _=>jD fun _ _=>rfl),
  GH.own X G (fun _ _ _ _ _ _=>Ax fun _ _ _=>rfl),
  GT.own X G (fun _ _ _ _ _ _=>jD fun _ _=>rfl),
  Ij.own X G (fun _ _ _ _ _ _=>Ax fun _ _ _=>rfl),
  GA.own X G (fun _ _ _ _ _ _=>jD fun _ _=>rfl),
  Jx.own X G (fun _ _ _ _ _ _=>nC fun _=>rfl),
  Ho.own X G (fun _ _ _ _ _ _=>jD fun _ _=>rfl),
  Hq.own X G (fun _ _ _ _ _ _=>nC fun _=>rfl),
  HJ.own X G (fun _ _ _ _ _ _=>jD fun _ _=>rfl),
  HK.own X G (fun _ _ _ _ _ _=>jD fun _ _=>rfl),
  Hr.own X G (fun _ _ _ _ _ _=>jD fun _ _=>rfl),
  Ik.own X G (fun _ _ _ _ _ _=>jD fun _ _=>rfl),
  HL.own X G (fun _ _ _ _ _ _=>jD fun _ _=>rfl),
  Hs.own X G (fun _ _ _ _ _ _=>jD fun _ _=>rfl),
  HM.own X G (fun _ _ _ _ _ _=>nC fun _=>rfl),
  HN.own X G (fun _ _ _ _ _ _=>jD fun _ _=>rfl),
  HQ.own X G (fun _ _ _ _ _ _=>Fp fun _ _ _ _=>rfl),
  GB.own X G (fun _ _ _ _ _ _=>nC fun _=>rfl),
  Gr.own X G (fun _ _ _ _ _ _=>nC fun _=>rfl),
  GI.own X G (fun _ _ _ _ _ _=>Fp fun _ _ _ _=>rfl),
  Ht.own X G (fun _ _ _ _ _ _=>Fp fun _ _ _ _=>rfl),
  HR.own X G (fun _ _ _ _ _ _=>Ax fun _ _ _=>rfl),
  GU.own X G (fun _ _ _ _ _ _=>nC fun _=>rfl),
  Hu.own X G (fun _ _ _ _ _ _=>jD fun _ _=>rfl),
  Il.own X G (fun _ _ _ _ _ _=>jD fun _ _=>rfl),
  HS.own X G (fun _ _ _ _ _ _=>jD fun _ _=>rfl),
  Hv.own X G (fun _ _ _ _ _ _=>Ax fun _ _ _=>rfl),
  G9.own X G (fun _ _ _ _ _ _=>jD fun _ _=>rfl),
  G_.own X G (fun _ _ _ _ _ _=>Ax fun _ _ _=>rfl),
  Ha.own X G (fun _ _ _ _ _ _=>jD fun _ _=>rfl),
  Hw.own X G (fun _ _ _ _ _ _=>nC fun _=>rfl),
  Hx.own X G (fun _ _ _ _ _ _=>nC fun _=>rfl),
  GJ.own X G (fun _ _ _ _ _ _=>nC fun _=>rfl),
  GK.own X G (fun _ _ _ _ _ _=>jD fun _ _=>rfl),
  GZ.own X G (fun _ _ _ _ _ _=>jD fun _ _=>rfl),
  Im.own X G (fun _ _ _ _ _ _=>nC fun _=>rfl),
  GL.own X G (fun _ _ _ _ _ _=>nC fun _=>rfl),
  Gs.own X G (fun _ _ _ _ _ _=>nC fun _=>rfl),
  Hy.own X G (fun _ _ _ _ _ _=>nC fun _=>rfl),
  km (x:="abs") X G KN,
  km (x:="all") X G KN,
  km (x:="bool") X G KN,
  km (x:="enumerate") X G KN,
  km (x:="int") X G KN,
  km (x:="isinstance") X G KN,
  km (x:="len") X G KN,
  km (x:="list") X G KN,
  km (x:="max") X G KN,
  km (x:="range") X G KN,
  km (x:="reversed") X G KN,
  km (x:="sum") X G KN,
  km (x:="tuple") X G KN,
  km (x:="zip") X G KN,
  Hz.kd X G⟩ O).ok⟩
def Fq{l:PySem.W.OpenLaw}{q:Program}{loose:Vs}{XP:(Vr)->Heap->Prop}{YP:World->Heap->Prop}{d:DefRec}{K:Params->PySem.W.Frag}(hn:l.most=some 63)(hdf:d.params.defaults=[])
  (hY:∀(w:World) (h:Heap),YP w h->(K w.params).In h)
  (F:∀(w:World) (mg:Vr) (fa:Addr) (h:Heap),(K w.params).In h->h.Ns mainGlobals mg->mg d.name=some (.ref fa)->
   ∃fd:FuncData,(∀(s:Shared) (u:Value),BindsTo s fd ⟨[u],[]⟩ [("_law_script",u)])/\∀base:Heap,(K w.params).In base->base.Ns mainGlobals mg->m9 l.prog w (K w.params) mg base xT 32 fa fd ["_law_script"] (Dk (K w.params) 1 qV)) :
  PySem.W.WalkO q loose XP YP l.row.toRowW d [] (fun f vs=>PySem.call f vs):=
 L2.yA (n:=63) (k:=32) (x:="_law_script") (CX:=fun _=>xT) (sp:=fun w=>Dk (K w.params) 1 qV) hn (by decide) hdf ⟨rfl,by decide,by decide,rfl⟩ hY F (fun _ _ a ns hl hO hS=>Fc hO hS (xQ ns hl)) fun _ _ _ _ _ z=>z
end G32
local macro_rules | `(tactic| walk_at "k")=>`(tactic| (apply L3.F0; k_is; k_is; k_is; k_is))
local macro_rules | `(tactic| walk_at "d")=>`(tactic| (apply L3.F2; k_is; k_is; k_is; k_is; k_is; rfl))
open PySem PySem.W PyProof.Rows
set_option maxRecDepth 100000 in
set_option maxHeartbeats 0 in
theorem PySem.Challenge.cw_dueworth_k32_lines_and_their_count_holds : PySem.Challenge.rw_dueworth_k32_lines_and_their_count.Holds := by
 w_on; refine holds_law E32.said fun said => ?_
 refine holds_open (q := E32.vw) (loose := ["SIDES_FROM", "parts_reached"]) (Xt := fun s => (xlAt E32.vw [] s && recOk (RowW.records E32.rr) s)) (XP := XL E32.vw []) (N := 4040)
  (Yf := Hook.obs E32.hk) (Ya := Hook.val E32.hk) (YP := Hook.says (kHook E32.early.heap_1 E32.as E32.Fr)) E32.left (Hook.of E32.hk) (Hook.keeps E32.hk) (fun s e => xl_of s (Bool.and_eq_true_iff.mp e).1)
  XL.keeps rfl rfl rfl (fun s e => recFacts_of (Bool.and_eq_true_iff.mp e).2) rfl (by assumption)
  (by decide +kernel) ⟨rfl, rfl, rfl, rfl, rfl, by decide +kernel⟩ ?hw ?hc
 (case hw => w_witness2)
 k_fill
 refine G32.Fq (l := PySem.Challenge.rw_dueworth_k32_lines_and_their_count) rfl rfl (fun w h Y => PySem.W.kIn_of Y) ?F
 case F =>
  intro w mg fa h KX G hmg
  refine' G32.Cd KX G hmg ?Ic ?Ie ?Jt ?IV ?G7 ?G8 ?GS ?HF ?Iw ?Ig ?GF ?HH ?GG ?IW ?Ih ?JV ?Ju ?HI ?Jv ?Hn ?Ii ?IY ?Jw ?GH ?GT ?Ij ?GA ?Jx ?Ho ?Hq ?HJ ?HK ?Hr ?Ik ?HL ?Hs ?HM ?HN ?HQ ?GB ?Gr ?GI ?Ht ?HR ?GU ?Hu ?Il ?HS ?Hv ?G9 ?G_ ?Ha ?Hw ?Hx ?GJ ?GK ?GZ ?Im ?GL ?Gs ?Hy ?Hz ?KN ?LJ
  (case Ic => walk_at "k")
  (case Ie => walk_at "k")
  (case Jt => walk_at "k")
  (case IV => walk_at "k")
  (case G7 => walk_at "k")
  (case G8 => walk_at "k")
  (case GS => walk_at "d")
  (case HF => walk_at "k")
  (case Iw => walk_at "k")
  (case Ig => walk_at "k")
  (case GF => walk_at "k")
  (case HH => walk_at "k")
  (case GG => walk_at "k")
  (case IW => walk_at "k")
  (case Ih => walk_at "k")
  (case JV => walk_at "k")
  (case Ju => walk_at "k")
  (case HI => walk_at "k")
  (case Jv => walk_at "k")
  (case Hn => walk_at "k")
  (case Ii => walk_at "k")
  (case IY => walk_at "k")
  (case Jw => walk_at "k")
  (case GH => walk_at "k")
  (case GT => walk_at "k")
  (case Ij => walk_at "k")
  (case GA => walk_at "k")
  (case Jx => walk_at "k")
  (case Ho => walk_at "k")
  (case Hq => walk_at "k")
  (case HJ => walk_at "k")
  (case HK => walk_at "k")
  (case Hr => walk_at "k")
  (case Ik => walk_at "k")
  (case HL => walk_at "k")
  (case Hs => walk_at "k")
  (case HM => walk_at "k")
  (case HN => walk_at "k")
  (case HQ => walk_at "k")
  (case GB => walk_at "k")
  (case Gr => walk_at "k")
  (case GI => walk_at "k")
  (case Ht => walk_at "k")
  (case HR => walk_at "k")
  (case GU => walk_at "k")
  (case Hu => walk_at "k")
  (case Il => walk_at "k")
  (case HS => walk_at "k")
  (case Hv => walk_at "k")
  (case G9 => walk_at "k")
  (case G_ => walk_at "k")
  (case Ha => walk_at "k")
  (case Hw => walk_at "k")
  (case Hx => walk_at "k")
  (case GJ => walk_at "k")
  (case GK => walk_at "k")
  (case GZ => walk_at "k")
  (case Im => walk_at "k")
  (case GL => walk_at "k")
  (case Gs => walk_at "k")
  (case Hy => walk_at "k")
  (case Hz => apply L3.F1; k_is; k_is; rfl; exact L2.Bv _ w [("then", 1, _, _), ("either", 1, _, _), ("take", 3, _, _), ("often", 1, _, _)] _ (by decide +kernel))
  (case KN => kernel_rfl)
  (case LJ => walk_at "k")
#print axioms PySem.Challenge.cw_dueworth_k32_lines_and_their_count_holds
