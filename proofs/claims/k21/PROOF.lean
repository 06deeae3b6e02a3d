import PyProof.Rows.All
import Wide.All
import OpenK.AllK
import Wide.FinOn
import Lean
import PyProof.EqAt
import PyProof.EqKinds
import PyProof.TupleCall
import PySem.Challenge.RW_dueworth_k21_whole_tallies_and_doings
import Open.Tree
import Open.Head
section
set_option Elab.async false
set_option linter.all false
set_option maxRecDepth 100000
set_option maxHeartbeats 0
namespace ET
open PySem PySem.W PyProof.Rows
def hV(tb:String→Option Builtin)(p:Program)(w:World)(n₀:Nat)(ann:Option Value):Nat→SharedT→Thread→Option SharedT
 |0,_,_=>none
 |n+1,s,t=>match through t with
  |true=>some s
  |false=>match stepOk n₀ ann t with
   |false=>none
   |true=>match stepT (denote tb) p w s t with
    |some x=>hV tb p w n₀ ann n x.1 x.2
    |none=>none
theorem lJ{tb:String→Option Builtin}{p:Program}{w:World}{n₀:Nat}{ann:Option Value}:∀{n:Nat} {s s':SharedT} {t:Thread},hV tb p w n₀ ann n s t=some s'→topRun tb p w n₀ ann n s.abs t=some s'.abs
 |0,_,_,_,h=>by cases h
 |n+1,s,s',t,h=>by
  unfold hV at h
  unfold topRun
  cases he:through t with
  |true=>rw[he]at h;cases h;rfl
  |false=>
   rw[he]at h
   cases hk:stepOk n₀ ann t with
   |false=>rw[hk]at h;cases h
   |true=>
    rw[hk]at h
    cases hs:stepT (denote tb) p w s t with
    |none=>rw[hs]at h;cases h
    |some r=>rw[hs]at h;rw[stepT_spec hs];exact lJ h
def Bu:List Obj→BT→Nat→Option (BT×Nat)
 |[],t,n=>some (t,n)
 |o::os,t,n=>match ((t.ins n o).get n).isSome with
  |true=>Bu os (t.ins n o) (n+1)
  |false=>none
theorem qT{life:Life}:∀{os:List Obj} {t t':BT} {n n':Nat},Bu os t n=some (t',n')→absHeap t' n' life=⟨(absHeap t n life).objs++os.toArray,life⟩
 |[],t,t',n,n',h=>by cases h;simp[absHeap]
 |o::os,t,t',n,n',h=>by
  unfold Bu at h
  cases g:((t.ins n o).get n).isSome with
  |false=>rw[g]at h;cases h
  |true=>
   rw[g]at h
   rw[qT h,absHeap_ins g]
   simp[Heap.push]
def hW(tb:String→Option Builtin)(p:Program)(w:World)(N:Nat)(s₀:Shared):Option Shared:=
 match s₀.heap.isNs mainGlobals&&s₀.gens.size == 0 with
 |true=>match Bu s₀.heap.objs.toList .nil 0 with
  |some x=>match hV tb p w x.2 (s₀.heap.nsMap mainGlobals "__annotations__") N ⟨x.1,x.2,s₀.heap.life,s₀.gens,s₀.drawn,s₀.toks,s₀.os⟩ (topStub p)with
   |some s=>match staticsOk (importedModules p.main.body) s₀.heap s.abs.heap&&namesBound p s.abs.heap&&gensDone s.abs&&laidKept s₀.heap s.abs.heap with
    |true=>some s.abs
    |false=>none
   |none=>none
  |none=>none
 |false=>none
theorem pM{tb:String→Option Builtin}{p:Program}{w:World}{N:Nat}{s₀ s:Shared}(h:hW tb p w N s₀=some s):topFrom tb p w N s₀=some s:=by
 unfold hW at h
 unfold topFrom
 cases h1:s₀.heap.isNs mainGlobals&&s₀.gens.size == 0 with
 |false=>rw[h1]at h;cases h
 |true=>
  rw[h1]at h
  dsimp only at h ⊢
  cases h2:Bu s₀.heap.objs.toList .nil 0 with
  |none=>rw[h2]at h;cases h
  |some x=>
   rw[h2]at h
   dsimp only at h
   have e:=qT (life:=s₀.heap.life) h2
   have e':absHeap x.1 x.2 s₀.heap.life=s₀.heap:=by
    rw[e]
    simp[absHeap,BT.list]
   have n':x.2=s₀.heap.objs.size:=by rw[←e',absHeap_size]
   cases h3:hV tb p w x.2 (s₀.heap.nsMap mainGlobals "__annotations__") N ⟨x.1,x.2,s₀.heap.life,s₀.gens,s₀.drawn,s₀.toks,s₀.os⟩ (topStub p)with
   |none=>rw[h3]at h;cases h
   |some r=>
    rw[h3]at h
    dsimp only at h
    have ea:SharedT.abs ⟨x.1,x.2,s₀.heap.life,s₀.gens,s₀.drawn,s₀.toks,s₀.os⟩=s₀:=by
     unfold SharedT.abs
     rw[e']
    have:=lJ h3
    rw[ea,n']at this
    rw[this]
    exact h
theorem pN{tb:String→Option Builtin}{p:Program}{w:World}{N:Nat}{s₀:Shared}{α:Type}{f:Shared→α}{a:α}(h:Option.map f (hW tb p w N s₀)=some a):Option.map f (topFrom tb p w N s₀)=some a:=by
 obtain⟨s,h1,h2⟩:=Option.map_eq_some_iff.mp h
 rw[pM h1]
 exact congrArg some h2
def seenT(p q:Program)(loose:List Str)(Xt:Shared→Bool){α:Type}(Yf:Shared→α)(N:Nat)(u u':World):=
 Option.map (fun c=>Option.map (fun s=>(openSeen q loose (importedModules p.main.body) Xt true s,Yf s)) (hW treeTable p u' N c)) (fencedOpening treeTable p u N)
lay_quick seenT
theorem qU{p q:Program}{loose:List Str}{Xt:Shared→Bool}{α:Type}{Yf:Shared→α}{N:Nat}{u u':World}{r}(h:PySem.W.Fast.tw2787559817927863336 p q loose Xt Yf N u u'=r):seenT p q loose Xt Yf N u u'=r:=by
 rw[PySem.W.Fast.te2787559817927863336]
 exact h
theorem C6{p q:Program}{loose:List Str}{Xt:Shared→Bool}{α:Type}{Yf:Shared→α}{Ya:World→α}{N:Nat}
  (h:∀u:World,seenT p q loose Xt Yf N u u=some (some (openGood q loose,Ya u))):LeftO p q loose Xt Yf Ya N:=fun u=>by
 obtain⟨c,a,b⟩:=Option.map_eq_some_iff.mp (h u)
 unfold openEnds
 rw[a]
 exact pN b
theorem tS{p q:Program}{loose:List Str}{Xt:Shared→Bool}{α:Type}{Yf:Shared→α}{Ya:World→α}{N:Nat}(row:String)
  (h0:∀u:World,seenT p q loose Xt Yf N u (u.withFollow row false)=some (some (openGood q loose,Ya (u.withFollow row false))))
  (h1:∀u:World,seenT p q loose Xt Yf N u (u.withFollow row true)=some (some (openGood q loose,Ya (u.withFollow row true)))):LeftO p q loose Xt Yf Ya N:=fun u=>by
 obtain⟨c,a,b⟩:=Option.map_eq_some_iff.mp (h0 u)
 obtain⟨c',a',b'⟩:=Option.map_eq_some_iff.mp (h1 u)
 have hc:c'=c:=by rw[a]at a';cases a';rfl
 subst hc
 have b:=pN b
 have b':=pN b'
 have hu:=World.withFollow_self u row
 unfold openEnds
 rw[a]
 cases hb:u.params.followText row<;>rw[hb]at hu
 ·rw[hu]at b
  exact b
 ·rw[hu]at b'
  exact b'
end ET
namespace E21
open PySem PySem.W PyProof.Rows
abbrev tp(i:Nat):Stmt:=PySem.Challenge.pw_dueworth_k21_whole_tallies_and_doings.main.body.getD i (.Pass ⟨0,0,0,0⟩)
/-- the text without what says nothing -/
def vw:Program:={ PySem.Challenge.pw_dueworth_k21_whole_tallies_and_doings with main:={ PySem.Challenge.pw_dueworth_k21_whole_tallies_and_doings.main with body:=[tp 1,tp 2,tp 3,tp 5,tp 6,tp 7,tp 8,tp 10,tp 11,tp 12,tp 14,tp 16,tp 17,tp 18,tp 19,tp 20,tp 21,tp 22,tp 23,tp 24,tp 25,tp 27,tp 28,tp 30,tp 31,tp 32,tp 33,tp 34,tp 35,tp 37,tp 38,tp 39,tp 40,tp 41,tp 42,tp 43,tp 44,tp 45,tp 46,tp 47,tp 48,tp 49,tp 50,tp 51,tp 52,tp 53,tp 54] } }
abbrev rr:RowW:=OpenRow.toRowW (OpenLaw.row PySem.Challenge.rw_dueworth_k21_whole_tallies_and_doings)
local macro_rules | `(tactic| o_head $H)=>`(tactic|
 refine holds_open (q:=vw) (loose:=["SIDES_FROM"]) (Xt:=fun s=>(xlAt vw [] s&&recOk (RowW.records rr) s)) (XP:=XL vw []) (N:=4992)
  (Yf:=Hook.obs $H) (Ya:=Hook.val $H) (YP:=Hook.says $H) ?hl (Hook.of $H) (Hook.keeps $H) (fun s e=>xl_of s (Bool.and_eq_true_iff.mp e).1)
  XL.keeps rfl rfl rfl (fun s e=>recFacts_of (Bool.and_eq_true_iff.mp e).2) rfl (by assumption)
  (by decide +kernel) ⟨rfl,rfl,rfl,rfl,rfl,by decide +kernel⟩ ?hw ?hc)
/-- the law is well said: by the quick twin of the look,with no twin of the program -/
theorem said:OpenLaw.wellSaid PySem.Challenge.rw_dueworth_k21_whole_tallies_and_doings=true:=(congrFun PySem.W.Fast.te9446332074065402090 _).trans (by kernel_rfl)
/-- says nothing; what lies in the heap is written down by the way -/
theorem early(h:∀P:Prop,P):PySem.Challenge.rw_dueworth_k21_whole_tallies_and_doings.Holds:=by
 w_on;refine holds_law said fun said=>?_;k_head
 all_goals exact h _
abbrev as:List Addr:=[2,3,15,22,23,24,25,28,35,37,38,40,41,42,43,44,47,54,56,57,59,60,61,62,63,66,68,69,71,72,73,75,76,78,79,80,82,83,85,86,87,89,90,92,93,94,95,97,98,100,101,102,104,105,107,108,109,111,112,114,115,116,119,120,121,124,125,126,129,130,131,133,134,136,137,138,141,142,143,146,147,148,150,151,153,154,155,157,158,160,161,162,164,165,167,168,169,171,172,174,175,176,178,179,181,182,183,186,187,195,197,198,200,201,202,204,205,207,208,209,211,212,214,215,216,218,219,221,222,223,225,226,228,229,230,231,232,233,234,237,239,240,242,243,244,246,247,249,250,251,253,254,256,257,258,260,261,263,264,265,267,268,270,271,272,275,276,277,279,280,282,283,284,287,288,289,291,292,294,295,296,298,299,301,302,303,305,306,308,309,310,312,313,315,316,317,319,320,322,323,324,326,327,329,330,331,333,334,336,337,338,341,342,343,346,347,348,350,351,353,354,355,357,358,360,361,362,364,365,367,368,369,372,373,374,377,378,379,382,383]
theorem EL(P:Params):as=(early.heap_1 P).map (·.1):=by kernel_rfl
noncomputable abbrev hk:Hook:=kHook early.heap_1 as EL
theorem Bv(u:World):ET.seenT (OpenLaw.row PySem.Challenge.rw_dueworth_k21_whole_tallies_and_doings).prog vw ["SIDES_FROM"] (fun s=>(xlAt vw [] s&&recOk (RowW.records rr) s)) (Hook.obs hk) 4992 u (u.withFollow "special-get-raises" false)=some (some (openGood vw ["SIDES_FROM"],Hook.val hk (u.withFollow "special-get-raises" false))):=ET.qU (by kernel_rfl)
theorem Bw(u:World):ET.seenT (OpenLaw.row PySem.Challenge.rw_dueworth_k21_whole_tallies_and_doings).prog vw ["SIDES_FROM"] (fun s=>(xlAt vw [] s&&recOk (RowW.records rr) s)) (Hook.obs hk) 4992 u (u.withFollow "special-get-raises" true)=some (some (openGood vw ["SIDES_FROM"],Hook.val hk (u.withFollow "special-get-raises" true))):=ET.qU (by kernel_rfl)
theorem left:LeftO (OpenLaw.row PySem.Challenge.rw_dueworth_k21_whole_tallies_and_doings).prog vw ["SIDES_FROM"] (fun s=>(xlAt vw [] s&&recOk (RowW.records rr) s)) (Hook.obs hk) (Hook.val hk) 4992:=ET.tS "special-get-raises" Bv Bw
end E21
end
set_option Elab.async false
set_option linter.all false
set_option maxRecDepth 100000
namespace L2
open PySem PySem.Spec PyProof.Rows
abbrev bg:=Sum Int Str
noncomputable def lK:bg→Value→Bool
 | .inl k,v=>Value.isInt k v
 | .inr x,v=>Value.isStrOf x v
noncomputable def Ds(w:World):bg→Int
 | .inl k=>hashInt k
 | .inr x=>hashStr w x
theorem bj:∀{k:bg} {v:Value},lK k v=true→(∃i t,k=Sum.inl i∧v=Value.int i t)∨(∃x t,k=Sum.inr x∧v=Value.str x t)
 | .inl i,v,h=>by
  obtain⟨t,e⟩:=Value.isInt_shape (k:=i) (v:=v) h
  exact .inl ⟨i,t,rfl,e⟩
 | .inr x,v,h=>by
  obtain⟨t,e⟩:=Value.isStrOf_shape (x:=x) (v:=v) h
  exact .inr ⟨x,t,rfl,e⟩
theorem ss(i:Int)(t:Tok):lK (.inl i) (.int i t)=true:=by simp[lK,Value.isInt]
theorem iL(x:Str)(t:Tok):lK (.inr x) (.str x t)=true:=by simp[lK,Value.isStrOf]
theorem yR(a b:Int):decide ((Sum.inl a:bg)=Sum.inl b)=(a == b):=by
 by_cases e:a=b
 ·subst e;simp
 ·have h:¬(Sum.inl a:bg)=Sum.inl b:=fun q=>e (Sum.inl.inj q)
  rw[decide_eq_false h]
  exact(beq_eq_false_iff_ne.mpr e).symm
theorem yS(a b:Str):decide ((Sum.inr a:bg)=Sum.inr b)=decide (a=b):=by
 by_cases e:a=b
 ·subst e;simp
 ·have h:¬(Sum.inr a:bg)=Sum.inr b:=fun q=>e (Sum.inr.inj q)
  rw[decide_eq_false h,decide_eq_false e]
theorem yT(a:Int)(b:Str):decide ((Sum.inl a:bg)=Sum.inr b)=false:=decide_eq_false (fun q=>nomatch q)
theorem yU(a:Str)(b:Int):decide ((Sum.inr a:bg)=Sum.inl b)=false:=decide_eq_false (fun q=>nomatch q)
noncomputable def aQ(prog:Program)(w:World):PySem.KeyKind prog w bg where
 is:=lK
 hash:=Ds w
 inj:=fun v a b ha hb=>by
  rcases bj ha with⟨i,t,rfl,rfl⟩|⟨x,t,rfl,rfl⟩
  ·rcases bj hb with⟨j,u,rfl,e⟩|⟨y,u,rfl,e⟩
   ·injection e with e1 _;rw[e1]
   ·exact nomatch e
  ·rcases bj hb with⟨j,u,rfl,e⟩|⟨y,u,rfl,e⟩
   ·exact nomatch e
   ·injection e with e1 _;rw[e1]
 byValue:=fun k v h=>by
  rcases bj h with⟨i,t,rfl,rfl⟩|⟨x,t,rfl,rfl⟩<;>rfl
 pyHash:=fun hv h=>by
  rcases bj hv with⟨i,t,rfl,rfl⟩|⟨x,t,rfl,rfl⟩
  ·exact wpAny_pyHash_int h
  ·exact wpAny_pyHash_str h
 eqBool:=fun hu hv h=>by
  rcases bj hu with⟨i,t,rfl,rfl⟩|⟨x,t,rfl,rfl⟩
  ·rcases bj hv with⟨j,u,rfl,rfl⟩|⟨y,u,rfl,rfl⟩
   ·rw[yR]at h;exact wpAny_eqBool_int h
   ·rw[yT]at h;exact SeqAt.EqAt.int_str i t y u _ _ _ _ h
  ·rcases bj hv with⟨j,u,rfl,rfl⟩|⟨y,u,rfl,rfl⟩
   ·rw[yU]at h;exact SeqAt.EqAt.str_int x t j u _ _ _ _ h
   ·rw[yS]at h;exact wpAny_eqBool_str h
 «strs»:=fun k x t v h=>by
  rcases bj h with⟨i,u,rfl,e⟩|⟨y,u,rfl,e⟩
  ·exact nomatch e
  ·injection e with e1 _
   subst e1
   cases v<;>rfl
theorem nU(prog:Program)(w:World)(i:Int)(t:Tok):(aQ prog w).is (.inl i) (.int i t)=true:=ss i t
theorem nV(prog:Program)(w:World)(x:Str)(t:Tok):(aQ prog w).is (.inr x) (.str x t)=true:=iL x t
inductive V where
 |non|bl (b:Bool)|int (i:Int)|str (x:Str)|Kb (b:Array UInt8)|Lx (b:UInt64)|ref (a:Addr)|ty (n:String)
 deriving DecidableEq
noncomputable def RelV:V→Value→Prop
 | .non,u=>u=Value.none
 | .bl b,u=>u=Value.bool b
 | .int i,u=>∃t,u=Value.int i t
 | .str x,u=>∃t,u=Value.str x t
 | .Kb b,u=>∃t,u=Value.bytes b t
 | .Lx b,u=>∃t,u=Value.float b t
 | .ref a,u=>u=Value.ref a
 | .ty n,u=>u=Value.type n
noncomputable abbrev Vals:List V→List Value→Prop:=Paired RelV
theorem Vals.length{xs:List V}{us:List Value}(r:Vals xs us):xs.length=us.length:=Paired.length r
theorem Vals.get:∀{xs:List V} {us:List Value} {i:Nat} {x:V},Vals xs us→xs[i]?=some x→∃u,us[i]?=some u∧RelV x u
 |_,_,_,_,.nil,e=>by simp at e
 |_,_,0,_,.cons r _,e=>by simp at e;subst e;exact⟨_,rfl,r⟩
 |_,_,i+1,x,.cons _ t,e=>by
  obtain⟨u,h1,h2⟩:=Vals.get (i:=i) (x:=x) t (by simpa using e)
  exact⟨u,by simpa using h1,h2⟩
theorem Vals.set{x:V}{u:Value}(r:RelV x u):∀{xs:List V} {us:List Value} (i:Nat),Vals xs us→Vals (xs.set i x) (us.set i u)
 |_,_,_,.nil=>.nil
 |_,_,0,.cons _ t=>.cons r t
 |_,_,i+1,.cons q t=>.cons q (Vals.set r i t)
theorem Vals.append:∀{xs ys:List V} {us ws:List Value},Vals xs us→Vals ys ws→Vals (xs++ys) (us++ws)
 |_,_,_,_,.nil,s=>s
 |_,_,_,_,.cons r t,s=>.cons r (Vals.append t s)
theorem Vals.take:∀{xs:List V} {us:List Value} (n:Nat),Vals xs us→Vals (xs.take n) (us.take n)
 |_,_,0,_=>.nil
 |_,_,_+1,.nil=>.nil
 |_,_,n+1,.cons r t=>.cons r (Vals.take n t)
theorem Vals.drop:∀{xs:List V} {us:List Value} (n:Nat),Vals xs us→Vals (xs.drop n) (us.drop n)
 |_,_,0,r=>r
 |_,_,_+1,.nil=>.nil
 |_,_,n+1,.cons _ t=>Vals.drop n t
noncomputable def G0:Option V→Option Value→Prop
 |some v,some u=>RelV v u
 |none,none=>True
 |_,_=>False
noncomputable def KV{κ:Type}:List (κ×V)→List (κ×Value)→Prop:=Paired fun(p:κ×V) (q:κ×Value)=>p.1=q.1∧RelV p.2 q.2
noncomputable def kV:bg→V
 | .inl i=>.int i
 | .inr x=>.str x
inductive HO where
 /-- a list -/
 |lst (xs:List V)
 /-- a tuple (never changes) -/
 |tup (xs:List V)
 /-- a dict whose keys are ints and texts; one whose keys are tuples of ints and texts (the empty one is both) -/
 |dK (kvs:List (bg×V))|dT (kvs:List (List bg×V))
 /-- a set of ints: its members,its size -/
 |set (S:Int→Bool) (n:Nat)
 /-- an instance of the class at C,its dict at dx,its attributes -/
 |ins (C dx:Addr) (fs:List (Str×V))
 /-- the dict of the instance at x -/
 |own (x:Addr)
 /-- the dict of an exception -/
 |xd (fs:List (Str×V))
 /-- a bound method,f of x -/
 |met (f x:Addr)
 /-- a range object lo,lo + 1,.. below hi -/
 |MB (lo hi:Int)
 /-- a thing that is known to the object (the script; a dict while a loop walks it): read,never written while it is so -/
 |frz (o:Obj) (u:HO)
 /-- a code object's table -/
 |K0 (ps:Array Value)
 /-- any other thing,by what is true of its one object (a def of Nw own: Ov a S n:=HO.ext fun h=>..) -/
 |ext (φ:Heap→Prop)
abbrev Hp:=Addr→Option HO
noncomputable def upd(H:Hp)(a:Addr)(o:HO):Hp:=fun b=>if b=a then some o else H b
theorem aq{H:Hp}{a:Addr}{o:HO}:upd H a o a=some o:=by unfold upd;rw[if_pos rfl]
theorem ao{H:Hp}{a b:Addr}{o:HO}(h:b≠a):upd H a o b=H b:=by unfold upd;rw[if_neg h]
theorem wt{H:Hp}{a:Addr}{o u:HO}:upd (upd H a o) a u=upd H a u:=by
 funext b;unfold upd;split<;>rfl
theorem Bx{H:Hp}{a b:Addr}{o u:HO}(h:H a=some o)(h':H b=some u)(d:o≠u):a≠b:=by
 intro e;subst e;rw[h]at h';exact d (Option.some.inj h')
theorem aV{H:Hp}{a b:Addr}{o:HO}(h:H a=some o)(h':H b=none):a≠b:=by
 intro e;subst e;rw[h]at h';cases h'
def Go(h:Heap)(a:Addr)(its:Array Value):Prop:=∃o,h.get? a=some o∧o.dict=none∧o.cls = .type "tuple"∧∃n,o.data = .seq its n
theorem Go.tup{h:Heap}{a:Addr}{its:Array Value}(x:Go h a its):IsTup h a its:=let ⟨o,e,_,c,d⟩:=x;⟨o,e,c,d⟩
theorem Go.new(h:Heap)(its:Array Value):Go (h.push { cls:=.type "tuple",data:=.seq its }) h.objs.size its:=⟨_,Heap.get?_push_size _ rfl,rfl,rfl,_,rfl⟩
section
variable (P:Program) (w:World)
noncomputable def ObjOk(H:Hp)(h:Heap)(a:Addr):HO→Prop
 | .lst xs=>xs.length≤sizeLine∧∃(its:List Value) (n:Nat),Vals xs its∧h.get? a=some { cls:=.type "list",data:=.seq its.toArray n }
 | .tup xs=>xs.length≤sizeLine∧∃its:List Value,Vals xs its∧Go h a its.toArray
 | .dK kvs=>kvs.length≤sizeLine∧(a == sysModules)=false∧∃vs,KV kvs vs∧h.DictOf (aQ P w) a vs
 | .dT kvs=>kvs.length≤sizeLine∧(a == sysModules)=false∧∃xs:List (List bg×Addr×Value),
   Paired (fun(p:List bg×V) (q:List bg×Addr×Value)=>p.1=q.1∧H q.2.1=some (.tup (p.1.map kV))∧RelV p.2 q.2.2) kvs xs∧
   ∃o es ep,h.get? a=some o∧o.ExactDict∧o.data = .dict es ep∧es.toList=xs.map (entryOfKey (tupleKind (aQ P w)))∧(xs.map (·.1)).Nodup
 | .set S n=>h.SetOf (intKind P w) a S n
 | .ins C dx fs=>H dx=some (.own a)∧fs.length≤1000∧dx≠a∧h.get? a=some (PySem.W.instObj C dx)∧
   ∃mA,h.Ns1 dx mA∧(∀f,G0 (fs.lookup f) (mA f))∧PySem.Within mA (fs.map (·.1))
 | .own _=>∃o,h.get? a=some o
 | .xd fs=>∃mA,h.Ns1 a mA∧∀f,G0 (fs.lookup f) (mA f)
 | .MB lo hi=>∃t u v,h.get? a=some { cls:=.type "range",data:=.fields #[.int lo t,.int hi u,.int 1 v] }
 | .frz o u=>h.get? a=some o∧ObjOk H h a u
 | .K0 ps=>h.get? a=some { cls:=.none,data:=.fields ps }
 | .met f x=>h.get? a=some (PySem.W.methodObj (.ref f) (.ref x))
 | .ext φ=>φ h∧(∃o,h.get? a=some o)∧∀h1 h2:Heap,φ h1→(∀o,h1.get? a=some o→h2.get? a=some o)→φ h2
def G8(H:Hp)(h:Heap):Prop:=∀a o,H a=some o→ObjOk P w H h a o
end
section
variable {P:Program} {w:World} {H H':Hp} {h h':Heap} {a:Addr} {o:HO}
theorem ObjOk.lt(x:ObjOk P w H h a o):a < h.objs.size:=by
 cases o with
 |lst xs=>obtain⟨_,_,_,_,e⟩:=x;exact Heap.lt_size e
 |tup xs=>obtain⟨_,_,_,p⟩:=x;exact p.tup.lt
 |dK kvs=>obtain⟨_,_,_,_,o,_,_,e,_⟩:=x;exact Heap.lt_size e
 |dT kvs=>obtain⟨_,_,_,_,o,_,_,e,_⟩:=x;exact Heap.lt_size e
 |set S n=>obtain⟨o,_,_,_,e,_⟩:=x;exact Heap.lt_size e
 |ins C dx fs=>obtain⟨_,_,_,e,_⟩:=x;exact Heap.lt_size e
 |own y=>obtain⟨_,e⟩:=x;exact Heap.lt_size e
 |xd fs=>obtain⟨_,⟨_,_,_,e,_⟩,_⟩:=x;exact Heap.lt_size e
 |MB lo hi=>obtain⟨_,_,_,e⟩:=x;exact Heap.lt_size e
 |frz ob u=>obtain⟨e,_⟩:=x;exact Heap.lt_size e
 |K0 ps=>exact Heap.lt_size (show h.get? a=some _ from x)
 |met f y=>exact Heap.lt_size (show h.get? a=some _ from x)
 |ext φ=>obtain⟨_,⟨_,e⟩,_⟩:=x;exact Heap.lt_size e
theorem Paired.K1{α β:Type}{F G:α→β→Prop}:∀{l₁:List α} {l₂:List β},Paired F l₁ l₂→(∀a b,F a b→G a b)→Paired G l₁ l₂
 |_,_,.nil,_=>.nil
 |_,_,.cons r t,f=>.cons (f _ _ r) (Paired.K1 t f)
theorem ObjOk.stay(x:ObjOk P w H h a o)(k:∀b u,(b=a∨H b=some (.own a))→h.get? b=some u→h'.get? b=some u)
  (ho:∀b,H b=some (.own a)→H' b=some (.own a)) (ht:∀b xs,H b=some (.tup xs)→H' b=some (.tup xs)):ObjOk P w H' h' a o:=by
 induction o with
 |lst xs=>obtain⟨z,its,n,r,e⟩:=x;exact⟨z,its,n,r,k _ _ (.inl rfl) e⟩
 |tup xs=>obtain⟨z,its,r,ob,e,c⟩:=x;exact⟨z,its,r,ob,k _ _ (.inl rfl) e,c⟩
 |dK kvs=>obtain⟨z,y,vs,r,ob,es,ep,e,c⟩:=x;exact⟨z,y,vs,r,ob,es,ep,k _ _ (.inl rfl) e,c⟩
 |dT kvs=>
  obtain⟨z,y,xs,r,ob,es,ep,e,c⟩:=x
  exact⟨z,y,xs,Paired.K1 r fun p q z=>⟨z.1,ht _ _ z.2.1,z.2.2⟩,ob,es,ep,k _ _ (.inl rfl) e,c⟩
 |set S n=>obtain⟨ob,es,ep,t,e,c⟩:=x;exact⟨ob,es,ep,t,k _ _ (.inl rfl) e,c⟩
 |ins C dx fs=>
  obtain⟨d,z,ne,e,mA,⟨od,es,ep,e2,c⟩,r⟩:=x
  exact⟨ho _ d,z,ne,k _ _ (.inl rfl) e,mA,⟨od,es,ep,k _ _ (.inr d) e2,c⟩,r⟩
 |own y=>obtain⟨ob,e⟩:=x;exact⟨ob,k _ _ (.inl rfl) e⟩
 |xd fs=>obtain⟨mA,⟨od,es,ep,e,c⟩,r⟩:=x;exact⟨mA,⟨od,es,ep,k _ _ (.inl rfl) e,c⟩,r⟩
 |MB lo hi=>obtain⟨t,u,v,e⟩:=x;exact⟨t,u,v,k _ _ (.inl rfl) e⟩
 |frz ob u ih=>obtain⟨e,q⟩:=x;exact⟨k _ _ (.inl rfl) e,ih q⟩
 |K0 ps=>
  have e:h.get? a=some { cls:=.none,data:=.fields ps }:=x
  show h'.get? a=some { cls:=.none,data:=.fields ps }
  exact k a _ (.inl rfl) e
 |met f y=>
  have e:h.get? a=some (PySem.W.methodObj (.ref f) (.ref y)):=x
  show h'.get? a=some (PySem.W.methodObj (.ref f) (.ref y))
  exact k a _ (.inl rfl) e
 |ext φ=>obtain⟨p,⟨o,e⟩,st⟩:=x;exact⟨st _ _ p fun o q=>k _ _ (.inl rfl) q,⟨o,k _ _ (.inl rfl) e⟩,st⟩
theorem G8.lt(x:G8 P w H h)(e:H a=some o):a < h.objs.size:=(x a o e).lt
theorem G8.fresh(x:G8 P w H h)(e:h.objs.size≤a):H a=none:=by
 cases q:H a with
 |none=>rfl
 |some u=>exact absurd (Nat.lt_of_lt_of_le (x.lt q) e) (Nat.lt_irrefl _)
theorem G8.kept(x:G8 P w H h)(k:∀b u,h.get? b=some u→h'.get? b=some u):G8 P w H h':=fun a o e=>
 (x a o e).stay (fun b u _ q=>k b u q) (fun _ q=>q) fun _ _ q=>q
theorem G8.laid(x:G8 P w H h)(k:∀b u,h.get? b=some u→h'.get? b=some u)(hp:h.objs.size≤a)(new:ObjOk P w (upd H a o) h' a o):G8 P w (upd H a o) h':=fun b u e=>by
 have hn:=x.fresh hp
 by_cases hb:b=a
 ·subst hb;rw[aq]at e;cases e;exact new
 ·rw[ao hb]at e
  exact(x b u e).stay (fun c v _ q=>k c v q) (fun c q=>by rw[ao (aV q hn)];exact q) fun c xs q=>by rw[ao (aV q hn)];exact q
end
def Rd(H:Hp)(a:Addr)(u:HO):Prop:=H a=some u∨∃o,H a=some (.frz o u)
theorem Rd.ok{P:Program}{w:World}{H:Hp}{h:Heap}{a:Addr}{u:HO}(r:Rd H a u)(x:G8 P w H h):ObjOk P w H h a u:=by
 rcases r with r|⟨o,r⟩
 ·exact x a u r
 ·obtain⟨_,q⟩:=x a _ r
  exact q
noncomputable def By:Option HO→Prop
 |some (.lst _)=>True
 |some (.dK _)=>True
 |some (.dT _)=>True
 |some (.set _ _)=>True
 |some (.ins _ _ _)=>True
 |some (.ext _)=>True
 |_=>False
section
variable {P:Program} {w:World} {H:Hp} {h h':Heap} {x e:Addr} {o':HO}
theorem G8.write(ok:G8 P w H h)(mu:By (H x))(he:e=x∨H e=some (.own x))(k:∀b u,b≠e→h.get? b=some u→h'.get? b=some u)(Ly:∃u,h'.get? e=some u)
  (new:ObjOk P w (upd H x o') h' x o'):G8 P w (upd H x o') h':=fun b u q=>by
 have LJ:∀c y,H c=some (.own y)→c≠x:=fun c y r z=>by subst z;rw[r]at mu;exact mu
 have MC:∀c xs,H c=some (.tup xs)→c≠x:=fun c xs r z=>by subst z;rw[r]at mu;exact mu
 by_cases hb:b=x
 ·subst hb;rw[aq]at q;cases q;exact new
 ·rw[ao hb]at q
  by_cases JX:b=e
  ·have q':H b=some (.own x):=by
    rcases he with z|z
    ·exact absurd (JX.trans z) hb
    ·rw[JX];exact z
   rw[q]at q';cases q'
   obtain⟨v,hv⟩:=Ly
   exact⟨v,by rw[JX];exact hv⟩
  ·refine(ok b u q).stay (fun c v hc r=>k c v ?_ r) (fun c r=>by rw[ao (LJ c b r)];exact r) fun c xs r=>by rw[ao (MC c xs r)];exact r
   rcases hc with rfl|hc
   ·exact JX
   ·rintro rfl
    rcases he with z|z
    ·exact LJ c b hc z
    ·rw[hc]at z;cases z;exact hb rfl
end
structure Un (fs ex:List Addr) (H H':Hp) (h h':Heap):Prop where
 keep:∀b o,h.get? b=some o→H b=none→b ∉ fs→b ∉ ex→h'.get? b=some o
 slot:∀b o,h.get? b=some o→H b=none→b∈fs→b ∉ ex→∃sl,h'.get? b=some { o with slots:=sl }
 free:∀b o,h.get? b=some o→H b=none→b ∉ ex→H' b=none
 there:∀b o,h.get? b=some o→b ∉ ex→∃o',h'.get? b=some o'
 tups:∀b xs,H b=some (.tup xs)→H' b=some (.tup xs)
 Ij:∀b o u,H b=some (.frz o u)→H' b=some (.frz o u)
 Iw:∀b ps,H b=some (.K0 ps)→∃more,H' b=some (.K0 (ps++more))
section
variable {fs fs' ex ex':List Addr} {H H1 H2:Hp} {h h1 h2 h':Heap} {a x e:Addr} {o:HO}
theorem Un.any(u:Un fs ex H H1 h h1){b:Addr}{ob:Obj}(q:h.get? b=some ob)(n:H b=none)(hx:b ∉ ex):∃sl,h1.get? b=some { ob with slots:=sl }:=by
 by_cases hb:b∈fs
 ·exact u.slot b ob q n hb hx
 ·exact⟨ob.slots,u.keep b ob q n hb hx⟩
theorem Un.trans(a:Un fs ex H H1 h h1)(b:Un fs ex H1 H2 h1 h2):Un fs ex H H2 h h2 where
 keep:=fun c ob q n hc hx=>b.keep c ob (a.keep c ob q n hc hx) (a.free c ob q n hx) hc hx
 slot:=fun c ob q n hc hx=>by
  obtain⟨sl,e1⟩:=a.slot c ob q n hc hx
  obtain⟨sl',e2⟩:=b.slot c _ e1 (a.free c ob q n hx) hc hx
  exact⟨sl',e2⟩
 free:=fun c ob q n hx=>by
  obtain⟨o',e1⟩:=a.there c ob q hx
  exact b.free c o' e1 (a.free c ob q n hx) hx
 there:=fun c ob q hx=>by
  obtain⟨o',e1⟩:=a.there c ob q hx
  exact b.there c o' e1 hx
 tups:=fun c xs q=>b.tups c xs (a.tups c xs q)
 Ij:=fun c ob xs q=>b.Ij c ob xs (a.Ij c ob xs q)
 Iw:=fun c ps q=>by
  obtain⟨m1,e1⟩:=a.Iw c ps q
  obtain⟨m2,e2⟩:=b.Iw c _ e1
  exact⟨m1++m2,by rw[e2,Array.append_assoc]⟩
theorem Un.kept(k:∀b u,h.get? b=some u→h'.get? b=some u):Un fs ex H H h h':=
 ⟨fun b ob q _ _ _=>k b ob q,fun b ob q _ _ _=>⟨ob.slots,k b ob q⟩,fun _ _ _ n _=>n,fun b ob q _=>⟨ob,k b ob q⟩,fun _ _ q=>q,fun _ _ _ q=>q,fun _ ps q=>⟨#[],by rw[q];simp⟩⟩
theorem Un.refl:Un fs ex H H h h:=Un.kept fun _ _ q=>q
theorem Un.laid(k:∀b u,h.get? b=some u→h'.get? b=some u)(hp:h.objs.size≤a)(hn:H a=none):Un fs ex H (upd H a o) h h' where
 keep:=fun b u q _ _ _=>k b u q
 slot:=fun b u q _ _ _=>⟨u.slots,k b u q⟩
 free:=fun b u q n _=>by rw[ao (Nat.ne_of_lt (Nat.lt_of_lt_of_le (Heap.lt_size q) hp))];exact n
 there:=fun b u q _=>⟨u,k b u q⟩
 tups:=fun b xs q=>by rw[ao (aV q hn)];exact q
 Ij:=fun b u xs q=>by rw[ao (aV q hn)];exact q
 Iw:=fun b ps q=>⟨#[],by rw[ao (aV q hn),q];simp⟩
theorem Un.write(mu:By (H x))(he:e=x∨H e=some (.own x))(k:∀b u,b≠e→h.get? b=some u→h'.get? b=some u)(Ly:∃u,h'.get? e=some u):Un fs ex H (upd H x o) h h':=by
 have hx:∀b,H b=none→b≠x:=fun b n z=>by subst z;rw[n]at mu;exact mu
 have hb:∀b,H b=none→b≠e:=fun b n z=>by
  subst z
  rcases he with r|r
  ·exact hx b n r
  ·rw[n]at r;cases r
 have hm:∀b u,H b=some u→¬By (some u)→b≠x:=fun b u q nm z=>by subst z;rw[q]at mu;exact nm mu
 refine⟨fun b u q n _ _=>k b u (hb b n) q,fun b u q n _ _=>⟨u.slots,k b u (hb b n) q⟩,fun b u q n _=>by rw[ao (hx b n)];exact n,fun b u q _=>?_,
  fun b xs q=>by rw[ao (hm b _ q fun z=>z)];exact q,fun b u xs q=>by rw[ao (hm b _ q fun z=>z)];exact q,fun b ps q=>⟨#[],by rw[ao (hm b _ q fun z=>z),q];simp⟩⟩
 by_cases JX:b=e
 ·subst JX;exact Ly
 ·exact⟨u,k b u JX q⟩
end
noncomputable def C7(h:Heap)(H:Hp):List Addr:=(List.range h.objs.size).filter fun a=>(H a).isSome
noncomputable def mB(h:Heap)(H:Hp):Heap:=PySem.W.hideAll h (C7 h H)
theorem su(h:Heap)(H:Hp):(mB h H).objs.size=h.objs.size:=PySem.W.hideAll_size _ _
theorem tT{h:Heap}{H:Hp}{b:Addr}{o:Obj}(e:h.get? b=some o)(n:H b=none):(mB h H).get? b=some o:=
 PySem.W.hideAll_get _ e fun hm=>by
  have q:(H b).isSome=true:=(List.mem_filter.mp hm).2
  rw[n]at q;simp at q
theorem wu{h:Heap}{H:Hp}{b:Addr}{o:Obj}(e:(mB h H).get? b=some o):h.get? b=some o∧H b=none:=by
 have e':h.get? b=some o:=PySem.W.of_hideAll (C7 h H) e
 refine⟨e',?_⟩
 cases q:H b with
 |none=>rfl
 |some x=>
  have hm:b∈C7 h H:=List.mem_filter.mpr ⟨List.mem_range.mpr (Heap.lt_size e'),by simp[q]⟩
  have z:(mB h H).get? b=none:=PySem.W.hideAll_none (C7 h H) hm
  rw[z]at e;cases e
structure Mod (K:PySem.W.Frag) (mg:Str→Option Value) (base:Heap):Prop where
 KN:K.In base
 glob:base.Ns mainGlobals mg
 blt:∃mb,base.Ns builtinsNs mb∧∀x:Str,x ≠ "__name__"→mb x=bootBuiltins x
 nolimit:base.NoLimit
structure Cx where
 prog:Program
 w:World
 K:PySem.W.Frag
 mg:Str→Option Value
 base:Heap
 A:Around
 N:List Str
 s₀:Shared
 H₀:Hp
 env:Env
 outer:List Env
 stack:List Env
 ex:List Addr
 fn:Str→Bool
 calm:Bool
 pn:List (Addr×Obj)
 xe:Value→Shared→Prop
noncomputable def frs(l:List Env):List Addr:=l.filterMap (·.frame)
noncomputable abbrev Cx.fs(X:Cx):List Addr:=frs X.outer
def Bz(sc:Scope)(x:Str):Prop:=sc.names.lookup x=some .local∨sc.names.lookup x=some .cell∨sc.names.lookup x=some .free
def yz(sc:Scope)(x:Str):Prop:=sc.names.lookup x=some .local∨sc.names.lookup x=some .cell
def Dt(env:Env)(h:Heap)(m:Str→Option Value)(x:Str)(u:Value):Prop:=
 (env.kindOf x=some .local∧m x=some u)∨((env.kindOf x=some .cell∨env.kindOf x=some .free)∧∃c,env.cells.lookup x=some c∧h.IsCell c (some u))
structure Cx.Ok (X:Cx):Prop where
 mod:Mod X.K X.mg X.base
 kind:X.env.scope.kind = .function
 glob:X.env.globals=mainGlobals
 blt:X.env.builtins=builtinsNs
 above:X.s₀.heap.objs.size≤X.env.locals
 inj:∀x y c,X.env.cells.lookup x=some c→X.env.cells.lookup y=some c→x=y
 has:∀x,(X.env.kindOf x=some .cell∨X.env.kindOf x=some .free)→∃c,X.env.cells.lookup x=some c
 Kv:∀x c,X.fn x=true→X.env.cells.lookup x=some c→X.s₀.heap.objs.size≤c
 hd:X.calm=true→X.A.handled=none
 frames:X.A.frames=some X.stack
 stk:X.stack=X.outer∨(X.stack=X.env::X.outer∧X.env.frame=some X.env.locals)
 K7:∀b∈X.ex,b≠X.env.locals∧∀x c,X.env.cells.lookup x=some c→c≠b
 bs:∀b o,X.base.get? b=some o→X.s₀.heap.get? b=some o∧X.H₀ b=none
 JN:X.base.objs.size≤X.s₀.heap.objs.size
 IO:∀b o,X.base.get? b=some o→b ∉ X.ex
 IU:∀b∈X.ex,b ∉ X.fs
 Hi:X.s₀.heap.FunFrames X.base X.outer
 Kc:∀b∈X.fs,X.H₀ b=none
structure Inv (X:Cx) (pins:List (Addr×Obj)) (σ:List (Option V)) (H:Hp) (s:Shared):Prop where
 ok:X.Ok
 os:s.os=X.s₀.os
 bare:AllBare s.gens
 base:Un X.fs X.ex X.H₀ H X.s₀.heap s.heap
 loc:∃m,s.heap.Ns X.env.locals m∧∀(i:Nat) (x:Str) (v:V),X.N[i]?=some x→σ[i]?=some (some v)→Bz X.env.scope x→∃u,RelV v u∧Dt X.env s.heap m x u
 cell:∀x c,X.env.cells.lookup x=some c→∃v,s.heap.IsCell c v
 free:H X.env.locals=none
 Gz:∀x c,X.env.cells.lookup x=some c→H c=none
 pin:∀p∈X.pn++pins,s.heap.get? p.1=some p.2∧H p.1=none∧p.1≠X.env.locals∧p.1 ∉ X.fs∧∀v,p.2.data ≠ .cell v
 hok:G8 X.prog X.w H s.heap
 len:σ.length=X.N.length
section
variable {X:Cx} {pins:List (Addr×Obj)} {σ:List (Option V)} {H H':Hp} {s:Shared} {h':Heap}
theorem Cx.Ok.MD(ok:X.Ok){b:Addr}{o:Obj}(e:X.base.get? b=some o):b ∉ X.fs:=fun hb=>by
 have:=(ok.Hi.mem hb).1
 rw[e]at this;cases this
theorem Inv.bs(I:Inv X pins σ H s):∀b o,X.base.get? b=some o→s.heap.get? b=some o∧H b=none:=fun b o e=>
 ⟨I.base.keep b o (I.ok.bs b o e).1 (I.ok.bs b o e).2 (I.ok.MD e) (I.ok.IO b o e),I.base.free b o (I.ok.bs b o e).1 (I.ok.bs b o e).2 (I.ok.IO b o e)⟩
theorem Inv.bk(I:Inv X pins σ H s):∀b o,X.base.get? b=some o→s.heap.get? b=some o:=fun b o e=>(I.bs b o e).1
theorem Inv.mod(I:Inv X pins σ H s):Mod X.K X.mg X.base:=I.ok.mod
theorem Inv.Ik(I:Inv X pins σ H s):X.K.In s.heap:=I.ok.mod.KN.keeps I.bk
theorem Inv.lt(I:Inv X pins σ H s):X.env.locals < s.heap.objs.size:=let ⟨_,hn,_⟩:=I.loc;hn.lt
theorem Inv.sz(I:Inv X pins σ H s):X.s₀.heap.objs.size≤s.heap.objs.size:=Nat.le_trans I.ok.above (Nat.le_of_lt I.lt)
theorem Inv.LK(I:Inv X pins σ H s){a:Addr}(h:s.heap.objs.size≤a):a ∉ X.fs:=fun hb=>by
 obtain⟨_,o,ho,_⟩:=I.ok.Hi.mem hb
 exact absurd (Nat.lt_of_lt_of_le (Heap.lt_size ho) (Nat.le_trans I.sz h)) (Nat.lt_irrefl _)
theorem Inv.K8(I:Inv X pins σ H s):∀x c,X.env.cells.lookup x=some c→c≠X.env.locals:=fun x c e z=>by
 obtain⟨v,o,ho,hd⟩:=I.cell x c e
 obtain⟨m,⟨o',es,ep,ho',hd',_⟩,_⟩:=I.loc
 rw[z,ho']at ho;cases ho;rw[hd']at hd;cases hd
theorem Inv.Hi(I:Inv X pins σ H s):s.heap.FunFrames X.base X.outer:=by
 have all:∀(l:List Env),(∀b∈frs l,b∈X.fs)→X.s₀.heap.FunFrames X.base l→s.heap.FunFrames X.base l:=by
  intro l
  induction l with
  |nil=>intro _ _;trivial
  |cons env r ih=>
   intro hs hl
   obtain⟨hk,⟨L,o,hf,hn,ho,hd⟩,hr⟩:=hl
   have hL:L∈X.fs:=hs L (by unfold frs;rw[List.filterMap_cons,hf];exact List.mem_cons_self)
   obtain⟨sl,e⟩:=I.base.slot L o ho (I.ok.Kc L hL) hL fun z=>I.ok.IU L z hL
   exact⟨hk,⟨L,_,hf,hn,e,hd⟩,ih (fun b hb=>hs b (by unfold frs;rw[List.filterMap_cons,hf];exact List.mem_cons_of_mem _ hb)) hr⟩
 exact all X.outer (fun _ hb=>hb) I.ok.Hi
theorem Inv.stack(I:Inv X pins σ H s):s.heap.FunFrames X.base X.stack:=by
 rcases I.ok.stk with e|⟨e,hf⟩
 ·rw[e];exact I.Hi
 ·rw[e]
  obtain⟨m,hn,_⟩:=I.loc
  refine .cons (by rw[I.ok.kind];decide) hf hn ?_ I.Hi
  exact Heap.get?_none_of_le (Nat.le_trans I.ok.JN I.ok.above)
theorem Inv.HU(I:Inv X pins σ H s):∀b∈frs X.stack,b∈X.env.locals::X.fs:=fun b hb=>by
 rcases I.ok.stk with e|⟨e,hf⟩
 ·rw[e]at hb;exact List.mem_cons_of_mem _ hb
 ·rw[e]at hb
  unfold frs at hb
  rw[List.filterMap_cons,hf]at hb
  exact hb
theorem Inv.IV(I:Inv X pins σ H s):∀b∈frs X.stack,H b=none:=fun b hb=>by
 rcases List.mem_cons.mp (I.HU b hb)with e|hb
 ·rw[e];exact I.free
 ·obtain⟨_,o,ho,_⟩:=I.ok.Hi.mem hb
  exact I.base.free b o ho (I.ok.Kc b hb) fun z=>I.ok.IU b z hb
theorem Inv.step{g':Array GenState}{t':Nat}{d':Drawn}{ch:List Addr}(I:Inv X pins σ H s)
  (hch:∀b∈ch,(b∈X.ex∨X.s₀.heap.objs.size≤b)∧b≠X.env.locals∧(∀x c,X.env.cells.lookup x=some c→c≠b)∧∀p∈X.pn++pins,p.1≠b)
  (keep:∀b o,b≠X.env.locals→b ∉ X.fs→b ∉ ch→s.heap.get? b=some o→H b=none→h'.get? b=some o)
  (slot:∀b o,b≠X.env.locals→b∈X.fs→b ∉ ch→s.heap.get? b=some o→H b=none→∃sl,h'.get? b=some { o with slots:=sl }) (free:∀b o,b ∉ ch→s.heap.get? b=some o→H b=none→H' b=none)
  (there:∀b o,b ∉ ch→s.heap.get? b=some o→∃o',h'.get? b=some o')
  (tups:∀b xs,H b=some (.tup xs)→H' b=some (.tup xs)) (Ij:∀b o u,H b=some (.frz o u)→H' b=some (.frz o u)) (Iw:∀b ps,H b=some (.K0 ps)→∃more,H' b=some (.K0 (ps++more)))
  (ns:∀m,s.heap.Ns X.env.locals m→h'.Ns X.env.locals m) (hok:G8 X.prog X.w H' h') (hg:AllBare g') :
  Inv X pins σ H' { s with heap:=h',gens:=g',drawn:=d',toks:=t' }:=by
 have Ny:∀b o,X.s₀.heap.get? b=some o→b≠X.env.locals:=fun b o e=>Nat.ne_of_lt (Nat.lt_of_lt_of_le (Heap.lt_size e) I.ok.above)
 have Mi:∀b o,X.s₀.heap.get? b=some o→b ∉ X.ex→b ∉ ch:=fun b o e hx hb=>by
  rcases(hch b hb).1 with z|z
  ·exact hx z
  ·exact absurd (Nat.lt_of_lt_of_le (Heap.lt_size e) z) (Nat.lt_irrefl _)
 have cellK:∀x c,X.env.cells.lookup x=some c→∀v,s.heap.IsCell c v→h'.IsCell c v:=fun x c e v ⟨o,ho,hd⟩=>by
  have LL:c ∉ ch:=fun z=>(hch c z).2.2.1 x c e rfl
  by_cases hc:c∈X.fs
  ·obtain⟨sl,q⟩:=slot c o (I.K8 x c e) hc LL ho (I.Gz x c e)
   exact⟨_,q,hd⟩
  ·exact⟨o,keep c o (I.K8 x c e) hc LL ho (I.Gz x c e),hd⟩
 refine⟨I.ok,I.os,hg,⟨fun b o e n hb hx=>?_,fun b o e n hb hx=>?_,fun b o e n hx=>?_,fun b o e hx=>?_,fun b xs e=>tups b xs (I.base.tups b xs e),fun b o xs e=>Ij b o xs (I.base.Ij b o xs e),fun b ps e=>?_⟩,?_,fun x c e=>?_,?_,fun x c e=>?_,fun p hp=>?_,hok,I.len⟩
 ·exact keep b o (Ny b o e) hb (Mi b o e hx) (I.base.keep b o e n hb hx) (I.base.free b o e n hx)
 ·obtain⟨sl,e1⟩:=I.base.slot b o e n hb hx
  obtain⟨sl',e2⟩:=slot b _ (Ny b o e) hb (Mi b o e hx) e1 (I.base.free b o e n hx)
  exact⟨sl',e2⟩
 ·obtain⟨o',e1⟩:=I.base.there b o e hx
  exact free b o' (Mi b o e hx) e1 (I.base.free b o e n hx)
 ·obtain⟨o',e1⟩:=I.base.there b o e hx
  exact there b o' (Mi b o e hx) e1
 ·obtain⟨m1,e1⟩:=I.base.Iw b ps e
  obtain⟨m2,e2⟩:=Iw b _ e1
  exact⟨m1++m2,by rw[e2,Array.append_assoc]⟩
 ·obtain⟨m,hn,hl⟩:=I.loc
  refine⟨m,ns m hn,fun i x v e1 e2 e3=>?_⟩
  obtain⟨u,r,l⟩:=hl i x v e1 e2 e3
  refine⟨u,r,?_⟩
  rcases l with l|⟨k,c,e,z⟩
  ·exact .inl l
  ·exact .inr ⟨k,c,e,cellK x c e _ z⟩
 ·obtain⟨v,z⟩:=I.cell x c e
  exact⟨v,cellK x c e v z⟩
 ·obtain⟨m,⟨o,_,_,ho,_⟩,_⟩:=I.loc
  exact free _ o (fun z=>(hch _ z).2.1 rfl) ho I.free
 ·obtain⟨v,o,ho,hd⟩:=I.cell x c e
  exact free c o (fun z=>(hch c z).2.2.1 x c e rfl) ho (I.Gz x c e)
 ·obtain⟨e,n,ne,nf,d⟩:=I.pin p hp
  have LL:p.1 ∉ ch:=fun z=>(hch p.1 z).2.2.2 p hp rfl
  exact⟨keep p.1 p.2 ne nf LL e n,free p.1 p.2 LL e n,ne,nf,d⟩
theorem Inv.un{t':Nat}(I:Inv X pins σ H s)(u:Un X.fs [] H H' s.heap h')(hok:G8 X.prog X.w H' h'):Inv X pins σ H' { s with heap:=h',toks:=t' }:=by
 obtain⟨m,⟨o,es,ep,ho,r⟩,_⟩:=id I.loc
 obtain⟨sl,hL⟩:=u.any ho I.free (by simp)
 exact I.step (g':=s.gens) (d':=s.drawn) (ch:=[]) (fun _ z=>nomatch z) (fun b o _ hb _ e n=>u.keep b o e n hb (by simp)) (fun b o _ hb _ e n=>u.slot b o e n hb (by simp)) (fun b o _ e n=>u.free b o e n (by simp)) (fun b o _ e=>u.there b o e (by simp)) u.tups u.Ij u.Iw (fun m' hm=>by
  obtain⟨o',es',ME,ho',r'⟩:=hm
  rw[ho]at ho';cases ho'
  exact⟨_,es',ME,hL,r'⟩) hok I.bare
theorem Inv.call{g':Array GenState}{t':Nat}{d':Drawn}{ch:List Addr}(I:Inv X pins σ H s)(u:Un (frs X.stack) ch H H' s.heap h')(hok:G8 X.prog X.w H' h')(hg:AllBare g')
  (hch:∀b∈ch,(b∈X.ex∨X.s₀.heap.objs.size≤b)∧b≠X.env.locals∧(∀x c,X.env.cells.lookup x=some c→c≠b)∧∀p∈X.pn++pins,p.1≠b) :
  Inv X pins σ H' { s with heap:=h',gens:=g',drawn:=d',toks:=t' }:=by
 obtain⟨m,⟨o,es,ep,ho,r⟩,_⟩:=id I.loc
 obtain⟨sl,hL⟩:=u.any ho I.free fun z=>(hch _ z).2.1 rfl
 exact I.step (ch:=ch) hch (fun b o hL hb hc e n=>u.keep b o e n (fun z=>(List.mem_cons.mp (I.HU b z)).elim hL hb) hc) (fun b o _ _ hc e n=>u.any e n hc) (fun b o hc e n=>u.free b o e n hc) (fun b o hc e=>u.there b o e hc) u.tups u.Ij u.Iw (fun m' hm=>by
  obtain⟨o',es',ME,ho',r'⟩:=hm
  rw[ho]at ho';cases ho'
  exact⟨_,es',ME,hL,r'⟩) hok hg
theorem Inv.turned{t':Nat}{it:Addr}(I:Inv X pins σ H s)(k:∀b o,b≠it→s.heap.get? b=some o→h'.get? b=some o)(hn:H it=none)(hL:it≠X.env.locals)
  (h1:it∈X.ex∨X.s₀.heap.objs.size≤it) (h2:∀x c,X.env.cells.lookup x=some c→c≠it) (h3:∀p∈X.pn++pins,p.1≠it):Inv X pins σ H { s with heap:=h',toks:=t' }:=by
 have LN:∀b u,H b=some u→b≠it:=fun b u e z=>by rw[z,hn]at e;cases e
 refine I.step (g':=s.gens) (d':=s.drawn) (ch:=[it]) (fun b hb=>?_) (fun b o _ _ hc e _=>k b o (fun z=>hc (by simp[z])) e) (fun b o _ _ hc e _=>⟨o.slots,k b o (fun z=>hc (by simp[z])) e⟩) (fun _ _ _ _ n=>n)
  (fun b o hc e=>⟨o,k b o (fun z=>hc (by simp[z])) e⟩) (fun _ _ e=>e) (fun _ _ _ e=>e) (fun b ps e=>⟨#[],by rw[e];simp⟩) (fun m hm=>?_) (fun b u e=>?_) I.bare
 ·have e:b=it:=by simpa using hb
  subst e
  exact⟨h1,hL,h2,h3⟩
 ·obtain⟨o,es,ep,ho,r⟩:=hm
  exact⟨o,es,ep,k _ o (Ne.symm hL) ho,r⟩
 ·refine(I.hok b u e).stay (fun c v hc q=>k c v ?_ q) (fun _ q=>q) fun _ _ q=>q
  rcases hc with z|z
  ·rw[z];exact LN b u e
  ·exact LN c _ z
theorem Inv.tok(I:Inv X pins σ H s)(t:Nat):Inv X pins σ H { s with toks:=t }:=I.un (h':=s.heap) (t':=t) Un.refl I.hok
theorem Inv.kept{t':Nat}(I:Inv X pins σ H s)(k:∀b u,s.heap.get? b=some u→h'.get? b=some u):Inv X pins σ H { s with heap:=h',toks:=t' }:=I.un (Un.kept k) (I.hok.kept k)
theorem Inv.laid{a:Addr}{o:HO}{t':Nat}(I:Inv X pins σ H s)(k:∀b u,s.heap.get? b=some u→h'.get? b=some u)(hp:s.heap.objs.size≤a)(new:ObjOk X.prog X.w (upd H a o) h' a o) :
  Inv X pins σ (upd H a o) { s with heap:=h',toks:=t' }:=I.un (Un.laid k hp (I.hok.fresh hp)) (I.hok.laid k hp new)
theorem Inv.write{x e:Addr}{o:HO}{t':Nat}(I:Inv X pins σ H s)(mu:By (H x))(he:e=x∨H e=some (.own x))(k:∀b u,b≠e→s.heap.get? b=some u→h'.get? b=some u)(Ly:∃u,h'.get? e=some u)
  (new:ObjOk X.prog X.w (upd H x o) h' x o):Inv X pins σ (upd H x o) { s with heap:=h',toks:=t' }:=I.un (Un.write mu he k Ly) (I.hok.write mu he k Ly new)
theorem Inv.weak{σ':List (Option V)}(I:Inv X pins σ H s)(hl:σ'.length=σ.length)(w:∀(i:Nat) v,σ'[i]?=some (some v)→σ[i]?=some (some v)):Inv X pins σ' H s:=
 ⟨I.ok,I.os,I.bare,I.base,let ⟨m,hn,hl'⟩:=I.loc;⟨m,hn,fun i x v e1 e2 e3=>hl' i x v e1 (w i v e2) e3⟩,I.cell,I.free,I.Gz,I.pin,I.hok,hl.trans I.len⟩
theorem Inv.Iq{pins':List (Addr×Obj)}(I:Inv X pins σ H s)(h:∀p∈pins',s.heap.get? p.1=some p.2∧H p.1=none∧p.1≠X.env.locals∧p.1 ∉ X.fs∧∀v,p.2.data ≠ .cell v):Inv X pins' σ H s:=
 ⟨I.ok,I.os,I.bare,I.base,I.loc,I.cell,I.free,I.Gz,fun p hp=>(List.mem_append.mp hp).elim (fun z=>I.pin p (List.mem_append_left _ z)) (h p),I.hok,I.len⟩
theorem nW{N:List Str}(hN:N.Nodup){i j:Nat}{x:Str}(a:N[i]?=some x)(b:N[j]?=some x):i=j:=by
 obtain⟨h1,e1⟩:=List.getElem?_eq_some_iff.mp a
 obtain⟨h2,e2⟩:=List.getElem?_eq_some_iff.mp b
 exact(List.getElem_inj hN).mp (e1.trans e2.symm)
theorem lL {M : Model} {A : Around} {E : Value → Shared → Prop} {i : Nat} {x : Str} {v : V} {u : Value} {Q : Unit → Shared → Prop} (I : Inv X pins σ H s) (hN : X.N.Nodup) (hi : X.N[i]? = some x) (hx : yz X.env.scope x) (r : RelV v u)
  (h : ∀ s', Inv X pins (σ.set i (some v)) H s' → (∃ a, Heap.SameBut a s.heap s'.heap ∧ (a = X.env.locals ∨ X.env.cells.lookup x = some a)) → Q () s') (hf : X.fn x = true ∨ X.env.scope.names.lookup x = some .local := by first | exact .inl rfl | exact .inr rfl | assumption) : wpAny M A (storeName X.env x u) Q E s := by
 obtain ⟨m, hn, hl⟩ := id I.loc
 have hcls : (X.env.scope.kind == .class || (X.env.scope.kind == .module && X.env.locals != X.env.globals)) = false := by rw [I.ok.kind]; rfl
 have Nz : i < σ.length := by rw [I.len]; exact (List.getElem?_eq_some_iff.mp hi).1
 have K8 := I.K8
 have tracked : ∀ {a : Addr} {h' : Heap}, (∃ o, s.heap.get? a = some o ∧ H a = none) → Heap.SameBut a s.heap h' → G8 X.prog X.w H h' := fun {a h'} ha hs b ob e => by
  obtain ⟨_, _, hfree⟩ := ha
  refine (I.hok b ob e).stay (fun c w' hc q => (hs.2 c ?_).trans q) (fun _ q => q) fun _ _ q => q
  rintro rfl
  rcases hc with rfl | hc
  ·rw [hfree] at e; cases e
  ·rw [hfree] at hc; cases hc
 rcases hx with hk | hk
 ·refine wpAny_storeName_local hk hn (fun h' hn' hs => ?_) hcls
  obtain ⟨oL, _, _, Ow, _⟩ := id hn
  refine h _ ⟨I.ok, I.os, I.bare, ⟨fun b o e n hb hx => ?_, fun b o e n hb hx => ?_, I.base.free, fun b o e hx => ?_, I.base.tups, I.base.Ij, I.base.Iw⟩, ⟨_, hn', fun j y v' e1 e2 e3 => ?_⟩, fun y c e => ?_, I.free, I.Gz, fun p hp => ?_, tracked ⟨oL, Ow, I.free⟩ hs, by simpa using I.len⟩ ⟨_, hs, .inl rfl⟩
  ·exact (hs.2 b (Nat.ne_of_lt (Nat.lt_of_lt_of_le (Heap.lt_size e) I.ok.above))).trans (I.base.keep b o e n hb hx)
  ·obtain ⟨sl, e1⟩ := I.base.slot b o e n hb hx
   exact ⟨sl, (hs.2 b (Nat.ne_of_lt (Nat.lt_of_lt_of_le (Heap.lt_size e) I.ok.above))).trans e1⟩
  ·obtain ⟨o', e1⟩ := I.base.there b o e hx
   exact ⟨o', (hs.2 b (Nat.ne_of_lt (Nat.lt_of_lt_of_le (Heap.lt_size e) I.ok.above))).trans e1⟩
  ·by_cases hj : j = i
   ·subst hj
    rw [hi] at e1; cases e1
    rw [List.getElem?_set_self Nz] at e2
    cases e2
    exact ⟨u, r, .inl ⟨hk, by simp⟩⟩
   ·rw [List.getElem?_set_ne (Ne.symm hj)] at e2
    obtain ⟨u', r', q⟩ := hl j y v' e1 e2 e3
    refine ⟨u', r', ?_⟩
    rcases q with ⟨k, e⟩ | ⟨k, c, e, z⟩
    ·refine .inl ⟨k, ?_⟩
     have : y ≠ x := fun e => hj (nW hN e1 (e ▸ hi))
     simp [this, e]
    ·exact .inr ⟨k, c, e, z.sameBut hs (K8 y c e)⟩
  ·obtain ⟨w', z⟩ := I.cell y c e
   exact ⟨w', z.sameBut hs (K8 y c e)⟩
  ·obtain ⟨e, n, ne, nf, d⟩ := I.pin p hp
   exact ⟨(hs.2 p.1 ne).trans e, n, ne, nf, d⟩
 ·have hfn : X.fn x = true := by
   rcases hf with z | z
   ·exact z
   ·rw [z] at hk; cases hk
  obtain ⟨c, hc⟩ := I.ok.has x (.inl hk)
  obtain ⟨w', z⟩ := I.cell x c hc
  refine wpAny_storeName_cell I.ok.kind hk hc z (fun h' hc' hs => ?_)
  obtain ⟨oc, hoc, MF⟩ := id z
  refine h { s with heap := h' } ⟨I.ok, I.os, I.bare, ⟨fun b o e n hb hx => ?_, fun b o e n hb hx => ?_, I.base.free, fun b o e hx => ?_, I.base.tups, I.base.Ij, I.base.Iw⟩, ⟨m, hn.sameBut hs (Ne.symm (K8 x c hc)), fun j y v' e1 e2 e3 => ?_⟩, fun y c' e => ?_, I.free, I.Gz, fun p hp => ?_, tracked ⟨oc, hoc, I.Gz x c hc⟩ hs, by simpa using I.len⟩ ⟨c, hs, .inr hc⟩
  ·exact (hs.2 b (Nat.ne_of_lt (Nat.lt_of_lt_of_le (Heap.lt_size e) (I.ok.Kv x c hfn hc)))).trans (I.base.keep b o e n hb hx)
  ·obtain ⟨sl, e1⟩ := I.base.slot b o e n hb hx
   exact ⟨sl, (hs.2 b (Nat.ne_of_lt (Nat.lt_of_lt_of_le (Heap.lt_size e) (I.ok.Kv x c hfn hc)))).trans e1⟩
  ·obtain ⟨o', e1⟩ := I.base.there b o e hx
   exact ⟨o', (hs.2 b (Nat.ne_of_lt (Nat.lt_of_lt_of_le (Heap.lt_size e) (I.ok.Kv x c hfn hc)))).trans e1⟩
  ·by_cases hj : j = i
   ·subst hj
    rw [hi] at e1; cases e1
    rw [List.getElem?_set_self Nz] at e2
    cases e2
    exact ⟨u, r, .inr ⟨.inl hk, c, hc, hc'⟩⟩
   ·rw [List.getElem?_set_ne (Ne.symm hj)] at e2
    obtain ⟨u', r', q⟩ := hl j y v' e1 e2 e3
    refine ⟨u', r', ?_⟩
    rcases q with q | ⟨k, c', e, z'⟩
    ·exact .inl q
    ·refine .inr ⟨k, c', e, z'.sameBut hs ?_⟩
     rintro rfl
     exact hj (nW hN e1 (I.ok.inj _ _ _ e hc ▸ hi))
  ·by_cases hcc : c' = c
   ·subst hcc; exact ⟨_, hc'⟩
   ·obtain ⟨w2, z2⟩ := I.cell y c' e
    exact ⟨w2, z2.sameBut hs hcc⟩
  ·obtain ⟨e, n, ne, nf, d⟩ := I.pin p hp
   refine ⟨(hs.2 p.1 ?_).trans e, n, ne, nf, d⟩
   intro q
   rw [q, hoc] at e
   have q' : oc = p.2 := Option.some.inj e
   exact d w' (by rw [← q']; exact MF)
theorem cZ{M:Model}{A:Around}{E:Value→Shared→Prop}{i:Nat}{x:Str}{v:V}{u:Value}{Q:Unit→Shared→Prop}(I:Inv X pins σ H s)(hN:X.N.Nodup)(hi:X.N[i]?=some x)(hx:yz X.env.scope x)(r:RelV v u)
  (h:∀s',Inv X pins (σ.set i (some v)) H s'→Q () s') (hf:X.fn x=true∨X.env.scope.names.lookup x=some .local:=by first|exact .inl rfl|exact .inr rfl|assumption):wpAny M A (storeName X.env x u) Q E s:=
 lL I hN hi hx r (fun s' I' _=>h s' I') hf
theorem Inv.KO{s':Shared}{ch:List Addr}(I:Inv X pins σ H s)(ho:s'.os=s.os)(u:Un (frs X.stack) ch H H' s.heap s'.heap)(hok:G8 X.prog X.w H' s'.heap)(hg:AllBare s'.gens)
  (hch:∀b∈ch,(b∈X.ex∨X.s₀.heap.objs.size≤b)∧b≠X.env.locals∧(∀x c,X.env.cells.lookup x=some c→c≠b)∧∀p∈X.pn++pins,p.1≠b):Inv X pins σ H' s':=by
 obtain⟨h',g',d',t',o'⟩:=s'
 have e:o'=s.os:=ho
 subst e
 exact I.call (g':=g') (t':=t') (d':=d') u hok hg hch
end
abbrev XK:=Value→Option Addr→Hp→Prop
abbrev St:=List (Option V)
abbrev VK:=V→Hp→Prop
abbrev TE:=St→Hp→VK→Prop
abbrev TT:=St→Hp→(Bool→Hp→Prop)→Prop
abbrev TA:=St→Hp→(List V→Hp→Prop)→Prop
structure ka where
 nx:St→Hp→Prop
 rt:VK
 bk:St→Hp→Prop:=fun _ _=>False
 ct:St→Hp→Prop:=fun _ _=>False
abbrev TS:=ka→St→Hp→Prop
def EP(X:Cx)(pins:List (Addr×Obj))(σ:St)(Q:VK)(u:Value)(s':Shared):Prop:=∃v H',Inv X pins σ H' s'∧RelV v u∧Q v H'
def TP(X:Cx)(pins:List (Addr×Obj))(σ:St)(Q:Bool→Hp→Prop)(b:Bool)(s':Shared):Prop:=∃H',Inv X pins σ H' s'∧Q b H'
def AP(X:Cx)(pins:List (Addr×Obj))(σ:St)(Q:List V→Hp→Prop)(us:List Value)(s':Shared):Prop:=∃vs H',Inv X pins σ H' s'∧Vals vs us∧Q vs H'
def SP(X:Cx)(pins:List (Addr×Obj))(D:ka)(f:Flow)(s':Shared):Prop:=
 match f with
 | .next=>∃σ' H',Inv X pins σ' H' s'∧D.nx σ' H'
 | .brk=>∃σ' H',Inv X pins σ' H' s'∧D.bk σ' H'
 | .cont=>∃σ' H',Inv X pins σ' H' s'∧D.ct σ' H'
 | .ret u=>∃v σ' H',Inv X pins σ' H' s'∧RelV v u∧D.rt v H'
def PE(X:Cx)(e:Expr)(t:TE):Prop:=
 ∀(pins:List (Addr×Obj)) (s:Shared) (σ:St) (H:Hp) (Q:VK),Inv X pins σ H s→t σ H Q→wpAny (model X.prog X.w) X.A (eval e X.env) (EP X pins σ Q) X.xe s
def PT(X:Cx)(e:Expr)(t:TT):Prop:=
 ∀(pins:List (Addr×Obj)) (s:Shared) (σ:St) (H:Hp) (Q:Bool→Hp→Prop),Inv X pins σ H s→t σ H Q→wpAny (model X.prog X.w) X.A (isTrue e X.env (eval e X.env)) (TP X pins σ Q) X.xe s
def PW(X:Cx)(e:Expr)(t:TT):Prop:=
 ∀(whole:Sem Value) (pins:List (Addr×Obj)) (s:Shared) (σ:St) (H:Hp) (Q:Bool→Hp→Prop),Inv X pins σ H s→t σ H Q→wpAny (model X.prog X.w) X.A (isTrue e X.env whole) (TP X pins σ Q) X.xe s
theorem PW.pt{X:Cx}{e:Expr}{t:TT}(h:PW X e t):PT X e t:=h _
def PA(X:Cx)(es:List Expr)(t:TA):Prop:=
 ∀(pos:Pos) (pins:List (Addr×Obj)) (s:Shared) (σ:St) (H:Hp) (Q:List V→Hp→Prop),Inv X pins σ H s→t σ H Q→wpAny (model X.prog X.w) X.A (spliced (backTo pos (starEach es X.env))) (AP X pins σ Q) X.xe s
def PS(X:Cx)(st:Stmt)(t:TS):Prop:=
 ∀(pins:List (Addr×Obj)) (s:Shared) (σ:St) (H:Hp) (D:ka),Inv X pins σ H s→t D σ H→wpAny (model X.prog X.w) X.A (exec st X.env) (SP X pins D) X.xe s
def IN(X:Cx)(st:List Stmt)(t:TS):Prop:=
 ∀(pins:List (Addr×Obj)) (s:Shared) (σ:St) (H:Hp) (D:ka),Inv X pins σ H s→t D σ H→wpAny (model X.prog X.w) X.A (execs st X.env) (SP X pins D) X.xe s
theorem FI{α:Type}{t:Sem α}{Q Q':α→Shared→Prop}{M:Model}{A:Around}{E:Value→Shared→Prop}{s:Shared}(h:wpAny M A t Q E s)(hQ:∀a s,Q a s→Q' a s):wpAny M A t Q' E s:=wpAny_mono h hQ fun _ _ x=>x
section
variable {X:Cx}
def sv(i:Nat):TE:=fun σ H Q=>∃v,σ[i]?=some (some v)∧Q v H
def tC(v:V):TE:=fun _ H Q=>Q v H
theorem tU{i:Nat}{x:Str}{pos:Pos}(hN:X.N[i]?=some x)(hv:Bz X.env.scope x)(hd:(x == ("__debug__":Str))=false:=by decide)(hcd:(x == ("__classdict__":Str))=false:=by decide):PE X (.Name x pos) (sv i):=by
 intro pins s σ H Q I h
 obtain⟨v,e,h⟩:=h
 obtain⟨m,hn,hl⟩:=I.loc
 obtain⟨u,r,l⟩:=hl i x v hN e hv
 have fin:EP X pins σ Q u s:=⟨v,H,I,r,h⟩
 rcases l with⟨hk,hm⟩|⟨hk,c,hc,hcell⟩
 ·exact wpAny_Name (wpAny_loadName_local I.ok.kind hk hn hm fin) hd
 ·rcases hk with hk|hk
  ·exact wpAny_Name (wpAny_loadName_cell I.ok.kind hk hc hcell fin) hd
  ·exact wpAny_Name (wpAny_loadName_free I.ok.kind hk hc hcell fin hcd) hd
theorem yV{i j pos}:PE X (.Constant (.int i) j pos) (tC (.int i)):=fun _ _ _ H _ I h=>wpAny_Constant_int ⟨.int i,H,I.tok _,⟨_,rfl⟩,h⟩
theorem BA{b j pos}:PE X (.Constant (.bool b) j pos) (tC (.bl b)):=fun _ _ _ H _ I h=>Constant_bool ⟨.bl b,H,I,rfl,h⟩
theorem yW{x j pos}:PE X (.Constant (.str x) j pos) (tC (.str x)):=fun _ _ _ H _ I h=>Calls.Constant_str ⟨.str x,H,I.tok _,⟨_,rfl⟩,h⟩
def Gl(X:Cx)(x:Str):Prop:=X.env.kindOf x=some .globalImplicit
theorem fY{E:Value→Shared→Prop}{pins:List (Addr×Obj)}{s:Shared}{σ:St}{H:Hp}{x:Str}{u:Value}{pos:Pos}{Q:Value→Shared→Prop}(I:Inv X pins σ H s)(hg:Gl X x)(hm:X.mg x=some u)(h:Q u s)
  (hd:(x == ("__debug__":Str))=false:=by decide):wpAny (model X.prog X.w) X.A (eval (.Name x pos) X.env) Q E s:=
 Calls.Name_function_global I.ok.kind hg (Calls.loadGlobal_global (by rw[I.ok.glob];exact I.mod.glob.keeps I.bk) hm h) hd
theorem gH{E:Value→Shared→Prop}{pins:List (Addr×Obj)}{s:Shared}{σ:St}{H:Hp}{x:Str}{u:Value}{pos:Pos}{Q:Value→Shared→Prop}(I:Inv X pins σ H s)(hg:Gl X x)(hm:X.mg x=none)(hv:bootBuiltins x=some u)(h:Q u s)
  (hn:x ≠ "__name__":=by decide) (hd:(x == ("__debug__":Str))=false:=by decide):wpAny (model X.prog X.w) X.A (eval (.Name x pos) X.env) Q E s:=by
 obtain⟨mb,h1,h2⟩:=I.mod.blt
 exact Calls.Name_function_global I.ok.kind hg (Calls.loadGlobal_builtin (by rw[I.ok.glob];exact I.mod.glob.keeps I.bk) hm (by rw[I.ok.blt];exact h1.keeps I.bk) ((h2 x hn).trans hv) h) hd
variable {a b:Expr} {ta tb:TE} {pos:Pos}
def tB(t:TE):TT:=fun σ H Q=>t σ H fun x H1=>∃c,x = .bl c∧Q c H1
theorem yX{e:Expr}{t:TE}(h:PE X e t)(he:∀whole,isTrue e X.env whole=(do let v ←whole;standAt e.pos;holding [v] (truthy v)):=by intro _;rfl):PT X e (tB t):=by
 intro pins s σ H Q I hw
 refine isTrue_plain (FI (h pins s σ H _ I hw) fun v s1 ⟨x,H1,I1,r1,q1⟩=>?_) (he _)
 obtain⟨d,rfl,q⟩:=q1
 cases r1
 exact wpAny_truthy_bool ⟨H1,I1,q⟩
variable {tA Mj:TT} {rest:List Expr}
def Du(t u:TT):TT:=fun σ H Q=>t σ H fun c H1=>if c=true then u σ H1 Q else Q false H1
def EY(t u:TT):TT:=fun σ H Q=>t σ H fun c H1=>if c=true then Q true H1 else u σ H1 Q
def Dv(t:TT):TT:=fun σ H Q=>t σ H fun c H1=>Q (!c) H1
theorem wv(ha:PT X a tA):PW X (.BoolOp .And [a] pos) tA:=by
 intro wh pins s σ H Q I h
 refine isTrue_and (FI (ha pins s σ H Q I h) fun c s1 e=>?_)
 cases c with
 |true=>exact isTrue_and_nil e
 |false=>exact e
theorem yY(ha:PT X a tA):PW X (.BoolOp .Or [a] pos) tA:=by
 intro wh pins s σ H Q I h
 refine isTrue_or (FI (ha pins s σ H Q I h) fun c s1 e=>?_)
 cases c with
 |false=>exact isTrue_or_nil e
 |true=>exact e
theorem yZ(ha:PT X a tA)(hb:PW X (.BoolOp .And (b::rest) pos) Mj):PW X (.BoolOp .And (a::b::rest) pos) (Du tA Mj):=by
 intro wh pins s σ H Q I h
 refine isTrue_and (FI (ha pins s σ H _ I h) fun c s1 ⟨H1,I1,q1⟩=>?_)
 cases c with
 |true=>exact hb wh pins s1 σ H1 Q I1 q1
 |false=>exact⟨H1,I1,q1⟩
theorem BB(ha:PT X a tA)(hb:PW X (.BoolOp .Or (b::rest) pos) Mj):PW X (.BoolOp .Or (a::b::rest) pos) (EY tA Mj):=by
 intro wh pins s σ H Q I h
 refine isTrue_or (FI (ha pins s σ H _ I h) fun c s1 ⟨H1,I1,q1⟩=>?_)
 cases c with
 |true=>exact⟨H1,I1,q1⟩
 |false=>exact hb wh pins s1 σ H1 Q I1 q1
theorem y7(ha:PT X a tA):PT X (.UnaryOp .Not a pos) (Dv tA):=by
 intro pins s σ H Q I h
 exact isTrue_not (ha pins s σ H (fun c H1=>Q (!c) H1) I h)
def BC(ta tb:TE):TE:=fun σ H Q=>ta σ H fun x H1=>∃c,x = .bl c∧if c=true then tb σ H1 Q else Q (.bl false) H1
theorem y8{op}{t:TE}(h:PE X a t):PE X (.BoolOp op [a] pos) t:=fun pins s σ H Q I hw=>BoolOp_one (h pins s σ H Q I hw)
theorem y9(ha:PE X a ta)(hb:PE X (.BoolOp .And (b::rest) pos) tb):PE X (.BoolOp .And (a::b::rest) pos) (BC ta tb):=by
 intro pins s σ H Q I h
 refine BoolOp_and (FI (ha pins s σ H _ I h) fun v s1 ⟨x,H1,I1,r1,q1⟩=>?_)
 obtain⟨c,rfl,q1⟩:=q1
 cases r1
 refine wpAny_truthy_bool ?_
 cases c with
 |true=>exact hb pins s1 σ H1 Q I1 q1
 |false=>exact⟨.bl false,H1,I1,rfl,q1⟩
def EZ(t:TT)(ta tb:TE):TE:=fun σ H Q=>t σ H fun c H1=>if c=true then ta σ H1 Q else tb σ H1 Q
theorem tV{c:Expr}(hc:PT X c tA)(ha:PE X a ta)(hb:PE X b tb):PE X (.IfExp c a b pos) (EZ tA ta tb):=by
 intro pins s σ H Q I h
 refine wpAny_IfExp (FI (hc pins s σ H _ I h) fun d s1 ⟨H1,I1,q1⟩=>?_)
 cases d with
 |true=>exact ha pins s1 σ H1 Q I1 q1
 |false=>exact hb pins s1 σ H1 Q I1 q1
end
def SqL(K:PySem.W.Frag)(H:Hp)(a:Addr)(xs:List V):Prop:=
 Rd H a (.lst xs) ∨
  ∃(o:Obj) (its:Array Value) (n:Nat),K.lookup a=some o∧o.cls = .type "list"∧o.dict=none∧o.data = .seq its n∧its.size≤sizeLine∧Vals xs its.toList
def F3(K:PySem.W.Frag)(H:Hp)(a:Addr)(xs:List V):Prop:=
 Rd H a (.tup xs) ∨
  ∃(o:Obj) (its:Array Value) (n:Nat),K.lookup a=some o∧o.cls = .type "tuple"∧o.dict=none∧o.data = .seq its n∧its.size≤sizeLine∧Vals xs its.toList
noncomputable def Dw:Value→Option V
 | .none=>some .non
 | .bool b=>some (.bl b)
 | .int i _=>some (.int i)
 | .str x _=>some (.str x)
 | .bytes b _=>some (.Kb b)
 | .float b _=>some (.Lx b)
 | .ref a=>some (.ref a)
 | .type n=>some (.ty n)
 |_=>none
theorem RelV.abs{x:V}{u:Value}(r:RelV x u):Dw u=some x:=by
 cases x with
 |non=>cases r;rfl
 |bl _=>cases r;rfl
 |int _=>obtain⟨t,rfl⟩:=r;rfl
 |str _=>obtain⟨t,rfl⟩:=r;rfl
 |Kb _=>obtain⟨t,rfl⟩:=r;rfl
 |Lx _=>obtain⟨t,rfl⟩:=r;rfl
 |ref _=>cases r;rfl
 |ty _=>cases r;rfl
theorem RelV.inj{x y:V}{u:Value}(r:RelV x u)(q:RelV y u):x=y:=Option.some.inj (r.abs.symm.trans q.abs)
theorem Vals.inj:∀{xs ys:List V} {us:List Value},Vals xs us→Vals ys us→xs=ys
 |_,_,_,.nil,.nil=>rfl
 |_,_,_,.cons r t,.cons r' t'=>by rw[r.inj r',Vals.inj t t']
section
variable {X:Cx} {pins:List (Addr×Obj)} {σ:St} {H:Hp} {s:Shared} {a:Addr} {xs ys:List V}
theorem SqL.of{K:PySem.W.Frag}(h:H a=some (.lst xs)):SqL K H a xs:=.inl (.inl h)
theorem F3.of{K:PySem.W.Frag}(h:H a=some (.tup xs)):F3 K H a xs:=.inl (.inl h)
theorem Inv.list(I:Inv X pins σ H s)(h:SqL X.K H a xs):∃its:List Value,Vals xs its∧PlainL s.heap a its.toArray∧xs.length≤sizeLine:=by
 rcases h with h|⟨o,its,n,hk,hc,hd,hs,hz,r⟩
 ·obtain⟨z,its,n,r,e⟩:=h.ok I.hok
  exact⟨its,r,⟨_,n,e,rfl,rfl,rfl⟩,z⟩
 ·refine⟨its.toList,r,⟨o,n,I.Ik a o hk,hc,hd,by simpa using hs⟩,?_⟩
  have e:=r.length
  simp only[Array.length_toList]at e
  omega
theorem Inv.tuple(I:Inv X pins σ H s)(h:F3 X.K H a xs):∃its:List Value,Vals xs its∧IsTup s.heap a its.toArray∧xs.length≤sizeLine:=by
 rcases h with h|⟨o,its,n,hk,hc,_,hs,hz,r⟩
 ·obtain⟨z,its,r,p⟩:=h.ok I.hok
  exact⟨its,r,p.tup,z⟩
 ·refine⟨its.toList,r,⟨o,I.Ik a o hk,hc,n,by simpa using hs⟩,?_⟩
  have e:=r.length
  simp only[Array.length_toList]at e
  omega
theorem Inv.Kf(I:Inv X pins σ H s)(h:SqL X.K H a xs)(h':SqL X.K H a ys):xs=ys:=by
 obtain⟨its,r,⟨o,n,e,_,_,d⟩,_⟩:=I.list h
 obtain⟨its',r',⟨o',n',e',_,_,d'⟩,_⟩:=I.list h'
 rw[e]at e';cases e'
 rw[d]at d'
 injection d' with d1 _
 have:its=its':=by simpa using congrArg Array.toList d1
 subst this
 exact r.inj r'
theorem Inv.Gw(I:Inv X pins σ H s)(h:F3 X.K H a xs)(h':F3 X.K H a ys):xs=ys:=by
 obtain⟨its,r,⟨o,e,_,n,d⟩,_⟩:=I.tuple h
 obtain⟨its',r',⟨o',e',_,n',d'⟩,_⟩:=I.tuple h'
 rw[e]at e';cases e'
 rw[d]at d'
 injection d' with d1 _
 have:its=its':=by simpa using congrArg Array.toList d1
 subst this
 exact r.inj r'
end
noncomputable abbrev Cx.wish(X:Cx)(E:Value→Shared→Prop):Cx:={ X with xe:=E }
noncomputable abbrev Cx.JY(X:Cx):Cx:=X.wish fun _ _=>False
theorem Cx.Ok.wish{X:Cx}(ok:X.Ok)(E:Value→Shared→Prop):(X.wish E).Ok:=
 ⟨ok.mod,ok.kind,ok.glob,ok.blt,ok.above,ok.inj,ok.has,ok.Kv,ok.hd,ok.frames,ok.stk,ok.K7,ok.bs,ok.JN,ok.IO,ok.IU,ok.Hi,ok.Kc⟩
theorem Cx.Ok.GN{X:Cx}{E:Value→Shared→Prop}(ok:(X.wish E).Ok):X.Ok:=
 ⟨ok.mod,ok.kind,ok.glob,ok.blt,ok.above,ok.inj,ok.has,ok.Kv,ok.hd,ok.frames,ok.stk,ok.K7,ok.bs,ok.JN,ok.IO,ok.IU,ok.Hi,ok.Kc⟩
section
variable {X:Cx} {pins:List (Addr×Obj)} {σ:St} {H:Hp} {s:Shared} {E:Value→Shared→Prop}
theorem Inv.wish(I:Inv X pins σ H s)(E:Value→Shared→Prop):Inv (X.wish E) pins σ H s:=⟨I.ok.wish E,I.os,I.bare,I.base,I.loc,I.cell,I.free,I.Gz,I.pin,I.hok,I.len⟩
theorem Inv.GN(I:Inv (X.wish E) pins σ H s):Inv X pins σ H s:=⟨I.ok.GN,I.os,I.bare,I.base,I.loc,I.cell,I.free,I.Gz,I.pin,I.hok,I.len⟩
theorem SP.GN{D:ka}{f:Flow}{s':Shared}(h:SP (X.wish E) pins D f s'):SP X pins D f s':=by
 cases f with
 |next=>obtain⟨σ',H',I,q⟩:=h;exact⟨σ',H',I.GN,q⟩
 |brk=>obtain⟨σ',H',I,q⟩:=h;exact⟨σ',H',I.GN,q⟩
 |cont=>obtain⟨σ',H',I,q⟩:=h;exact⟨σ',H',I.GN,q⟩
 |ret u=>obtain⟨v,σ',H',I,r,q⟩:=h;exact⟨v,σ',H',I.GN,r,q⟩
theorem PE.JY{e:Expr}{t:TE}(h:PE X.JY e t):PE X e t:=fun pins s σ H Q I hw=>
 wpAny_mono (h pins s σ H Q (I.wish _) hw) (fun _ _ ⟨v,H',I',r,q⟩=>⟨v,H',I'.GN,r,q⟩) fun _ _ z=>False.elim z
theorem PT.JY{e:Expr}{t:TT}(h:PT X.JY e t):PT X e t:=fun pins s σ H Q I hw=>
 wpAny_mono (h pins s σ H Q (I.wish _) hw) (fun _ _ ⟨H',I',q⟩=>⟨H',I'.GN,q⟩) fun _ _ z=>False.elim z
theorem IN.JY{st:List Stmt}{t:TS}(h:IN X.JY st t):IN X st t:=fun pins s σ H D I hw=>
 wpAny_mono (h pins s σ H D (I.wish _) hw) (fun _ _ q=>q.GN) fun _ _ z=>False.elim z
end
section
variable {X:Cx} {st:Stmt} {rest:List Stmt} {t u:TS} {e:Expr} {te:TE} {pos:Pos}
def BD:TS:=fun D σ H=>D.nx σ H
def Dx(t u:TS):TS:=fun D σ H=>t { D with nx:=u D } σ H
theorem ww:IN X [] BD:=fun _ _ σ H _ I h=>wpAny_execs_nil ⟨σ,H,I,h⟩
theorem tW(h1:PS X st t)(h2:IN X rest u):IN X (st::rest) (Dx t u):=by
 intro pins s σ H D I h
 refine wpAny_execs_cons (FI (h1 pins s σ H { D with nx:=u D } I h) fun f s1 q=>?_)
 cases f with
 |next=>
  obtain⟨σ',H',I',q⟩:=q
  exact h2 pins s1 σ' H' D I' q
 |ret v=>exact q
 |brk=>exact q
 |cont=>exact q
theorem mC(h1:PS X st t):IN X [st] t:=by
 intro pins s σ H D I h
 refine wpAny_execs_cons (FI (h1 pins s σ H D I h) fun f s1 q=>?_)
 cases f with
 |next=>exact wpAny_execs_nil q
 |ret v=>exact q
 |brk=>exact q
 |cont=>exact q
theorem Inv.quiet{pins:List (Addr×Obj)}{σ:St}{H:Hp}{s:Shared}(I:Inv X pins σ H s):interactive X.env=false:=by simp[interactive,I.ok.kind]
def BE(te:TE):TS:=fun D σ H=>te σ H fun _ H1=>D.nx σ H1
theorem wx(he:PE X e te)(hs:swapsWith e none pos.line X.env=pure false:=by rfl):PS X (.Expr e pos) (BE te):=by
 intro pins s σ H D I h
 exact wpAny_Expr_any (FI (he pins s σ H _ I h) fun v s1 ⟨x,H1,I1,r1,q1⟩=>⟨σ,H1,I1,q1⟩) I.quiet hs
def Dy(te:TE):TS:=fun D σ H=>te σ H D.rt
theorem y_(he:PE X e te):PS X (.Return (some e) pos) (Dy te):=by
 intro pins s σ H D I h
 exact wpAny_Return_some (FI (he pins s σ H _ I h) fun v s1 ⟨x,H1,I1,r1,q1⟩=>⟨x,σ,H1,I1,r1,q1⟩)
def Dz(c:TT)(t u:TS):TS:=fun D σ H=>c σ H fun b H1=>if b=true then t D σ H1 else u D σ H1
theorem BF{c:Expr}{a b:List Stmt}{tc:TT}(hc:PT X c tc)(ha:IN X a t)(hb:IN X b u):PS X (.If c a b pos) (Dz tc t u):=by
 intro pins s σ H D I h
 refine wpAny_If (FI (hc pins s σ H _ I h) fun d s1 ⟨H1,I1,q1⟩=>?_)
 cases d with
 |true=>exact ha pins s1 σ H1 D I1 q1
 |false=>exact hb pins s1 σ H1 D I1 q1
end
abbrev TG:=V→St→Hp→(St→Hp→Prop)→Prop
abbrev yA:=List V→St→Hp→(St→Hp→Prop)→Prop
def PG(X:Cx)(target:Expr)(t:TG):Prop:=
 ∀(pins:List (Addr×Obj)) (s:Shared) (σ:St) (H:Hp) (v:V) (u:Value) (Q:St→Hp→Prop),Inv X pins σ H s→RelV v u→t v σ H Q→
  wpAny (model X.prog X.w) X.A (assign target X.env u) (fun _ s'=>∃σ' H',Inv X pins σ' H' s'∧Q σ' H') X.xe s
def BG(X:Cx)(ts:List Expr)(t:yA):Prop:=
 ∀(pins:List (Addr×Obj)) (s:Shared) (σ:St) (H:Hp) (vs:List V) (us:List Value) (Q:St→Hp→Prop),Inv X pins σ H s→Vals vs us→t vs σ H Q→
  wpAny (model X.prog X.w) X.A (assignInOrder ((assignEach ts X.env).map (·.2)) us) (fun _ s'=>∃σ' H',Inv X pins σ' H' s'∧Q σ' H') X.xe s
abbrev zd:=V→V→V→Hp→(Hp→Prop)→Prop
def wy(X:Cx)(t:zd):Prop:=
 ∀(pins:List (Addr×Obj)) (s:Shared) (σ:St) (H:Hp) (o i v:V) (ov iv u:Value) (Q:Hp→Prop),Inv X pins σ H s→RelV o ov→RelV i iv→RelV v u→t o i v H Q→
  wpAny (model X.prog X.w) X.A (setItem ov iv u) (fun _ s'=>∃H',Inv X pins σ H' s'∧Q H') X.xe s
section
variable {X:Cx} {pos:Pos}
def nX(i:Nat):TG:=fun v σ H Q=>Q (σ.set i (some v)) H
theorem wA{i:Nat}{x:Str}(hN:X.N.Nodup)(hi:X.N[i]?=some x)(hx:yz X.env.scope x)(hf:X.fn x=true∨X.env.scope.names.lookup x=some .local:=by first|exact .inl rfl|exact .inr rfl|assumption):PG X (.Name x pos) (nX i):=by
 intro pins s σ H v u Q I r h
 exact wpAny_assign_Name (cZ I hN hi hx r (fun s' I'=>⟨_,H,I',h⟩) hf)
noncomputable def BH:yA:=fun vs σ H Q=>vs=[]∧Q σ H
noncomputable def yB(t:TG)(u:yA):yA:=fun vs σ H Q=>∃v r,vs=v::r∧t v σ H fun σ' H'=>u r σ' H' Q
theorem wB:BG X [] BH:=by
 intro pins s σ H vs us Q I r h
 obtain⟨e,h⟩:=h
 subst e
 cases r
 exact assignInOrder_nil ⟨σ,H,I,h⟩
theorem tX{e:Expr}{es:List Expr}{t:TG}{u:yA}(h1:PG X e t)(h2:BG X es u)
  (hs:(assignEach (e::es) X.env).map (·.2)=assign e X.env::(assignEach es X.env).map (·.2):=by rfl):BG X (e::es) (yB t u):=by
 intro pins s σ H vs us Q I r h
 obtain⟨v,vr,e1,h⟩:=h
 subst e1
 cases r with
 |cons r rr=>
  rw[hs]
  refine assignInOrder_cons (FI (h1 pins s σ H _ _ _ I r h) fun _ s1 ⟨σ1,H1,I1,q1⟩=>?_)
  exact h2 pins s1 σ1 H1 _ _ Q I1 rr q1
def BI(K:PySem.W.Frag)(n:Nat)(t:yA):TG:=fun v σ H Q=>∃a xs,v = .ref a∧F3 K H a xs∧xs.length=n∧t xs σ H Q
theorem ze{es:List Expr}{k:Nat}{t:yA}{n:Nat}(hc:X.calm=true)(h:BG X es t)
  (hn:(assignEach es X.env).length=n:=by rfl) (hst:(assignEach es X.env).findIdx? (·.1)=none:=by rfl):PG X (.Tuple es k pos) (BI X.K n t):=by
 intro pins s σ H v u Q I r hw
 obtain⟨a,xs,e1,hq,hl,hw⟩:=hw
 subst e1
 cases r
 obtain⟨its,rv,ht,hz⟩:=I.tuple hq
 refine assign_Tuple_tuple (I.ok.hd hc) ht (by simp[hn,←hl,rv.length]) hst fun h' hx=>?_
 have I1:Inv X pins σ H { s with heap:=h' }:=I.kept (t':=s.toks) fun b o e=>hx b o (Nat.ne_of_lt (Heap.lt_size e)) e
 exact h pins _ σ H xs _ Q I1 (by simpa using rv) hw
def DA(to ti:TE)(t:zd):TG:=fun v σ H Q=>to σ H fun o H1=>ti σ H1 fun i H2=>t o i v H2 fun H3=>Q σ H3
theorem zf{o i:Expr}{to ti:TE}{t:zd}(ho:PE X o to)(hi:PE X i ti)(hs:wy X t)
  (ha:∀v,assign (.Subscript o i pos) X.env v=(do
   let ov ←holding [v] (eval o X.env)
   let iv ←holding [v,ov] (eval i X.env)
   standAt pos
   holding [v,ov,iv] (setItem ov iv v)
   release [v,ov,iv] []):=by intro _;rfl):PG X (.Subscript o i pos) (DA to ti t):=by
 intro pins s σ H v u Q I r h
 rw[ha]
 refine wpAny_bind (wpAny_holding (FI (ho pins s σ H _ I h) fun ov s1 ⟨x,H1,I1,r1,q1⟩=>?_))
 refine wpAny_bind (wpAny_holding (FI (hi pins s1 σ H1 _ I1 q1) fun iv s2 ⟨y,H2,I2,r2,q2⟩=>?_))
 refine wpAny_bind (wpAny_standAt (wpAny_bind (wpAny_holding (FI (hs pins s2 σ H2 x y v ov iv u _ I2 r1 r2 r q2) fun _ s3 ⟨H3,I3,q3⟩=>?_))))
 exact wpAny_release ⟨σ,H3,I3,q3⟩
def wC(te:TE)(g:TG):TS:=fun D σ H=>te σ H fun x H1=>g x σ H1 D.nx
theorem tY{tg e:Expr}{te:TE}{g:TG}(he:PE X e te)(hg:PG X tg g)(hs:swapsWithSole [tg] e pos.line X.env=pure false:=by rfl)(hw:swappedStores [tg] e X.env=pure none:=by rfl)
  (h1:(assignEach [tg] X.env).map (·.2)=[assign tg X.env]:=by rfl):PS X (.Assign [tg] e pos) (wC te g):=by
 intro pins s σ H D I h
 refine wpAny_Assign_stores (FI (he pins s σ H _ I h) fun v s1 ⟨x,H1,I1,r1,q1⟩=>?_) hs hw
 rw[h1]
 exact FI (hg pins s1 σ H1 x v _ I1 r1 q1) fun _ s2 q=>q
theorem zg{i:Nat}{x:Str}{e:Expr}{te:TE}{pos':Pos}(hN:X.N.Nodup)(hi:X.N[i]?=some x)(hx:yz X.env.scope x)(he:PE X e te)(hs:swapsWith e (some (.Name x pos')) pos.line X.env=pure false:=by rfl)(hf:X.fn x=true∨X.env.scope.names.lookup x=some .local:=by first|exact .inl rfl|exact .inr rfl|assumption) :
  PS X (.Assign [.Name x pos'] e pos) (wC te (nX i)):=by
 intro pins s σ H D I h
 refine wpAny_Assign_Name (FI (he pins s σ H _ I h) fun v s1 ⟨y,H1,I1,r1,q1⟩=>?_) hs
 exact cZ I1 hN hi hx r1 (fun s2 I2=>⟨_,H1,I2,q1⟩) hf
def DB(i j:Nat)(ta:TA):TS:=fun D σ H=>ta σ H fun vs H1=>∃v w,vs=[v,w]∧D.nx ((σ.set i (some v)).set j (some w)) H1
theorem zh{i j:Nat}{x y:Str}{a b:Expr}{ta:TA}{px py pt:Pos}{kt k2 K9}(hc:X.calm=true)(hN:X.N.Nodup)(hi:X.N[i]?=some x)(hj:X.N[j]?=some y)(hij:i≠j)
  (hx:X.env.scope.names.lookup x=some .local) (hy:X.env.scope.names.lookup y=some .local) (ha:PA X [a,b] ta)
  (hw:swappedStores [.Tuple [.Name x px,.Name y py] kt pt] (.Tuple [a,b] k2 K9) X.env=pure (some [x,y]))
  (hs:swapsWithSole [.Tuple [.Name x px,.Name y py] kt pt] (.Tuple [a,b] k2 K9) pos.line X.env=pure false:=by rfl) :
  PS X (.Assign [.Tuple [.Name x px,.Name y py] kt pt] (.Tuple [a,b] k2 K9) pos) (DB i j ta):=by
 intro pins s σ H D I h
 rw[exec_Assign_arm]
 refine wpAny_bind (wpAny_standAt ?_)
 rw[hs]
 refine wpAny_bind (wpAny_pure ?_)
 rw[if_neg (by decide)]
 refine wpAny_bind (Tuple_ (FI (ha _ pins s σ H _ I h) fun us s1 ⟨vs,H1,I1,r1,q1⟩=>?_))
 obtain⟨v,w,e1,q1⟩:=q1
 subst e1
 obtain⟨u1,u2,rfl,rv,rw'⟩:∃u1 u2,us=[u1,u2]∧RelV v u1∧RelV w u2:=by
  cases r1 with
  |cons p q=>
   cases q with
   |cons p' q'=>
    cases q'
    exact⟨_,_,rfl,p,p'⟩
 refine wpAny_newObj_type ?_ (by show 2≤sizeLine;decide)
 have I2:Inv X pins σ H1 { s1 with heap:=s1.heap.push { cls:=.type "tuple",data:=.seq [u1,u2].toArray } }:=I1.kept (t':=s1.toks) fun b o e=>Heap.get?_push_of_some _ e
 rw[hw]
 refine wpAny_bind (wpAny_pure ?_)
 show wpAny (model X.prog X.w) X.A (do rule "assign.swapped-stores"; let items ←unpackItems (.ref s1.heap.objs.size) 2 none;assignInOrder [fun v=>bindName X.env y v,fun v=>bindName X.env x v] items.reverse;pure Flow.next) _ _ _
 refine wpAny_bind (wpAny_rule (wpAny_bind (unpackItems_tuple (items:=#[u1,u2]) (I.ok.hd hc) (IsTup.new s1.heap _) fun h' hx'=>?_)))
 have I3:=I2.kept (h':=h') (t':=s1.toks) fun b o e=>hx' b o (Nat.ne_of_lt (Heap.lt_size e)) e
 show wpAny _ _ (assignInOrder [fun v=>bindName X.env y v,fun v=>bindName X.env x v] [u2,u1] >>= fun _=>pure Flow.next) _ _ _
 refine wpAny_bind (assignInOrder_cons (wpAny_bindName (cZ I3 hN hj (.inl hy) rw' (fun s2 I4=>?_) (.inr hy))))
 refine assignInOrder_cons (wpAny_bindName (cZ I4 hN hi (.inl hx) rv (fun s3 I5=>assignInOrder_nil (wpAny_pure ?_)) (.inr hx)))
 rw[List.set_comm _ _ (Ne.symm hij)]at I5
 exact⟨_,H1,I5,q1⟩
end
section
variable {X:Cx} {pos:Pos}
def zi(c:TT)(tb:TS):TS:=fun D σ H=>∃W:Nat→St→Hp→Prop,(∃m,W m σ H)∧∀m σ H,W m σ H→
 c σ H fun b H1=>if b=true then ∃N:St→Hp→Prop,(∀σ' H',N σ' H'→∃m',m' < m∧W m' σ' H')∧tb { D with nx:=N,ct:=N,bk:=D.nx } σ H1 else D.nx σ H1
theorem tZ{c:Expr}{body:List Stmt}{tc:TT}{tb:TS}(hp:PassesOwn (model X.prog X.w) X.A X.env X.xe)(hc:PT X c tc)(hb:IN X body tb):PS X (.While c body [] pos) (zi tc tb):=by
 intro pins s σ H D I h
 obtain⟨W,⟨m0,w0⟩,turn⟩:=h
 refine wpAny_While (codeAny_whileLoop (fun n s'=>∃σ' H',Inv X pins σ' H' s'∧W n σ' H') ?_ m0 ⟨σ,H,I,w0⟩)
 rintro n s1 ⟨σ1,H1,I1,w1⟩
 refine wpAny_passesOwn hp (FI (hc pins s1 σ1 H1 _ I1 (turn n σ1 H1 w1)) fun b s2 ⟨H2,I2,q2⟩=>?_)
 cases b with
 |true=>
  obtain⟨N,hN,q2⟩:=q2
  rw[if_pos rfl]
  refine wpAny_passesOwn hp (FI (hb pins s2 σ1 H2 _ I2 q2) fun f s3 q3=>?_)
  cases f with
  |next=>
   obtain⟨σ3,H3,I3,n3⟩:=q3
   obtain⟨m',hm,w3⟩:=hN σ3 H3 n3
   exact⟨m',hm,σ3,H3,I3,w3⟩
  |cont=>
   obtain⟨σ3,H3,I3,n3⟩:=q3
   obtain⟨m',hm,w3⟩:=hN σ3 H3 n3
   exact⟨m',hm,σ3,H3,I3,w3⟩
  |brk=>exact q3
  |ret v=>exact q3
 |false=>
  rw[if_neg Bool.false_ne_true]
  exact wpAny_execs_nil ⟨σ1,H2,I2,q2⟩
end
structure It where
 go:Nat→Hp→Prop
 Ml:Nat→Hp→V→Hp→Prop
 stop:Nat→Hp→Prop
def Gk(X:Cx)(pins:List (Addr×Obj))(H:Hp)(b:Addr):Prop:=
 H b=none∧b≠X.env.locals∧b ∉ X.fs∧(b∈X.ex∨X.s₀.heap.objs.size≤b)∧(∀x c,X.env.cells.lookup x=some c→c≠b)∧∀p∈X.pn++pins,p.1≠b
theorem Inv.HB{X:Cx}{pins:List (Addr×Obj)}{σ:St}{H H':Hp}{s:Shared}{b:Addr}(I:Inv X pins σ H s)(hb:s.heap.objs.size≤b)(hn:H' b=none):Gk X pins H' b:=by
 refine⟨hn,Nat.ne_of_gt (Nat.lt_of_lt_of_le I.lt hb),I.LK hb,.inr (Nat.le_trans I.sz hb),fun x c e z=>?_,fun p hp z=>?_⟩
 ·obtain⟨v,q⟩:=I.cell x c e
  exact absurd (Nat.lt_of_lt_of_le q.lt (by rw[z];exact hb)) (Nat.lt_irrefl _)
 ·exact absurd (Nat.lt_of_lt_of_le (Heap.lt_size (I.pin p hp).1) (by rw[z];exact hb)) (Nat.lt_irrefl _)
structure nY (P:Program) (w:World) (K:PySem.W.Frag) (tg:Expr) (J:It) (fp:List Addr) (it:Addr) (tn:Nat→Heap→Prop):Prop where
 mem:it∈fp
 obj:∀i h,tn i h→∀b∈fp,∃o,h.get? b=some o∧∀v,o.data ≠ .cell v
 keep:∀i h h',tn i h→(∀b∈fp,∀o,h.get? b=some o→h'.get? b=some o)→tn i h'
 item:∀(X:Cx),X.prog=P→X.w=w→X.K=K→X.calm=true→∀(i:Nat) (pins:List (Addr×Obj)) (s:Shared) (σ:St) (H:Hp) (E:Value→Shared→Prop),Inv X pins σ H s→(∀b∈fp,Gk X pins H b)→tn i s.heap→J.go i H→
  wpAny (model P w) X.A (pyNext (.ref it)) (fun r s1=>∃u,r=some u∧
   wpAny (model P w) X.A (letOwnedTupleGo tg (.ref it) u) (fun _ s2=>∃x H',Inv X pins σ H' s2∧RelV x u∧J.Ml i H x H'∧tn (i+1) s2.heap∧∀b∈fp,H' b=none) E s1) E s
 done:∀(X:Cx),X.prog=P→X.w=w→X.K=K→X.calm=true→∀(i:Nat) (pins:List (Addr×Obj)) (s:Shared) (σ:St) (H:Hp) (E:Value→Shared→Prop),Inv X pins σ H s→(∀b∈fp,Gk X pins H b)→tn i s.heap→J.stop i H→
  wpAny (model P w) X.A (pyNext (.ref it)) (fun r s1=>r=none∧Inv X pins σ H s1) E s
 self:∀(A:Around) (i:Nat) (s:Shared) (Q:Value→Shared→Prop) (E:Value→Shared→Prop),tn i s.heap→Q (.ref it) s→wpAny (model P w) A (pyIter (.ref it)) Q E s
abbrev TI:=St→Hp→(It→Hp→Prop)→Prop
def DC(X:Cx)(pins:List (Addr×Obj))(σ:St)(tg:Expr)(R:It→Hp→Prop)(itv:Value)(s2:Shared):Prop:=
 ∃(it:Addr) (fp:List Addr) (tn:Nat→Heap→Prop) (J:It) (H':Hp),itv = .ref it∧Inv X pins σ H' s2∧nY X.prog X.w X.K tg J fp it tn∧tn 0 s2.heap∧(∀b∈fp,Gk X pins H' b)∧R J H'
def PI(X:Cx)(tg iter:Expr)(wi:TI):Prop:=
 ∀(pins:List (Addr×Obj)) (s:Shared) (σ:St) (H:Hp) (R:It→Hp→Prop),Inv X pins σ H s→wi σ H R→
  wpAny (model X.prog X.w) X.A (eval iter X.env) (fun v s1=>wpAny (model X.prog X.w) X.A (pyIter v) (DC X pins σ tg R) X.xe s1) X.xe s
theorem fc {M : Model} {A : Around} {E : Value → Shared → Prop} {s : Shared} {tg : Expr} {it : Addr} {u : Value} {o : Obj} {n : String} {vs : Array Value} {Q : Unit → Shared → Prop} (ho : s.heap.get? it = some o) (hc : o.cls = .type n) (hd : o.data = .fields vs)
    (hn : ["enumerate", "zip", "dict_itemiterator", "dict_reverseitemiterator", "odict_iterator", "itertools.zip_longest", "itertools.pairwise"].contains n = false) (hQ : Q () s) : wpAny M A (letOwnedTupleGo tg (.ref it) u) Q E s := by
  unfold letOwnedTupleGo
  cases tg <;> first
    | exact wpAny_pure hQ
    | (cases u <;> first
        | exact wpAny_pure hQ
        | (refine wpAny_bind (wpAny_load ho ?_)
           rw [hc, hd]
           show wpAny M A (if (["enumerate", "zip", "dict_itemiterator", "dict_reverseitemiterator", "odict_iterator", "itertools.zip_longest", "itertools.pairwise"].contains n && vs[0]? == some (rawInt _)) = true then _ else _) Q E s
           rw [if_neg (by intro h; rw [hn, Bool.false_and] at h; cases h)]
           exact wpAny_pure hQ))
noncomputable def C8(K:PySem.W.Frag)(a:Addr):It:=
 ⟨fun i H=>∃xs x,SqL K H a xs∧xs[i]?=some x,fun i H x H'=>H'=H∧∀xs,SqL K H a xs→xs[i]?=some x,fun i H=>∃xs,SqL K H a xs∧xs.length≤i⟩
noncomputable def DD(K:PySem.W.Frag)(a:Addr):It:=
 ⟨fun i H=>∃xs x,F3 K H a xs∧xs[i]?=some x,fun i H x H'=>H'=H∧∀xs,F3 K H a xs→xs[i]?=some x,fun i H=>∃xs,F3 K H a xs∧xs.length≤i⟩
noncomputable def C9(lo:Int)(n:Nat):It:=⟨fun i _=>i < n,fun i H x H'=>H'=H∧x = .int (lo+i),fun i _=>n≤i⟩
theorem sw{P:Program}{w:World}{K:PySem.W.Frag}{tg:Expr}(a it:Addr):nY P w K tg (C8 K a) [it] it (fun i h=>h.IsListIter it a i) where
 mem:=by simp
 obj:=fun i h st b hb=>by
  have e:b=it:=by simpa using hb
  subst e
  obtain⟨o,e,c,d⟩:=st
  exact⟨o,e,fun v z=>by rw[d]at z;cases z⟩
 keep:=fun i h h' st k=>st.at fun o e=>k it (by simp) o e
 item:=by
  intro X hP hw hK hc i pins s σ H E I hf st hg
  subst hP hw hK
  obtain⟨xs,x,hq,hx⟩:=hg
  obtain⟨its,rv,p,hz⟩:=I.list hq
  obtain⟨u,hu,ru⟩:=rv.get hx
  obtain⟨f0,f1,f2,f3,f4,f5⟩:=hf it (by simp)
  refine wpAny_pyNext_list_item st p.isList (x:=u) (by simpa using hu) fun h' st' sb=>?_
  have I1:Inv X pins σ H { s with heap:=h' }:=I.turned (t':=s.toks) (fun b o hb e=>(sb.2 b hb).trans e) f0 f1 f3 f4 f5
  obtain⟨o,e,c,d⟩:=id st'
  exact⟨u,rfl,fc (s:={ s with heap:=h' }) e c d (by decide) ⟨x,H,I1,ru,⟨rfl,fun ys hy=>by rw[I.Kf hy hq];exact hx⟩,st',fun b hb=>(hf b hb).1⟩⟩
 done:=by
  intro X hP hw hK hc i pins s σ H E I hf st hg
  subst hP hw hK
  obtain⟨xs,hq,hx⟩:=hg
  obtain⟨its,rv,p,hz⟩:=I.list hq
  obtain⟨f0,f1,f2,f3,f4,f5⟩:=hf it (by simp)
  have hl:=rv.length
  exact wpAny_pyNext_list_end (I.ok.hd hc) st p.isList (by simp;omega) fun h' eb=>⟨rfl,I.turned (t':=s.toks) (fun b o hb e=>eb b o hb e) f0 f1 f3 f4 f5⟩
 self:=fun _ _ _ _ _ st h=>wpAny_pyIter_listiter st h
theorem pO{P:Program}{w:World}{K:PySem.W.Frag}{tg:Expr}(a it:Addr):nY P w K tg (DD K a) [it] it (fun i h=>h.IsTupleIter it a i) where
 mem:=by simp
 obj:=fun i h st b hb=>by
  have e:b=it:=by simpa using hb
  subst e
  obtain⟨o,e,c,d⟩:=st
  exact⟨o,e,fun v z=>by rw[d]at z;cases z⟩
 keep:=fun i h h' st k=>st.at fun o e=>k it (by simp) o e
 item:=by
  intro X hP hw hK hc i pins s σ H E I hf st hg
  subst hP hw hK
  obtain⟨xs,x,hq,hx⟩:=hg
  obtain⟨its,rv,p,hz⟩:=I.tuple hq
  obtain⟨u,hu,ru⟩:=rv.get hx
  obtain⟨f0,f1,f2,f3,f4,f5⟩:=hf it (by simp)
  refine wpAny_pyNext_tuple_item st (show s.heap.IsTuple a its.toArray from p) (x:=u) (by simpa using hu) fun h' st' sb=>?_
  have I1:Inv X pins σ H { s with heap:=h' }:=I.turned (t':=s.toks) (fun b o hb e=>(sb.2 b hb).trans e) f0 f1 f3 f4 f5
  obtain⟨o,e,c,d⟩:=id st'
  exact⟨u,rfl,fc (s:={ s with heap:=h' }) e c d (by decide) ⟨x,H,I1,ru,⟨rfl,fun ys hy=>by rw[I.Gw hy hq];exact hx⟩,st',fun b hb=>(hf b hb).1⟩⟩
 done:=by
  intro X hP hw hK hc i pins s σ H E I hf st hg
  subst hP hw hK
  obtain⟨xs,hq,hx⟩:=hg
  obtain⟨its,rv,p,hz⟩:=I.tuple hq
  obtain⟨f0,f1,f2,f3,f4,f5⟩:=hf it (by simp)
  have hl:=rv.length
  exact wpAny_pyNext_tuple_end (I.ok.hd hc) st (show s.heap.IsTuple a its.toArray from p) (by simp;omega) fun h' eb=>⟨rfl,I.turned (t':=s.toks) (fun b o hb e=>eb b o hb e) f0 f1 f3 f4 f5⟩
 self:=fun _ _ _ _ _ st h=>wpAny_pyIter_tupleiter st h
theorem pP{P:Program}{w:World}{K:PySem.W.Frag}{tg:Expr}(it:Addr)(lo:Int)(n:Nat):nY P w K tg (C9 lo n) [it] it (fun i h=>IsRangeIter h it (lo+(i:Nat) * 1) ((n:Int) - (i:Nat)) 1) where
 mem:=by simp
 obj:=fun i h st b hb=>by
  have e:b=it:=by simpa using hb
  subst e
  exact⟨_,st,fun v z=>by
   have z':Data.fields _=Data.cell v:=z
   cases z'⟩
 keep:=fun i h h' st k=>k it (by simp) _ st
 item:=by
  intro X hP hw hK hc i pins s σ H E I hf st hg
  subst hP hw hK
  obtain⟨f0,f1,f2,f3,f4,f5⟩:=hf it (by simp)
  have W:=Walks.range (prog:=X.prog) (w:=X.w) (I.ok.hd hc) it lo 1 n
  refine W.item i s _ _ hg st fun v h' tk hv st' kk=>?_
  obtain⟨t,rfl⟩:=hv
  have I1:Inv X pins σ H { s with heap:=h',toks:=tk }:=I.turned (fun b o hb e=>kk b o (by simpa using hb) e) f0 f1 f3 f4 f5
  refine⟨_,rfl,fc (s:={ s with heap:=h',toks:=tk }) (n:="range_iterator") st' rfl rfl (by decide) ⟨.int (lo+i),H,I1,⟨t,?_⟩,⟨rfl,rfl⟩,st',fun b hb=>(hf b hb).1⟩⟩
  rw[Int.mul_one]
 done:=by
  intro X hP hw hK hc i pins s σ H E I hf st hg
  subst hP hw hK
  obtain⟨f0,f1,f2,f3,f4,f5⟩:=hf it (by simp)
  exact wpAny_pyNext_range_end (I.ok.hd hc) st (by have:n≤i:=hg;omega) fun h' eb=>⟨rfl,I.turned (t':=s.toks) (fun b o hb e=>eb b o hb e) f0 f1 f3 f4 f5⟩
 self:=fun _ _ _ _ _ st h=>wpAny_pyIter_rangeiter st h
section
variable {X:Cx} {tg:Expr}
theorem t6{pins:List (Addr×Obj)}{σ:St}{H:Hp}{s:Shared}{R:It→Hp→Prop}{E:Value→Shared→Prop}{lo hi:Int}{t u v:Tok}{tk:Nat}(I:Inv X pins σ H s)(h1:-(2 ^ 62)≤lo)(h2:lo < 2 ^ 62)(h3:-(2 ^ 62)≤hi)(h4:hi < 2 ^ 62)
  (q:R (C9 lo (hi - lo).toNat) H):wpAny (model X.prog X.w) X.A (pyIter (.ref s.heap.objs.size)) (DC X pins σ tg R) E { s with heap:=s.heap.push { cls:=.type "range",data:=.fields #[.int lo t,.int hi u,.int 1 v] },toks:=tk }:=by
 refine wpAny_pyIter_range (IsRange.new ..) (small_one h1 h2 h3 h4) ?_
 have I1:Inv X pins σ H { s with heap:=s.heap.push { cls:=.type "range",data:=.fields #[.int lo t,.int hi u,.int 1 v] },toks:=tk }:=I.kept fun b o e=>Heap.get?_push_of_some _ e
 refine⟨(s.heap.push { cls:=.type "range",data:=.fields #[.int lo t,.int hi u,.int 1 v] }).objs.size,[(s.heap.push { cls:=.type "range",data:=.fields #[.int lo t,.int hi u,.int 1 v] }).objs.size],_,_,H,rfl,
  I1.kept (t':=tk) fun b o e=>Heap.get?_push_of_some _ e,pP _ lo (hi - lo).toNat,?_,fun b hb=>?_,q⟩
 ·have e1:lo+((0:Nat):Int) * 1=lo:=by simp
  have e2:(((hi - lo).toNat:Nat):Int) - ((0:Nat):Int)=Builtin.Range.rangeSize lo hi 1:=by rw[rangeSize_one];split<;>omega
  show IsRangeIter _ _ (lo+((0:Nat):Int) * 1) ((((hi - lo).toNat:Nat):Int) - ((0:Nat):Int)) 1
  rw[e1,e2]
  exact Heap.get?_push_size _ rfl
 ·have e:b=(s.heap.push { cls:=.type "range",data:=.fields #[.int lo t,.int hi u,.int 1 v] }).objs.size:=by simpa using hb
  subst e
  exact I1.HB (Nat.le_refl _) (I1.hok.fresh (Nat.le_refl _))
def BJ(ta:TA):TI:=fun σ H R=>ta σ H fun vs H1=>∃j:Int,vs=[.int j]∧-(2 ^ 62)≤j∧j < 2 ^ 62∧R (C9 0 j.toNat) H1
theorem sx{a:Expr}{ta:TA}{p pos:Pos}(hg:Gl X "range")(hm:X.mg "range" = none)(ha:PA X [a] ta)(hs:starEach [a] X.env=[(false,eval a X.env)]:=by rfl):PI X tg (.Call (.Name "range" p) [a] [] pos) (BJ ta):=by
 intro pins s σ H R I h
 refine Call_ (gH I hg hm boot_range (PyProof.Rows.callWith_type1 (FI (ha pos pins s σ H _ I h) fun us s1 ⟨vs,H1,I1,r1,q1⟩=>?_) hs rfl))
 obtain⟨j,e,q1,q2,q⟩:=q1
 subst e
 cases r1 with
 |cons r rr=>
  cases rr
  obtain⟨t,rfl⟩:=r
  exact call_range_1 (t6 I1 (by omega) (by omega) q1 q2 (by simpa using q))
def DE(wi:TI)(g:TG)(tb:TS):TS:=fun D σ H=>wi σ H fun J H1=>∃W:Nat→Nat→St→Hp→Prop,(∃m,W 0 m σ H1)∧∀i m σ H,W i m σ H→
 (J.stop i H∧D.nx σ H)∨(J.go i H∧∃N:St→Hp→Prop,(∀σ' H',N σ' H'→∃m',m' < m∧W (i+1) m' σ' H')∧∀x H',J.Ml i H x H'→g x σ H' fun σ2 H2=>tb { D with nx:=N,ct:=N,bk:=D.nx } σ2 H2)
noncomputable def ke(fp:List Addr)(h:Heap):List (Addr×Obj):=fp.filterMap fun b=>(h.get? b).map fun o=>(b,o)
theorem gJ{fp:List Addr}{h:Heap}{b:Addr}{o:Obj}(hb:b∈fp)(e:h.get? b=some o):(b,o)∈ke fp h:=List.mem_filterMap.mpr ⟨b,hb,by rw[e];rfl⟩
theorem sy{fp:List Addr}{h:Heap}{p:Addr×Obj}(hp:p∈ke fp h):p.1∈fp∧h.get? p.1=some p.2:=by
 obtain⟨b,hb,e⟩:=List.mem_filterMap.mp hp
 cases q:h.get? b with
 |none=>rw[q]at e;cases e
 |some o=>
  rw[q]at e
  have e':(b,o)=p:=Option.some.inj e
  subst e'
  exact⟨hb,q⟩
theorem Inv.pinned{pins:List (Addr×Obj)}{σ:St}{H:Hp}{s:Shared}{fp:List Addr}(I:Inv X pins σ H s)(hf:∀b∈fp,Gk X pins H b)(ho:∀b∈fp,∃o,s.heap.get? b=some o∧∀v,o.data ≠ .cell v):Inv X (pins++ke fp s.heap) σ H s:=
 I.Iq fun p hp=>(List.mem_append.mp hp).elim (fun z=>I.pin p (List.mem_append_right _ z)) fun z=>by
  obtain⟨hb,e⟩:=sy z
  obtain⟨f0,f1,f2,_⟩:=hf p.1 hb
  obtain⟨o,e',d⟩:=ho p.1 hb
  rw[e]at e';cases e'
  exact⟨e,f0,f1,f2,d⟩
theorem Inv.HK{pins pl:List (Addr×Obj)}{σ:St}{H:Hp}{s:Shared}(I:Inv X (pins++pl) σ H s):Inv X pins σ H s:=I.Iq fun p hp=>I.pin p (List.mem_append_right _ (List.mem_append_left _ hp))
theorem zj{iter:Expr}{body:List Stmt}{wi:TI}{g:TG}{tb:TS}{pos:Pos}(hp:PassesOwn (model X.prog X.w) X.A X.env X.xe)(hc:X.calm=true)(hi:PI X tg iter wi)(hg:PG X tg g)(hb:IN X body tb)
  (hs:∀x,foldedSetIterable iter X.env x=pure x:=by intro _;rfl):PS X (.For tg iter body [] pos) (DE wi g tb):=by
 intro pins s σ H D I h
 refine wpAny_For (FI (hi pins s σ H _ I h) fun v s1 h1=>FI h1 fun itv s2 h2=>?_) hs
 obtain⟨it,fp,tn,J,H2,e,I2,T,st2,f2,W,⟨m0,w0⟩,turn⟩:=h2
 subst e
 -- what stays true of the iterator's objects through the loop
 have stat:∀{H':Hp},(∀b∈fp,H' b=none)→∀b∈fp,Gk X pins H' b:=fun hn b hb=>⟨hn b hb,(f2 b hb).2⟩
 refine codeAny_forLoop_any (fun n s'=>∃i σ' H',Inv X pins σ' H' s'∧tn i s'.heap∧(∀b∈fp,H' b=none)∧W i n σ' H') ?_ m0 ⟨0,σ,H2,I2,st2,fun b hb=>(f2 b hb).1,w0⟩
 rintro n s3 ⟨i,σ3,H3,I3,st3,NA,w3⟩
 rcases turn i n σ3 H3 w3 with⟨stop,qn⟩|⟨go,N,hN,step⟩
 ·refine wpAny_passesOwn hp (FI (T.done X rfl rfl rfl hc i pins s3 σ3 H3 X.xe I3 (stat NA) st3 stop) fun r s4 ⟨hr,I4⟩=>?_)
  subst hr
  exact wpAny_execs_nil ⟨σ3,H3,I4,qn⟩
 ·refine wpAny_passesOwn hp (FI (T.item X rfl rfl rfl hc i pins s3 σ3 H3 X.xe I3 (stat NA) st3 go) fun r s4 ⟨u,hr,h4⟩=>?_)
  subst hr
  refine wpAny_passesOwn hp (FI h4 fun _ s5 ⟨x,H5,I5,r5,y5,Ky,MG⟩=>?_)
  have MH:=I5.pinned (stat MG) (T.obj _ _ Ky)
  refine wpAny_passesOwn hp (FI (hg _ s5 σ3 H5 x u _ MH r5 (step x H5 y5)) fun _ s6 ⟨σ6,H6,I6,q6⟩=>?_)
  refine wpAny_passesOwn hp (FI (hb _ s6 σ6 H6 _ I6 q6) fun f s7 q7=>?_)
  have again:∀{σ7:St} {H7:Hp},Inv X (pins++ke fp s5.heap) σ7 H7 s7→N σ7 H7→∃m,m < n∧∃i σ' H',Inv X pins σ' H' s7∧tn i s7.heap∧(∀b∈fp,H' b=none)∧W i m σ' H':=fun{σ7 H7} I7 n7=>by
   obtain⟨m',hm,w7⟩:=hN σ7 H7 n7
   refine⟨m',hm,i+1,σ7,H7,I7.HK,T.keep _ _ _ Ky fun b hb o e=>(I7.pin (b,o) (List.mem_append_right _ (List.mem_append_right _ (gJ hb e)))).1,fun b hb=>?_,w7⟩
   obtain⟨o,e,d⟩:=T.obj _ _ Ky b hb
   exact(I7.pin (b,o) (List.mem_append_right _ (List.mem_append_right _ (gJ hb e)))).2.1
  cases f with
  |next=>obtain⟨σ7,H7,I7,n7⟩:=q7;exact again I7 n7
  |cont=>obtain⟨σ7,H7,I7,n7⟩:=q7;exact again I7 n7
  |brk=>obtain⟨σ7,H7,I7,q7⟩:=q7;exact⟨σ7,H7,I7.HK,q7⟩
  |ret v=>obtain⟨x7,σ7,H7,I7,r7,q7⟩:=q7;exact⟨x7,σ7,H7,I7.HK,r7,q7⟩
end
abbrev R2:=V→V→Hp→VK→Prop
def iJ(X:Cx)(f:Value→Value→Sem Value)(r:R2):Prop:=
 ∀(pins:List (Addr×Obj)) (s:Shared) (σ:St) (H:Hp) (x y:V) (v u:Value) (Q:VK),Inv X pins σ H s→RelV x v→RelV y u→r x y H Q→
  wpAny (model X.prog X.w) X.A (f v u) (EP X pins σ Q) X.xe s
def C_(X:Cx)(f:Value→Sem Value)(r:V→Hp→VK→Prop):Prop:=
 ∀(pins:List (Addr×Obj)) (s:Shared) (σ:St) (H:Hp) (x:V) (v:Value) (Q:VK),Inv X pins σ H s→RelV x v→r x H Q→
  wpAny (model X.prog X.w) X.A (f v) (EP X pins σ Q) X.xe s
def fm(X:Cx)(f:Value)(r:List V→Hp→VK→Prop):Prop:=
 ∀(pins:List (Addr×Obj)) (s:Shared) (σ:St) (H:Hp) (xs:List V) (us:List Value) (Q:VK),Inv X pins σ H s→Vals xs us→r xs H Q→
  wpAny (model X.prog X.w) X.A (call f us) (EP X pins σ Q) X.xe s
def BK(r:R2)(ta tb:TE):TE:=fun σ H Q=>ta σ H fun x H1=>tb σ H1 fun y H2=>r x y H2 Q
def E1(r:V→Hp→VK→Prop)(ta:TE):TE:=fun σ H Q=>ta σ H fun x H1=>r x H1 Q
def rI(C:Int→Int→Prop)(g:Int→Int→V):R2:=fun x y H Q=>∃i j,x = .int i∧y = .int j∧C i j∧Q (g i j) H
def wD(g:Int→Int→V):R2:=fun x y H Q=>∃i j,x = .int i∧y = .int j∧Q (g i j) H
noncomputable def rU(g:Int→V):V→Hp→VK→Prop:=fun x H Q=>∃i,x = .int i∧Q (g i) H
section
variable {X:Cx} {a b c:Expr} {ta tb tc:TE} {pos:Pos}
theorem zk(ha:PE X a ta)(hb:PE X b tb){pins:List (Addr×Obj)}{s:Shared}{σ:St}{H:Hp}{R:V→V→Hp→Prop}(I:Inv X pins σ H s)
  (h:ta σ H fun x H1=>tb σ H1 fun y H2=>R x y H2) {Q:Value→Shared→Prop} {f:Value→Value→Sem Value}
  (hf:∀v u s2 x y H2,Inv X pins σ H2 s2→RelV x v→RelV y u→R x y H2→wpAny (model X.prog X.w) X.A (f v u) Q X.xe s2) :
  wpAny (model X.prog X.w) X.A (eval a X.env) (fun v s₁=>wpAny (model X.prog X.w) X.A (eval b X.env) (fun u s₂=>wpAny (model X.prog X.w) X.A (f v u) Q X.xe s₂) X.xe s₁) X.xe s:=by
 refine FI (ha pins s σ H _ I h) fun v s1 ⟨x,H1,I1,r1,q1⟩=>?_
 refine FI (hb pins s1 σ H1 _ I1 q1) fun u s2 ⟨y,H2,I2,r2,q2⟩=>?_
 exact hf v u s2 x y H2 I2 r1 r2 q2
theorem BL{op:Operator}{r:R2}(ho:iJ X (binaryOp op) r)(ha:PE X a ta)(hb:PE X b tb):PE X (.BinOp a op b pos) (BK r ta tb):=by
 intro pins s σ H Q I h
 exact wpAny_BinOp (zk ha hb I h fun v u s2 x y H2 I2 rx ry q=>ho pins s2 σ H2 x y v u Q I2 rx ry q)
theorem BM{op:UnaryOp}{r:V→Hp→VK→Prop}(ho:C_ X (unaryOp op) r)(ha:PE X a ta):PE X (.UnaryOp op a pos) (E1 r ta):=by
 intro pins s σ H Q I h
 exact UnaryOp_ (FI (ha pins s σ H _ I h) fun v s1 ⟨x,H1,I1,r1,q1⟩=>ho pins s1 σ H1 x v Q I1 r1 q1)
theorem De{f:Value→Value→Sem Value}{C:Int→Int→Prop}{g:Int→Int→Int}
  (rule:∀(i j:Int) (t u:Tok) (s:Shared) (Q:Value→Shared→Prop) (E:Value→Shared→Prop),C i j→Q (.int (g i j) s.toks) { s with toks:=s.toks+1 }→wpAny (model X.prog X.w) X.A (f (.int i t) (.int j u)) Q E s) :
  iJ X f (rI C fun i j=>.int (g i j)):=by
 intro pins s σ H x y v u Q I rx ry h
 obtain⟨i,j,rfl,rfl,hc,q⟩:=h
 obtain⟨t,rfl⟩:=rx
 obtain⟨t',rfl⟩:=ry
 exact rule i j t t' s _ _ hc ⟨.int (g i j),H,I.tok _,⟨_,rfl⟩,q⟩
theorem BN{f:Value→Value→Sem Value}{g:Int→Int→Int}
  (rule:∀(i j:Int) (t u:Tok) (s:Shared) (Q:Value→Shared→Prop) (E:Value→Shared→Prop),Q (.int (g i j) s.toks) { s with toks:=s.toks+1 }→wpAny (model X.prog X.w) X.A (f (.int i t) (.int j u)) Q E s) :
  iJ X f (wD fun i j=>.int (g i j)):=by
 intro pins s σ H x y v u Q I rx ry h
 obtain⟨i,j,rfl,rfl,q⟩:=h
 obtain⟨t,rfl⟩:=rx
 obtain⟨t',rfl⟩:=ry
 exact rule i j t t' s _ _ ⟨.int (g i j),H,I.tok _,⟨_,rfl⟩,q⟩
theorem zm{f:Value→Value→Sem Value}{g:Int→Int→Bool}
  (rule:∀(i j:Int) (t u:Tok) (s:Shared) (Q:Value→Shared→Prop) (E:Value→Shared→Prop),Q (.bool (g i j)) s→wpAny (model X.prog X.w) X.A (f (.int i t) (.int j u)) Q E s) :
  iJ X f (wD fun i j=>.bl (g i j)):=by
 intro pins s σ H x y v u Q I rx ry h
 obtain⟨i,j,rfl,rfl,q⟩:=h
 obtain⟨t,rfl⟩:=rx
 obtain⟨t',rfl⟩:=ry
 exact rule i j t t' s _ _ ⟨.bl (g i j),H,I,rfl,q⟩
def zn(i j:Int):Prop:=0≤j∧j≤1000000∧i.natAbs < 2 ^ 64
def Kz(i j:Int):Prop:=(-(2 ^ 64) < i∧i < 2 ^ 64)∨(-(2 ^ 64) < j∧j < 2 ^ 64)
theorem Kz.ok{i j:Int}(h:Kz i j):IntMulOk i j:=by
 rcases h with⟨h1,h2⟩|⟨h1,h2⟩
 ·exact .of_left (intBits_le_64 h1 h2)
 ·exact .of_right (intBits_le_64 h1 h2)
theorem zo:iJ X (binaryOp .Add) (wD fun i j=>.int (i+j)):=BN fun _ _ _ _ _ _ _ q=>add_int q
theorem zp:iJ X (binaryOp .Sub) (wD fun i j=>.int (i - j)):=BN fun _ _ _ _ _ _ _ q=>sub_int q
theorem wE:iJ X (binaryOp .Mod) (rI (fun _ j=>j≠0) fun i j=>.int (i.fmod j)):=De fun _ _ _ _ _ _ _ hc q=>mod_int' hc q
theorem zq:iJ X (binaryOp .Pow) (rI zn fun i j=>.int (i ^ j.toNat)):=De fun _ _ _ _ _ _ _ hc q=>pow_int_small hc.1 hc.2.1 hc.2.2 q
theorem E2{f:Value→Sem Value}{g:Int→Int}
  (rule:∀(i:Int) (t:Tok) (s:Shared) (Q:Value→Shared→Prop) (E:Value→Shared→Prop),Q (.int (g i) s.toks) { s with toks:=s.toks+1 }→wpAny (model X.prog X.w) X.A (f (.int i t)) Q E s) :
  C_ X f (rU fun i=>.int (g i)):=by
 intro pins s σ H x v Q I rx h
 obtain⟨i,rfl,q⟩:=h
 obtain⟨t,rfl⟩:=rx
 exact rule i t s _ _ ⟨.int (g i),H,I.tok _,⟨_,rfl⟩,q⟩
theorem zr:C_ X (unaryOp .USub) (rU fun i=>.int (-i)):=E2 fun _ _ _ _ _ q=>neg_int q
end
noncomputable def BO:V→V→Bool
 | .non,.non=>true | .non,.int _=>true | .int _,.non=>true | .non,.bl _=>true | .bl _,.non=>true | .non,.str _=>true | .str _,.non=>true
 | .int _,.int _=>true | .bl _,.bl _=>true | .str _,.str _=>true | .Kb _,.Kb _=>true
 | .int _,.str _=>true | .str _,.int _=>true | .bl _,.str _=>true | .str _,.bl _=>true
 |_,_=>false
def E4:R2:=fun x y H Q=>BO x y=true∧Q (.bl (decide (x=y))) H
def E5:R2:=fun x y H Q=>BO x y=true∧Q (.bl (!decide (x=y))) H
theorem qV{i j:Int}:decide (V.int i=V.int j)=(i == j):=by
 rw[Bool.eq_iff_iff]
 simp
theorem t7{i j:Bool}:decide (V.bl i=V.bl j)=(i == j):=by
 rw[Bool.eq_iff_iff]
 simp
theorem qW{i j:Str}:decide (V.str i=V.str j)=(i == j):=by
 rw[Bool.eq_iff_iff]
 simp
theorem qX{i j:Array UInt8}:decide (V.Kb i=V.Kb j)=(i.toList == j.toList):=by
 rw[Bool.eq_iff_iff]
 cases i
 cases j
 simp
section
variable {X:Cx} {a b c:Expr} {ta tb tc:TE} {pos:Pos}
theorem aK{pins:List (Addr×Obj)}{σ:St}{H:Hp}{s:Shared}{Q:VK}{k k':Bool}(I:Inv X pins σ H s)(q:Q (.bl k) H)(e:k=k'):EP X pins σ Q (.bool k') s:=by
 subst e
 exact⟨.bl k,H,I,rfl,q⟩
theorem t8:iJ X (compareOp .Eq) E4:=by
 intro pins s σ H x y v u Q I rx ry h
 obtain⟨hs,q⟩:=h
 cases x with
 |non=>
  cases rx
  cases y with
  |non=>cases ry;exact PySem.EqNone.eq_none_none (aK I q (by simp))
  |bl j=>cases ry;exact PySem.EqNone.eq_none_bool (aK I q (by simp))
  |int j=>obtain⟨t',rfl⟩:=ry;exact PySem.EqNone.eq_none_int (aK I q (by simp))
  |str j=>obtain⟨t',rfl⟩:=ry;exact PySem.EqNone.eq_none_str (aK I q (by simp))
  |_=>exact absurd (show false=true from hs) Bool.false_ne_true
 |bl i=>
  cases rx
  cases y with
  |non=>cases ry;exact PySem.EqNone.eq_bool_none (aK I q (by simp))
  |bl j=>cases ry;exact eq_bool (aK I q t7)
  |str j=>obtain⟨t',rfl⟩:=ry;exact PySem.EqMixed.eq_bool_str (aK I q (by simp))
  |_=>exact absurd (show false=true from hs) Bool.false_ne_true
 |int i=>
  obtain⟨t,rfl⟩:=rx
  cases y with
  |non=>cases ry;exact PySem.EqNone.eq_int_none (aK I q (by simp))
  |int j=>obtain⟨t',rfl⟩:=ry;exact eq_int (aK I q qV)
  |str j=>obtain⟨t',rfl⟩:=ry;exact PySem.EqMixed.eq_int_str (aK I q (by simp))
  |_=>exact absurd (show false=true from hs) Bool.false_ne_true
 |str i=>
  obtain⟨t,rfl⟩:=rx
  cases y with
  |non=>cases ry;exact PySem.EqNone.eq_str_none (aK I q (by simp))
  |bl j=>cases ry;exact PySem.EqMixed.eq_str_bool (aK I q (by simp))
  |int j=>obtain⟨t',rfl⟩:=ry;exact PySem.EqMixed.eq_str_int (aK I q (by simp))
  |str j=>obtain⟨t',rfl⟩:=ry;exact eq_str (aK I q qW)
  |_=>exact absurd (show false=true from hs) Bool.false_ne_true
 |Kb i=>
  obtain⟨t,rfl⟩:=rx
  cases y with
  |Kb j=>obtain⟨t',rfl⟩:=ry;exact PySem.W.eq_bytes (aK I q qX)
  |_=>exact absurd (show false=true from hs) Bool.false_ne_true
 |_=>cases y<;>exact absurd (show false=true from hs) Bool.false_ne_true
theorem t9:iJ X (compareOp .NotEq) E5:=by
 intro pins s σ H x y v u Q I rx ry h
 obtain⟨hs,q⟩:=h
 cases x with
 |non=>
  cases rx
  cases y with
  |non=>cases ry;exact PySem.EqNone.ne_none_none (aK I q (by simp))
  |bl j=>cases ry;exact PySem.EqNone.ne_none_bool (aK I q (by simp))
  |int j=>obtain⟨t',rfl⟩:=ry;exact PySem.EqNone.ne_none_int (aK I q (by simp))
  |str j=>obtain⟨t',rfl⟩:=ry;exact PySem.EqNone.ne_none_str (aK I q (by simp))
  |_=>exact absurd (show false=true from hs) Bool.false_ne_true
 |bl i=>
  cases rx
  cases y with
  |non=>cases ry;exact PySem.EqNone.ne_bool_none (aK I q (by simp))
  |bl j=>cases ry;exact ne_bool (aK I q (congrArg not t7))
  |str j=>obtain⟨t',rfl⟩:=ry;exact PySem.EqMixed.ne_bool_str (aK I q (by simp))
  |_=>exact absurd (show false=true from hs) Bool.false_ne_true
 |int i=>
  obtain⟨t,rfl⟩:=rx
  cases y with
  |non=>cases ry;exact PySem.EqNone.ne_int_none (aK I q (by simp))
  |int j=>obtain⟨t',rfl⟩:=ry;exact ne_int (aK I q (congrArg not qV))
  |str j=>obtain⟨t',rfl⟩:=ry;exact PySem.EqMixed.ne_int_str (aK I q (by simp))
  |_=>exact absurd (show false=true from hs) Bool.false_ne_true
 |str i=>
  obtain⟨t,rfl⟩:=rx
  cases y with
  |non=>cases ry;exact PySem.EqNone.ne_str_none (aK I q (by simp))
  |bl j=>cases ry;exact PySem.EqMixed.ne_str_bool (aK I q (by simp))
  |int j=>obtain⟨t',rfl⟩:=ry;exact PySem.EqMixed.ne_str_int (aK I q (by simp))
  |str j=>obtain⟨t',rfl⟩:=ry;exact ne_str (aK I q (congrArg not qW))
  |_=>exact absurd (show false=true from hs) Bool.false_ne_true
 |Kb i=>
  obtain⟨t,rfl⟩:=rx
  cases y with
  |Kb j=>obtain⟨t',rfl⟩:=ry;exact PySem.W.ne_bytes (aK I q (congrArg not qX))
  |_=>exact absurd (show false=true from hs) Bool.false_ne_true
 |_=>cases y<;>exact absurd (show false=true from hs) Bool.false_ne_true
theorem BP:iJ X (compareOp .Lt) (wD fun i j=>.bl (decide (i < j))):=zm fun _ _ _ _ _ _ _ q=>lt_int q
theorem BQ:iJ X (compareOp .Gt) (wD fun i j=>.bl (decide (j < i))):=zm fun _ _ _ _ _ _ _ q=>gt_int q
theorem BR:iJ X (compareOp .GtE) (wD fun i j=>.bl (decide (j≤i))):=zm fun _ _ _ _ _ _ _ q=>ge_int q
theorem sA:iJ X (compareOp .In) (fun x y H Q=>∃i j,x = .str i∧y = .str j∧Q (.bl (!(Builtin.Str.occurrences j i 0 j.length 1).isEmpty)) H):=by
 intro pins s σ H x y v u Q I rx ry h
 obtain⟨i,j,rfl,rfl,q⟩:=h
 obtain⟨t,rfl⟩:=rx
 obtain⟨t',rfl⟩:=ry
 exact in_str (aK I q rfl)
theorem bb(b:Expr){op:CmpOp}(h:op ≠ .In:=by decide)(h2:op ≠ .NotIn:=by decide):behindInMarks op b=false:=by
 have e1:(op == CmpOp.In)=false:=by cases op<;>first|rfl|exact absurd rfl h
 have e2:(op == CmpOp.NotIn)=false:=by cases op<;>first|rfl|exact absurd rfl h2
 cases b<;>simp[behindInMarks,e1,e2]
theorem wF{op:CmpOp}{r:R2}(ho:iJ X (compareOp op) r)(ha:PE X a ta)(hb:PE X b tb)(hm:behindInMarks op b=false):PE X (.Compare a [op] [b] pos) (BK r ta tb):=by
 intro pins s σ H Q I h
 exact wpAny_Compare1 (zk ha hb I h fun v u s2 x y H2 I2 rx ry q=>ho pins s2 σ H2 x y v u Q I2 rx ry q) hm
def BS(t:TE):TT:=fun σ H Q=>t σ H fun x H'=>∃k,x = .bl k∧Q k H'
theorem wG{op:CmpOp}{r:R2}(ho:iJ X (compareOp op) r)(ha:PE X a ta)(hb:PE X b tb)(hm:behindInMarks op b=false):PT X (.Compare a [op] [b] pos) (BS (BK r ta tb)):=by
 intro pins s σ H Q I h
 refine wpAny_isTrue_Compare1 (FI (ha pins s σ H _ I h) fun v s1 ⟨x,H1,I1,r1,q1⟩=>FI (hb pins s1 σ H1 _ I1 q1) fun u s2 ⟨y,H2,I2,r2,q2⟩=>
  FI (ho pins s2 σ H2 x y v u _ I2 r1 r2 q2) fun c s3 ⟨z,H3,I3,r3,k,e,q3⟩=>?_) hm
 subst e
 cases r3
 exact wpAny_truthy_bool ⟨H3,I3,q3⟩
theorem iM:(sizeLine:Nat) < 2 ^ 63:=by rw[sizeLine_eq];decide
theorem pQ:iJ X (binaryOp .Add) (fun x y H Q=>∃i j,x = .str i∧y = .str j∧i.length+j.length≤sizeLine∧Q (.str (i++j)) H):=by
 intro pins s σ H x y v u Q I rx ry h
 obtain⟨i,j,rfl,rfl,hz,q⟩:=h
 obtain⟨t,rfl⟩:=rx
 obtain⟨t',rfl⟩:=ry
 exact add_str (fun t' tk=>⟨.str (i++j),H,I.tok _,⟨_,rfl⟩,q⟩) hz
theorem fo{x:V}{us:List Value}(r:Vals [x] us):∃u,us=[u]∧RelV x u:=by
 cases r with
 |cons r1 r2=>cases r2;exact⟨_,rfl,r1⟩
theorem t_{x y:V}{us:List Value}(r:Vals [x,y] us):∃u w',us=[u,w']∧RelV x u∧RelV y w':=by
 cases r with
 |cons r1 r2=>
  cases r2 with
  |cons r3 r4=>cases r4;exact⟨_,_,rfl,r1,r3⟩
theorem ua:fm X (.builtin "abs") (fun xs H Q=>∃i,xs=[.int i]∧Q (.int (if i < 0 then -i else i)) H):=by
 intro pins s σ H xs us Q I r h
 obtain⟨i,rfl,q⟩:=h
 obtain⟨u,rfl,t,rfl⟩:=fo r
 exact call_abs_int fun u tk=>⟨.int (if i < 0 then -i else i),H,I.tok _,⟨_,rfl⟩,q⟩
theorem sB(hc:X.calm=true):fm X (.builtin "max") (fun xs H Q=>∃i j,xs=[.int i,.int j]∧Q (.int (if j > i then j else i)) H):=by
 intro pins s σ H xs us Q I r h
 obtain⟨i,j,rfl,q⟩:=h
 obtain⟨u,w',rfl,⟨t,rfl⟩,⟨t',rfl⟩⟩:=t_ r
 refine max_two_ints (I.ok.hd hc) fun h' tk k=>⟨_,H,I.kept k,?_,q⟩
 by_cases hj:j > i
 ·rw[if_pos hj,if_pos hj];exact⟨_,rfl⟩
 ·rw[if_neg hj,if_neg hj];exact⟨_,rfl⟩
theorem lM:fm X (.type "int") (fun xs H Q=>(∃i,xs=[.int i]∧Q (.int i) H)∨∃k,xs=[.bl k]∧Q (.int (if k then 1 else 0)) H):=by
 intro pins s σ H xs us Q I r h
 rcases h with⟨i,rfl,q⟩|⟨k,rfl,q⟩
 ·obtain⟨u,rfl,t,rfl⟩:=fo r
  exact call_int_int ⟨.int i,H,I,⟨_,rfl⟩,q⟩
 ·obtain⟨u,rfl,r1⟩:=fo r
  cases r1
  exact call_int_bool ⟨.int (if k then 1 else 0),H,I.tok _,⟨_,rfl⟩,q⟩
end
structure ObjM (h:Heap) (x dx C:Addr) (mA:Str→Option Value):Prop where
 obj:h.get? x=some (PySem.W.instObj C dx)
 ns:h.Ns1 dx mA
 ne:dx≠x
theorem sC{h:Heap}{dx:Addr}{mA:Str→Option Value}(n:h.Ns1 dx mA):∃od,h.get? dx=some od∧∀name,PySem.W.lookIn name od=some (mA name):=by
 obtain⟨o,es,ep,ho,hd,hk,_,hm⟩:=n
 refine⟨o,ho,fun name=>?_⟩
 have e:=hm name
 unfold nsFind findBy at e
 rw[←Array.find?_toList]at e
 unfold PySem.W.lookIn
 rw[hd]
 dsimp only
 split
 ·rename_i y q
  rw[q]at e
  exact congrArg some e
 ·rename_i q
  rw[q]at e
  have a:es.toList.any (·.refKey)=false:=by
   rw[List.any_eq_false]
   intro y hy
   obtain⟨z,t,hkey⟩:=hk y (Array.mem_toList_iff.mp hy)
   simp[DictEntry.refKey,hkey]
  have a':¬es.toList.any (·.refKey)=true:=by rw[a];exact Bool.false_ne_true
  rw[if_neg a']
  exact congrArg some e
theorem ObjM.look{h:Heap}{x dx C:Addr}{mA:Str→Option Value}(I:ObjM h x dx C mA):∃od,PySem.W.InstAt h x (PySem.W.instObj C dx) C (some od)∧∀name,PySem.W.lookIn name od=some (mA name):=
 let ⟨od,ho,hl⟩:=sC I.ns
 ⟨od,⟨I.obj,rfl,rfl,ho⟩,hl⟩
section
variable {prog:Program} {w:World} {A:Around} {E:Value→Shared→Prop} {s:Shared} {K:PySem.W.Frag} {x dx C f:Addr} {mA:Str→Option Value} {name:Str} {v:Value}
theorem wH{expr:Bool}{Q:Value→Shared→Prop}(X:K.In s.heap)(I:ObjM s.heap x dx C mA)(hg:PySem.W.plainGet K C name=true)(hh:PySem.W.hasDictIn K C=true)
  (ha:PySem.W.findIn K (.ref C) name=some none) (hv:mA name=some v) (hv':PySem.W.handedIn v=true) (h:Q v { s with toks:=s.toks+1 }) :
  wpAny (model prog w) A (getAttr (.ref x) name expr) Q E s:=by
 obtain⟨od,J,hl⟩:=I.look
 exact PySem.W.get_value X J (PySem.W.plainGet_of hg).1 (PySem.W.findObj_own hh ha rfl (by rw[hl,hv])) hv' h
theorem ub{pl:Sem Bool}{Q:Value×List Value→Shared→Prop}(X:K.In s.heap)(I:ObjM s.heap x dx C mA)(hg:PySem.W.plainGet K C name=true)
  (hf:PySem.W.findIn K (.ref C) name=some (some (.ref f))) (ht:PySem.W.isFn K (.ref f)=true) (hv:mA name=none) (h:Q (.ref f,[.ref x]) s) :
  wpAny (model prog w) A (getMethod (.ref x) name pl) Q E s:=by
 obtain⟨od,J,hl⟩:=I.look
 exact PySem.W.method_fn X J (PySem.W.plainGet_of hg).1 (PySem.W.plainGet_of hg).2 hf (beq_iff_eq.mp ht) (by show(PySem.W.lookIn name od).map (·.isSome)=some false;rw[hl,hv];rfl) h
theorem wI{ns:List Str}{Q:Unit→Shared→Prop}(X:K.In s.heap)(I:ObjM s.heap x dx C mA)
  (hs:PySem.W.findIn K (.ref C) "__setattr__" = some (some (.builtin "object.__setattr__"))) (hp:PySem.W.plainOver K C=true) (ht:PySem.W.takerIn K C name=some none) (hh:PySem.W.hasDictIn K C=true)
  (hw:PySem.Within mA ns) (hsz:ns.length≤sizeLine)
  (h:∀h',ObjM h' x dx C (fun y=>if y=name then some v else mA y)→Heap.SameBut dx s.heap h'→Q () { s with heap:=h',toks:=s.toks+2 }) :
  wpAny (model prog w) A (setAttr (.ref x) name v) Q E s:=by
 obtain⟨od,J,hl⟩:=I.look
 refine PySem.W.set_plain X J hs (PySem.W.osa_open (s:={ s with toks:=s.toks+1 }) (r:=none) X J hp ht fun b=>?_)
 obtain⟨cd,hc,hd'⟩:=PySem.W.any_some hh
 have hx:s.heap.get? x=some ⟨.ref C,some dx,.plain,#[]⟩:=I.obj
 refine wpAny_bind (wpAny_pure (wpAny_bind (wpAny_bind (wpAny_loadPart hx (wpAny_bind (PySem.W.Looks.here (s:={ s with toks:=s.toks+1 }) (PySem.W.looks_clsIn X hc) ?_))))))
 rw[hd']
 refine wpAny_pure (a:=some dx) (wpAny_bind (wpAny_pure (wpAny_bind ?_)))
 refine wpAny_nsSet1 (s:={ s with toks:=s.toks+1 }) I.ns fun h' hn2 hs2=>?_
 obtain⟨oD,esD,Ox,MI,MJ,K_⟩:=hn2.count (PySem.Within.cons name v hw)
 refine wpAny_bind (wpAny_lookBehind MI (by rw[MJ];exact pastItsLine_dict (Nat.le_trans K_ (by rw[List.length_cons];omega))) ?_)
 exact wpAny_pure (h _ ⟨(hs2.2 _ (Ne.symm I.ne)).trans I.obj,hn2,I.ne⟩ hs2)
theorem uc{R:Result→Shared→Prop}{vs:List Value}{kw:List (Str×Value)}(X:K.In s.heap)(hm:PySem.W.makesIn K C=true)
  (hi:PySem.W.findIn K (.ref C) "__init__" = some (some (.ref f))) (hf:PySem.W.typeIn K (.ref f)=some (.type "function"))
  (h:codeAny (model prog w) (A.under (.builtin "type.__call__" ⟨.ref C::vs,kw⟩)) (.call (.ref f) ⟨.ref (s.heap.objs.size+1)::vs,kw⟩) (PySem.W.InitBack (s.heap.objs.size+1) R)
   { s with heap:=(s.heap.push PySem.W.emptyDict).push (PySem.W.instObj C s.heap.objs.size) }) :
  codeAny (model prog w) A (.call (.ref C) ⟨vs,kw⟩) R s:=by
 obtain⟨hh,g,d,t,os⟩:=s
 exact PySem.W.make_core (PySem.W.makes_of X hm) (PySem.W.looks_findIn X hi) (fun self=>PySem.W.bind_fn X self hf) (.inl rfl) h
end
noncomputable def putF(f:Str)(v:V):List (Str×V)→List (Str×V)
 |[]=>[(f,v)]
 |(g,x)::r=>if g=f then (g,v)::r else (g,x)::putF f v r
theorem jH(f g:Str)(v:V):∀fs:List (Str×V),(putF f v fs).lookup g=if g=f then some v else fs.lookup g
 |[]=>by
  show List.lookup g [(f,v)]=_
  by_cases h:g=f
  ·have hb:(g == f)=true:=beq_iff_eq.mpr h
   simp only[List.lookup,hb,if_pos h]
  ·have hb:(g == f)=false:=beq_eq_false_iff_ne.mpr h
   simp only[List.lookup,hb,if_neg h]
 |(k,x)::r=>by
  have ih:=jH f g v r
  rw[show putF f v ((k,x)::r)=(if k=f then (k,v)::r else (k,x)::putF f v r)from rfl]
  by_cases hk:k=f
  ·rw[if_pos hk]
   by_cases h:g=k
   ·have hb:(g == k)=true:=beq_iff_eq.mpr h
    simp only[List.lookup,hb,if_pos (h.trans hk)]
   ·have hb:(g == k)=false:=beq_eq_false_iff_ne.mpr h
    simp only[List.lookup,hb,if_neg (fun e:g=f=>h (e.trans hk.symm))]
  ·rw[if_neg hk]
   by_cases h:g=k
   ·have hb:(g == k)=true:=beq_iff_eq.mpr h
    simp only[List.lookup,hb,if_neg (fun e:g=f=>hk (h.symm.trans e))]
   ·have hb:(g == k)=false:=beq_eq_false_iff_ne.mpr h
    simp only[List.lookup,hb]
    exact ih
theorem iN(f:Str)(v:V):∀fs:List (Str×V),f∈(putF f v fs).map (·.1)∧∀g,g∈fs.map (·.1)→g∈(putF f v fs).map (·.1)
 |[]=>⟨by simp[putF],fun g h=>by simp at h⟩
 |(k,x)::r=>by
  obtain⟨i1,i2⟩:=iN f v r
  rw[show putF f v ((k,x)::r)=(if k=f then (k,v)::r else (k,x)::putF f v r)from rfl]
  by_cases hk:k=f
  ·rw[if_pos hk]
   subst hk
   exact⟨by simp,fun g h=>by simpa using h⟩
  ·rw[if_neg hk]
   refine⟨?_,fun g h=>?_⟩
   ·rw[List.map_cons]
    exact List.mem_cons_of_mem _ i1
   ·rw[List.map_cons]at h ⊢
    rcases List.mem_cons.mp h with e|e
    ·exact List.mem_cons.mpr (.inl e)
    ·exact List.mem_cons_of_mem _ (i2 g e)
theorem jI(f:Str)(v:V):∀fs:List (Str×V),(putF f v fs).length≤fs.length+1
 |[]=>by simp[putF]
 |(k,x)::r=>by
  have ih:=jI f v r
  rw[show putF f v ((k,x)::r)=(if k=f then (k,v)::r else (k,x)::putF f v r)from rfl]
  by_cases hk:k=f
  ·rw[if_pos hk,List.length_cons,List.length_cons];omega
  ·rw[if_neg hk,List.length_cons,List.length_cons];omega
theorem G0.some_of{v:V}{o:Option Value}(r:G0 (some v) o):∃u,o=some u∧RelV v u:=by
 cases o with
 |none=>exact(show False from r).elim
 |some u=>exact⟨u,rfl,r⟩
theorem G0.none_of{o:Option Value}(r:G0 none o):o=none:=by
 cases o with
 |none=>rfl
 |some u=>exact(show False from r).elim
theorem sD{v:V}{u:Value}(r:RelV v u):PySem.W.handedIn u=true:=by
 cases v with
 |non=>cases (show u=Value.none from r);rfl
 |bl b=>cases (show u=Value.bool b from r);rfl
 |int i=>obtain⟨t,e⟩:=(show ∃t,u=Value.int i t from r);cases e;rfl
 |str x=>obtain⟨t,e⟩:=(show ∃t,u=Value.str x t from r);cases e;rfl
 |Kb b=>obtain⟨t,e⟩:=(show ∃t,u=Value.bytes b t from r);cases e;rfl
 |Lx b=>obtain⟨t,e⟩:=(show ∃t,u=Value.float b t from r);cases e;rfl
 |ref a=>cases (show u=Value.ref a from r);rfl
 |ty n=>cases (show u=Value.type n from r);rfl
section
variable {P:Program} {w:World} {H H':Hp} {h h':Heap} {a C dx:Addr} {fs fs':List (Str×V)}
theorem mD(hok:G8 P w H h)(e:H a=some (.ins C dx fs)):∃mA,ObjM h a dx C mA∧(∀f,G0 (fs.lookup f) (mA f))∧PySem.Within mA (fs.map (·.1))∧fs.length≤1000∧H dx=some (.own a):=by
 obtain⟨d,z,ne,ob,mA,n,r,q⟩:=(show ObjOk P w H h a (.ins C dx fs)from hok a _ e)
 exact⟨mA,⟨ob,n,ne⟩,r,q,z,d⟩
end
structure Cls (K:PySem.W.Frag) (C:Addr):Prop where
 pg:PySem.W.plainGet K C Str.empty=true
 hd:PySem.W.hasDictIn K C=true
 po:PySem.W.plainOver K C=true
 sa:PySem.W.findIn K (.ref C) "__setattr__" = some (some (.builtin "object.__setattr__"))
theorem Cls.get{K:PySem.W.Frag}{C:Addr}(c:Cls K C)(f:Str):PySem.W.plainGet K C f=true:=c.pg
def NoAttr(K:PySem.W.Frag)(C:Addr)(f:Str):Prop:=PySem.W.findIn K (.ref C) f=some none
theorem NoAttr.KP{K:PySem.W.Frag}{C:Addr}{f:Str}(n:NoAttr K C f):PySem.W.takerIn K C f=some none:=by
 unfold PySem.W.takerIn
 rw[show PySem.W.findIn K (.ref C) f=some none from n]
 rfl
structure Fv (K:PySem.W.Frag) (C:Addr) (f:Str) (v:V) (u:Value):Prop where
 at_:PySem.W.findIn K (.ref C) f=some (some u)
 rel:RelV v u
 get:PySem.W.specialIn K u "__get__" = some none
 cp:PySem.W.copiedNames.contains f=false
structure sE (K:PySem.W.Frag) (C:Addr) (m:Str) (f:Addr):Prop where
 at_:PySem.W.findIn K (.ref C) m=some (some (.ref f))
 fn:PySem.W.isFn K (.ref f)=true
 kp:PySem.W.keepIn K (.ref f)=true
section
variable {X:Cx} {pins:List (Addr×Obj)} {σ:St} {H:Hp} {s:Shared} {a C dx:Addr} {fs:List (Str×V)} {f:Str} {v:V} {A:Around} {E:Value→Shared→Prop}
theorem pR{b:Bool}{Q:Value→Shared→Prop}(I:Inv X pins σ H s)(e:H a=some (.ins C dx fs))(c:Cls X.K C)(n:NoAttr X.K C f)(l:fs.lookup f=some v)
  (h:∀u s',Inv X pins σ H s'→RelV v u→Q u s'):wpAny (model X.prog X.w) A (getAttr (.ref a) f b) Q E s:=by
 obtain⟨mA,O,r,_,_,_⟩:=mD I.hok e
 obtain⟨u,hu,ru⟩:=G0.some_of (v:=v) (o:=mA f) (by rw[←l];exact r f)
 exact wH I.Ik O (c.get f) c.hd n hu (sD ru) (h u _ (I.tok _) ru)
theorem kf{m:Str}{g:Addr}{pl:Sem Bool}{Q:Value×List Value→Shared→Prop}(I:Inv X pins σ H s)(e:H a=some (.ins C dx fs))(c:Cls X.K C)(k:sE X.K C m g)(l:fs.lookup m=none)
  (h:Q (.ref g,[.ref a]) s):wpAny (model X.prog X.w) A (getMethod (.ref a) m pl) Q E s:=by
 obtain⟨mA,O,r,_,_,_⟩:=mD I.hok e
 have hn:mA m=none:=G0.none_of (by rw[←l];exact r m)
 exact ub I.Ik O (c.get m) k.at_ k.fn hn h
theorem pS{y:V}{u:Value}{Q:Unit→Shared→Prop}(I:Inv X pins σ H s)(e:H a=some (.ins C dx fs))(c:Cls X.K C)(n:NoAttr X.K C f)(hl:fs.length < 1000)(ry:RelV y u)
  (h:∀s',Inv X pins σ (upd H a (.ins C dx (putF f y fs))) s'→Q () s'):wpAny (model X.prog X.w) A (setAttr (.ref a) f u) Q E s:=by
 obtain⟨mA,O,r,wi,_,ho⟩:=mD I.hok e
 have hz:(fs.map (·.1)).length≤sizeLine:=by rw[List.length_map,sizeLine_eq];omega
 refine wI I.Ik O c.sa c.po n.KP c.hd wi hz fun h' O' sb=>h _ ?_
 have hd:∃o,h'.get? dx=some o:=let ⟨o,_,_,e',_⟩:=O'.ns;⟨o,e'⟩
 refine I.write (x:=a) (e:=dx) (by rw[e];exact True.intro) (.inr ho) (fun b q hb z=>(sb.2 b hb).trans z) hd ?_
 refine⟨by rw[ao O.ne];exact ho,?_,O.ne,O'.obj,_,O'.ns,fun g=>?_,fun g hg=>?_⟩
 ·have:=jI f y fs;omega
 ·show G0 ((putF f y fs).lookup g) (if g=f then some u else mA g)
  rw[jH]
  by_cases q:g=f
  ·rw[if_pos q,if_pos q];exact ry
  ·rw[if_neg q,if_neg q];exact r g
 ·by_cases q:g=f
  ·rw[q];exact(iN f y fs).1
  ·refine(iN f y fs).2 g (wi g fun z=>hg ?_)
   show(if g=f then some u else mA g)=none
   rw[if_neg q];exact z
theorem Inv.made(I:Inv X pins σ H s):Inv X pins σ (upd (upd H s.heap.objs.size (.own (s.heap.objs.size+1))) (s.heap.objs.size+1) (.ins C s.heap.objs.size []))
  { s with heap:=(s.heap.push PySem.W.emptyDict).push (PySem.W.instObj C s.heap.objs.size) }:=by
 have e1:(s.heap.push PySem.W.emptyDict).get? s.heap.objs.size=some PySem.W.emptyDict:=Heap.get?_push_size s.heap rfl
 have e2:((s.heap.push PySem.W.emptyDict).push (PySem.W.instObj C s.heap.objs.size)).get? (s.heap.objs.size+1)=some (PySem.W.instObj C s.heap.objs.size):=by
  have:=Heap.get?_push_size (s.heap.push PySem.W.emptyDict) (o:=PySem.W.instObj C s.heap.objs.size) rfl
  rwa [Heap.size_push]at this
 have e3:(s.heap.push PySem.W.emptyDict).Ns s.heap.objs.size (fun _=>none):=⟨PySem.W.emptyDict,#[],_,e1,rfl,(fun e he=>absurd he (by simp)),fun _=>rfl⟩
 have I1:=I.laid (a:=s.heap.objs.size) (o:=.own (s.heap.objs.size+1)) (h':=s.heap.push PySem.W.emptyDict) (t':=s.toks) (fun b u q=>Heap.get?_push_of_some _ q) (Nat.le_refl _) ⟨_,e1⟩
 refine I1.laid (a:=s.heap.objs.size+1) (o:=.ins C s.heap.objs.size []) (t':=s.toks) (fun b u q=>Heap.get?_push_of_some _ q) (Nat.le_of_eq (Heap.size_push _ _)) ?_
 have ne:s.heap.objs.size≠s.heap.objs.size+1:=Nat.ne_of_lt (Nat.lt_succ_self _)
 refine⟨by rw[ao ne,aq],Nat.zero_le _,ne,e2,fun _=>none,(Heap.Ns1.of_empty e3).at fun o q=>Heap.get?_push_of_some _ q,fun _=>True.intro,fun y hy=>absurd rfl hy⟩
theorem wJ{prog:Program}{w:World}{env:Env}{e:Expr}{f:Str}{pos:Pos}{s:Shared}{Q:Value→Shared→Prop}(hb:attributeBase e f env (eval e env)=eval e env)
  (h:wpAny (model prog w) A (eval e env) (fun o s₁=>wpAny (model prog w) A (getAttr o f true) Q E s₁) E s):wpAny (model prog w) A (eval (.Attribute e f pos) env) Q E s:=
 Attribute_any_ h (by rw[arm_eval_Attribute,hb])
end
def DF(K:PySem.W.Frag)(ta:TE)(f:Str):TE:=fun σ H Q=>ta σ H fun x H1=>∃a C dx fs v,x = .ref a∧H1 a=some (.ins C dx fs)∧Cls K C∧NoAttr K C f∧fs.lookup f=some v∧Q v H1
def DG(K:PySem.W.Frag)(ta tv:TE)(f:Str):TS:=fun D σ H=>tv σ H fun y H1=>ta σ H1 fun x H2=>∃a C dx fs,x = .ref a∧H2 a=some (.ins C dx fs)∧Cls K C∧NoAttr K C f∧fs.length < 1000∧
 D.nx σ (upd H2 a (.ins C dx (putF f y fs)))
section
variable {X:Cx} {o e value:Expr} {f:Str} {pos pos' tpos:Pos} {ta tv:TE}
theorem zt(he:PE X e ta)(hb:attributeBase e f X.env (eval e X.env)=eval e X.env):PE X (.Attribute e f pos) (DF X.K ta f):=by
 intro pins s σ H Q I h
 refine wJ hb (FI (he pins s σ H _ I h) fun u s1 ⟨x,H1,I1,rx,a,C,dx,fs,v,ex,ea,c,n,l,q⟩=>?_)
 subst ex
 obtain rfl:u=Value.ref a:=rx
 exact pR I1 ea c n l fun u' s2 I2 ru=>⟨v,H1,I2,ru,q⟩
theorem zu(ha:PE X o ta)(hv:PE X value tv)(hs:swapsWith value (some (.Attribute o f pos')) pos.line X.env=pure false):PS X (.Assign [.Attribute o f pos'] value pos) (DG X.K ta tv f):=by
 intro pins s σ H D I h
 refine plainObj_wpAny_Assign_Attribute (FI (hv pins s σ H _ I h) fun u s1 ⟨y,H1,I1,ry,q⟩=>FI (ha pins s1 σ H1 _ I1 q) fun ov s2 ⟨x,H2,I2,rx,a,C,dx,fs,ex,ea,c,n,l,q2⟩=>?_) hs
 subst ex
 obtain rfl:ov=Value.ref a:=rx
 exact pS I2 ea c n l ry fun s3 I3=>⟨σ,_,I3,q2⟩
end
section
variable {X:Cx} {pins:List (Addr×Obj)} {σ:St} {H:Hp} {s:Shared} {A:Around} {E:Value→Shared→Prop} {Q:Value→Shared→Prop} {c:Value} {b:Bool}
inductive kg (K:PySem.W.Frag) (H:Hp):V→Value→Prop where
 |non:kg K H .non (.type "NoneType")
 |bl (x:Bool):kg K H (.bl x) (.type "bool")
 |int (i:Int):kg K H (.int i) (.type "int")
 |str (x:Str):kg K H (.str x) (.type "str")
 |Lx (x:UInt64):kg K H (.Lx x) (.type "float")
 |lst {a:Addr} {xs:List V} (e:H a=some (.lst xs)):kg K H (.ref a) (.type "list")
 |frz {a:Addr} {o:Obj} {xs:List V} (e:H a=some (.frz o (.lst xs))):kg K H (.ref a) (.type "list")
 |tup {a:Addr} {xs:List V} (e:H a=some (.tup xs)):kg K H (.ref a) (.type "tuple")
 |dK {a:Addr} {kvs:List (bg×V)} (e:H a=some (.dK kvs)):kg K H (.ref a) (.type "dict")
 |dT {a:Addr} {kvs:List (List bg×V)} (e:H a=some (.dT kvs)):kg K H (.ref a) (.type "dict")
 |ins {a C dx:Addr} {fs:List (Str×V)} (e:H a=some (.ins C dx fs)) (cl:Cls K C) (ha:PySem.W.findIn K (.ref C) "__class__" = some (some (.builtin "object.__class__")))
   (hn:PySem.W.specialIn K (.builtin "object.__class__") "__get__" = some (some (.builtin "getset_descriptor.__get__"))) (htk:PySem.W.takesIn K (.builtin "object.__class__")=some true)
   (hm:PySem.W.mroIn K C (.type "object")=some true):kg K H (.ref a) (.ref C)
end
structure Room (k:Nat) (A:Around):Prop where
 hd:A.handled=none
 dp:A.depth+3 * k+5 < recursionLimit
 un:A.units+16 * k+200 < cLine
 gd:A.guards=some []
theorem Room.mono{j k:Nat}{A:Around}(r:Room k A)(h:j≤k):Room j A:=⟨r.hd,by have:=r.dp;omega,by have:=r.un;omega,r.gd⟩
theorem Room.deeper{k:Nat}{A:Around}(r:Room (k+1) A)(env:Env):Room k (A.deeper env):=
 ⟨r.hd,by have:=r.dp;show A.depth+1+3 * k+5 < _;omega,by have:=r.un;show A.units+3+16 * k+200 < _;omega,r.gd⟩
theorem pU{A:Around}{C:Addr}{us:List Value}{kw:List (Str×Value)}:(A.under (.builtin "type.__call__" ⟨.ref C::us,kw⟩)).depth=A.depth+1:=by
 first|rfl|simp[Around.under,Code.weight,Code.isCreation,Code.isGuard,Code.isCaller,Code.frames,Code.isFrame,guardIds]
theorem pV{A:Around}{C:Addr}{us:List Value}{kw:List (Str×Value)}:(A.under (.builtin "type.__call__" ⟨.ref C::us,kw⟩)).units=A.units+1:=by
 first|rfl|simp[Around.under,Code.cUnits,Code.frames,Code.isFrame]
theorem nZ{A:Around}{C:Addr}{us:List Value}{kw:List (Str×Value)}:(A.under (.builtin "type.__call__" ⟨.ref C::us,kw⟩)).guards=A.guards:=by
 first|rfl|(cases h:A.guards<;>simp[Around.under,Code.guards,Code.isGuard,guardIds,pushGuards,h])
theorem Room.make{k:Nat}{A:Around}(r:Room (k+1) A)(C:Addr)(us:List Value)(kw:List (Str×Value)):Room k (A.under (.builtin "type.__call__" ⟨.ref C::us,kw⟩)):=
 ⟨r.hd,by have:=r.dp;rw[pU];omega,by have:=r.un;rw[pV];omega,by rw[nZ];exact r.gd⟩
theorem Room.depth{k:Nat}{A:Around}(r:Room k A):A.depth < recursionLimit:=by have:=r.dp;omega
def BU:TA:=fun _ H Q=>Q [] H
def yC(ta:TE)(tr:TA):TA:=fun σ H Q=>ta σ H fun x H1=>tr σ H1 fun xs H2=>Q (x::xs) H2
section
variable {X:Cx} {e:Expr} {es:List Expr} {te:TE} {t:TA} {pos:Pos}
theorem zv:PA X [] BU:=fun _ _ _ _ H Q I h=>Calls.spliced_nil ⟨[],H,I,.nil,h⟩
theorem wL(ha:PE X e te)(hr:PA X es t)(hs:starEach (e::es) X.env=(false,eval e X.env)::starEach es X.env:=by rfl):PA X (e::es) (yC te t):=by
 intro pos pins s σ H Q I h
 rw[hs]
 show wpAny _ _ (spliced ((false,eval e X.env)::backTo pos (starEach es X.env))) _ _ s
 refine Calls.spliced_cons (FI (ha pins s σ H _ I h) fun u s1 ⟨x,H1,I1,r1,q1⟩=>?_)
 exact FI (hr pos pins s1 σ H1 _ I1 q1) fun us s2 ⟨xs,H2,I2,r2,q2⟩=>⟨x::xs,H2,I2,.cons r1 r2,q2⟩
def DH(t:TA):TE:=fun σ H Q=>t σ H fun xs H1=>xs.length≤sizeLine∧∀p,H1 p=none→Q (.ref p) (upd H1 p (.tup xs))
def DI(t:TA):TE:=fun σ H Q=>t σ H fun xs H1=>xs.length≤sizeLine∧∀p,H1 p=none→Q (.ref p) (upd H1 p (.lst xs))
theorem zw{x1}(h:PA X es t):PE X (.Tuple es x1 pos) (DH t):=by
 intro pins s σ H Q I hq
 refine wpAny_Tuple_spliced (FI (h pos pins s σ H _ I hq) fun us s1 ⟨xs,H1,I1,r,z,q⟩=>⟨by rw[←r.length];exact z,?_⟩)
 have hf:H1 s1.heap.objs.size=none:=I1.hok.fresh (Nat.le_refl _)
 refine⟨.ref s1.heap.objs.size,upd H1 s1.heap.objs.size (.tup xs),I1.laid (t':=s1.toks) (fun b u e=>Heap.get?_push_of_some _ e) (Nat.le_refl _) ?_,rfl,q _ hf⟩
 exact⟨z,us,r,⟨_,Heap.get?_push_size _ rfl,rfl,rfl,_,rfl⟩⟩
theorem zx(h:PA X es t):PE X (.List es pos) (DI t):=by
 intro pins s σ H Q I hq
 refine wpAny_List_spliced (FI (h pos pins s σ H _ I hq) fun us s1 ⟨xs,H1,I1,r,z,q⟩=>⟨by rw[←r.length];exact z,?_⟩)
 have hf:H1 s1.heap.objs.size=none:=I1.hok.fresh (Nat.le_refl _)
 refine⟨.ref s1.heap.objs.size,upd H1 s1.heap.objs.size (.lst xs),I1.laid (t':=s1.toks) (fun b u e=>Heap.get?_push_of_some _ e) (Nat.le_refl _) ?_,rfl,q _ hf⟩
 exact⟨z,us,0,r,Heap.get?_push_size _ rfl⟩
end
abbrev Sp:=List V→Hp→VK→XK→Prop
abbrev tP:=List Env→Hp→Shared→XK→Value→Shared→Prop
structure Jz (P:Program) (w:World) (K:PySem.W.Frag) (mg:Str→Option Value) (base:Heap) (A:Around) (outer:List Env) (s:Shared) (H:Hp):Prop where
 frames:A.frames=some outer
 mod:Mod K mg base
 bs:∀b o,base.get? b=some o→s.heap.get? b=some o∧H b=none
 JN:base.objs.size≤s.heap.objs.size
 Hi:s.heap.FunFrames base outer
 Kc:∀b∈frs outer,H b=none
 hok:G8 P w H s.heap
 bare:AllBare s.gens
def CE(outer:List Env)(P:Program)(w:World)(H:Hp)(s:Shared)(Q:VK)(u:Value)(s':Shared):Prop:=
 ∃v H',s'.os=s.os∧AllBare s'.gens∧Un (frs outer) [] H H' s.heap s'.heap∧G8 P w H' s'.heap∧RelV v u∧Q v H'
def CR(CX:tP)(outer:List Env)(P:Program)(w:World)(H:Hp)(s:Shared)(Q:VK)(E:XK)(r:Result)(s':Shared):Prop:=
 match r with
 | .ok (.ret u)=>CE outer P w H s Q u s'
 | .ok _=>False
 | .error e=>CX outer H s E e s'
structure dP (P:Program) (w:World) (K:PySem.W.Frag) (mg:Str→Option Value) (base:Heap) (CX:tP) (k:Nat) (f:Addr) (fd:FuncData) (ps:List Str) (sp:Sp):Prop where
 len:∀vs H Q E,sp vs H Q E→vs.length=ps.length
 run:∀(A:Around) (outer:List Env) (s:Shared) (H:Hp) (args:Args) (us:List Value) (vs:List V) (Q:VK) (E:XK),Room k A→Jz P w K mg base A outer s H→BindsTo s fd args (ps.zip us)→Vals vs us→sp vs H Q E→
  codeAny (model P w) A (.call (.ref f) args) (CR CX outer P w H s Q E) s
theorem Jz.make{P:Program}{w:World}{K:PySem.W.Frag}{mg:Str→Option Value}{base:Heap}{A:Around}{outer:List Env}{s:Shared}{H:Hp}(e:Jz P w K mg base A outer s H)(C:Addr)(us:List Value)(kw:List (Str×Value)) :
  Jz P w K mg base (A.under (.builtin "type.__call__" ⟨.ref C::us,kw⟩)) outer s H:=⟨by first|exact e.frames|(simpa [Around.under,Code.envs,Code.isFrame,pushEnvs]using e.frames),e.mod,e.bs,e.JN,e.Hi,e.Kc,e.hok,e.bare⟩
section
variable {X:Cx} {pins:List (Addr×Obj)} {σ:St} {H:Hp} {s s':Shared}
theorem Inv.KA(I:Inv X pins σ H s):Jz X.prog X.w X.K X.mg X.base X.A X.stack s H:=
 ⟨I.ok.frames,I.ok.mod,I.bs,Nat.le_trans I.ok.JN I.sz,I.stack,I.IV,I.hok,I.bare⟩
theorem Inv.after{Q:VK}{u:Value}(I:Inv X pins σ H s)(h:CE X.stack X.prog X.w H s Q u s'):EP X pins σ Q u s':=by
 obtain⟨v,H',os,bare,un,hok,r,q⟩:=h
 obtain⟨hh,g,d,t,os'⟩:=s'
 obtain rfl:os'=s.os:=os
 exact⟨v,H',I.call (h':=hh) (g':=g) (d':=d) (t':=t) (ch:=[]) un hok bare (fun b z=>absurd z (by simp)),r,q⟩
end
def BV(sp:Sp)(dvs:List V)(E:XK)(t:TA):TE:=fun σ H Q=>t σ H fun vs H1=>sp (vs++dvs) H1 Q E
def BW(C:Addr)(m:Str)(sp:Sp)(dvs:List V)(E:XK)(ta:TE)(t:TA):TE:=fun σ H Q=>ta σ H fun x H1=>∃a dx fs,x = .ref a∧H1 a=some (.ins C dx fs)∧fs.lookup m=none∧
 t σ H1 fun vs H2=>sp (x::(vs++dvs)) H2 Q E
def BX(C:Addr)(sp:Sp)(dvs:List V)(E:XK)(t:TA):TE:=fun σ H Q=>t σ H fun vs H1=>∀x dx,H1 x=none→H1 dx=none→dx≠x→
 sp (.ref x::(vs++dvs)) (upd (upd H1 dx (.own x)) x (.ins C dx [])) (fun v H2=>v = .non∧Q (.ref x) H2) E
def Binds(K:PySem.W.Frag)(fd:FuncData)(ps:List Str)(ds:List Value):Prop:=
 ∀(s:Shared) (us:List Value),K.In s.heap→(us++ds).length=ps.length→BindsTo s fd ⟨us,[]⟩ (ps.zip (us++ds))
theorem Binds.all{K:PySem.W.Frag}{fd:FuncData}{ps:List Str}(h:∀us:List Value,us.length=ps.length→bindArgs fd ⟨us,[]⟩=pure (ps.zip us)):Binds K fd ps []:=fun s us _ hl=>by
 rw[List.append_nil]at hl ⊢
 exact .of_eq (h us hl)
def iO(CX:tP)(X:Cx)(E:XK):Prop:=∀(pins:List (Addr×Obj)) (σ:St) (H:Hp) (s:Shared) (e:Value) (s':Shared),Inv X pins σ H s→CX X.stack H s E e s'→X.xe e s'
section
variable {X:Cx} {CX:tP} {k:Nat} {f C:Addr} {fd:FuncData} {ps:List Str} {sp:Sp} {dvs:List V} {ds:List Value} {E:XK} {x m:Str} {p pos apos:Pos} {e o:Expr} {es:List Expr} {ta:TE} {t:TA}
theorem ud{pins:List (Addr×Obj)}{σ:St}{H:Hp}{s:Shared}{Q:VK}{us:List Value}{vs:List V}(F:dP X.prog X.w X.K X.mg X.base CX k f fd ps sp)(hr:Room k X.A)(hb:Binds X.K fd ps ds)(hd:Vals dvs ds)(hx:iO CX X E)
  (I:Inv X pins σ H s) (r:Vals vs us) (h:sp (vs++dvs) H Q E):wpAny (model X.prog X.w) X.A (call (.ref f) us) (EP X pins σ Q) X.xe s:=by
 have r2:Vals (vs++dvs) (us++ds):=r.append hd
 have hl:(us++ds).length=ps.length:=by rw[←r2.length];exact F.len _ _ _ _ h
 refine wpAny_call (codeAny_mono (F.run X.A X.stack s H ⟨us,[]⟩ (us++ds) (vs++dvs) Q E hr I.KA (hb s us I.Ik hl) r2 h) fun r s' hq=>?_)
 cases r with
 |error e=>exact hx pins σ H s e s' I hq
 |ok fl=>
  cases fl with
  |ret u=>exact I.after hq
  |next=>exact False.elim hq
  |brk=>exact False.elim hq
  |cont=>exact False.elim hq
theorem wM(F:dP X.prog X.w X.K X.mg X.base CX k f fd ps sp)(hr:Room k X.A)(hg:Gl X x)(hm:X.mg x=some (.ref f))(hk:PySem.W.keepIn X.K (.ref f)=true)(hb:Binds X.K fd ps ds)(hd:Vals dvs ds)(hx:iO CX X E)
  (ha:PA X (e::es) t) (hdb:(x == ("__debug__":Str))=false:=by decide) (he:starEach (e::es) X.env=(false,eval e X.env)::starEach es X.env:=by rfl) (hpl:(backTo pos (starEach es X.env)).any (·.1)=false:=by rfl) :
  PE X (.Call (.Name x p) (e::es) [] pos) (BV sp dvs E t):=by
 intro pins s σ H Q I h
 refine wpAny_Call_Name_kw (fY I hg hm ?_ hdb)
 refine PySem.W.callWith_K (h₀:=X.base) I.ok.mod.KN hk (FI (ha pos pins s σ H _ I h) fun us s1 ⟨vs,H1,I1,r,q⟩=>⟨I1.Ik,?_⟩) he hpl
 exact ud F hr hb hd hx I1 r q
theorem wN{pl:Sem Bool}(he:PE X o ta)(c:Cls X.K C)(hm:sE X.K C m f)(F:dP X.prog X.w X.K X.mg X.base CX k f fd ps sp)(hr:Room k X.A)(hb:Binds X.K fd ps ds)(hd:Vals dvs ds)(hx:iO CX X E)(ha:PA X (e::es) t)
  (hst:starEach (e::es) X.env=(false,eval e X.env)::starEach es X.env:=by rfl) (hpl:(backTo pos (starEach es X.env)).any (·.1)=false:=by rfl)
  (ht:eval (.Call (.Attribute o m apos) (e::es) [] pos) X.env=(do
   let ov ←eval o X.env
   standAt apos.atName
   let (f,first) ←holding [ov] (getMethod ov m pl)
   callWith pos f first (backTo pos (starEach (e::es) X.env)) (backToKw pos (keywordEach [] X.env))):=by rfl) :
  PE X (.Call (.Attribute o m apos) (e::es) [] pos) (BW C m sp dvs E ta t):=by
 intro pins s σ H Q I h
 refine PySem.W.methodCall_KW (pl:=pl) (FI (he pins s σ H _ I h) fun u s1 ⟨x,H1,I1,rx,a,dx,fs,ex,ea,l,q⟩=>?_) ht
 subst ex
 obtain rfl:u=Value.ref a:=rx
 refine kf I1 ea c hm l ?_
 refine PySem.W.callWith_K (first:=[.ref a]) (h₀:=X.base) I.ok.mod.KN hm.kp (FI (ha pos pins s1 σ H1 _ I1 q) fun us s2 ⟨vs,H2,I2,r,q2⟩=>⟨I2.Ik,?_⟩) hst hpl
 exact ud (us:=.ref a::us) (vs:=.ref a::vs) F hr hb hd hx I2 (.cons rfl r) q2
structure Mk (K:PySem.W.Frag) (C f:Addr):Prop where
 makes:PySem.W.makesIn K C=true
 init:PySem.W.findIn K (.ref C) "__init__" = some (some (.ref f))
 fn:PySem.W.isFn K (.ref f)=true
 kp:PySem.W.keepIn K (.ref C)=true
theorem ue{pins:List (Addr×Obj)}{σ:St}{H:Hp}{s:Shared}{Q:VK}{us:List Value}{vs:List V}(M:Mk X.K C f)(F:dP X.prog X.w X.K X.mg X.base CX k f fd ps sp)(hr:Room (k+1) X.A)(hb:Binds X.K fd ps ds)(hd:Vals dvs ds)
  (hx:iO CX X E) (I:Inv X pins σ H s) (r:Vals vs us)
  (h:∀x dx,H x=none→H dx=none→dx≠x→sp (.ref x::(vs++dvs)) (upd (upd H dx (.own x)) x (.ins C dx [])) (fun v H2=>v = .non∧Q (.ref x) H2) E) :
  wpAny (model X.prog X.w) X.A (call (.ref C) us) (EP X pins σ Q) X.xe s:=by
 have hq:=h (s.heap.objs.size+1) s.heap.objs.size (I.hok.fresh (Nat.le_succ _)) (I.hok.fresh (Nat.le_refl _)) (Nat.ne_of_lt (Nat.lt_succ_self _))
 have I2:=Inv.made (C:=C) I
 have r2:Vals (V.ref (s.heap.objs.size+1)::(vs++dvs)) (Value.ref (s.heap.objs.size+1)::(us++ds)):=.cons rfl (r.append hd)
 have hl:(Value.ref (s.heap.objs.size+1)::us++ds).length=ps.length:=by
  have e:=r2.length
  rw[F.len _ _ _ _ hq]at e
  exact e.symm
 refine wpAny_call (uc (f:=f) I.Ik M.makes M.init (beq_iff_eq.mp M.fn) (codeAny_mono (F.run _ X.stack _ _ ⟨Value.ref (s.heap.objs.size+1)::us,[]⟩ (Value.ref (s.heap.objs.size+1)::(us++ds)) _ _ E (hr.make C us [])
  (I2.KA.make C us []) (hb _ (Value.ref (s.heap.objs.size+1)::us) I2.Ik hl) r2 hq) fun r s' hq'=>?_))
 cases r with
 |error e=>exact hx pins σ _ _ e s' I2 hq'
 |ok fl=>
  cases fl with
  |ret u=>
   obtain⟨v,H',I3,rv,ev,q3⟩:=I2.after hq'
   subst ev
   exact⟨rv,⟨V.ref (s.heap.objs.size+1),H',I3,rfl,q3⟩⟩
  |next=>exact False.elim hq'
  |brk=>exact False.elim hq'
  |cont=>exact False.elim hq'
theorem wO(M:Mk X.K C f)(F:dP X.prog X.w X.K X.mg X.base CX k f fd ps sp)(hr:Room (k+1) X.A)(hg:Gl X x)(hm:X.mg x=some (.ref C))(hb:Binds X.K fd ps ds)(hd:Vals dvs ds)(hx:iO CX X E)
  (ha:PA X (e::es) t) (hdb:(x == ("__debug__":Str))=false:=by decide) (he:starEach (e::es) X.env=(false,eval e X.env)::starEach es X.env:=by rfl) (hpl:(backTo pos (starEach es X.env)).any (·.1)=false:=by rfl) :
  PE X (.Call (.Name x p) (e::es) [] pos) (BX C sp dvs E t):=by
 intro pins s σ H Q I h
 refine wpAny_Call_Name_kw (fY I hg hm ?_ hdb)
 refine PySem.W.callWith_K (h₀:=X.base) I.ok.mod.KN M.kp (FI (ha pos pins s σ H _ I h) fun us s1 ⟨vs,H1,I1,r,q⟩=>⟨I1.Ik,?_⟩) he hpl
 exact ue M F hr hb hd hx I1 r q
end
section
variable {X:Cx} {CX:tP} {k:Nat} {f C:Addr} {fd:FuncData} {ps ks:List Str} {sp:Sp} {E:XK} {x m:Str} {p pos apos kpos:Pos} {e o:Expr} {es:List Expr} {kws:List Keyword} {te ta:TE} {t tk:TA} {nm:Option Str}
structure DJ (K:PySem.W.Frag) (fd:FuncData) (ps ks:List Str) (g:List Value→List Value→List Value) (gV:List V→List V→List V):Prop where
 to:∀(s:Shared) (us ws:List Value),K.In s.heap→(g us ws).length=ps.length→BindsTo s fd ⟨us,ks.zip ws⟩ (ps.zip (g us ws))
 rel:∀{vs:List V} {us:List Value} {zs:List V} {ws:List Value},Vals vs us→Vals zs ws→Vals (gV vs zs) (g us ws)
variable {g:List Value→List Value→List Value} {gV:List V→List V→List V}
end
structure bL (N P:List Str) (sc:Scope):Prop where
 kind:sc.kind = .function
 co:sc.isCoroutine=false
 gen:sc.isGenerator=false
 nd:N.Nodup
 pre:N.take P.length=P
 par:∀x∈P,sc.names.lookup x=some .local∨sc.names.lookup x=some .cell
 La:∀y∈sc.names,y.2 ≠ .free
theorem lN{kindOf:Str→Option NameKind}{x:Str}:∀{binds:List (Str×Value)} {m:Str→Option Value},(∀v,(x,v) ∉ binds)→bindL kindOf binds m x=m x
 |[],_,_=>rfl
 |(n,v)::r,m,h=>by
  unfold bindL
  rw[lN fun w hw=>h w (List.mem_cons_of_mem _ hw)]
  split
  ·have:x≠n:=by rintro rfl;exact h v List.mem_cons_self
   simp[this]
  ·rfl
theorem lO{kindOf:Str→Option NameKind}{x:Str}:∀{binds:List (Str×Value)} {m:Str→Option Value},(∀v,(x,v) ∉ binds)→bindC kindOf binds m x=m x
 |[],_,_=>rfl
 |(n,v)::r,m,h=>by
  unfold bindC
  rw[lO fun w hw=>h w (List.mem_cons_of_mem _ hw)]
  split
  ·rfl
  ·have:x≠n:=by rintro rfl;exact h v List.mem_cons_self
   simp[this]
theorem lP{kindOf:Str→Option NameKind}{x:Str}{v:Value}:∀{P:List Str} {vs:List Value} {i:Nat} {m:Str→Option Value},P.Nodup→P[i]?=some x→vs[i]?=some v→kindOf x=some .local→
  bindL kindOf (P.zip vs) m x=some v
 |[],_,_,_,_,h,_,_=>by simp at h
 |_::_,[],_,_,_,_,h,_=>by simp at h
 |p::P,w::vs,0,m,nd,h1,h2,hk=>by
  simp at h1 h2;subst h1;subst h2
  show bindL kindOf ((p,w)::P.zip vs) m p=_
  unfold bindL
  rw[lN fun v hv=>(List.nodup_cons.mp nd).1 (List.of_mem_zip hv).1,if_pos hk]
  simp
 |p::P,w::vs,i+1,m,nd,h1,h2,hk=>by
  show bindL kindOf ((p,w)::P.zip vs) m x=_
  unfold bindL
  exact lP (i:=i) (List.nodup_cons.mp nd).2 (by simpa using h1) (by simpa using h2) hk
theorem lQ{kindOf:Str→Option NameKind}{x:Str}{v:Value}:∀{P:List Str} {vs:List Value} {i:Nat} {m:Str→Option Value},P.Nodup→P[i]?=some x→vs[i]?=some v→kindOf x≠some .local→
  bindC kindOf (P.zip vs) m x=some v
 |[],_,_,_,_,h,_,_=>by simp at h
 |_::_,[],_,_,_,_,h,_=>by simp at h
 |p::P,w::vs,0,m,nd,h1,h2,hk=>by
  simp at h1 h2;subst h1;subst h2
  show bindC kindOf ((p,w)::P.zip vs) m p=_
  unfold bindC
  rw[lO fun v hv=>(List.nodup_cons.mp nd).1 (List.of_mem_zip hv).1,if_neg hk]
  simp
 |p::P,w::vs,i+1,m,nd,h1,h2,hk=>by
  show bindC kindOf ((p,w)::P.zip vs) m x=_
  unfold bindC
  exact lQ (i:=i) (List.nodup_cons.mp nd).2 (by simpa using h1) (by simpa using h2) hk
noncomputable def fe(N:List Str)(vs:List V):St:=vs.map some++List.replicate (N.length - vs.length) none
noncomputable def gr(CX:tP)(P:Program)(w:World)(K:PySem.W.Frag)(mg:Str→Option Value)(base:Heap)(N:List Str)(qual:Str)(scope:Scope)(f:Addr)(cd:Value)(A:Around)(outer:List Env)(s:Shared)(H:Hp)(E:XK):Cx where
 prog:=P
 w:=w
 K:=K
 mg:=mg
 base:=base
 A:=A.deeper (envOfC qual scope s.heap.objs.size f cd)
 N:=N
 s₀:=s
 H₀:=H
 env:=envOfC qual scope s.heap.objs.size f cd
 outer:=outer
 stack:=envOfC qual scope s.heap.objs.size f cd::outer
 ex:=[]
 calm:=true
 fn:=fun _=>true
 pn:=[]
 xe:=fun e s'=>wpAny (model P w) (A.deeper (envOfC qual scope s.heap.objs.size f cd)) (leaving (envOfC qual scope s.heap.objs.size f cd) e) (fun _ s''=>CX outer H s E e s'') (fun e' s''=>CX outer H s E e' s'') s'
theorem n4{sc:Scope}{n:Nat}{x:Str}(h:sc.names.lookup x=some .cell):∃c,(cellsFrom n sc.names []).lookup x=some c:=by
 have q:=PySem.W.cellsFrom_some sc.names n [] (.inl h)
 exact Option.isSome_iff_exists.mp q
theorem sF{CX:tP}{P:Program}{w:World}{K:PySem.W.Frag}{mg:Str→Option Value}{base:Heap}{N ps:List Str}{qual:Str}{scope:Scope}{f:Addr}{cd:Value}{A:Around}{outer:List Env}{s s1:Shared}{H:Hp}{E:XK}{us:List Value}{vs:List V}
  (S:bL N ps scope) (hd:A.handled=none) (e0:Jz P w K mg base A outer s H) (hl:vs.length=ps.length) (r:Vals vs us)
  (x:InCallC s s.heap.objs.size (bindL (envOfC qual scope s.heap.objs.size f cd).kindOf (ps.zip us) fun _=>none) (cellsFrom (s.heap.objs.size+1) scope.names []) (bindC (envOfC qual scope s.heap.objs.size f cd).kindOf (ps.zip us) fun _=>none) s1) :
  Inv (gr CX P w K mg base N qual scope f cd A outer s H E) [] (fe N vs) H s1:=by
 have hpl:ps.length≤N.length:=by have:=congrArg List.length S.pre;rw[List.length_take]at this;omega
 obtain⟨h1,tk,rfl,hk⟩:=x.done
 have LP:∀b:Addr,b ∉ (gr CX P w K mg base N qual scope f cd A outer s H E).ex:=fun b z=>absurd (show b∈([]:List Addr)from z) (by simp)
 refine⟨⟨e0.mod,S.kind,rfl,rfl,Nat.le_refl _,fun y z c h1 h2=>?_,fun y hy=>?_,fun y c _ h=>?_,fun _=>hd,Around.frames_deeper e0.frames,.inr ⟨rfl,rfl⟩,fun b z=>absurd z (LP b),e0.bs,e0.JN,fun b _ _=>LP b,fun b z=>absurd z (LP b),e0.Hi,e0.Kc⟩,
  rfl,e0.bare,Un.kept hk,⟨_,x.toInCall.ns,fun i y v h1 h2 h3=>?_⟩,fun y c h=>⟨_,x.cell y c h⟩,e0.hok.fresh (Nat.le_refl _),fun y c h=>?_,fun p hp=>absurd (show p∈([]:List (Addr×Obj))from hp) (by simp),e0.hok.kept hk,?_⟩
 ·exact name_of_addr x.apart (PySem.mem_of_lookup h1) (PySem.mem_of_lookup h2)
 ·have hy:scope.names.lookup y=some .cell∨scope.names.lookup y=some .free:=hy
  rcases hy with hy|hy
  ·exact n4 hy
  ·exact absurd rfl (S.La _ (PySem.mem_of_lookup hy))
 ·exact Nat.le_of_lt (x.above y c (PySem.mem_of_lookup h))
 ·have hi:i < vs.length:=by
   unfold fe at h2
   by_cases hi:i < vs.length
   ·exact hi
   ·rw[List.getElem?_append_right (by simpa using hi)]at h2
    rw[List.getElem?_replicate]at h2
    split at h2<;>cases h2
  have ha:vs[i]?=some v:=by
   unfold fe at h2
   rw[List.getElem?_append_left (by simpa using hi),List.getElem?_map]at h2
   cases e:vs[i]? with
   |none=>rw[e]at h2;cases h2
   |some a=>rw[e]at h2;cases h2;rfl
  obtain⟨u,hu,rv⟩:=r.get ha
  have hp:ps[i]?=some y:=by
   rw[←S.pre,List.getElem?_take_of_lt (by omega)];exact h1
  have NB:ps.Nodup:=by rw[←S.pre];exact S.nd.sublist (List.take_sublist _ _)
  refine⟨u,rv,?_⟩
  rcases S.par y (List.mem_of_getElem? hp)with k|k
  ·exact .inl ⟨k,lP NB hp hu k⟩
  ·obtain⟨c,e⟩:=n4 (n:=s.heap.objs.size+1) k
   refine .inr ⟨.inl k,c,e,?_⟩
   have q:=x.cell y c e
   rw[lQ NB hp hu (by show scope.names.lookup y≠_;rw[k];decide)]at q
   exact q
 ·exact e0.hok.fresh (Nat.le_of_lt (x.above y c (PySem.mem_of_lookup h)))
 ·unfold fe
  show _=N.length
  rw[List.length_append,List.length_map,List.length_replicate]
  omega
theorem uf{CX:tP}{P:Program}{w:World}{K:PySem.W.Frag}{mg:Str→Option Value}{base:Heap}{k:Nat}{f:Addr}{name qual:Str}{params:Arguments}{body:List Stmt}{scope:Scope}{dV kV doc pm cdv ct oc:Value}{an od:Option Addr}
  {osl:Array (Option Value)} {N ps:List Str} {sp:Sp} (lk:K.lookup f=some ⟨oc,od,.func (PySem.W.fnOf name qual params body scope dV kV doc pm an cdv ct),osl⟩) (hcd:PySem.W.codeIn K cdv qual=true) (S:bL N ps scope)
  (len:∀vs H Q E,sp vs H Q E→vs.length=ps.length)
  (hbody:∀(A:Around) (outer:List Env) (s:Shared) (H:Hp) (vs:List V) (Q:VK) (E:XK),Room k (A.deeper (envOfC qual scope s.heap.objs.size f cdv))→sp vs H Q E→
   ∃t,IN (gr CX P w K mg base N qual scope f cdv A outer s H E) body t∧t { nx:=fun _ H'=>Q .non H',rt:=Q } (fe N vs) H) :
  dP P w K mg base CX (k+1) f (PySem.W.fnOf name qual params body scope dV kV doc pm an cdv ct) ps sp:=by
 refine⟨len,fun A outer s H args us vs Q E hr e0 hb r Kw=>?_⟩
 have hl:=len _ _ _ _ Kw
 have KX:K.In s.heap:=e0.mod.KN.keeps fun b o e=>(e0.bs b o e).1
 have lim:s.heap.NoLimit:=e0.mod.nolimit.keeps fun b o e=>(e0.bs b o e).1
 have hkind:∀y∈ps.zip us,scope.names.lookup y.1=some .local∨(scope.names.lookup y.1=some .cell∧((cellsFrom (s.heap.objs.size+1) scope.names []).lookup y.1).isSome=true):=fun⟨n,v⟩ hy=>by
  rcases S.par n (List.of_mem_zip hy).1 with q|q
  ·exact .inl q
  ·exact .inr ⟨q,PySem.W.cellsFrom_some _ _ _ (.inl q)⟩
 refine codeAny_call_function hr.depth (KX _ _ lk) rfl S.co S.gen rfl (PySem.W.codeRec_of KX hcd) (hb _ _ _ _ ?_)
 refine wpAny_newFunctionEnv_cells S.kind hkind fun env he s1 x=>?_
 subst he
 refine⟨lim.keeps x.toInCall.keep,codeAny_func ?_⟩
 obtain⟨t,ht,hq⟩:=hbody A outer s H vs Q E (hr.deeper _) Kw
 have I:Inv (gr CX P w K mg base N qual scope f cdv A outer s H E) [] (fe N vs) H s1:=sF S hr.hd e0 hl r x
 refine wpAny_mono (ht [] s1 (fe N vs) H _ I hq) (fun fl s' hs=>?_) fun e s' hs=>hs
 have fin:∀{σ':St} {H':Hp} {v:V} {u:Value},Inv (gr CX P w K mg base N qual scope f cdv A outer s H E) [] σ' H' s'→RelV v u→Q v H'→CE outer P w H s Q u s':=
  fun{σ' H' v u} J rv q=>⟨v,H',J.os,J.bare,J.base,J.hok,rv,q⟩
 cases fl with
 |ret u=>
  obtain⟨v,σ',H',J,rv,q⟩:=hs
  exact fin J rv q
 |next=>
  obtain⟨σ',H',J,q⟩:=hs
  exact fin (v:=V.non) (u:=Value.none) J rfl q
 |brk=>
  obtain⟨_,_,_,q⟩:=hs
  exact False.elim q
 |cont=>
  obtain⟨_,_,_,q⟩:=hs
  exact False.elim q
section
variable {X:Cx} {x:Str} {p pos:Pos} {e:Expr} {es:List Expr} {t:TA} {id T:String} {r:List V→Hp→VK→Prop}
def EM(r:List V→Hp→VK→Prop)(t:TA):TE:=fun σ H Q=>t σ H fun vs H1=>r vs H1 Q
theorem ug(hc:fm X (.builtin id) r)(hg:Gl X x)(hm:X.mg x=none)(hv:bootBuiltins x=some (.builtin id))(ha:PA X (e::es) t)(hn:x ≠ "__name__":=by decide)(hdb:(x == ("__debug__":Str))=false:=by decide)
  (he:starEach (e::es) X.env=(false,eval e X.env)::starEach es X.env:=by rfl) (hpl:(backTo pos (starEach es X.env)).any (·.1)=false:=by rfl):PE X (.Call (.Name x p) (e::es) [] pos) (EM r t):=by
 intro pins s σ H Q I h
 refine wpAny_Call_Name_kw (gH I hg hm hv ?_ hn hdb)
 exact PyProof.Rows.callWith_builtin1 (FI (ha pos pins s σ H _ I h) fun us s1 ⟨vs,H1,I1,r1,q1⟩=>hc pins s1 σ H1 vs us Q I1 r1 q1) he hpl
theorem sG(hc:fm X (.type T) r)(hg:Gl X x)(hm:X.mg x=none)(hv:bootBuiltins x=some (.type T))(ha:PA X (e::es) t)(hn:x ≠ "__name__":=by decide)(hdb:(x == ("__debug__":Str))=false:=by decide)
  (he:starEach (e::es) X.env=(false,eval e X.env)::starEach es X.env:=by rfl) (hpl:(backTo pos (starEach es X.env)).any (·.1)=false:=by rfl):PE X (.Call (.Name x p) (e::es) [] pos) (EM r t):=by
 intro pins s σ H Q I h
 refine wpAny_Call_Name_kw (gH I hg hm hv ?_ hn hdb)
 exact PyProof.Rows.callWith_type1 (FI (ha pos pins s σ H _ I h) fun us s1 ⟨vs,H1,I1,r1,q1⟩=>hc pins s1 σ H1 vs us Q I1 r1 q1) he hpl
end
end L2
namespace HT
open PySem PyProof.Rows
section
open PySem.SeqAt
open PySem.AutoSeq1 (wpAny_loadPart')
open PySem.MeetsSeq PySem.MeetsSeq2 PySem.MeetsSeq3
end
section
variable {prog:Program} {w:World} {A:Around} {E:Value→Shared→Prop} {s:Shared}
theorem wP{t b:Addr}{vs ws:List Value}{Q:Value→Shared→Prop}(ht:IsTup s.heap t vs.toArray)(hb:IsTup s.heap b ws.toArray)(hv:vs≠[])
  (h1:ws=[]→Q (.ref t) s) (h2:ws≠[]→Q (.ref s.heap.objs.size) { s with heap:=s.heap.push { cls:=.type "tuple",data:=.seq (vs++ws).toArray } })
  (hsz:vs.length+ws.length≤sizeLine):wpAny (model prog w) A (binaryOp .Add (.ref t) (.ref b)) Q E s:=by
 obtain⟨⟨cls,dd,data,sl⟩,ho,hc,n,hd⟩:=id ht
 obtain⟨⟨MK,dd2,data2,sl2⟩,ho2,hc2,n2,hd2⟩:=id hb
 simp only at hc hd hc2 hd2
 subst hc hd hc2 hd2
 have e:vs.toArray++ws.toArray=(vs++ws).toArray:=by simp
 by_cases hw:ws=[]
 ·exact concat_meets ⟨_,ho,rfl⟩ ⟨_,ho2,rfl⟩ noFill_tuple_add seq_tuple_add PySem.F.slot_tuple_add PySem.F.entry_tuple_add (PySem.F.args_tuple_add_2 _ _)
   (tuple_addW1 t b vs.toArray ws.toArray n n2 dd dd2 sl sl2 (by simpa using hv) (by simp[hw])) ⟨ho,ho2,h1 hw⟩
 ·refine concat_meets ⟨_,ho,rfl⟩ ⟨_,ho2,rfl⟩ noFill_tuple_add seq_tuple_add PySem.F.slot_tuple_add PySem.F.entry_tuple_add (PySem.F.args_tuple_add_2 _ _)
   (tuple_addW2 t b vs.toArray ws.toArray n n2 dd dd2 sl sl2 (by simpa using hv) (by simpa using hw) (by rw[List.size_toArray,List.size_toArray];exact hsz)) ⟨ho,ho2,?_⟩
  rw[e]
  exact h2 hw
noncomputable def F2(n d:Nat):Option Int→Nat
 |none=>d
 |some v=>if v < 0 then (v+(n:Int)).toNat else min v.toNat n
theorem n5(n d:Nat):F2 n d none=d:=rfl
theorem qY(n d k:Nat):F2 n d (some (k:Int))=min k n:=by
 show(if (k:Int) < 0 then ((k:Int)+(n:Int)).toNat else min (k:Int).toNat n)=min k n
 rw[if_neg (by omega),Int.toNat_natCast]
theorem zy(n d:Nat)(hd:d≤n)(o:Option Int):F2 n d o≤n:=by
 cases o with
 |none=>exact hd
 |some v=>
  show(if v < 0 then (v+(n:Int)).toNat else min v.toNat n)≤n
  by_cases hv:v < 0
  ·rw[if_pos hv];omega
  ·rw[if_neg hv];exact Nat.min_le_right _ _
theorem qZ(v:Int)(n d:Nat):(if v < 0 then max (v+(n:Int)) 0 else min v (n:Int))=((F2 n d (some v):Nat):Int):=by
 show(if v < 0 then max (v+(n:Int)) 0 else min v (n:Int))=(((if v < 0 then (v+(n:Int)).toNat else min v.toNat n):Nat):Int)
 by_cases hv:v < 0
 ·simp only[if_pos hv];omega
 ·simp only[if_neg hv];omega
theorem pW(lo hi:Option Int)(n:Nat):Builtin.Slice.sliceAdjust lo hi 1 (n:Int)=(((F2 n 0 lo:Nat):Int),((F2 n n hi:Nat):Int)):=by
 have h1:¬((1:Int) < 0):=by omega
 unfold Builtin.Slice.sliceAdjust
 simp only[h1,if_false]
 refine Prod.ext ?_ ?_
 ·cases lo with
  |none=>rfl
  |some v=>exact qZ v n 0
 ·cases hi with
  |none=>rfl
  |some v=>exact qZ v n n
theorem pX(i j:Nat):Builtin.Slice.slicePlaces (i:Int) (j:Int) 1=j - i:=by
 unfold Builtin.Slice.slicePlaces
 have h1:(1:Int) > 0:=by omega
 simp only[h1,if_true,Int.ediv_one]
 split<;>omega
theorem kh{v:Value}{o:Option Int}{Q:Option Int→Shared→Prop}(p:IsPart v o)(h:Q o s):wpAny (model prog w) A (Builtin.Slice.slicePartIndex v) Q E s:=by
 cases p with
 |none=>exact slicePart_none h
 |int i t=>exact slicePart_int h
theorem dW{sl:Addr}{vl vu:Value}{lo hi:Option Int}{n:Nat}{Q:Int×Int×Nat→Shared→Prop}(hs:s.heap.IsSliceOf sl vl vu .none)(pl:IsPart vl lo)(pu:IsPart vu hi)
  (h:Q (((F2 n 0 lo:Nat):Int),1,F2 n n hi - F2 n 0 lo) s):wpAny (model prog w) A (Builtin.Slice.sliceApplied (.ref sl) (pure (n:Int))) Q E s:=by
 obtain⟨os,hos,hcs,hds⟩:=id hs
 unfold Builtin.Slice.sliceApplied Builtin.Slice.sliceFields
 refine wpAny_bind (wpAny_bind (wpAny_field hos hds (x:=vl) rfl (wpAny_bind (wpAny_field hos hds (x:=vu) rfl (wpAny_bind (wpAny_field hos hds (x:=.none) rfl (wpAny_pure ?_)))))))
 refine wpAny_bind (slicePart_none ?_)
 show wpAny _ _ (if ((1:Int) == 0)=true then _ else _) _ _ s
 rw[if_neg (by decide)]
 refine wpAny_bind (kh pl (wpAny_bind (kh pu (wpAny_bind (wpAny_pure ?_)))))
 show wpAny _ _ (match Builtin.Slice.sliceAdjust lo hi 1 (n:Int)with|(lo,hi)=>pure (lo,(1:Int),Builtin.Slice.slicePlaces lo hi 1)) _ _ s
 rw[pW lo hi n]
 show wpAny _ _ (pure (((F2 n 0 lo:Nat):Int),(1:Int),Builtin.Slice.slicePlaces ((F2 n 0 lo:Nat):Int) ((F2 n n hi:Nat):Int) 1)) _ _ s
 rw[pX]
 exact wpAny_pure h
theorem uh(xs:Array Value)(i k:Nat):((List.range k).filterMap fun(m:Nat)=>xs[((i:Int)+(m:Int) * 1).toNat]?).toArray=((xs.toList.drop i).take k).toArray:=by
 have e:(fun(m:Nat)=>xs[((i:Int)+(m:Int) * 1).toNat]?)=fun m=>xs[i+m]?:=by
  funext m
  have:((i:Int)+(m:Int) * 1).toNat=i+m:=by omega
  rw[this]
 rw[e]
 have:=pick_run xs i k
 rw[List.filterMap_map]at this
 have e2:((fun x=>xs[x]?) ∘ fun x=>i+x)=fun m=>xs[i+m]?:=rfl
 rw[e2]at this
 rw[this]
theorem hZ{t sl:Addr}{items:Array Value}{vl vu:Value}{lo hi:Option Int}{Q:Value→Shared→Prop}(ht:IsTup s.heap t items)(hs:s.heap.IsSliceOf sl vl vu .none)(pl:IsPart vl lo)(pu:IsPart vu hi)
  (hw:¬(F2 items.size 0 lo=0∧F2 items.size items.size hi=items.size))
  (h:Q (.ref s.heap.objs.size) { s with heap:=s.heap.push { cls:=.type "tuple",data:=.seq ((items.toList.drop (F2 items.size 0 lo)).take (F2 items.size items.size hi - F2 items.size 0 lo)).toArray } })
  (hsz:items.size≤sizeLine):wpAny (model prog w) A (getItem (.ref t) (.ref sl)) Q E s:=by
 have JO:sizeOk (.seq ((items.toList.drop (F2 items.size 0 lo)).take (F2 items.size items.size hi - F2 items.size 0 lo)).toArray):=by
  show((items.toList.drop (F2 items.size 0 lo)).take (F2 items.size items.size hi - F2 items.size 0 lo)).toArray.size≤sizeLine
  rw[List.size_toArray,List.length_take,List.length_drop,Array.length_toList]
  omega
 have hj:F2 items.size items.size hi≤items.size:=zy _ _ (Nat.le_refl _) hi
 obtain⟨os,hos,hcs,hds⟩:=id hs
 have ML:s.TypeIs (.ref sl) "slice":=⟨os,hos,hcs⟩
 unfold getItem
 try with_reducible refine wpAny_holding ?_
 first|refine wpAny_bind (wpAny_pure ?_)|skip
 refine wpAny_bind (wpAny_sequenceKey ht.typeIs (by decide) ?_)
 refine wpAny_bind (wpAny_callSpecial?_slot (name:=Str.ofString "__getitem__") ht.typeIs PyProof.Rows.slot_tuple_getitem
  (wpAny_call_entry PyProof.Rows.slot_tuple_getitem ht.typeIs entry_tuple_getitem ?_ (args_tuple_getitem _ _)))
 show wpAny _ _ (Builtin.Tuple.tupleItemsOf (.ref t) >>= _) _ _ s
 refine wpAny_bind (tupleItemsOf_ ht ?_)
 refine wpAny_bind (wpAny_typeOf ML ?_)
 rw[if_pos (by decide)]
 refine wpAny_bind (dW hs pl pu ?_)
 have hno:¬((((F2 items.size 0 lo:Nat):Int) == 0&&(1:Int) == 1&&(F2 items.size items.size hi - F2 items.size 0 lo) == items.size)=true):=by
  intro q
  rw[Bool.and_eq_true,Bool.and_eq_true]at q
  have q1:((F2 items.size 0 lo:Nat):Int)=0:=eq_of_beq q.1.1
  have q2:F2 items.size items.size hi - F2 items.size 0 lo=items.size:=eq_of_beq q.2
  exact hw ⟨by omega,by omega⟩
 show wpAny _ _ (if (((F2 items.size 0 lo:Nat):Int) == 0&&(1:Int) == 1&&(F2 items.size items.size hi - F2 items.size 0 lo) == items.size)=true then _ else _) _ _ s
 rw[if_neg hno,uh]
 first
  |exact wpAny_bind (m:=Builtin.Tuple.tupleExact _) (wpAny_newObj_type (wpAny_pure ⟨_,rfl,wpAny_pure h⟩) JO)
  |exact wpAny_bind (m:=Builtin.Tuple.tupleExact _) (wpAny_newObj_type (wpAny_bind (wpAny_pure (wpAny_pure ⟨_,rfl,wpAny_pure h⟩))) JO)
  |exact wpAny_bind (wpAny_bind (m:=Builtin.Tuple.tupleExact _) (wpAny_newObj_type (wpAny_pure (wpAny_pure ⟨_,rfl,wpAny_pure h⟩)) JO))
  |exact wpAny_bind (wpAny_bind (m:=Builtin.Tuple.tupleExact _) (wpAny_newObj_type (wpAny_pure ⟨_,rfl,wpAny_pure h⟩) JO))
end
end HT
namespace L2
open PySem PySem.Spec PyProof.Rows
abbrev TO:=St→Hp→(Option Int→Hp→Prop)→Prop
def PO(X:Cx)(e:Option Expr)(t:TO):Prop:=
 ∀(pins:List (Addr×Obj)) (s:Shared) (σ:St) (H:Hp) (Q:Option Int→Hp→Prop),Inv X pins σ H s→t σ H Q→
  wpAny (model X.prog X.w) X.A (evalPart e X.env) (fun u s'=>∃o H',Inv X pins σ H' s'∧IsPart u o∧Q o H') X.xe s
noncomputable def wQ:TO:=fun _ H Q=>Q none H
noncomputable def BY(t:TE):TO:=fun σ H Q=>t σ H fun x H1=>∃i,x = .int i∧Q (some i) H1
theorem pY{ns:List Int}:∀{us:List Value},Vals (ns.map V.int) us→IntsAre us ns:=by
 induction ns with
 |nil=>intro us r;rw[List.map_nil]at r;cases r;exact .nil
 |cons n ns ih=>
  intro us r
  rw[List.map_cons]at r
  cases r with
  |cons r1 r2=>
   obtain⟨t,e⟩:=r1
   subst e
   exact .cons n t (ih r2)
section
variable {X:Cx} {e:Expr} {te:TE} {lo hi:Option Expr} {tl th:TO} {pos p2:Pos}
theorem wR:PO X none wQ:=by
 intro pins s σ H Q I h
 rw[evalPart_none]
 exact wpAny_pure ⟨none,H,I,.none,h⟩
theorem wS(h:PE X e te):PO X (some e) (BY te):=by
 intro pins s σ H Q I hw
 rw[evalPart_some]
 refine FI (h pins s σ H _ I hw) fun u s1 ⟨x,H1,I1,r1,q1⟩=>?_
 obtain⟨i,rfl,q⟩:=q1
 obtain⟨t,rfl⟩:=r1
 exact⟨some i,H1,I1,.int i t,q⟩
def Bg(X:Cx)(r:V→Option Int→Option Int→Hp→VK→Prop):Prop:=
 ∀(pins:List (Addr×Obj)) (s:Shared) (σ:St) (H:Hp) (x:V) (v vl vu:Value) (lo hi:Option Int) (sl:Addr) (Q:VK),Inv X pins σ H s→RelV x v→s.heap.IsSliceOf sl vl vu .none→IsPart vl lo→IsPart vu hi→r x lo hi H Q→
  ∃T id,typeLookup (.type T) "__getitem__" = pure (some (.builtin id))∧s.TypeIs v T∧wpAny (model X.prog X.w) X.A (getItem v (.ref sl)) (EP X pins σ Q) X.xe s
def E6(r:V→Option Int→Option Int→Hp→VK→Prop)(te:TE)(tl th:TO):TE:=fun σ H Q=>te σ H fun x H1=>tl σ H1 fun l H2=>th σ H2 fun u H3=>r x l u H3 Q
theorem uk{r:V→Option Int→Option Int→Hp→VK→Prop}(hr:Bg X r)(he:PE X e te)(hl:PO X lo tl)(hu:PO X hi th):PE X (.Subscript e (.Slice lo hi none p2) pos) (E6 r te tl th):=by
 intro pins s σ H Q I h
 refine Subscript_ (FI (he pins s σ H _ I h) fun v s1 ⟨x,H1,I1,r1,q1⟩=>?_)
 refine wpAny_Slice (FI (hl pins s1 σ H1 _ I1 q1) fun vl s2 ⟨l,H2,I2,pl,q2⟩=>FI (hu pins s2 σ H2 _ I2 q2) fun vu s3 ⟨u,H3,I3,pu,q3⟩=>?_)
 rw[evalPart_none]
 refine wpAny_pure ?_
 have I4:Inv X pins σ H3 { s3 with heap:=s3.heap.push { cls:=.type "slice",data:=.fields #[vl,vu,.none] } }:=I3.kept (t':=s3.toks) fun b ob q=>Heap.get?_push_of_some _ q
 obtain⟨T,id,hT,ht,hg⟩:=hr pins { s3 with heap:=s3.heap.push { cls:=.type "slice",data:=.fields #[vl,vu,.none] } } σ H3 x v vl vu l u s3.heap.objs.size Q I4 r1 (Heap.IsSliceOf.new ..) pl pu q3
 show wpAny (model X.prog X.w) X.A (subscriptTail e (.Slice lo hi none p2) v (.ref s3.heap.objs.size)) (EP X pins σ Q) X.xe { s3 with heap:=s3.heap.push { cls:=.type "slice",data:=.fields #[vl,vu,.none] } }
 exact tail_any (ops:=[.ref s3.heap.objs.size,v]) ht hT hg (by with_unfolding_all rfl)
noncomputable def ki(xs:List V)(lo hi:Option Int):List V:=(xs.drop (HT.F2 xs.length 0 lo)).take (HT.F2 xs.length xs.length hi - HT.F2 xs.length 0 lo)
theorem jJ(xs:List V)(lo hi:Option Int):(ki xs lo hi).length≤xs.length:=by
 unfold ki
 rw[List.length_take,List.length_drop]
 omega
noncomputable def DK(K:PySem.W.Frag):V→Option Int→Option Int→Hp→VK→Prop:=fun x lo hi H Q=>∃a xs,x = .ref a∧F3 K H a xs∧
 ¬(HT.F2 xs.length 0 lo=0∧HT.F2 xs.length xs.length hi=xs.length)∧∀p,H p=none→Q (.ref p) (upd H p (.tup (ki xs lo hi)))
theorem zz:Bg X (DK X.K):=by
 intro pins s σ H x v vl vu lo hi sl Q I rx hs pl pu h
 obtain⟨a,xs,rfl,hx,hw,q⟩:=h
 cases rx
 obtain⟨its,r,ht,hz⟩:=I.tuple hx
 have hlen:its.toArray.size=xs.length:=by rw[List.size_toArray];exact r.length.symm
 refine⟨"tuple",_,PyProof.Rows.slot_tuple_getitem.lookup,ht.typeIs,?_⟩
 refine HT.hZ ht hs pl pu (by rw[hlen];exact hw) ?_ (by rw[hlen];exact hz)
 rw[hlen]
 refine⟨.ref s.heap.objs.size,_,I.laid (t':=s.toks) (o:=.tup (ki xs lo hi)) (fun b ob q=>Heap.get?_push_of_some _ q) (Nat.le_refl _) ?_,rfl,q _ (I.hok.fresh (Nat.le_refl _))⟩
 exact⟨Nat.le_trans (jJ xs lo hi) hz,_,(r.drop (HT.F2 xs.length 0 lo)).take (HT.F2 xs.length xs.length hi - HT.F2 xs.length 0 lo),Go.new _ _⟩
def BZ(K:PySem.W.Frag):R2:=fun x y H Q=>∃a b xs ys,x = .ref a∧y = .ref b∧F3 K H a xs∧F3 K H b ys∧xs≠[]∧xs.length+ys.length≤sizeLine∧
 (ys=[]→Q (.ref a) H)∧(ys≠[]→∀p,H p=none→Q (.ref p) (upd H p (.tup (xs++ys))))
theorem Vals.IW{xs:List V}{us:List Value}(r:Vals xs us):us=[]↔xs=[]:=by
 cases r with
 |nil=>simp
 |cons _ _=>simp
theorem wT:iJ X (binaryOp .Add) (BZ X.K):=by
 intro pins s σ H x y v u Q I rx ry h
 obtain⟨a,b,xs,ys,rfl,rfl,ha,hb,hx,hz,q1,q2⟩:=h
 cases rx
 cases ry
 obtain⟨its,r1,p1,_⟩:=I.tuple ha
 obtain⟨its2,r2,p2,_⟩:=I.tuple hb
 refine HT.wP p1 p2 (fun z=>hx (r1.IW.mp z)) (fun z=>⟨.ref a,H,I,rfl,q1 (r2.IW.mp z)⟩) (fun z=>?_) (by rw[←r1.length,←r2.length];exact hz)
 refine⟨.ref s.heap.objs.size,_,I.laid (t':=s.toks) (o:=.tup (xs++ys)) (fun b ob q=>Heap.get?_push_of_some _ q) (Nat.le_refl _) ?_,rfl,q2 (fun w=>z (r2.IW.mpr w)) _ (I.hok.fresh (Nat.le_refl _))⟩
 exact⟨by rw[List.length_append];exact hz,_,r1.append r2,Go.new _ _⟩
end
noncomputable def pZ(n:Nat)(i:Int):Option Nat:=if 0≤i then (if i < n then some i.toNat else none) else if -(n:Int)≤i then some (i+n).toNat else none
noncomputable def Gp{α:Type}(xs:List α)(i:Int):Option α:=(pZ xs.length i).bind fun j=>xs[j]?
theorem q_{n:Nat}{i:Int}{j:Nat}(h:pZ n i=some j):seqIndex? i n=some j∧j < n∧-(n:Int)≤i∧i < n:=by
 unfold pZ at h
 by_cases h0:0≤i
 ·rw[if_pos h0]at h
  by_cases h1:i < n
  ·rw[if_pos h1]at h
   have e:i.toNat=j:=Option.some.inj h
   exact⟨by rw[seqIndex_of h0 h1,e],by omega,by omega,h1⟩
  ·rw[if_neg h1]at h;cases h
 ·rw[if_neg h0]at h
  by_cases h1:-(n:Int)≤i
  ·rw[if_pos h1]at h
   have e:(i+n).toNat=j:=Option.some.inj h
   exact⟨by rw[seqIndex_neg (by omega) h1,e],by omega,h1,by omega⟩
  ·rw[if_neg h1]at h;cases h
theorem mE{α:Type}{xs:List α}{i:Int}{v:α}(h:Gp xs i=some v):∃j,seqIndex? i xs.length=some j∧xs[j]?=some v∧j < xs.length∧-(xs.length:Int)≤i∧i < xs.length:=by
 unfold Gp at h
 cases e:pZ xs.length i with
 |none=>rw[e]at h;cases h
 |some j=>
  rw[e]at h
  obtain⟨h1,h2,h3,h4⟩:=q_ e
  exact⟨j,h1,h,h2,h3,h4⟩
theorem bC{α:Type}{xs:List α}{j:Nat}{v:α}(h:xs[j]?=some v):Gp xs (j:Int)=some v:=by
 have hj:j < xs.length:=(List.getElem?_eq_some_iff.mp h).1
 have e:pZ xs.length (j:Int)=some j:=by
  unfold pZ
  rw[if_pos (by omega),if_pos (by omega)];simp
 unfold Gp;rw[e];exact h
def jY(b:Expr):Prop:=∀o i,subscripted b false o i=operate [o,i] (getItem o i)
def Bh(X:Cx)(r:R2):Prop:=
 ∀(value slice:Expr) (pins:List (Addr×Obj)) (s:Shared) (σ:St) (H:Hp) (x y:V) (v u:Value) (Q:VK),Inv X pins σ H s→RelV x v→RelV y u→r x y H Q→
  subscripted slice false v u=operate [v,u] (getItem v u)→wpAny (model X.prog X.w) X.A (subscriptTail value slice v u) (EP X pins σ Q) X.xe s
def zA(X:Cx)(id:String)(r:V→List V→Hp→VK→Prop):Prop:=
 ∀(pins:List (Addr×Obj)) (s:Shared) (σ:St) (H:Hp) (x:V) (xs:List V) (v:Value) (us:List Value) (Q:VK),Inv X pins σ H s→RelV x v→Vals xs us→r x xs H Q→
  wpAny (model X.prog X.w) X.A (call (.builtin id) (v::us)) (EP X pins σ Q) X.xe s
section
variable {X:Cx} {a b:Expr} {ta tb:TE} {pos:Pos}
theorem B1{r:R2}(hr:Bh X r)(ha:PE X a ta)(hb:PE X b tb)(hs:jY b):PE X (.Subscript a b pos) (BK r ta tb):=by
 intro pins s σ H Q I h
 exact Subscript_ (zk ha hb I h fun v u s2 x y H2 I2 rx ry q=>hr a b pins s2 σ H2 x y v u Q I2 rx ry q (hs _ _))
def DL(K:PySem.W.Frag):R2:=fun x y H Q=>∃p xs i v,x = .ref p∧y = .int i∧SqL K H p xs∧Gp xs i=some v∧Q v H
def DM(K:PySem.W.Frag):R2:=fun x y H Q=>∃p xs i v,x = .ref p∧y = .int i∧F3 K H p xs∧Gp xs i=some v∧Q v H
def DN:R2:=fun x y H Q=>∃z i c,x = .str z∧y = .int i∧z.length≤sizeLine∧Gp z.cps.toList i=some c∧Q (.str ⟨#[c]⟩) H
theorem re:Bh X (DL X.K):=by
 intro value slice pins s σ H x y v u Q I rx ry h hs
 obtain⟨p,xs,i,z,rfl,rfl,hq,he,q⟩:=h
 cases rx
 obtain⟨t,rfl⟩:=ry
 obtain⟨its,r,pl,hz⟩:=I.list hq
 obtain⟨j,h1,h2,h3,h4,h5⟩:=mE he
 obtain⟨w,ew,rw'⟩:=r.get h2
 have hl:=r.length
 have hn:=iM
 have fin:EP X pins σ Q w s:=⟨z,H,I,rw',q⟩
 by_cases h0:0≤i
 ·have hj:i.toNat=j:=by
   rw[seqIndex_of h0 h5]at h1
   exact Option.some.inj h1
  exact item_listR pl.isList h0 (by omega) (by rw[hj];simpa using ew) fin hs
 ·have hj:(i+(its.toArray.size:Int)).toNat=j:=by
   rw[seqIndex_neg (by omega) h4]at h1
   rw[List.size_toArray,←hl]
   exact Option.some.inj h1
  exact subscriptTail_builtinR (x:=w) pl.isList.typeIs slot_list_getitem.lookup
   (wpAny_getItem_list_neg (Q:=fun r s'=>r=w∧EP X pins σ Q r s') pl.isList (by omega) (by rw[List.size_toArray]<;>omega) (by omega) (by rw[hj];simpa using ew) ⟨rfl,fin⟩) hs
theorem zB:Bh X (DM X.K):=by
 intro value slice pins s σ H x y v u Q I rx ry h hs
 obtain⟨p,xs,i,z,rfl,rfl,hq,he,q⟩:=h
 cases rx
 obtain⟨t,rfl⟩:=ry
 obtain⟨its,r,pl,hz⟩:=I.tuple hq
 obtain⟨j,h1,h2,h3,h4,h5⟩:=mE he
 obtain⟨w,ew,rw'⟩:=r.get h2
 have hl:=r.length
 have hn:=iM
 have fin:EP X pins σ Q w s:=⟨z,H,I,rw',q⟩
 exact subscriptTail_builtinR (x:=w) pl.typeIs slot_tuple_getitem.lookup
  (getItem_tuple (j:=j) (Q:=fun r s'=>r=w∧EP X pins σ Q r s') pl (by omega) (by omega) (by rw[List.size_toArray,←hl];exact h1) (by simpa using ew) ⟨rfl,fin⟩) hs
theorem zC:Bh X DN:=by
 intro value slice pins s σ H x y v u Q I rx ry h hs
 obtain⟨z,i,c,rfl,rfl,hz,he,q⟩:=h
 obtain⟨t,rfl⟩:=rx
 obtain⟨t',rfl⟩:=ry
 obtain⟨j,h1,h2,h3,h4,h5⟩:=mE he
 have hl:z.cps.toList.length=z.length:=by simp[Str.length]
 rw[hl]at h1 h4 h5
 have hn:=iM
 exact tail_any (typeIs_str s z t) slot_str_getitem.lookup (getItem_str (c:=c) (by
  have e1:decide (i < -(2 ^ 63:Int))=false:=decide_eq_false (by omega)
  have e2:decide (i≥2 ^ 63)=false:=decide_eq_false (by omega)
  rw[e1,e2,Bool.or_false]) (by rw[h1];simpa using h2) ⟨.str ⟨#[c]⟩,H,I.tok _,⟨_,rfl⟩,q⟩) hs
theorem p5(its:List Value)(n j:Nat)(u:Value):Obj.mapSeq (·.setIfInBounds j u) { cls:=.type "list",data:=.seq its.toArray n }={ cls:=.type "list",data:=.seq (its.set j u).toArray n }:=by
 simp[Obj.mapSeq]
theorem Inv.lst{pins:List (Addr×Obj)}{σ:St}{H:Hp}{s:Shared}{p:Addr}{xs:List V}(I:Inv X pins σ H s)(h:H p=some (.lst xs)) :
  ∃(its:List Value) (n:Nat),Vals xs its∧s.heap.get? p=some { cls:=.type "list",data:=.seq its.toArray n }∧xs.length≤sizeLine:=by
 obtain⟨z,its,n,r,e⟩:=I.hok p _ h
 exact⟨its,n,r,e,z⟩
theorem Inv.Lb{pins:List (Addr×Obj)}{σ:St}{H:Hp}{s:Shared}{p:Addr}{xs ys:List V}{its its':List Value}{n n':Nat}{f:Obj→Obj}(I:Inv X pins σ H s)(h:H p=some (.lst xs))
  (ho:s.heap.get? p=some { cls:=.type "list",data:=.seq its.toArray n }) (hf:f { cls:=.type "list",data:=.seq its.toArray n }={ cls:=.type "list",data:=.seq its'.toArray n' }) (r:Vals ys its') (hz:ys.length≤sizeLine) (t:Nat) :
  Inv X pins σ (upd H p (.lst ys)) { s with heap:=s.heap.update p f,toks:=t }:=by
 have e:(s.heap.update p f).get? p=some { cls:=.type "list",data:=.seq its'.toArray n' }:=by
  rw[Heap.get?_update_self f ho (by rw[hf]<;>rfl),hf]
 refine I.write (x:=p) (e:=p) (by rw[h];trivial) (.inl rfl) (fun b u hb q=>(Heap.get?_update_other _ _ (Ne.symm hb)).trans q) ⟨_,e⟩ ?_
 exact⟨hz,its',n',r,e⟩
noncomputable def B2:V→V→V→Hp→(Hp→Prop)→Prop:=fun o i v H Q=>∃p xs k j,o = .ref p∧i = .int k∧H p=some (.lst xs)∧pZ xs.length k=some j∧Q (upd H p (.lst (xs.set j v)))
theorem ul:wy X B2:=by
 intro pins s σ H o i v ov iv u Q I ro ri rv h
 obtain⟨p,xs,k,j,rfl,rfl,hp,hj,q⟩:=h
 cases ro
 obtain⟨t,rfl⟩:=ri
 obtain⟨its,n,r,ho,hz⟩:=I.lst hp
 obtain⟨h1,h2,h3,h4⟩:=q_ hj
 have hl:=r.length
 have hn:=iM
 have I':Inv X pins σ (upd H p (.lst (xs.set j v))) { s with heap:=s.heap.update p (Obj.mapSeq (·.setIfInBounds j u)) }:=
  I.Lb hp ho (p5 its n j u) (r.set rv j) (by rw[List.length_set];exact hz) s.toks
 by_cases h0:0≤k
 ·have hk:k.toNat=j:=by
   rw[seqIndex_of h0 h4]at h1
   exact Option.some.inj h1
  exact PySem.W.ki_setAt ho h0 (by omega) (by rw[List.size_toArray,←hl];exact h4) (by rw[hk];exact⟨_,I',q⟩)
 ·have hk:(k+(its.toArray.size:Int)).toNat=j:=by
   rw[seqIndex_neg (by omega) h3]at h1
   rw[List.size_toArray,←hl]
   exact Option.some.inj h1
  exact PySem.W.ki_setBack ho (by omega) (by rw[List.size_toArray,←hl];exact h3) (by omega) (by rw[hk];exact⟨_,I',q⟩)
theorem mF(lo hi:Option Int)(n:Nat):(sliceBounds lo hi none n).1=((HT.F2 n 0 lo:Nat):Int)∧(sliceBounds lo hi none n).2.1=((HT.F2 n n hi:Nat):Int)∧(sliceBounds lo hi none n).2.2=1:=by
 refine⟨?_,?_,rfl⟩
 ·cases lo with
  |none=>simp[sliceBounds,HT.F2]
  |some i=>
   simp only[sliceBounds,HT.F2,Option.getD_none,show(1:Int) > 0 by decide,if_true]
   by_cases h:i < 0
   ·simp only[h,if_true]<;>omega
   ·simp only[h,if_false]<;>omega
 ·cases hi with
  |none=>simp[sliceBounds,HT.F2]
  |some i=>
   simp only[sliceBounds,HT.F2,Option.getD_none,show(1:Int) > 0 by decide,if_true]
   by_cases h:i < 0
   ·simp only[h,if_true]<;>omega
   ·simp only[h,if_false]<;>omega
theorem lv(its:List Value)(lo hi:Option Int):slicePick its.toArray lo hi none=((its.drop (HT.F2 its.length 0 lo)).take (HT.F2 its.length its.length hi - HT.F2 its.length 0 lo)).toArray:=by
 obtain⟨h1,h2,h3⟩:=mF lo hi its.toArray.size
 unfold slicePick
 rw[h1,h2,h3]
 simp only[sliceRange_one,pick_run,List.size_toArray]<;>rfl
noncomputable def DO(K:PySem.W.Frag):V→Option Int→Option Int→Hp→VK→Prop:=fun x lo hi H Q=>∃a xs,x = .ref a∧SqL K H a xs∧∀p,H p=none→Q (.ref p) (upd H p (.lst (ki xs lo hi)))
theorem rg:Bg X (DO X.K):=by
 intro pins s σ H x v vl vu lo hi sl Q I rx hs pl pu h
 obtain⟨a,xs,rfl,hx,q⟩:=h
 cases rx
 obtain⟨its,r,ht,hz⟩:=I.list hx
 have hlen:=r.length
 refine⟨"list",_,slot_list_getitem.lookup,ht.isList.typeIs,?_⟩
 refine wpAny_getItem_list_slice ht.isList hs pl pu .none (by simp) ?_ (by rw[List.size_toArray]<;>omega)
 rw[lv,←hlen]
 refine⟨.ref s.heap.objs.size,_,I.laid (t':=s.toks) (o:=.lst (ki xs lo hi)) (fun b ob q=>Heap.get?_push_of_some _ q) (Nat.le_refl _) ?_,rfl,q _ (I.hok.fresh (Nat.le_refl _))⟩
 exact⟨Nat.le_trans (jJ xs lo hi) hz,_,0,(r.drop (HT.F2 xs.length 0 lo)).take (HT.F2 xs.length xs.length hi - HT.F2 xs.length 0 lo),Heap.get?_push_size _ rfl⟩
theorem mG:iJ X (compareOp .NotIn) (fun x y H Q=>∃i j,x = .str i∧y = .str j∧Q (.bl (!(!(Builtin.Str.occurrences j i 0 j.length 1).isEmpty))) H):=by
 intro pins s σ H x y v u Q I rx ry h
 obtain⟨i,j,rfl,rfl,q⟩:=h
 obtain⟨t,rfl⟩:=rx
 obtain⟨t',rfl⟩:=ry
 exact notIn_str ⟨.bl _,H,I,rfl,q⟩
theorem eh:fm X (.builtin "len") (fun xs H Q=>∃p ys,xs=[.ref p]∧(SqL X.K H p ys∨F3 X.K H p ys)∧Q (.int ys.length) H):=by
 intro pins s σ H xs us Q I r h
 obtain⟨p,ys,rfl,hq,q⟩:=h
 obtain⟨u,rfl,rx⟩:=fo r
 cases rx
 have hn:=iM
 rcases hq with hq|hq
 ·obtain⟨its,r',pl,hz⟩:=I.list hq
  have hlen:=r'.length
  exact Calls.call_len_list pl.isList (by simp only[List.size_toArray]<;>omega) ⟨.int ys.length,H,I.tok _,⟨s.toks+1,by rw[List.size_toArray,hlen]⟩,q⟩
 ·obtain⟨its,r',pl,hz⟩:=I.tuple hq
  have hlen:=r'.length
  exact len_tuple pl (by simp only[List.size_toArray]<;>omega) ⟨.int ys.length,H,I.tok _,⟨s.toks+1,by rw[List.size_toArray,hlen]⟩,q⟩
theorem mH:fm X (.builtin "len") (fun xs H Q=>∃z,xs=[.str z]∧z.length≤sizeLine∧Q (.int z.length) H):=by
 intro pins s σ H xs us Q I r h
 obtain⟨z,rfl,hz,q⟩:=h
 obtain⟨u,rfl,t,rfl⟩:=fo r
 have hn:=iM
 exact len_str (by omega) ⟨.int z.length,H,I.tok _,⟨_,rfl⟩,q⟩
theorem gx:fm X (.type "tuple") (fun xs H Q=>∃p ys,xs=[.ref p]∧((SqL X.K H p ys∧∀l,H l=none→Q (.ref l) (upd H l (.tup ys)))∨(F3 X.K H p ys∧Q (.ref p) H))):=by
 intro pins s σ H xs us Q I r h
 obtain⟨p,ys,rfl,h⟩:=h
 obtain⟨u,rfl,rx⟩:=fo r
 cases rx
 rcases h with⟨hq,q⟩|⟨hq,q⟩
 ·obtain⟨its,r',pl,hz⟩:=I.list hq
  have hlen:=r'.length
  refine call_tuple_list pl.isList (fun h' kp=>?_) (by simp only[List.size_toArray]<;>omega)
  have I1:Inv X pins σ H { s with heap:=h' }:=I.kept (t':=s.toks) kp
  have I2:Inv X pins σ (upd H h'.objs.size (.tup ys)) { s with heap:=h'.push { cls:=.type "tuple",data:=.seq its.toArray } }:=
   I1.laid (t':=s.toks) (fun b o e=>Heap.get?_push_of_some _ e) (Nat.le_refl _) (show ObjOk X.prog X.w _ _ _ (.tup ys)from ⟨hz,its,r',Go.new _ _⟩)
  exact⟨.ref h'.objs.size,_,I2,rfl,q _ (I1.hok.fresh (Nat.le_refl _))⟩
 ·obtain⟨its,r',pl,hz⟩:=I.tuple hq
  exact call_tuple_same pl ⟨.ref p,H,I,rfl,q⟩
def Df(K:PySem.W.Frag)(T:String)(x:V)(H:Hp):Prop:=match x with
 | .str _=>T = "str"
 | .int _=>T = "int"
 | .ref p=>(T = "list"∧∃xs,SqL K H p xs)∨(T = "tuple"∧∃o,K.lookup p=some o∧o.cls = .type "tuple"∧o.dict=none) ∨
   (T = "dict"∧((∃kvs,H p=some (.dK kvs))∨∃kvs,H p=some (.dT kvs)))∨(T = "set"∧∃S n,H p=some (.set S n))
 |_=>False
theorem um{pins:List (Addr×Obj)}{σ:St}{H:Hp}{s:Shared}{T:String}{x:V}{v:Value}(I:Inv X pins σ H s)(r:RelV x v)(ty:Df X.K T x H) :
  s.TypeIs v T∧∀a,v = .ref a→∃ob,s.heap.get? a=some ob∧ob.dict=none:=by
 cases x with
 |str z=>
  obtain⟨t,rfl⟩:=r
  cases (show T = "str" from ty)
  exact⟨typeIs_str s z t,fun _ e=>nomatch e⟩
 |int i=>
  obtain⟨t,rfl⟩:=r
  cases (show T = "int" from ty)
  exact⟨typeIs_int s i t,fun _ e=>nomatch e⟩
 |ref p=>
  cases r
  rcases ty with⟨rfl,xs,hq⟩|⟨rfl,o,hk,hc,hd⟩|⟨rfl,hk⟩|⟨rfl,S,n,hk⟩
  ·obtain⟨its,_,pl,_⟩:=I.list hq
   refine⟨pl.isList.typeIs,fun a e=>?_⟩
   cases e
   obtain⟨o,n,e,c,hd,_⟩:=pl
   exact⟨o,e,hd⟩
  ·refine⟨⟨o,I.Ik p o hk,hc⟩,fun a e=>?_⟩
   cases e
   exact⟨o,I.Ik _ o hk,hd⟩
  ·have z:∃o,s.heap.get? p=some o∧o.ExactDict:=by
    rcases hk with⟨kvs,hk⟩|⟨kvs,hk⟩
    ·obtain⟨_,_,_,_,o,_,_,e,ex,_⟩:=I.hok p _ hk
     exact⟨o,e,ex⟩
    ·obtain⟨_,_,_,_,o,_,_,e,ex,_⟩:=I.hok p _ hk
     exact⟨o,e,ex⟩
   obtain⟨o,e,ex⟩:=z
   refine⟨⟨o,e,ex.1⟩,fun a e2=>?_⟩
   cases e2
   exact⟨o,e,ex.2.1⟩
  ·obtain⟨o,_,_,_,e,ex,_⟩:=I.hok p _ hk
   refine⟨⟨o,e,ex.1⟩,fun a e2=>?_⟩
   cases e2
   exact⟨o,e,ex.2.1⟩
 |_=>exact False.elim ty
def DP(K:PySem.W.Frag)(T:String)(r:V→List V→Hp→VK→Prop)(to:TE):TE:=fun σ H Q=>to σ H fun x H1=>Df K T x H1∧r x [] H1 Q
def E7(K:PySem.W.Frag)(T:String)(r:V→List V→Hp→VK→Prop)(to:TE)(t:TA):TE:=fun σ H Q=>to σ H fun x H1=>Df K T x H1∧t σ H1 fun xs H2=>r x xs H2 Q
variable {o e:Expr} {es:List Expr} {to:TE} {t:TA} {name:Str} {apos cpos:Pos} {T id:String} {r:V→List V→Hp→VK→Prop}
theorem zD(pa:PlainAttrs T)(slot:Slot T name id)(hty:typeOf (.builtin id)=pure (.type "method_descriptor"))(hm:zA X id r)(ho:PE X o to)
  (hbase:attributeBase o name X.env (eval o X.env)=eval o X.env:=by rfl) (hline:(apos.endLine == cpos.line)=true:=by rfl):PE X (.Call (.Attribute o name apos) [] [] cpos) (DP X.K T r to):=by
 intro pins s σ H Q I h
 refine wpAny_Call_method0_late hbase hline (FI (ho pins s σ H _ I h) fun v s1 ⟨x,H1,I1,r1,ty,q1⟩=>?_)
 obtain⟨h1,h2⟩:=um I1 r1 ty
 exact⟨T,id,pa,slot,hty,h1,h2,Calls.callWith_builtin rfl (PySem.evalArgs_none (hm pins s1 σ H1 x [] v [] Q I1 r1 .nil q1))⟩
theorem B3(pa:PlainAttrs T)(slot:Slot T name id)(hty:typeOf (.builtin id)=pure (.type "method_descriptor"))(hm:zA X id r)(ho:PE X o to)(ha:PA X (e::es) t)
  (hbase:attributeBase o name X.env (eval o X.env)=eval o X.env:=by rfl)
  (hfew:((backTo cpos (starEach (e::es) X.env)).all (fun x=>!x.1)&&(backToKw cpos (keywordEach [] X.env)).all (fun x=>x.1.isSome)
   && decide ((e::es).length+([]:List Keyword).length+(if ([]:List Keyword).isEmpty then 0 else 1) < 30))=true:=by rfl)
  (hline:(apos.endLine == cpos.line)=true:=by rfl) (hs:starEach (e::es) X.env=(false,eval e X.env)::starEach es X.env:=by rfl) (hplain:(backTo cpos (starEach es X.env)).any (·.1)=false:=by rfl) :
  PE X (.Call (.Attribute o name apos) (e::es) [] cpos) (E7 X.K T r to t):=by
 intro pins s σ H Q I h
 refine wpAny_Call_method_late hbase hfew hline rfl (FI (ho pins s σ H _ I h) fun v s1 ⟨x,H1,I1,r1,ty,q1⟩=>?_)
 obtain⟨h1,h2⟩:=um I1 r1 ty
 refine⟨T,id,pa,slot,hty,h1,h2,?_⟩
 have hA:=ha cpos pins s1 σ H1 _ I1 q1
 rw[hs]at hA ⊢
 refine Calls.callWith_builtin (by show(false || (backTo cpos (starEach es X.env)).any (·.1))=false;rw[hplain]<;>rfl) (Calls.evalArgs_plain ?_)
 exact FI hA fun us s2 ⟨vs,H2,I2,r2,q2⟩=>hm pins s2 σ H2 x vs v us Q I2 r1 r2 q2
end
def Dg(X:Cx)(id:String)(r:V→List V→Hp→VK→Prop):Prop:=
 ∀(pins:List (Addr×Obj)) (s:Shared) (σ:St) (H:Hp) (x:V) (xs:List V) (v:Value) (us:List Value) (Q:VK),Inv X pins σ H s→RelV x v→Vals xs us→r x xs H Q→
  wpAny (model X.prog X.w) X.A (call (.builtin id) (v::us)) (EP X pins σ Q) X.xe s
theorem Vals.one:∀{x:V} {us:List Value},Vals [x] us→∃u,us=[u]∧RelV x u
 |_,_,.cons r .nil=>⟨_,rfl,r⟩
theorem Vals.zero:∀{us:List Value},Vals [] us→us=[]
 |_,.nil=>rfl
theorem Vals.dropLast{xs:List V}{us:List Value}(h:Vals xs us):Vals xs.dropLast us.dropLast:=by
 induction h with
 |nil=>exact .nil
 |cons r t ih=>
  cases t with
  |nil=>exact .nil
  |cons q t'=>exact .cons r ih
theorem Vals.eraseIdx:∀{xs:List V} {us:List Value} (i:Nat),Vals xs us→Vals (xs.eraseIdx i) (us.eraseIdx i)
 |_,_,_,.nil=>.nil
 |_,_,0,.cons _ t=>t
 |_,_,i+1,.cons r t=>.cons r (Vals.eraseIdx i t)
theorem Vals.reverse{xs:List V}{us:List Value}(h:Vals xs us):Vals xs.reverse us.reverse:=by
 induction h with
 |nil=>exact .nil
 |cons r t ih=>rw[List.reverse_cons,List.reverse_cons];exact Vals.append ih (.cons r .nil)
theorem Vals.rep{xs:List V}{us:List Value}(h:Vals xs us):∀k:Nat,Vals (List.replicate k xs).flatten (List.replicate k us).flatten
 |0=>.nil
 |k+1=>by
  rw[List.replicate_succ,List.replicate_succ,List.flatten_cons,List.flatten_cons]
  exact Vals.append h (Vals.rep h k)
theorem p7{α:Type}(l:List α):l.eraseIdx (l.length - 1)=l.dropLast:=by
 induction l with
 |nil=>rfl
 |cons a r ih=>
  cases r with
  |nil=>rfl
  |cons b r=>
   have e:(a::b::r).length - 1=((b::r).length - 1)+1:=by
    have h1:(a::b::r).length=r.length+2:=rfl
    have h2:(b::r).length=r.length+1:=rfl
    omega
   rw[e,List.eraseIdx_cons_succ,ih]
   all_goals rfl
theorem lR{α:Type}:∀(l:List α) (i:Nat),(l.eraseIdx i).length≤l.length
 |[],_=>Nat.le_refl _
 |_::_,0=>Nat.le_succ _
 |_::r,i+1=>Nat.succ_le_succ (lR r i)
theorem iP(its:List Value):∀(k:Nat) (acc:List Value),
  List.foldl (fun x1 x2=>x1++x2) acc.toArray (List.replicate k its.toArray)=(acc++(List.replicate k its).flatten).toArray
 |0,acc=>by simp
 |k+1,acc=>by
  have e:acc.toArray++its.toArray=(acc++its).toArray:=by simp
  have e2:(acc++its)++(List.replicate k its).flatten=acc++(List.replicate (k+1) its).flatten:=by
   rw[List.replicate_succ,List.flatten_cons,List.append_assoc]
  rw[←e2,←iP its k (acc++its),←e,List.replicate_succ,List.foldl_cons]
section
variable {X:Cx} {pins:List (Addr×Obj)} {σ:St} {H:Hp} {s:Shared} {l b:Addr} {xs ys zs:List V}
theorem Inv.KB{its its':List Value}{n:Nat}{f:Array Value→Array Value}{t':Nat}(I:Inv X pins σ H s)(hH:H l=some (.lst xs))
  (e:s.heap.get? l=some { cls:=.type "list",data:=.seq its.toArray n }) (hf:f its.toArray=its'.toArray) (hv:Vals ys its') (hz:ys.length≤sizeLine) :
  Inv X pins σ (upd H l (.lst ys)) { s with heap:=s.heap.update l (Obj.mapSeq f),toks:=t' }:=by
 have q:=PySem.IsL.update e f
 rw[hf]at q
 refine I.write (x:=l) (e:=l) (by rw[hH];exact trivial) (.inl rfl) (fun b' u hb hu=>(Heap.get?_update_other s.heap (Obj.mapSeq f) (Ne.symm hb)).trans hu) ⟨_,q⟩ ?_
 exact⟨hz,its',_,hv,q⟩
theorem Inv.LQ{its:List Value}{t':Nat}(I:Inv X pins σ H s)(hv:Vals ys its)(hz:ys.length≤sizeLine) :
  Inv X pins σ (upd H s.heap.objs.size (.lst ys)) { s with heap:=s.heap.push { cls:=.type "list",data:=.seq its.toArray },toks:=t' }:=
 I.laid (fun _ _ q=>Heap.get?_push_of_some _ q) (Nat.le_refl _) ⟨hz,its,0,hv,Heap.get?_push_size _ rfl⟩
theorem Inv.fresh(I:Inv X pins σ H s):H s.heap.objs.size=none:=I.hok.fresh (Nat.le_refl _)
theorem Inv.Jp(I:Inv X pins σ H s)(hH:H l=some (.lst xs)):xs.length≤sizeLine∧∃(its:List Value) (n:Nat),Vals xs its∧xs.length=its.length∧s.heap.get? l=some { cls:=.type "list",data:=.seq its.toArray n }:=by
 obtain⟨z,its,n,r,e⟩:=I.hok l _ hH
 exact⟨z,its,n,r,r.length,e⟩
theorem n9{n:Nat}(h:n≤sizeLine):Builtin.List.listTooLong n=false:=by
 unfold Builtin.List.listTooLong
 exact decide_eq_false (by omega)
end
section
variable {X:Cx}
noncomputable def wU:V→List V→Hp→VK→Prop:=fun x vs H Q=>∃l xs y,x = .ref l∧vs=[y]∧H l=some (.lst xs)∧xs.length < sizeLine∧Q .non (upd H l (.lst (xs++[y])))
theorem sH:Dg X "list.append" wU:=by
 intro pins s σ H x vs v us Q I rx rv h
 obtain⟨l,xs,y,rfl,rfl,hH,hz,q⟩:=h
 cases rx
 obtain⟨u,rfl,ru⟩:=rv.one
 obtain⟨z,its,n,r,hl,e⟩:=I.Jp hH
 refine call_meets F.slot_list_append ⟨_,e,rfl⟩ F.entry_list_append (F.args_list_append_2 _ _) (PySem.list_append l its.toArray n u (by rw[List.size_toArray];omega)) ⟨e,?_⟩
 refine⟨.non,_,I.KB (its':=its++[u]) hH e (by simp) (r.append (.cons ru .nil)) ?_,rfl,q⟩
 rw[List.length_append,List.length_singleton]
 omega
noncomputable def wV:V→List V→Hp→VK→Prop:=fun x vs H Q=>∃l b xs zs,x = .ref l∧vs=[.ref b]∧H l=some (.lst xs)∧H b=some (.lst zs)∧xs.length+zs.length≤sizeLine∧Q .non (upd H l (.lst (xs++zs)))
theorem sI:Dg X "list.extend" wV:=by
 intro pins s σ H x vs v us Q I rx rv h
 obtain⟨l,b,xs,zs,rfl,rfl,hH,hB,hz,q⟩:=h
 cases rx
 obtain⟨u,rfl,ru⟩:=rv.one
 cases ru
 obtain⟨z,its,n,r,hl,e⟩:=I.Jp hH
 obtain⟨z2,its2,n2,r2,hl2,e2⟩:=I.Jp hB
 have hsz:its.toArray.size+its2.toArray.size≤sizeLine:=by rw[List.size_toArray,List.size_toArray];omega
 have Kg:¬(!its.toArray.isEmpty&&Builtin.List.listTooLong (its.toArray.size+its2.toArray.size))=true:=by
  rw[n9 hsz,Bool.and_false]
  exact Bool.false_ne_true
 refine call_meets F.slot_list_extend ⟨_,e,rfl⟩ F.entry_list_extend (F.args_list_extend_2 _ _)
  (AutoSeq1.list_extend_list_list_0 l its.toArray n b its2.toArray n2 Kg (by rw[List.size_toArray];omega) (by omega)) ⟨e,e2,?_⟩
 refine⟨.non,_,I.KB (its':=its++its2) hH e (by simp) (r.append r2) ?_,rfl,q⟩
 rw[List.length_append]
 omega
noncomputable def DQ:V→List V→Hp→VK→Prop:=fun x vs H Q=>∃l xs y,x = .ref l∧vs=[]∧H l=some (.lst xs)∧xs[xs.length - 1]?=some y∧Q y (upd H l (.lst xs.dropLast))
theorem zE:Dg X "list.pop" DQ:=by
 intro pins s σ H x vs v us Q I rx rv h
 obtain⟨l,xs,y,rfl,rfl,hH,hy,q⟩:=h
 cases rx
 have Oy:=rv.zero
 subst Oy
 obtain⟨z,its,n,r,hl,e⟩:=I.Jp hH
 obtain⟨u,hu,ru⟩:=r.get hy
 have hy':its.toArray[its.toArray.size - 1]?=some u:=by
  show its.toArray[its.length - 1]?=some u
  rw[←Array.getElem?_toList,←hl]
  exact hu
 refine call_meets F.slot_list_pop ⟨_,e,rfl⟩ F.entry_list_pop (F.args_list_pop_1 _) (MeetsSeq.list_pop_last l its.toArray n u hy' (by rw[List.size_toArray];omega)) ⟨e,?_⟩
 refine⟨y,_,I.KB (its':=its.dropLast) hH e ?_ r.dropLast ?_,ru,q⟩
 ·show its.toArray.eraseIdxIfInBounds (its.toArray.size - 1)=its.dropLast.toArray
  rw[List.size_toArray,List.eraseIdxIfInBounds_toArray,p7]
 ·rw[List.length_dropLast]
  omega
noncomputable def zF:V→List V→Hp→VK→Prop:=fun x vs H Q=>∃l xs i k y,x = .ref l∧vs=[.int i]∧H l=some (.lst xs)∧-(2 ^ 63)≤i∧i < 2 ^ 63∧seqIndex? i xs.length=some k∧xs[k]?=some y∧Q y (upd H l (.lst (xs.eraseIdx k)))
theorem uq:Dg X "list.pop" zF:=by
 intro pins s σ H x vs v us Q I rx rv h
 obtain⟨l,xs,i,k,y,rfl,rfl,hH,h1,h2,hk,hy,q⟩:=h
 cases rx
 obtain⟨u,rfl,ru⟩:=rv.one
 obtain⟨t,rfl⟩:=ru
 obtain⟨z,its,n,r,hl,e⟩:=I.Jp hH
 obtain⟨w,hw,rw'⟩:=r.get hy
 refine call_meets F.slot_list_pop ⟨_,e,rfl⟩ F.entry_list_pop (F.args_list_pop_2 _ _)
  (MeetsSeq.list_pop_at l its.toArray n i t k w (fitsIndex_both h1 h2) (by rw[List.size_toArray,←hl];exact hk) (by rw[←Array.getElem?_toList];exact hw) (by rw[List.size_toArray];omega)) ⟨e,?_⟩
 refine⟨y,_,I.KB (its':=its.eraseIdx k) hH e ?_ (r.eraseIdx k) ?_,rw',q⟩
 ·show its.toArray.eraseIdxIfInBounds k=(its.eraseIdx k).toArray
  rw[List.eraseIdxIfInBounds_toArray]
 ·have:=lR xs k
  omega
def DR:R2:=fun x y H Q=>∃l b xs zs,x = .ref l∧y = .ref b∧H l=some (.lst xs)∧H b=some (.lst zs)∧xs.length+zs.length≤sizeLine∧∀p,H p=none→Q (.ref p) (upd H p (.lst (xs++zs)))
theorem zG:iJ X (binaryOp .Add) DR:=by
 intro pins s σ H x y v u Q I rx ry h
 obtain⟨l,b,xs,zs,rfl,rfl,hH,hB,hz,q⟩:=h
 cases rx
 cases ry
 obtain⟨z,its,n,r,hl,e⟩:=I.Jp hH
 obtain⟨z2,its2,n2,r2,hl2,e2⟩:=I.Jp hB
 refine PySem.P.add_list e e2 ?_ (by rw[List.size_toArray,List.size_toArray];omega)
 have ea:its.toArray++its2.toArray=(its++its2).toArray:=by simp
 rw[ea]
 exact⟨.ref _,_,I.LQ (t':=s.toks) (r.append r2) (by rw[List.length_append];omega),rfl,q _ I.fresh⟩
def DS:R2:=fun x y H Q=>∃l k xs,x = .ref l∧y = .int k∧H l=some (.lst xs)∧-(2 ^ 63)≤k∧k < 2 ^ 63∧xs.length * k.toNat≤sizeLine∧
 ∀p,H p=none→Q (.ref p) (upd H p (.lst (List.replicate k.toNat xs).flatten))
theorem wW{α:Type}(xs:List α)(k:Nat):(List.replicate k xs).flatten.length=k * xs.length:=by
 induction k with
 |zero=>simp
 |succ k ih=>rw[List.replicate_succ,List.flatten_cons,List.length_append,ih,Nat.succ_mul,Nat.add_comm]
theorem zH:iJ X (binaryOp .Mult) DS:=by
 intro pins s σ H x y v u Q I rx ry h
 obtain⟨l,k,xs,rfl,rfl,hH,h1,h2,hz,q⟩:=h
 cases rx
 obtain⟨t,rfl⟩:=ry
 obtain⟨z,its,n,r,hl,e⟩:=I.Jp hH
 have hlen:its.toArray.size * k.toNat≤sizeLine:=by rw[List.size_toArray,←hl];exact hz
 have hcap:¬its.toArray.size * k.toNat > (2 ^ 63 - 1) / 8:=by
  have:(sizeLine:Nat)≤(2 ^ 63 - 1) / 8:=by decide
  omega
 have hfit:¬(!Builtin.List.listFitsIndex k)=true:=by
  rw[fitsIndex_both h1 h2]
  exact Bool.false_ne_true
 have Kg:¬Builtin.List.listTooLong (its.toArray.size * k.toNat)=true:=by
  rw[n9 hlen]
  exact Bool.false_ne_true
 have hnew:List.foldl (fun x1 x2=>x1++x2) #[] (List.replicate (if its.toArray.isEmpty=true then 0 else k.toNat) its.toArray)=(List.replicate k.toNat its).flatten.toArray:=by
  have f0:∀m:Nat,List.foldl (fun x1 x2=>x1++x2) #[] (List.replicate m its.toArray)=(List.replicate m its).flatten.toArray:=fun m=>by
   have:=iP its m []
   rw[List.nil_append]at this
   exact this
  rw[f0]
  cases its with
  |nil=>simp
  |cons a r'=>rw[if_neg (by simp)]
 refine wpAny_binaryOp_repeat_ref (T:="list") (U:="int") (by decide) ⟨_,e,rfl⟩ (fun s'=>typeIs_int s' k t) noFill_list_mul F.fills_int_mul F.slot_int_rmul repeat_list F.slot_int_index.lookup
  (call_meets F.slot_int_rmul (typeIs_int s k t) F.entry_int_rmul (F.args_int_rmul_2 _ _) (int___rmul___int_list k t l its.toArray n)
   ⟨e,rfl,⟨_,e,rfl⟩,call_meets F.slot_list_mul ⟨_,e,rfl⟩ F.entry_list_mul (F.args_list_mul_2 _ _) (AutoListH.list___mul___list_int_3 l its.toArray n k t hfit hcap Kg) ⟨e,?_⟩⟩)
 rw[hnew]
 exact⟨.ref _,_,I.LQ (t':=s.toks) (r.rep k.toNat) (by rw[wW,Nat.mul_comm];exact hz),rfl,q _ I.fresh⟩
end
section
variable {prog:Program} {w:World} {A:Around} {E:Value→Shared→Prop} {s:Shared}
end
section
variable {X:Cx}
end
section
variable {κ:Type} [DecidableEq κ]
noncomputable def gt(kvs:List (κ×V))(k:κ):Option V:=(kvs.find? fun kv=>decide (kv.1=k)).map (·.2)
noncomputable def fj(kvs:List (κ×V))(k:κ)(v:V):List (κ×V):=
 if (kvs.any fun kv=>decide (kv.1=k))=true then kvs.map (fun kv=>if kv.1=k then (kv.1,v) else kv) else kvs++[(k,v)]
theorem G1{p:κ×V}{r:List (κ×V)}{k:κ}(e:p.1=k):gt (p::r) k=some p.2:=by simp[gt,List.find?_cons,e]
theorem G2{p:κ×V}{r:List (κ×V)}{k:κ}(e:¬p.1=k):gt (p::r) k=gt r k:=by simp[gt,List.find?_cons,e]
theorem kj(k:κ):∀kvs:List (κ×V),(kvs.any fun kv=>decide (kv.1=k))=(gt kvs k).isSome
 |[]=>rfl
 |p::r=>by
  rw[List.any_cons]
  by_cases e:p.1=k
  ·simp only[G1 e,decide_eq_true e,Bool.true_or,Option.isSome_some]
  ·rw[G2 e,decide_eq_false e,Bool.false_or];exact kj k r
theorem fq(kvs:List (κ×V))(k:κ)(v:V):(fj kvs k v).length≤kvs.length+1:=by
 unfold fj
 split
 ·rw[List.length_map];omega
 ·rw[List.length_append,List.length_cons,List.length_nil];omega
theorem G0.G3{o:Option V}{u:Option Value}(r:G0 o u):o.isSome=u.isSome:=by
 cases o with
 |none=>cases u with
  |none=>rfl
  |some _=>exact(show False from r).elim
 |some _=>cases u with
  |none=>exact(show False from r).elim
  |some _=>rfl
theorem G0.getD{o:Option V}{u:Option Value}{d:V}{d':Value}(r:G0 o u)(rd:RelV d d'):RelV (o.getD d) (u.getD d'):=by
 cases o with
 |none=>cases u with
  |none=>exact rd
  |some _=>exact(show False from r).elim
 |some _=>cases u with
  |none=>exact(show False from r).elim
  |some _=>exact r
theorem KV.val{kvs:List (κ×V)}{vs:List (κ×Value)}(r:KV kvs vs)(k:κ):G0 (gt kvs k) (valueAt vs k):=by
 unfold KV at r
 induction r with
 |nil=>exact True.intro
 |@cons p q ps qs h t ih=>
  obtain⟨h1,h2⟩:=h
  by_cases e:p.1=k
  ·have e':q.1=k:=h1.symm.trans e
   have b:valueAt (q::qs) k=some q.2:=by simp[valueAt,List.find?_cons,e']
   rw[G1 e,b];exact h2
  ·have e':¬q.1=k:=fun z=>e (h1.trans z)
   have b:valueAt (q::qs) k=valueAt qs k:=by simp[valueAt,List.find?_cons,e']
   rw[G2 e,b];exact ih
theorem KV.any{kvs:List (κ×V)}{vs:List (κ×Value)}(r:KV kvs vs)(k:κ):(kvs.any fun kv=>decide (kv.1=k))=vs.any fun kv=>decide (kv.1=k):=by
 unfold KV at r
 induction r with
 |nil=>rfl
 |cons h t ih=>rw[List.any_cons,List.any_cons,ih,h.1]
theorem KV.repl{kvs:List (κ×V)}{vs:List (κ×Value)}(r:KV kvs vs)(k:κ){y:V}{u:Value}(ry:RelV y u) :
  KV (kvs.map fun kv=>if kv.1=k then (kv.1,y) else kv) (vs.map fun kv=>if kv.1=k then (kv.1,u) else kv):=by
 unfold KV at r ⊢
 induction r with
 |nil=>exact .nil
 |@cons p q ps qs h t ih=>
  rw[List.map_cons,List.map_cons]
  refine .cons ?_ ih
  obtain⟨h1,h2⟩:=h
  by_cases e:p.1=k
  ·rw[if_pos e,if_pos (h1.symm.trans e)];exact⟨h1,ry⟩
  ·rw[if_neg e,if_neg (fun z=>e (h1.trans z))];exact⟨h1,h2⟩
theorem KV.put{kvs:List (κ×V)}{vs:List (κ×Value)}(r:KV kvs vs)(k:κ){y:V}{u:Value}(ry:RelV y u):KV (fj kvs k y) (stored vs k u):=by
 unfold fj stored
 rw[r.any k]
 by_cases e:(vs.any fun kv=>decide (kv.1=k))=true
 ·rw[if_pos e,if_pos e];exact r.repl k ry
 ·rw[if_neg e,if_neg e];exact Paired.snoc r ⟨rfl,ry⟩
theorem KV.length{kvs:List (κ×V)}{vs:List (κ×Value)}(r:KV kvs vs):kvs.length=vs.length:=Paired.length r
end
theorem kl{P:Program}{w:World}{k:bg}{u:Value}(r:RelV (kV k) u):(aQ P w).is k u=true:=by
 cases k with
 |inl i=>obtain⟨t,e⟩:=(show ∃t,u=Value.int i t from r);subst e;exact nU P w i t
 |inr x=>obtain⟨t,e⟩:=(show ∃t,u=Value.str x t from r);subst e;exact nV P w x t
theorem lS{P:Program}{w:World}:∀{ks:List bg} {us:List Value},Vals (ks.map kV) us→ItemsAre (aQ P w) ks us
 |[],_,r=>by rw[List.map_nil]at r;cases r;exact .nil
 |k::ks,_,r=>by
  rw[List.map_cons]at r
  cases r with
  |cons h t=>exact .cons (kl h) (lS t)
noncomputable abbrev KT(H:Hp):List (List bg×V)→List (List bg×Addr×Value)→Prop:=Paired fun p q=>p.1=q.1∧H q.2.1=some (.tup (p.1.map kV))∧RelV p.2 q.2.2
theorem KT.val{H:Hp}{kvs:List (List bg×V)}{xs:List (List bg×Addr×Value)}(r:KT H kvs xs)(k:List bg):G0 (gt kvs k) ((atKey xs k).map (·.2)):=by
 induction r with
 |nil=>exact True.intro
 |@cons p q ps qs h t ih=>
  obtain⟨h1,_,h2⟩:=h
  by_cases e:p.1=k
  ·have e':q.1=k:=h1.symm.trans e
   have b:atKey (q::qs) k=some q.2:=by simp[atKey,List.find?_cons,e']
   rw[G1 e,b];exact h2
  ·have e':¬q.1=k:=fun z=>e (h1.trans z)
   have b:atKey (q::qs) k=atKey qs k:=by simp[atKey,List.find?_cons,e']
   rw[G2 e,b];exact ih
theorem KT.repl{H:Hp}{kvs:List (List bg×V)}{xs:List (List bg×Addr×Value)}(r:KT H kvs xs)(k:List bg){y:V}{u:Value}(ry:RelV y u) :
  KT H (kvs.map fun kv=>if kv.1=k then (kv.1,y) else kv) (xs.map (putAt k u)):=by
 induction r with
 |nil=>exact .nil
 |@cons p q ps qs h t ih=>
  rw[List.map_cons,List.map_cons]
  refine .cons ?_ ih
  obtain⟨h1,h2,h3⟩:=h
  unfold putAt
  by_cases e:p.1=k
  ·rw[if_pos e,if_pos (h1.symm.trans e)];exact⟨h1,h2,ry⟩
  ·rw[if_neg e,if_neg (fun z=>e (h1.trans z))];exact⟨h1,h2,h3⟩
theorem KT.put{H:Hp}{kvs:List (List bg×V)}{xs:List (List bg×Addr×Value)}(r:KT H kvs xs)(k:List bg){b:Addr}{y:V}{u:Value}(hb:H b=some (.tup (k.map kV)))(ry:RelV y u) :
  KT H (fj kvs k y) (storedH xs k b u):=by
 have e:(kvs.any fun kv=>decide (kv.1=k))=(atKey xs k).isSome:=by
  rw[kj,(r.val k).G3,Option.isSome_map]
 unfold fj storedH
 rw[e]
 by_cases q:(atKey xs k).isSome=true
 ·rw[if_pos q,if_pos q];exact r.repl k ry
 ·rw[if_neg q,if_neg q];exact Paired.snoc r ⟨rfl,hb,ry⟩
theorem KT.keeps{H H':Hp}{kvs:List (List bg×V)}{xs:List (List bg×Addr×Value)}(r:KT H kvs xs)(ht:∀b ys,H b=some (.tup ys)→H' b=some (.tup ys)):KT H' kvs xs:=
 Paired.K1 r fun _ _ z=>⟨z.1,ht _ _ z.2.1,z.2.2⟩
section
variable {P:Program} {w:World} {H:Hp} {h:Heap} {a:Addr}
theorem yD{u:HO}(ok:G8 P w H h)(e:Rd H a u):ObjOk P w H h a u:=e.ok ok
theorem lT{kvs:List (bg×V)}(ok:G8 P w H h)(e:Rd H a (.dK kvs)):kvs.length≤sizeLine∧(a == sysModules)=false∧∃vs,KV kvs vs∧h.DictOf (aQ P w) a vs:=
 show ObjOk P w H h a (.dK kvs)from yD ok e
theorem yE{kvs:List (bg×V)}(ok:G8 P w H h)(e:H a=some (.dK kvs)):kvs.length≤sizeLine∧(a == sysModules)=false∧∃vs,KV kvs vs∧h.DictOf (aQ P w) a vs:=lT ok (.inl e)
theorem dQ{ks:List bg}(ok:G8 P w H h)(e:H a=some (.tup (ks.map kV))):(tupleKind (aQ P w)).is h ks a:=by
 obtain⟨_,its,r,o,h1,_,h2,n,h3⟩:=(show ObjOk P w H h a (.tup (ks.map kV))from ok a _ e)
 exact⟨o,its.toArray,n,h1,h2,h3,by simpa using lS r⟩
theorem n_{kvs:List (List bg×V)}(ok:G8 P w H h)(e:Rd H a (.dT kvs)):kvs.length≤sizeLine∧(a == sysModules)=false∧
  ∃xs,KT H kvs xs∧h.DictOfH (tupleKind (aQ P w)) a xs:=by
 obtain⟨z,y,xs,r,o,es,ep,h1,h2,h3,h4,h5⟩:=(show ObjOk P w H h a (.dT kvs)from yD ok e)
 refine⟨z,y,xs,r,o,es,ep,h1,h2,h3,h4,fun x hx=>?_,h5⟩
 have all:∀{l:List (List bg×V)} {m:List (List bg×Addr×Value)},KT H l m→∀x∈m,(tupleKind (aQ P w)).is h x.1 x.2.1:=by
  intro l m q
  induction q with
  |nil=>intro x hx;exact nomatch hx
  |@cons p q ps qs hq t ih=>
   intro x hx
   rcases List.mem_cons.mp hx with e|hx
   ·subst e
    exact dQ ok (by rw[←hq.1];exact hq.2.1)
   ·exact ih x hx
 exact all r x hx
theorem B4{kvs:List (List bg×V)}(ok:G8 P w H h)(e:H a=some (.dT kvs)):kvs.length≤sizeLine∧(a == sysModules)=false∧
  ∃xs,KT H kvs xs∧h.DictOfH (tupleKind (aQ P w)) a xs:=n_ ok (.inl e)
end
def DGet(H:Hp)(a:Addr)(y:V)(r:Option V):Prop:=
 (∃kvs k,Rd H a (.dK kvs)∧y=kV k∧r=gt kvs k)∨∃kvs k b,Rd H a (.dT kvs)∧y = .ref b∧H b=some (.tup (k.map kV))∧r=gt kvs k
def JA(H:Hp)(a:Addr)(y v:V)(H':Hp):Prop:=
 (∃kvs k,H a=some (.dK kvs)∧y=kV k∧kvs.length < sizeLine∧H'=upd H a (.dK (fj kvs k v))) ∨
 ∃kvs k b,H a=some (.dT kvs)∧y = .ref b∧H b=some (.tup (k.map kV))∧kvs.length < sizeLine∧H'=upd H a (.dT (fj kvs k v))
theorem DGet.k{H:Hp}{a:Addr}{kvs:List (bg×V)}{k:bg}(e:H a=some (.dK kvs)):DGet H a (kV k) (gt kvs k):=.inl ⟨kvs,k,.inl e,rfl,rfl⟩
theorem DGet.t{H:Hp}{a b:Addr}{kvs:List (List bg×V)}{k:List bg}(e:H a=some (.dT kvs))(eb:H b=some (.tup (k.map kV))):DGet H a (.ref b) (gt kvs k):=.inr ⟨kvs,k,b,.inl e,rfl,eb,rfl⟩
theorem JA.k{H:Hp}{a:Addr}{kvs:List (bg×V)}{k:bg}{v:V}(e:H a=some (.dK kvs))(hl:kvs.length < sizeLine):JA H a (kV k) v (upd H a (.dK (fj kvs k v))):=.inl ⟨kvs,k,e,rfl,hl,rfl⟩
theorem JA.t{H:Hp}{a b:Addr}{kvs:List (List bg×V)}{k:List bg}{v:V}(e:H a=some (.dT kvs))(eb:H b=some (.tup (k.map kV)))(hl:kvs.length < sizeLine) :
  JA H a (.ref b) v (upd H a (.dT (fj kvs k v))):=.inr ⟨kvs,k,b,e,rfl,eb,hl,rfl⟩
section
variable {X:Cx} {pins:List (Addr×Obj)} {σ:St} {H:Hp} {s:Shared} {a:Addr} {y v:V} {u r:Value} {o:Option V} {A:Around} {E:Value→Shared→Prop}
theorem Inv.big(I:Inv X pins σ H s):sysModules < s.heap.objs.size:=by
 have h:mainGlobals < s.heap.objs.size:=(I.mod.glob.keeps I.bk).lt
 exact Nat.lt_trans (by decide) h
theorem sJ{Q:Value→Shared→Prop}(hu:A.units+1 < cLine)(I:Inv X pins σ H s)(g:DGet H a y (some v))(ry:RelV y u)(h:∀w' s',Inv X pins σ H s'→RelV v w'→Q w' s') :
  wpAny (model X.prog X.w) A (getItem (.ref a) u) Q E s:=by
 rcases g with⟨kvs,k,e,ey,l⟩|⟨kvs,k,b,e,ey,eb,l⟩
 ·subst ey
  obtain⟨z,hd,vs,rel,dd⟩:=lT I.hok e
  obtain⟨w',hw,rw'⟩:=G0.some_of (v:=v) (o:=valueAt vs k) (by rw[l];exact rel.val k)
  exact wpAny_getItem_of (kl ry) dd.mapOf hw (h w' _ (I.tok _) rw')
 ·subst ey
  cases (show u=Value.ref b from ry)
  obtain⟨z,hd,xs,rel,dd⟩:=n_ I.hok e
  obtain⟨w',hw,rw'⟩:=G0.some_of (v:=v) (o:=(atKey xs k).map (·.2)) (by rw[l];exact rel.val k)
  obtain⟨p,hp,hp2⟩:=Option.map_eq_some_iff.mp hw
  refine wpAny_getItem_heap (tupleKind_room_in1 hu) (dQ I.hok eb) dd hp ?_
  rw[hp2]
  exact h w' _ (I.tok _) rw'
theorem B5{Q:Value→Shared→Prop}(hu:A.units+1 < cLine)(I:Inv X pins σ H s)(g:DGet H a y o)(ry:RelV y u)(h:∀s',Inv X pins σ H s'→Q (.bool o.isSome) s') :
  wpAny (model X.prog X.w) A (compareOp .In u (.ref a)) Q E s:=by
 rcases g with⟨kvs,k,e,ey,l⟩|⟨kvs,k,b,e,ey,eb,l⟩
 ·subst ey
  obtain⟨z,hd,vs,rel,dd⟩:=lT I.hok e
  refine wpAny_in_of (kl ry) hd dd.mapOf ?_
  rw[←(rel.val k).G3,←l]
  exact h _ (I.tok _)
 ·subst ey
  cases (show u=Value.ref b from ry)
  obtain⟨z,hd,xs,rel,dd⟩:=n_ I.hok e
  refine wpAny_in_heap (tupleKind_room_in1 hu) (dQ I.hok eb) hd dd ?_
  have q:=(rel.val k).G3
  rw[Option.isSome_map]at q
  rw[←q,←l]
  exact h _ (I.tok _)
theorem rh{Q:Value→Shared→Prop}(hu:A.units+1 < cLine)(I:Inv X pins σ H s)(g:DGet H a y o)(ry:RelV y u)(h:∀s',Inv X pins σ H s'→Q (.bool (!o.isSome)) s') :
  wpAny (model X.prog X.w) A (compareOp .NotIn u (.ref a)) Q E s:=by
 rcases g with⟨kvs,k,e,ey,l⟩|⟨kvs,k,b,e,ey,eb,l⟩
 ·subst ey
  obtain⟨z,hd,vs,rel,dd⟩:=lT I.hok e
  refine wpAny_notIn_of (kl ry) hd dd.mapOf ?_
  rw[←(rel.val k).G3,←l]
  exact h _ (I.tok _)
 ·subst ey
  cases (show u=Value.ref b from ry)
  obtain⟨z,hd,xs,rel,dd⟩:=n_ I.hok e
  refine wpAny_notIn_heap (tupleKind_room_in1 hu) (dQ I.hok eb) hd dd ?_
  have q:=(rel.val k).G3
  rw[Option.isSome_map]at q
  rw[←q,←l]
  exact h _ (I.tok _)
theorem mI{h':Heap}{t':Nat}{ob:HO}(I:Inv X pins σ H s)(mu:By (H a))(hs:Heap.SameBut a s.heap h')(he:∃q,h'.get? a=some q)(new:ObjOk X.prog X.w (upd H a ob) h' a ob) :
  Inv X pins σ (upd H a ob) { s with heap:=h',toks:=t' }:=
 I.write (x:=a) (e:=a) mu (.inl rfl) (fun b q hb z=>(hs.2 b hb).trans z) he new
theorem ur{P:Program}{w:World}{H':Hp}{h':Heap}{kvs:List (bg×V)}{vs:List (bg×Value)}(z:kvs.length≤sizeLine)(hd:(a == sysModules)=false)(rel:KV kvs vs)(dd:h'.DictOf (aQ P w) a vs) :
  ObjOk P w H' h' a (.dK kvs):=⟨z,hd,vs,rel,dd⟩
theorem sK{H':Hp}{Q:Unit→Shared→Prop}(hu:A.units+1 < cLine)(I:Inv X pins σ H s)(g:JA H a y v H')(ry:RelV y u)(rv:RelV v r)(h:∀s',Inv X pins σ H' s'→Q () s') :
  wpAny (model X.prog X.w) A (setItem (.ref a) u r) Q E s:=by
 rcases g with⟨kvs,k,e,ey,l,eH⟩|⟨kvs,k,b,e,ey,eb,l,eH⟩
 ·subst ey eH
  obtain⟨z,hd,vs,rel,dd⟩:=yE I.hok e
  have hz:vs.length≤sizeLine:=by rw[←rel.length];exact z
  have hl:(fj kvs k v).length≤sizeLine:=by have:=fq kvs k v;omega
  refine wpAny_setItem_pairs (hsz:=hz) (kl ry) dd fun h' Lc hs=>h _ ?_
  have he:∃q,h'.get? a=some q:=let ⟨q,_,_,hq,_⟩:=Lc;⟨q,hq⟩
  exact mI I (by rw[e];exact True.intro) hs he (ur hl hd (rel.put k rv) Lc)
 ·subst ey eH
  cases (show u=Value.ref b from ry)
  obtain⟨z,hd,xs,rel,dd⟩:=B4 I.hok e
  have hz:xs.length≤sizeLine:=by rw[←Paired.length rel];exact z
  have hl:(fj kvs k v).length≤sizeLine:=by have:=fq kvs k v;omega
  refine wpAny_setItem_heap (hsz:=hz) (tupleKind_room_in1 hu) (dQ I.hok eb) dd fun h' Lc hs=>h _ ?_
  obtain⟨q,es,ep,hq,h2,h3,h4,_,h5⟩:=Lc
  refine mI I (by rw[e];exact True.intro) hs ⟨q,hq⟩ ⟨hl,hd,_,(rel.put k eb rv).keeps fun c ys ec=>?_,q,es,ep,hq,h2,h3,h4,h5⟩
  rw[ao (Bx ec e (fun z=>nomatch z))]
  exact ec
end
section
variable {X:Cx} {pins:List (Addr×Obj)} {σ:St} {H:Hp} {s:Shared} {a:Addr} {kvs:List (bg×V)} {k:bg} {u:Value} {A:Around} {E:Value→Shared→Prop}
theorem B6{Q:Value→Shared→Prop}(I:Inv X pins σ H s)(e:Rd H a (.dK kvs))(h:∀t s',Inv X pins σ H s'→Q (.int kvs.length t) s'):wpAny (model X.prog X.w) A (call (.builtin "len") [.ref a]) Q E s:=by
 obtain⟨z,hd,vs,rel,dd⟩:=lT I.hok e
 refine call_len_dict hd dd (by rw[←rel.length];rw[sizeLine_eq]at z;omega) ?_
 rw[←rel.length]
 exact h _ _ (I.tok _)
end
theorem oa{X:Cx}{pins:List (Addr×Obj)}{σ:St}{H:Hp}{s:Shared}{a:Addr}{y:V}{o:Option V}(I:Inv X pins σ H s)(g:DGet H a y o):s.TypeIs (.ref a) "dict":=by
 rcases g with⟨kvs,k,e,_,_⟩|⟨kvs,k,b,e,_,_,_⟩
 ·obtain⟨_,_,vs,_,dd⟩:=lT I.hok e
  exact dd.typeIs
 ·obtain⟨_,_,xs,_,dd⟩:=n_ I.hok e
  exact dd.typeIs
section
variable {X:Cx} {o i e value:Expr} {pos pos' tpos:Pos} {td ty tv:TE}
end
theorem ut{P:Program}{w:World}{H:Hp}(h:Heap)(hb:sysModules < h.objs.size):ObjOk P w H (h.push { cls:=.type "dict",data:=.dict #[] }) h.objs.size (.dK []):=
 ⟨Nat.zero_le _,beq_eq_false_iff_ne.mpr (Ne.symm (Nat.ne_of_lt hb)),[],.nil,Heap.DictOf.new h⟩
section
variable {X:Cx} {pos:Pos}
end
noncomputable def mJ:List (TE×TE)→St→Hp→(List (V×V)→Hp→Prop)→Prop
 |[],_,H,Q=>Q [] H
 |(tk,tv)::r,σ,H,Q=>tk σ H fun x H1=>tv σ H1 fun y H2=>mJ r σ H2 fun ps H3=>Q ((x,y)::ps) H3
noncomputable abbrev VV:List (V×V)→List (Value×Value)→Prop:=Paired fun p q=>RelV p.1 q.1∧RelV p.2 q.2
def B7(X:Cx)(pos:Pos)(keys:List (Option Expr))(values:List Expr)(Ir:List (TE×TE)):Prop:=
 ∀(pins:List (Addr×Obj)) (s:Shared) (σ:St) (H:Hp) (Q:List (V×V)→Hp→Prop),Inv X pins σ H s→mJ Ir σ H Q→
  wpAny (model X.prog X.w) X.A (evalPairs (pairTrees keys values X.env pos)) (fun vs s'=>∃ps H',Inv X pins σ H' s'∧VV ps vs∧Q ps H') X.xe s
theorem wX{X:Cx}{pos:Pos}:B7 X pos [] [] []:=fun pins s σ H Q I h=>pairTrees_nil_walk ⟨[],H,I,.nil,h⟩
theorem uu{X:Cx}{pos:Pos}{k v:Expr}{ks:List (Option Expr)}{vs:List Expr}{tk tv:TE}{Ir:List (TE×TE)}(hk:PE X k tk)(hv:PE X v tv)(hr:B7 X pos ks vs Ir) :
  B7 X pos (some k::ks) (v::vs) ((tk,tv)::Ir):=fun pins s σ H Q I h=>
 pairTrees_cons_walk (FI (hk pins s σ H _ I h) fun u s1 ⟨x,H1,I1,rx,q1⟩=>FI (hv pins s1 σ H1 _ I1 q1) fun w2 s2 ⟨y,H2,I2,ry,q2⟩=>
  FI (hr pins s2 σ H2 _ I2 q2) fun ws s3 ⟨ps,H3,I3,rel,q3⟩=>⟨(x,y)::ps,H3,I3,.cons ⟨rx,ry⟩ rel,q3⟩)
noncomputable def iQ(kvs more:List (bg×V)):List (bg×V):=more.foldl (fun acc kv=>fj acc kv.1 kv.2) kvs
theorem KV.merge:∀{more:List (bg×V)} {rs:List (bg×Value)} {kvs:List (bg×V)} {vs:List (bg×Value)},KV more rs→KV kvs vs→KV (iQ kvs more) (merged vs rs):=by
 intro more rs kvs vs r
 unfold KV at r
 induction r generalizing kvs vs with
 |nil=>intro q;exact q
 |@cons p q ps qs h t ih=>
  intro r0
  have e:KV (fj kvs p.1 p.2) (stored vs q.1 q.2):=by
   have:=r0.put p.1 h.2
   rw[←h.1];exact this
  exact ih e
theorem gy:∀(more kvs:List (bg×V)),(iQ kvs more).length≤kvs.length+more.length
 |[],kvs=>by show kvs.length≤kvs.length+0;omega
 |p::r,kvs=>by
  have h1:=gy r (fj kvs p.1 p.2)
  have h2:=fq kvs p.1 p.2
  show(iQ (fj kvs p.1 p.2) r).length≤_
  rw[List.length_cons];omega
theorem km{P:Program}{w:World}:∀{kvs:List (bg×V)} {ws:List (Value×Value)},VV (kvs.map fun kv=>(kV kv.1,kv.2)) ws→∃rs,Carries (aQ P w) ws rs∧KV kvs rs
 |[],_,r=>by rw[List.map_nil]at r;cases r;exact⟨[],True.intro,.nil⟩
 |p::kvs,_,r=>by
  rw[List.map_cons]at r
  cases r with
  |@cons a b as bs h t=>
   obtain⟨rs,c,q⟩:=km (P:=P) (w:=w) t
   obtain⟨b1,b2⟩:=b
   exact⟨(p.1,b2)::rs,⟨kl h.1,rfl,c⟩,.cons ⟨rfl,h.2⟩ q⟩
def B8(Ir:List (TE×TE)):TE:=fun σ H Q=>∀p,H p=none→mJ Ir σ (upd H p (.dK [])) fun ps H2=>H2 p=some (.dK [])∧∃kvs:List (bg×V),ps=kvs.map (fun kv=>(kV kv.1,kv.2))∧kvs.length≤15∧Q (.ref p) (upd H2 p (.dK (iQ [] kvs)))
theorem wY{X:Cx}{pos:Pos}{keys:List (Option Expr)}{values:List Expr}{Ir:List (TE×TE)}(h:B7 X pos keys values Ir)(hall:keys.all (·.isSome)=true)(hl:keys.length=values.length)(h0:keys≠[])
  (MM:keys.length≤15):PE X (.Dict keys values pos) (B8 Ir):=by
 intro pins s σ H Q I q
 have hn:=I.hok.fresh (Nat.le_refl s.heap.objs.size)
 have I1:=I.laid (a:=s.heap.objs.size) (o:=.dK []) (h':=s.heap.push { cls:=.type "dict",data:=.dict #[] }) (t':=s.toks) (fun _ _ q=>Heap.get?_push_of_some _ q) (Nat.le_refl _) (ut s.heap I.big)
 refine wpAny_Dict_walk (knd:=aQ X.prog X.w) hall hl h0 MM (FI (h pins _ σ _ _ I1 (q _ hn)) fun ws s2 ⟨ps,H2,I2,rel,e,kvs,ep,lk,q2⟩=>?_)
 subst ep
 obtain⟨rs,c,rk⟩:=km (P:=X.prog) (w:=X.w) rel
 obtain⟨z,hd,vs0,r0,dd⟩:=yE I2.hok e
 cases r0
 refine⟨rs,c,dd,fun h' Lc hs=>⟨.ref s.heap.objs.size,_,?_,rfl,q2⟩⟩
 have hz:(iQ [] kvs).length≤sizeLine:=by
  have h1:=gy kvs []
  rw[List.length_nil]at h1
  rw[sizeLine_eq];omega
 have he:∃q,h'.get? s.heap.objs.size=some q:=let ⟨q,_,_,hq,_⟩:=Lc;⟨q,hq⟩
 exact mI I2 (by rw[e];exact True.intro) hs he (ur hz hd (rk.merge .nil) Lc)
structure M1 (X:Cx) (o:Expr) (m:Str) (apos:Pos) (e:Expr) (cpos:Pos):Prop where
 base:attributeBase o m X.env (eval o X.env)=eval o X.env
 few:((backTo cpos (starEach [e] X.env)).all (fun x=>!x.1)&&(backToKw cpos (keywordEach [] X.env)).all (fun x=>x.1.isSome)
  && decide (([e]:List Expr).length+([]:List Keyword).length+(if ([]:List Keyword).isEmpty then 0 else 1) < 30))=true
 line:(apos.endLine == cpos.line)=true
 trees:backTo cpos (starEach [e] X.env)=[(false,eval e X.env)]
structure M2 (X:Cx) (o:Expr) (m:Str) (apos:Pos) (e f:Expr) (cpos:Pos):Prop where
 base:attributeBase o m X.env (eval o X.env)=eval o X.env
 few:((backTo cpos (starEach [e,f] X.env)).all (fun x=>!x.1)&&(backToKw cpos (keywordEach [] X.env)).all (fun x=>x.1.isSome)
  && decide (([e,f]:List Expr).length+([]:List Keyword).length+(if ([]:List Keyword).isEmpty then 0 else 1) < 30))=true
 line:(apos.endLine == cpos.line)=true
 trees:backTo cpos (starEach [e,f] X.env)=[(false,eval e X.env),(false,eval f X.env)]
section
variable {X:Cx} {pins:List (Addr×Obj)} {σ:St} {H:Hp} {s:Shared} {a:Addr} {y d:V} {u r:Value} {o:Option V} {A:Around} {E:Value→Shared→Prop}
end
section
variable {X:Cx} {o e f:Expr} {apos cpos:Pos} {td ty tx:TE}
end
section
variable {X:Cx} {pins:List (Addr×Obj)} {σ:St} {H:Hp} {s:Shared} {a:Addr} {kvs:List (bg×V)} {A:Around} {E:Value→Shared→Prop}
end
section
variable {X:Cx} {pins:List (Addr×Obj)} {σ:St} {H:Hp} {s:Shared} {a:Addr} {y:V} {u:Value} {A:Around} {E:Value→Shared→Prop}
end
end L2
namespace Att
open PySem PySem.W PySem.Calls PyProof.Rows
theorem jV{P:Params}{h:Heap}:∀(ns:List Int) (vs:List Value),WellAll P h vs (ns.map WData.int)→IntsAre vs ns:=by
 intro ns
 induction ns with
 |nil=>
  intro vs w
  rw[List.map_nil]at w
  cases w
  exact .nil
 |cons n ns ih=>
  intro vs w
  rw[List.map_cons]at w
  cases w with
  |cons a b=>
   cases a
   exact .cons _ _ (ih _ b)
theorem sL{l:OpenLaw}{n:Nat}(hn:l.most=some n){P:Params}{h:Heap}{args:List WData}{vals:List Value}
  (hpre:l.row.toRowW.claim.pre args=true) (hwl:WellAll P h vals args) :
  ∃a vs ns,vals=[Value.ref a]∧args=[WData.list (ns.map WData.int)]∧h.get? a=some { cls:=.type "list",data:=.seq vs.toArray }∧IntsAre vs ns∧ns.length≤n:=by
 have hsh:WShape.hasAll [] args [.list .int]=true:=(pre_splitW hpre).1
 have hc:l.pre.holds [] { args:=args }=true:=(pre_splitW hpre).2
 obtain⟨d,r,rfl,h1,h2⟩:=hasAllW_cons hsh
 obtain rfl:=hasAllW_nil h2
 obtain⟨xs,rfl,h3⟩:=hasW_list h1
 obtain⟨ns,rfl⟩:=items_int h3
 have hlen:ns.length≤n:=by
  unfold OpenLaw.pre at hc
  have h4:(WTm.not (.lt (.lit (.int (n:Int))) (.len (.arg 0)))).holds [] { args:=[.list (ns.map .int)] }=true:=by
   have h4:=(holds_andW hc).1
   rw[hn]at h4
   exact h4
  have h5:=condW_of h4 (w_not (w_lt w_lit (w_len_list (w_arg rfl))))
  rw[List.length_map]at h5
  refine Nat.le_of_not_lt fun q=>?_
  have q':(n:Int) < ((ns.length:Nat):Int):=by omega
  first
   |(rw[decide_eq_true q']at h5;exact absurd h5 (by decide))
   |(simp at h5;omega)
 cases hwl with
 |cons w1 w2=>
  cases w2
  cases w1 with
  |list ho hall=>exact⟨_,_,ns,rfl,rfl,ho,jV ns _ hall,hlen⟩
theorem sM(l:OpenLaw)(args:List WData):l.row.toRowW.claim.post args (.bool true) args=true:=
 postW_of (r:=l.row.toRowW) (X:=(true == true))
  (show WShape.has [] (.bool true) .bool=true by first|rfl|decide|simp[WShape.has,WShape.arms,WShape.armsAll])
  (show(WTm.eq .res (.lit (.bool true))).value [] { args:=args,res:=some (.bool true),after:=args }=some (.bool (true == true))from w_eq_bool (w_res rfl) w_lit) rfl
theorem og{l:OpenLaw}{n:Nat}{q:Program}{loose:List Str}{XP:(Str→Option Value)→Heap→Prop}{YP:World→Heap→Prop}{d:DefRec}
  (hn:l.most=some n) (hdf:d.params.defaults=[])
  (call:∀(w:World) (s₀ s₁:Shared) (mg mb:Str→Option Value) (fa:Addr) (o:Obj) (pm cd doc:Value) (a:Addr) (vs:List Value) (ns:List Int),
   Ground q loose [] XP w s₀ mg mb s₁.heap→YP w s₁.heap→
   s₁.heap.get? fa=some o→o.data = .func (docDef d.name d.params d.body d.scope pm cd doc)→s₁.heap.CodeRec cd d.name→mg d.name=some (.ref fa)→
   s₁.heap.get? a=some { cls:=.type "list",data:=.seq vs.toArray }→IntsAre vs ns→ns.length≤n→s₁.gens=#[]→
   codeAny (model l.prog w) callerA (.call (.ref fa) ⟨[.ref a],[]⟩) (fun r s'=>r = .ok (.ret (.bool true))∧OldK s₁.heap s'.heap∧s'.os=s₁.os∧AllBare s'.gens) s₁) :
  WalkO q loose XP YP l.row.toRowW d [] (fun f vs=>PySem.call f vs):=by
 intro w s₀ s₁ mg mb G Y fa o pm cd doc dV kV ho hd hcd hD hmg hg args vals as hpre hlay hrd hwl hlo
 obtain rfl:dV = .none:=Dflts.none hD hdf
 obtain rfl:kV = .none:=Dflts.noKw hD
 obtain⟨a,vs,ns,rfl,rfl,hobj,hints,hlen⟩:=sL hn hpre hwl
 refine enter_call (codeAny_mono (call w s₀ s₁ mg mb fa o pm cd doc a vs ns G Y ho (fd_plain hd) hcd hmg hobj hints hlen hg) fun r s' hq=>?_)
 obtain⟨rfl,h2,h3,h4⟩:=hq
 exact⟨.inl ⟨.bool true,.bool true,[],rfl,fun _=>rfl,.bool true,sM l _,fun _=>⟨List.Pairwise.nil,fun _ hm=>(nomatch hm)⟩⟩,h2,h3,h4⟩
section
variable {prog:Program} {w:World} {A:Around} {E:Value→Shared→Prop} {s:Shared} {K:Frag}
end
end Att
namespace L2
open PySem PySem.Spec PyProof.Rows
theorem lU:∀{vs:List Value} {ns:List Int},IntsAre vs ns→Vals (ns.map V.int) vs
 |_,_,.nil=>.nil
 |_,_,.cons n t h=>.cons ⟨t,rfl⟩ (lU h)
def wZ(H:Hp):Prop:=∀b,H b=none∨∃o xs,H b=some (.frz o (.lst xs))
theorem uv{P:Program}{w:World}{K:PySem.W.Frag}{mg mb:Str→Option Value}{CX:tP}{k:Nat}{fa a:Addr}{fd:FuncData}{x:Str}{sp:Sp}{s₁:Shared}{vs:List Value}{ns:List Int}
  (KX:K.In s₁.heap) (hns:s₁.heap.Ns mainGlobals mg) (hb:s₁.heap.Ns builtinsNs mb) (Oz:∀x:Str,x ≠ "__name__"→mb x=bootBuiltins x) (hlim:s₁.heap.NoLimit) (hg:s₁.gens=#[])
  (ha:s₁.heap.get? a=some { cls:=.type "list",data:=.seq vs.toArray }) (hi:IntsAre vs ns) (hl:ns.length≤sizeLine) (hr:Room k callerA)
  (F:∀base:Heap,K.In base→base.Ns mainGlobals mg→dP P w K mg base CX k fa fd [x] sp) (hbind:∀(s:Shared) (u:Value),BindsTo s fd ⟨[u],[]⟩ [(x,u)])
  (Kw:∀H:Hp,wZ H→SqL K H a (ns.map V.int)→sp [.ref a] H (fun v _=>v = .bl true) fun _ _ _=>False)
  (MN:∀H e s',CX [] H s₁ (fun _ _ _=>False) e s'→False) :
  codeAny (model P w) callerA (.call (.ref fa) ⟨[.ref a],[]⟩) (fun r s'=>r = .ok (.ret (.bool true))∧OldK s₁.heap s'.heap∧s'.os=s₁.os∧AllBare s'.gens) s₁:=by
 have rv:=lU hi
 have MO:=hi.length
 -- from an abstract heap in which nothing but the script may be tracked
 have core:∀H:Hp,wZ H→SqL K H a (ns.map V.int)→G8 P w H s₁.heap→(∀b,H b≠none→b=a)→(H a≠none→K.lookup a=none)→
   codeAny (model P w) callerA (.call (.ref fa) ⟨[.ref a],[]⟩) (fun r s'=>r = .ok (.ret (.bool true))∧OldK s₁.heap s'.heap∧s'.os=s₁.os∧AllBare s'.gens) s₁:=by
  intro H hO hS hok hA hK
  have JP:∀{b:Addr} {o:Obj},s₁.heap.get? b=some o→H b=none→(mB s₁.heap H).get? b=some o:=fun e n=>tT e n
  have LP:∀{b:Addr} {o:Obj} {es:Array DictEntry} {ep:Nat},s₁.heap.get? b=some o→o.data = .dict es ep→H b=none:=fun{b o es ep} e d=>by
   cases q:H b with
   |none=>rfl
   |some u=>
    have e':b=a:=hA b (by rw[q];simp)
    subst e'
    rw[ha]at e;cases e
    have d':Data.seq vs.toArray _=Data.dict es ep:=d
    cases d'
  have Mm:∀{b:Addr} {m:Str→Option Value},s₁.heap.Ns b m→(mB s₁.heap H).Ns b m:=fun{b m} ⟨o,es,ep,e,d,r⟩=>⟨o,es,ep,JP e (LP e d),d,r⟩
  have NC:K.In (mB s₁.heap H):=fun b o e=>JP (KX b o e) (by
   cases q:H b with
   |none=>rfl
   |some u=>
    have e':b=a:=hA b (by rw[q];simp)
    subst e'
    rw[hK (by rw[q];simp)]at e;cases e)
  have hM:Mod K mg (mB s₁.heap H):=⟨NC,Mm hns,⟨mb,Mm hb,Oz⟩,let ⟨mc,h1,h2⟩:=hlim;⟨mc,Mm h1,h2⟩⟩
  have e0:Jz P w K mg (mB s₁.heap H) callerA [] s₁ H:=⟨rfl,hM,fun b o e=>wu e,Nat.le_of_eq (su _ _),trivial,fun b hb=>absurd (show b∈([]:List Addr)from hb) (by simp),hok,.of_eq hg⟩
  refine codeAny_mono ((F _ NC (Mm hns)).run callerA [] s₁ H ⟨[.ref a],[]⟩ [.ref a] [.ref a] _ _ hr e0 (hbind s₁ (.ref a)) (.cons rfl .nil) (Kw H hO hS)) fun r s' h=>?_
  cases r with
  |error e=>exact(MN H e s' h).elim
  |ok fl=>
   cases fl with
   |next=>exact False.elim h
   |brk=>exact False.elim h
   |cont=>exact False.elim h
   |ret u=>
    obtain⟨v,H',os,bare,un,MP,r',q⟩:=h
    have q':v = .bl true:=q
    subst q'
    obtain rfl:u=Value.bool true:=r'
    refine⟨rfl,OldK.of_keep fun b o e=>?_,os,bare⟩
    cases q:H b with
    |none=>exact un.keep b o e q (by intro z;exact absurd (show b∈([]:List Addr)from z) (by simp)) (by simp)
    |some u=>
     rcases hO b with z|⟨ob,xs,z⟩
     ·rw[q]at z;cases z
     ·have z2:=un.Ij b ob _ z
      obtain⟨e1,_⟩:=hok b _ z
      obtain⟨e2,_⟩:=MP b _ z2
      rw[e]at e1;cases e1
      exact e2
 cases hk:K.lookup a with
 |some o=>
  -- the script is one of the module's own objects
  have e:=KX a o hk
  rw[ha]at e
  cases e
  refine core (fun _=>none) (fun _=>.inl rfl) (.inr ⟨_,vs.toArray,_,hk,rfl,rfl,rfl,by rw[List.size_toArray,MO];exact hl,by simpa using rv⟩) (fun b u z=>by have z':(none:Option HO)=some u:=z;cases z') (fun b z=>absurd rfl z) fun z=>absurd rfl z
 |none=>
  refine core (fun b=>if b=a then some (.frz { cls:=.type "list",data:=.seq vs.toArray } (.lst (ns.map V.int))) else none) (fun b=>?_) (.inl (.inr ⟨{ cls:=.type "list",data:=.seq vs.toArray },if_pos rfl⟩)) (fun b u z=>?_) (fun b z=>?_) fun _=>hk
  ·by_cases hb:b=a
   ·exact .inr ⟨_,_,if_pos hb⟩
   ·exact .inl (if_neg hb)
  ·by_cases hb:b=a
   ·have z':=(if_pos hb).symm.trans z
    cases z'
    subst hb
    exact⟨ha,by rw[List.length_map];exact hl,vs,_,rv,ha⟩
   ·have z':=(if_neg hb).symm.trans z
    cases z'
  ·by_cases hb:b=a
   ·exact hb
   ·exact absurd (if_neg hb) z
theorem w4{l:PySem.W.OpenLaw}{n k:Nat}{q:Program}{loose:List Str}{XP:(Str→Option Value)→Heap→Prop}{YP:World→Heap→Prop}{d:DefRec}{K:Params→PySem.W.Frag}{CX:World→tP}{sp:World→Sp}{x:Str}
  (hn:l.most=some n) (hn2:n≤sizeLine) (hdf:d.params.defaults=[]) (hr:Room k callerA)
  (hY:∀(w:World) (h:Heap),YP w h→(K w.params).In h)
  (F:∀(w:World) (mg:Str→Option Value) (fa:Addr) (h:Heap),(K w.params).In h→h.Ns mainGlobals mg→mg d.name=some (.ref fa)→
   ∃fd:FuncData,(∀(s:Shared) (u:Value),BindsTo s fd ⟨[u],[]⟩ [(x,u)])∧
    ∀base:Heap,(K w.params).In base→base.Ns mainGlobals mg→dP l.prog w (K w.params) mg base (CX w) k fa fd [x] (sp w))
  (Kw:∀(w:World) (H:Hp) (a:Addr) (ns:List Int),ns.length≤n→wZ H→SqL (K w.params) H a (ns.map V.int)→sp w [.ref a] H (fun v _=>v = .bl true) fun _ _ _=>False)
  (MN:∀(w:World) (H:Hp) (s:Shared) (e:Value) (s':Shared),CX w [] H s (fun _ _ _=>False) e s'→False) :
  PySem.W.WalkO q loose XP YP l.row.toRowW d [] (fun f vs=>PySem.call f vs):=by
 refine Att.og hn hdf fun w s₀ s₁ mg mb fa o pm cd doc a vs ns G Y ho hd hcd hmg hobj hints hlen hg=>?_
 have KX:=hY w _ Y
 obtain⟨fd,hb,hF⟩:=F w mg fa _ KX G.T.g hmg
 exact uv KX G.T.g G.T.b G.T.builtins G.T.nolimit hg hobj hints (Nat.le_trans hlen hn2) hr hF hb (fun H hO hS=>Kw w H a ns hlen hO hS) fun H e s'=>MN w H s₁ e s'
noncomputable def bZ(s:Stmt):Arguments:=match s with
 | .FunctionDef _ a _ _ _ _ _ _ _ _=>a
 |_=>{ posonlyargs:=[],args:=[],vararg:=none,kwonlyargs:=[],kw_defaults:=[],kwarg:=none,defaults:=[] }
noncomputable def aR(s:Stmt):List Stmt:=match s with
 | .FunctionDef _ _ b _ _ _ _ _ _ _=>b
 |_=>[]
noncomputable def au(s:Stmt):Scope:=match s with
 | .FunctionDef _ _ _ _ _ _ sc _ _ _=>sc
 |_=>{ kind:=.function,names:=[],isGenerator:=false,isCoroutine:=false }
noncomputable abbrev pI:tP:=fun _ _ _ _ _ _=>False
noncomputable abbrev E0:XK:=fun _ _ _=>False
theorem ux{X:Cx}:iO pI X E0:=fun _ _ _ _ _ _ _ h=>h.elim
structure Kd (K:PySem.W.Frag) (x qual:Str) (st:Stmt) (f:Addr) (fd:FuncData):Prop where
 ex:∃(oc:Value) (od:Option Addr) (kV doc pm:Value) (an:Option Addr) (cdv ct:Value) (osl:Array (Option Value)),
  fd=PySem.W.fnOf x qual (bZ st) (aR st) (au st) .none kV doc pm an cdv ct∧K.lookup f=some ⟨oc,od,.func fd,osl⟩∧PySem.W.codeIn K cdv qual=true
 kp:PySem.W.keepIn K (.ref f)=true
section
variable {P:Program} {w:World} {K:PySem.W.Frag} {mg:Str→Option Value} {base:Heap}
theorem Kd.ok{x qual:Str}{st:Stmt}{f:Addr}{fd:FuncData}{N ps:List Str}{k:Nat}{sp:Sp}(F:Kd K x qual st f fd)(S:bL N ps (au st))(len:∀vs H Q E,sp vs H Q E→vs.length=ps.length)
  (hbody:∀(cdv:Value) (A:Around) (outer:List Env) (s:Shared) (H:Hp) (vs:List V) (Q:VK) (E:XK),Room k (A.deeper (envOfC qual (au st) s.heap.objs.size f cdv))→sp vs H Q E→
   ∃t,IN (gr pI P w K mg base N qual (au st) f cdv A outer s H E).JY (aR st) t∧t { nx:=fun _ H'=>Q .non H',rt:=Q } (fe N vs) H):dP P w K mg base pI (k+1) f fd ps sp:=by
 obtain⟨oc,od,kV,doc,pm,an,cdv,ct,osl,rfl,lk,hcd⟩:=F.ex
 refine uf lk hcd S len fun A outer s H vs Q E hr Kw=>?_
 obtain⟨t,h,q⟩:=hbody cdv A outer s H vs Q E hr Kw
 exact⟨t,h.JY,q⟩
theorem Kd.binds{x qual:Str}{st:Stmt}{f:Addr}{fd:FuncData}{ps:List Str}(F:Kd K x qual st f fd)
  (h:∀(kV doc pm:Value) (an:Option Addr) (cdv ct:Value) (us:List Value),us.length=ps.length→bindArgs (PySem.W.fnOf x qual (bZ st) (aR st) (au st) .none kV doc pm an cdv ct) ⟨us,[]⟩=pure (ps.zip us)):Binds K fd ps []:=by
 obtain⟨oc,od,kV,doc,pm,an,cdv,ct,osl,rfl,lk,hcd⟩:=F.ex
 exact .all (h kV doc pm an cdv ct)
theorem mK{x qual:Str}{st:Stmt}{f:Addr}{oc:Value}{od an:Option Addr}{osl:Array (Option Value)}{kV doc pm cdv ct:Value}(l:K.lookup f=some ⟨oc,od,.func (PySem.W.fnOf x qual (bZ st) (aR st) (au st) .none kV doc pm an cdv ct),osl⟩)
  (c:PySem.W.codeIn K cdv qual=true) (k:PySem.W.keepIn K (.ref f)=true):Kd K x qual st f (PySem.W.fnOf x qual (bZ st) (aR st) (au st) .none kV doc pm an cdv ct):=⟨⟨oc,od,kV,doc,pm,an,cdv,ct,osl,rfl,l,c⟩,k⟩
end
theorem cY{n:Nat}(h:n≤1000):n < sizeLine:=Nat.lt_of_le_of_lt h (by decide)
section
variable {X:Cx}
theorem pv(i:Nat){x:Str}{pos:Pos}(hN:X.N[i]?=some x:=by rfl)(hv:Bz X.env.scope x:=by first|exact Or.inl rfl|exact Or.inr (Or.inl rfl)|exact Or.inr (Or.inr rfl))(hd:(x == ("__debug__":Str))=false:=by decide)
  (hcd:(x == ("__classdict__":Str))=false:=by decide):PE X (.Name x pos) (sv i):=tU hN hv hd hcd
theorem sN:fm X (.builtin "len") (fun xs H Q=>∃a kvs,xs=[V.ref a]∧H a=some (.dK kvs)∧Q (.int kvs.length) H):=by
 intro pins s σ H xs us Q I r h
 obtain⟨a,kvs,rfl,ha,q⟩:=h
 obtain⟨u,rfl,ru⟩:=fo r
 cases ru
 exact B6 I (.inl ha) fun t s' I'=>⟨.int kvs.length,H,I',⟨t,rfl⟩,q⟩
end
def Same(H H':Hp):Prop:=∀b o,H b=some o→H' b=some o
theorem Same.trans{H H1 H2:Hp}(a:Same H H1)(b:Same H1 H2):Same H H2:=fun c o h=>b c o (a c o h)
theorem Same.free{H H':Hp}(e:Same H H'){l:Addr}(h:H' l=Option.none):H l=Option.none:=by
 cases q:H l with
 |none=>rfl
 |some o=>
  rw[e l o q]at h
  cases h
theorem Same.seq{K:PySem.W.Frag}{H H':Hp}{a:Addr}{xs:List V}(e:Same H H')(h:SqL K H a xs):SqL K H' a xs:=by
 rcases h with(h|⟨o,h⟩)|h
 ·exact .inl (.inl (e _ _ h))
 ·exact .inl (.inr ⟨o,e _ _ h⟩)
 ·exact .inr h
section
variable {κ:Type} [DecidableEq κ]
end
end L2
set_option maxHeartbeats 4000000
namespace L2
open PySem PySem.Spec PyProof.Rows
theorem mL{prog:Program}{w:World}{A:Around}{R:Result→Shared→Prop}{s:Shared}{elt target iter:Expr}{ifs:List Expr}{scope:Scope}{pos:Pos}{it acc:Value}{env:Env}(I:Nat→Shared→Prop)
  (turn:∀n s,I n s→wpAny (model prog w) A (pyNext it) (fun r s₁=>match r with
   |none=>R (.ok .next) s₁
   |some v=>wpAny (model prog w) A (letOwnedTupleGo target it v) (fun _ s₁'=>wpAny (model prog w) A (assign target env v) (fun _ s₂=>
     wpAny (model prog w) A (forIn ifs true fun c r=>if r=true then do let ok ←isTrue c env (eval c env);pure (ForInStep.yield ok) else pure (ForInStep.yield r)) (fun ok s₃=>
      if ok=true then wpAny (model prog w) A (eval elt env) (fun x s₄=>
       wpAny (model prog w) A (call (.builtin "list.append") [acc,x]) (fun _ s₅=>∃m,m < n∧I m s₅) (fun _ _=>False) s₄) (fun _ _=>False) s₃
      else ∃m,m < n∧I m s₃) (fun _ _=>False) s₂) (fun _ _=>False) s₁') (fun _ _=>False) s₁) (fun _ _=>False) s)
  (n:Nat) (h:I n s) :
  codeAny (model prog w) A (.compLoop (.ListComp elt [⟨target,iter,ifs,0⟩] scope pos) 0 it acc env) R s:=by
 refine codeAny_loop rfl I (fun n s hI=>?_) n h
 show wpAny _ A ((compTurn (.ListComp elt [⟨target,iter,ifs,0⟩] scope pos) 0 it acc env).onRaise (fun x=>do noteFrame x env;theTreesLotGoes x)) _ _ s
 refine wpAny_noted ?_
 rw[compTurn_list]
 refine wpAny_bind (wpAny_standAt (wpAny_bind (wpAny_mono (turn n s hI) (fun r s₁ h₁=>?_) fun _ _ h'=>h'.elim)))
 cases r with
 |none=>exact wpAny_pure h₁
 |some v=>
  refine wpAny_bind (wpAny_mono h₁ (fun _ s₁' h₁'=>?_) fun _ _ h'=>h'.elim)
  refine wpAny_bind (wpAny_mono h₁' (fun _ s₂ h₂=>wpAny_bind (wpAny_mono h₂ (fun ok s₃ h₃=>?_) fun _ _ h'=>h'.elim)) fun _ _ h'=>h'.elim)
  cases ok with
  |false=>exact wpAny_pure ⟨rfl,h₃⟩
  |true=>
   exact wpAny_bind (wpAny_bind (wpAny_mono h₃ (fun x s₄ h₄=>wpAny_bind (wpAny_mono h₄ (fun _ s₅ h₅=>wpAny_pure (wpAny_pure ⟨rfl,h₅⟩)) fun _ _ h'=>h'.elim)) fun _ _ h'=>h'.elim))
structure Bk where
 C:Addr
 s:Shared
 H:Hp
 fp:List Addr
 pn:List (Addr×Obj)
noncomputable def cb(env:Env)(fs:List Str):List (Str×Addr):=fs.map fun x=>(x,(env.cells.lookup x).getD 0)
noncomputable abbrev Cx.Hu(X:Cx)(N:List Str)(scope:Scope)(fs:List Str)(B:Bk):Cx:=
 { X with N:=N,s₀:=B.s,H₀:=B.H,env:=compEnvC scope (cb X.env fs) B.C X.env,outer:=X.stack,ex:=B.fp,fn:=fun _=>false,pn:=B.pn,xe:=fun _ _=>False }
noncomputable def b4(env:Env):List Str→Prop
 |[]=>True
 |x::r=>(∃c,env.cells.lookup x=some c)∧b4 env r
theorem jK{env:Env}:∀{fs:List Str},b4 env fs→∀{x:Str} {c:Addr},(cb env fs).lookup x=some c→env.cells.lookup x=some c
 |[],_,x,c,h=>by cases h
 |y::r,k,x,c,h=>by
  obtain⟨⟨d,hd⟩,k⟩:=k
  have h':List.lookup x ((y,(env.cells.lookup y).getD 0)::cb env r)=some c:=h
  rw[List.lookup_cons]at h'
  cases e:x == y with
  |true=>
   rw[e]at h'
   have e':x=y:=by simpa using e
   subst e'
   rw[hd]at h'
   rw[hd]
   exact h'
  |false=>
   rw[e]at h'
   exact jK k h'
noncomputable def hasB(names:List (Str×NameKind))(cl:List (Str×Addr)):Bool:=names.all fun y=>(y.2 != .cell&&y.2 != .free) || (cl.lookup y.1).isSome
theorem uy{names:List (Str×NameKind)}{cl:List (Str×Addr)}{x:Str}{k:NameKind}(h:hasB names cl=true)(e:names.lookup x=some k)(hk:k = .cell∨k = .free):∃c,cl.lookup x=some c:=by
 have hm:(x,k)∈names:=PySem.mem_of_lookup e
 have q:=List.all_eq_true.mp h _ hm
 have z:(cl.lookup x).isSome=true:=by
  rcases hk with rfl|rfl
  ·simpa using q
  ·simpa using q
 exact Option.isSome_iff_exists.mp z
noncomputable def Gq(env:Env)(scope:Scope)(cl:List (Str×Addr)):List Str→Prop
 |[]=>True
 |x::r=>((env.scope.names.lookup x=some .cell∨env.scope.names.lookup x=some .free)∧((relabel scope env).names.lookup x=some .cell∨(relabel scope env).names.lookup x=some .free)∧cl.lookup x=env.cells.lookup x)∧Gq env scope cl r
theorem Gq.mem{env:Env}{scope:Scope}{cl:List (Str×Addr)}:∀{l:List Str},Gq env scope cl l→∀x∈l,
  (env.scope.names.lookup x=some .cell∨env.scope.names.lookup x=some .free)∧((relabel scope env).names.lookup x=some .cell∨(relabel scope env).names.lookup x=some .free)∧cl.lookup x=env.cells.lookup x
 |[],_,x,h=>nomatch h
 |y::r,k,x,h=>by
  rcases List.mem_cons.mp h with rfl|h
  ·exact k.1
  ·exact Gq.mem k.2 x h
noncomputable def dX(own:Nat)(fr:List Nat)(σ:St):St:=List.replicate own none++fr.map fun j=>(σ[j]?).getD none
noncomputable abbrev iR(us:List Value):Obj:={ cls:=.type "list",data:=.seq us.toArray us.length }
theorem sO(us:List Value)(u:Value):({ cls:=.type "list",data:=.seq (us.toArray.push u) (us.length+1) }:Obj)=iR (us++[u]):=by
 show({ cls:=.type "list",data:=.seq (us.toArray.push u) (us.length+1) }:Obj)={ cls:=.type "list",data:=.seq (us++[u]).toArray (us++[u]).length }
 rw[List.length_append,List.length_singleton,List.push_toArray]
section
variable {X:Cx} {pins:List (Addr×Obj)} {σ:St} {H:Hp} {s:Shared}
theorem Inv.LU{D:Addr}{us:List Value}{n:Nat}{ys:List V}(I:Inv X pins σ H s)(f:Gk X pins H D)(e:s.heap.get? D=some { cls:=.type "list",data:=.seq us.toArray n })(r:Vals ys us)(hz:ys.length≤sizeLine) :
  Inv X pins σ (upd H D (.lst ys)) s:=by
 obtain⟨f0,f1,f2,f3,f4,f5⟩:=f
 have nD:∀b u,H b=some u→b≠D:=fun b u q=>aV q f0
 have hok:G8 X.prog X.w (upd H D (.lst ys)) s.heap:=fun b u q=>by
  by_cases hb:b=D
  ·subst hb
   rw[aq]at q
   cases q
   exact⟨hz,us,n,r,e⟩
  ·rw[ao hb]at q
   exact(I.hok b u q).stay (fun _ _ _ z=>z) (fun c z=>by rw[ao (nD c _ z)];exact z) fun c xs z=>by rw[ao (nD c _ z)];exact z
 exact I.step (H':=upd H D (.lst ys)) (h':=s.heap) (g':=s.gens) (t':=s.toks) (d':=s.drawn) (ch:=[D])
  (fun b hb=>by
   have z:b=D:=by simpa using hb
   subst z
   exact⟨f3,f1,f4,f5⟩)
  (fun _ _ _ _ _ q _=>q) (fun _ o _ _ _ q _=>⟨o.slots,q⟩)
  (fun b o hb _ n=>by rw[ao (fun z=>hb (by simp[z]))];exact n)
  (fun _ o _ q=>⟨o,q⟩) (fun b xs q=>by rw[ao (nD b _ q)];exact q) (fun b o u q=>by rw[ao (nD b _ q)];exact q)
  (fun b ps q=>⟨#[],by rw[ao (nD b _ q),q];simp⟩) (fun _ q=>q) hok I.bare
theorem zI{N:List Str}{scope:Scope}{fs:List Str}{C:Addr}{fp:List Addr}(I:Inv X pins σ H s)(hkind:scope.kind = .function)(hC:s.heap.objs.size≤C)(hcl:b4 X.env fs)
  (hhas:hasB (relabel scope X.env).names (cb X.env fs)=true) (hf:∀b∈fp,Gk X pins H b) (hlt:∀b∈fp,b < s.heap.objs.size):(X.Hu N scope fs ⟨C,s,H,fp,X.pn++pins⟩).Ok where
 mod:=I.ok.mod
 kind:=hkind
 glob:=I.ok.glob
 blt:=I.ok.blt
 above:=hC
 inj:=fun x y c h1 h2=>I.ok.inj x y c (jK hcl h1) (jK hcl h2)
 has:=fun x hx=>by
  rcases hx with e|e
  ·exact uy hhas e (.inl rfl)
  ·exact uy hhas e (.inr rfl)
 Kv:=fun x c h=>by cases h
 hd:=I.ok.hd
 frames:=I.ok.frames
 stk:=.inl rfl
 K7:=fun b hb=>⟨Nat.ne_of_lt (Nat.lt_of_lt_of_le (hlt b hb) hC),fun x c e=>(hf b hb).2.2.2.2.1 x c (jK hcl e)⟩
 bs:=I.bs
 JN:=Nat.le_trans I.ok.JN I.sz
 IO:=fun b o e hb=>(hf b hb).2.2.2.1.elim (fun z=>I.ok.IO b o e z) fun z=>absurd (Nat.lt_of_lt_of_le (Heap.lt_size e) (Nat.le_trans I.ok.JN z)) (Nat.lt_irrefl _)
 IU:=fun b hb z=>(List.mem_cons.mp (I.HU b z)).elim (hf b hb).2.1 (hf b hb).2.2.1
 Hi:=I.stack
 Kc:=I.IV
theorem w5{N:List Str}{scope:Scope}{fs:List Str}{C D:Addr}{fp:List Addr}{own:Nat}{fr:List Nat}{h₁:Heap}{m0:Str→Option Value}{t':Nat}(I:Inv X pins σ H s)
  (ok:(X.Hu N scope fs ⟨C,s,H,fp,X.pn++pins⟩).Ok) (hC:s.heap.objs.size≤C) (hD:s.heap.objs.size≤D) (hDC:D≠C) (hcl:b4 X.env fs)
  (old:∀b o,s.heap.get? b=some o→h₁.get? b=some o) (hns:h₁.Ns C m0) (hacc:h₁.get? D=some (iR [])) (hlen:N.length=own+fr.length) (hN:(N.drop own).map some=fr.map fun j=>X.N[j]?)
  (hF:Gq X.env scope (cb X.env fs) (N.drop own)) :
  Inv (X.Hu N scope fs ⟨C,s,H,fp,X.pn++pins⟩) [(D,iR [])] (dX own fr σ) H { s with heap:=h₁,toks:=t' }:=by
 refine⟨ok,rfl,I.bare,Un.kept old,⟨m0,hns,fun i x v e1 e2 e3=>?_⟩,fun x c e=>?_,I.hok.fresh hC,fun x c e=>I.Gz x c (jK hcl e),fun p hp=>?_,I.hok.kept old,?_⟩
 ·have e1:N[i]?=some x:=e1
  by_cases hi:i < own
  ·unfold dX at e2
   rw[List.getElem?_append_left (by rw[List.length_replicate];exact hi),List.getElem?_replicate,if_pos hi]at e2
   cases e2
  ·obtain⟨k,rfl⟩:∃k,i=own+k:=⟨i - own,by omega⟩
   have e1':(N.drop own)[k]?=some x:=by rw[List.getElem?_drop];exact e1
   have q:=congrArg (fun l=>l[k]?) hN
   simp only[List.getElem?_map,e1',Option.map_some]at q
   unfold dX at e2
   rw[List.getElem?_append_right (by rw[List.length_replicate];omega),List.length_replicate,Nat.add_sub_cancel_left,List.getElem?_map]at e2
   cases hj:fr[k]? with
   |none=>rw[hj]at e2;cases e2
   |some j=>
    rw[hj]at e2 q
    simp only[Option.map_some,Option.some.injEq]at e2 q
    have hσ:σ[j]?=some (some v):=by
     cases z:σ[j]? with
     |none=>rw[z]at e2;cases e2
     |some w=>rw[z]at e2;simp only[Option.getD_some]at e2;rw[e2]
    obtain⟨k1,k2,k3⟩:=hF.mem x (List.mem_of_getElem? e1')
    obtain⟨m,hn,hl⟩:=I.loc
    have vis:Bz X.env.scope x:=by
     rcases k1 with z|z
     ·exact .inr (.inl z)
     ·exact .inr (.inr z)
    obtain⟨u,ru,l⟩:=hl j x v q.symm hσ vis
    rcases l with⟨hk,_⟩|⟨_,c,hc,o,ho,hd⟩
    ·have hk':X.env.scope.names.lookup x=some .local:=hk
     rcases k1 with z|z
     ·rw[z]at hk';cases hk'
     ·rw[z]at hk';cases hk'
    ·exact⟨u,ru,.inr ⟨k2,c,k3.trans hc,o,old _ _ ho,hd⟩⟩
 ·obtain⟨v,o,ho,hd⟩:=I.cell x c (jK hcl e)
  exact⟨v,o,old _ _ ho,hd⟩
 ·rcases List.mem_append.mp hp with z|z
  ·obtain⟨e,n,ne,nf,d⟩:=I.pin p z
   exact⟨old _ _ e,n,Nat.ne_of_lt (Nat.lt_of_lt_of_le (Heap.lt_size e) hC),fun q=>(List.mem_cons.mp (I.HU _ q)).elim ne nf,d⟩
  ·have z':p=(D,iR []):=by simpa using z
   subst z'
   exact⟨hacc,I.hok.fresh hD,hDC,fun q=>(List.mem_cons.mp (I.HU _ q)).elim (fun e=>absurd e (Nat.ne_of_gt (Nat.lt_of_lt_of_le I.lt hD))) (I.LK hD),fun v z=>by cases z⟩
 ·show(dX own fr σ).length=N.length
  unfold dX
  rw[List.length_append,List.length_replicate,List.length_map,hlen]
end
def PF(X:Cx)(ifs:List Expr)(t:TT):Prop:=
 ∀(pins:List (Addr×Obj)) (s:Shared) (σ:St) (H:Hp) (Q:Bool→Hp→Prop),Inv X pins σ H s→t σ H Q→
  wpAny (model X.prog X.w) X.A (forIn ifs true fun c r=>if r=true then do let ok ←isTrue c X.env (eval c X.env);pure (ForInStep.yield ok) else pure (ForInStep.yield r)) (TP X pins σ Q) X.xe s
def DT:TT:=fun _ H Q=>Q true H
theorem zJ{X:Cx}:PF X [] DT:=fun _ _ _ H _ I h=>wpAny_tests_nil ⟨H,I,h⟩
theorem zK{X:Cx}{c:Expr}{t:TT}(h:PT X c t):PF X [c] t:=fun pins s σ H Q I q=>wpAny_tests_one (h pins s σ H Q I q)
def yF(J:It)(g:TG)(tc:TT)(te:TE)(own:Nat)(σ':St)(fin:List V→Hp→Prop)(H1:Hp):Prop:=
 ∃W:Nat→Nat→List V→Hp→Prop,(∃m,W 0 m [] H1)∧∀i m ys H,W i m ys H→
  (J.stop i H∧ys.length≤sizeLine∧fin ys H) ∨
  (J.go i H∧ys.length≤sizeLine∧∃Nx:List V→Hp→Prop,(∀ys' H',Nx ys' H'→∃m',m' < m∧W (i+1) m' ys' H')∧∀x H',J.Ml i H x H'→g x σ' H' fun σ2 H2=>σ2.drop own=σ'.drop own∧tc σ2 H2 fun b H3=>
   if b=true then te σ2 H3 fun y H4=>Nx (ys++[y]) H4 else Nx ys H3)
section
variable {X:Cx} {pins:List (Addr×Obj)} {σ:St} {H:Hp} {s:Shared}
variable {elt iter tg:Expr} {ifs:List Expr} {scope:Scope} {pos:Pos} {N:List Str} {own:Nat} {fr:List Nat} {fs:List Str} {g:TG} {tc:TT} {te:TE}
theorem kn{J:It}{fp:List Addr}{it:Addr}{tn:Nat→Heap→Prop}{fin:List V→Hp→Prop}{E:Value→Shared→Prop}{RR:Value→Addr→Result→Shared→Prop}
  (hc:X.calm=true) (hcell:∀y∈scope.names,y.2 ≠ .cell) (hkind:scope.kind = .function) (hcl:b4 X.env fs) (hhas:hasB (relabel scope X.env).names (cb X.env fs)=true)
  (hlen:N.length=own+fr.length) (hN:(N.drop own).map some=fr.map fun j=>X.N[j]?) (hF:Gq X.env scope (cb X.env fs) (N.drop own))
  (hg:∀B,PG (X.Hu N scope fs B) tg g) (hf:∀B,PF (X.Hu N scope fs B) ifs tc) (he:∀B,PE (X.Hu N scope fs B) elt te)
  (I:Inv X pins σ H s) (T:nY X.prog X.w X.K tg J fp it tn) (st:tn 0 s.heap) (f:∀b∈fp,Gk X pins H b) (W:yF J g tc te own (dX own fr σ) fin H)
  (hRR:∀D C s' ys H' m',Inv X pins σ (upd H' D (.lst ys)) s'→H' D=none→s'.heap.Ns C m'→Gk X pins (upd H' D (.lst ys)) C→fin ys H'→RR (.ref D) C (.ok .next) s') :
  wpAny (model X.prog X.w) X.A (newList []) (fun acc s₃=>wpAny (model X.prog X.w) X.A (newFunctionEnv scope X.env.globals (cb X.env fs) [] X.env.qual none .none (some X.env)) (fun cenv s₄=>
   codeAny (model X.prog X.w) X.A (.compStart (.ListComp elt [⟨tg,iter,ifs,0⟩] scope pos) 0 (.ref it) acc { cenv with scope:=relabel scope X.env }) (RR acc cenv.locals) s₄) E s₃) E s:=by
 refine wpAny_newObj_type (wpAny_newFunctionEnv hcell (by intro y hy;simp at hy) (fun h₁ Ld KC=>?_) hkind)
 dsimp only at Ld KC ⊢
 generalize MQ:s.heap.push { cls:=.type "list",dict:=none,data:=.seq ([]:List Value).toArray }=H2 at Ld KC ⊢
 have hC:H2.objs.size=s.heap.objs.size+1:=by rw[←MQ,Heap.size_push]
 have Le:s.heap.objs.size≤H2.objs.size:=by rw[hC];exact Nat.le_succ _
 have hDC:s.heap.objs.size≠H2.objs.size:=by rw[hC];exact Nat.ne_of_lt (Nat.lt_succ_self _)
 have below:∀b,b < s.heap.objs.size→b≠H2.objs.size∧b≠s.heap.objs.size:=fun b hb=>⟨by rw[hC];exact Nat.ne_of_lt (Nat.lt_succ_of_lt hb),Nat.ne_of_lt hb⟩
 have old:∀b o,s.heap.get? b=some o→h₁.get? b=some o:=fun b o e=>KC.extBut b o (below b (Heap.lt_size e)).1 (Heap.get?_push_of_some _ (MQ▸Heap.get?_push_of_some _ e))
 have hacc:h₁.get? s.heap.objs.size=some (iR []):=KC.extBut _ _ hDC (Heap.get?_push_of_some _ (MQ▸Heap.get?_push_size _ rfl))
 have hlt:∀b∈fp,b < s.heap.objs.size:=fun b hb=>by
  obtain⟨o,e,_⟩:=T.obj 0 _ st b hb
  exact Heap.lt_size e
 obtain⟨Wv,⟨m0,w0⟩,turn⟩:=W
 have ok:=zI (N:=N) I hkind Le hcl hhas f hlt
 have loop:∀s₃:Shared,s₃={ s with heap:=h₁,toks:=s.toks+([]:List (Str×Value)).length }→
   codeAny (model X.prog X.w) X.A (.compLoop (.ListComp elt [⟨tg,iter,ifs,0⟩] scope pos) 0 (.ref it) (.ref s.heap.objs.size) (compEnvC scope (cb X.env fs) H2.objs.size X.env))
    (RR (.ref s.heap.objs.size) H2.objs.size) s₃:=by
  rintro s₃ rfl
  have I0:=w5 (own:=own) (fr:=fr) (t':=s.toks+([]:List (Str×Value)).length) I ok Le (Nat.le_refl _) hDC hcl old Ld hacc hlen hN hF
  have OC:tn 0 h₁:=T.keep 0 _ _ st fun b _ o e=>old b o e
  have stat:∀{us:List Value} {H':Hp},(∀b∈fp,H' b=none)→∀b∈fp,Gk (X.Hu N scope fs ⟨H2.objs.size,s,H,fp,X.pn++pins⟩) [(s.heap.objs.size,iR us)] H' b:=fun{us H'} hn b hb=>by
   obtain⟨f0,f1,f2,f3,f4,f5⟩:=f b hb
   refine⟨hn b hb,(below b (hlt b hb)).1,fun z=>(List.mem_cons.mp (I.HU b z)).elim f1 f2,.inl hb,fun x c e=>f4 x c (jK hcl e),fun p hp=>?_⟩
   rcases List.mem_append.mp hp with z|z
   ·exact f5 p z
   ·have z':p=(s.heap.objs.size,iR us):=by simpa using z
    subst z'
    exact Ne.symm (below b (hlt b hb)).2
  have MR:∀p∈X.pn++pins,p.1 < s.heap.objs.size:=fun p hp=>Heap.lt_size (I.pin p hp).1
  refine mL (fun k s'=>∃i ys us H',Inv (X.Hu N scope fs ⟨H2.objs.size,s,H,fp,X.pn++pins⟩) [(s.heap.objs.size,iR us)] (dX own fr σ) H' s'∧Vals ys us∧tn i s'.heap∧(∀b∈fp,H' b=none)∧Wv i k ys H') ?_ m0
   ⟨0,[],[],H,I0,.nil,OC,fun b hb=>(f b hb).1,w0⟩
  rintro n s' ⟨i,ys,us,H',I',rv,st',ND,w'⟩
  rcases turn i n ys H' w' with⟨stop,hz,MS⟩|⟨go,hz,Nx,NE,step⟩
  ·refine FI (T.done (X.Hu N scope fs ⟨H2.objs.size,s,H,fp,X.pn++pins⟩) rfl rfl rfl hc i _ s' _ H' (fun _ _=>False) I' (stat ND) st' stop) (fun r s1 ⟨hr,I1⟩=>?_)
   subst hr
   show RR _ _ (.ok .next) s1
   have IX:Inv X pins σ H' s1:=I.KO I1.os I1.base I1.hok I1.bare fun b hb=>by
    obtain⟨f0,f1,f2,f3,f4,f5⟩:=f b hb
    exact⟨f3,f1,f4,f5⟩
   obtain⟨eD,nD,_⟩:=I1.pin (s.heap.objs.size,iR us) (by simp)
   have IT:=IX.LU (I.HB (H':=H') (Nat.le_refl _) nD) eD rv hz
   obtain⟨m',hn',_⟩:=I1.loc
   exact hRR _ _ s1 ys H' m' IT nD hn' (I.HB Le (by rw[ao (Ne.symm hDC)];exact I1.free)) MS
  ·refine FI (T.item (X.Hu N scope fs ⟨H2.objs.size,s,H,fp,X.pn++pins⟩) rfl rfl rfl hc i _ s' _ H' (fun _ _=>False) I' (stat ND) st' go) (fun r s1 ⟨u,hr,h1⟩=>?_)
   subst hr
   show wpAny _ _ (letOwnedTupleGo tg (.ref it) u) _ _ s1
   refine FI h1 (fun _ s5 ⟨x,H5,I5,r5,y5,Ky,MG⟩=>?_)
   have MH:=I5.pinned (stat MG) (T.obj _ _ Ky)
   refine FI (hg _ _ s5 _ H5 x u _ MH r5 (step x H5 y5)) (fun _ s6 ⟨σ6,H6,I6,OD,q6⟩=>?_)
   refine FI (hf _ _ s6 σ6 H6 _ I6 q6) (fun b s7 ⟨H7,I7,q7⟩=>?_)
   -- Lf the turn's own names
   have forget:∀{H8:Hp} {s8:Shared} {pl:List (Addr×Obj)},Inv (X.Hu N scope fs ⟨H2.objs.size,s,H,fp,X.pn++pins⟩) pl σ6 H8 s8→Inv (X.Hu N scope fs ⟨H2.objs.size,s,H,fp,X.pn++pins⟩) pl (dX own fr σ) H8 s8:=fun{H8 s8 pl} I8=>by
    refine I8.weak (I0.len.trans I8.len.symm) fun j v e=>?_
    by_cases hj:j < own
    ·unfold dX at e
     rw[List.getElem?_append_left (by rw[List.length_replicate];exact hj),List.getElem?_replicate,if_pos hj]at e
     cases e
    ·obtain⟨k,rfl⟩:∃k,j=own+k:=⟨j - own,by omega⟩
     rw[←List.getElem?_drop]at e ⊢
     rw[OD]
     exact e
   have Mn:∀{H8:Hp} {s8:Shared},Inv (X.Hu N scope fs ⟨H2.objs.size,s,H,fp,X.pn++pins⟩) ([(s.heap.objs.size,iR us)]++ke fp s5.heap) σ6 H8 s8→∀b∈fp,∀o,s5.heap.get? b=some o→s8.heap.get? b=some o∧H8 b=none:=fun I8 b hb o e=>
    let z:=I8.pin (b,o) (List.mem_append_right _ (List.mem_append_right _ (gJ hb e)))
    ⟨z.1,z.2.1⟩
   cases b with
   |false=>
    show ∃m,m < n∧_
    obtain⟨m',hm,w7⟩:=NE _ _ (show Nx ys H7 from q7)
    refine⟨m',hm,i+1,ys,us,H7,(forget I7).HK,rv,T.keep _ _ _ Ky fun b hb o e=>(Mn I7 b hb o e).1,fun b hb=>?_,w7⟩
    obtain⟨o,e,_⟩:=T.obj _ _ Ky b hb
    exact(Mn I7 b hb o e).2
   |true=>
    show wpAny _ _ (eval elt _) _ _ s7
    have OE:te σ6 H7 fun y H4=>Nx (ys++[y]) H4:=q7
    refine FI (he _ _ s7 σ6 H7 _ I7 OE) (fun v s8 ⟨y,H8,I8,r8,n8⟩=>?_)
    obtain⟨m',hm,w8⟩:=NE _ _ n8
    obtain⟨eD,nD,NF,OF,_⟩:=I8.pin (s.heap.objs.size,iR us) (List.mem_append_right _ (List.mem_append_left _ (by simp)))
    refine append_at (hsz:=by show us.toArray.size≤sizeLine;rw[List.size_toArray,←rv.length];exact hz) eD fun h9 NG OG=>?_
    have J0:Inv (X.Hu N scope fs ⟨H2.objs.size,s,H,fp,X.pn++pins⟩) [] σ6 H8 s8:=I8.Iq fun p hp=>nomatch hp
    have J1:Inv (X.Hu N scope fs ⟨H2.objs.size,s,H,fp,X.pn++pins⟩) [] σ6 H8 { s8 with heap:=h9 }:=J0.turned (t':=s8.toks) (it:=s.heap.objs.size) (fun b o hb e=>(NG.2 b hb).trans e) nD NF (.inr (Nat.le_refl _))
     (fun x c e z=>by
      obtain⟨v',q⟩:=I.cell x c (jK hcl e)
      exact absurd (Nat.lt_of_lt_of_le q.lt (by rw[z];exact Nat.le_refl _)) (Nat.lt_irrefl _))
     (fun p hp=>by
      rw[List.append_nil]at hp
      exact Nat.ne_of_lt (MR p hp))
    have J2:Inv (X.Hu N scope fs ⟨H2.objs.size,s,H,fp,X.pn++pins⟩) [(s.heap.objs.size,iR (us++[v]))] σ6 H8 { s8 with heap:=h9 }:=J1.Iq fun p hp=>by
     have z':p=(s.heap.objs.size,iR (us++[v])):=by simpa using hp
     subst z'
     exact⟨OG.trans (congrArg some (sO us v)),nD,NF,OF,fun v z=>by cases z⟩
    refine⟨m',hm,i+1,ys++[y],us++[v],H8,forget J2,Vals.append rv (.cons r8 .nil),T.keep _ _ _ Ky fun b hb o e=>(NG.2 b (below b (hlt b hb)).2).trans (Mn I8 b hb o e).1,fun b hb=>?_,w8⟩
    obtain⟨o,e,_⟩:=T.obj _ _ Ky b hb
    exact(Mn I8 b hb o e).2
 exact codeAny_compStart_list (loop _ rfl) (T.self _ 0 _ _ _ (T.keep 0 _ _ st fun b _ o e=>old b o e) (loop _ rfl))
def uz(wi:TI)(g:TG)(tc:TT)(te:TE)(own:Nat)(fr:List Nat):TE:=fun σ H Q=>wi σ H fun J H1=>
 yF J g tc te own (dX own fr σ) (fun ys H2=>∀D,H2 D=none→Q (.ref D) (upd H2 D (.lst ys))) H1
theorem w9(fs:List Str)(own:Nat)(fr:List Nat)(N:List Str){wi:TI}(hc:X.calm=true)(hclos:closureFor scope X.env=pure (cb X.env fs))(hcell:∀y∈scope.names,y.2 ≠ .cell)(hkind:scope.kind = .function)
  (hnames:∀x∈scope.names,x.2 = .local→scope.names.lookup x.1=some .local) (hcl:b4 X.env fs) (hhas:hasB (relabel scope X.env).names (cb X.env fs)=true)
  (hlen:N.length=own+fr.length) (hN:(N.drop own).map some=fr.map fun j=>X.N[j]?) (hF:Gq X.env scope (cb X.env fs) (N.drop own))
  (hi:PI X tg iter wi) (hg:∀B,PG (X.Hu N scope fs B) tg g) (hf:∀B,PF (X.Hu N scope fs B) ifs tc) (he:∀B,PE (X.Hu N scope fs B) elt te)
  (hs:∀x,foldedSetIterable iter X.env x=pure x:=by intro _;rfl):PE X (.ListComp elt [⟨tg,iter,ifs,0⟩] scope pos) (uz wi g tc te own fr):=by
 intro pins s σ H Q I h
 rw[eval_ListComp]
 refine wpAny_comprehension_free (use:=none) (g:=⟨tg,iter,ifs,0⟩) (gs:=[]) rfl hs hclos hkind hnames (FI (hi pins s σ H _ I h) fun v s1 h1=>FI h1 fun itv s2 h2=>?_)
 obtain⟨it,fp,tn,J,H2,e,I2,T,st2,f2,W⟩:=h2
 subst e
 refine kn (RR:=fun acc C=>compPost (model X.prog X.w) X.A X.xe none (EP X pins σ Q) acc C) hc hcell hkind hcl hhas hlen hN hF hg hf he I2 T st2 f2 W ?_
 intro D C s' ys H' m' I' nD hn fC fin
 exact⟨m',hn,fun h' hs'=>⟨.ref D,_,I'.turned (t':=s'.toks) (fun b o hb e=>(hs'.2 b hb).trans e) fC.1 fC.2.1 fC.2.2.2.1 fC.2.2.2.2.1 fC.2.2.2.2.2,rfl,fin D nD⟩⟩
theorem w_(fs:List Str)(own:Nat)(fr:List Nat)(N:List Str){wi:TI}{i:Nat}{y:Str}{py spos:Pos}(hX:X.N.Nodup)(hix:X.N[i]?=some y)(hy:X.env.scope.names.lookup y=some .local)
  (hsw:swapsWith (.ListComp elt [⟨tg,iter,ifs,0⟩] scope pos) (some (.Name y py)) spos.line X.env=pure true)
  (hc:X.calm=true) (hclos:closureFor scope X.env=pure (cb X.env fs)) (hcell:∀y∈scope.names,y.2 ≠ .cell) (hkind:scope.kind = .function)
  (hnames:∀x∈scope.names,x.2 = .local→scope.names.lookup x.1=some .local) (hcl:b4 X.env fs) (hhas:hasB (relabel scope X.env).names (cb X.env fs)=true)
  (hlen:N.length=own+fr.length) (hN:(N.drop own).map some=fr.map fun j=>X.N[j]?) (hF:Gq X.env scope (cb X.env fs) (N.drop own))
  (hi:PI X tg iter wi) (hg:∀B,PG (X.Hu N scope fs B) tg g) (hf:∀B,PF (X.Hu N scope fs B) ifs tc) (he:∀B,PE (X.Hu N scope fs B) elt te)
  (hs:∀x,foldedSetIterable iter X.env x=pure x:=by intro _;rfl):PS X (.Assign [.Name y py] (.ListComp elt [⟨tg,iter,ifs,0⟩] scope pos) spos) (wC (uz wi g tc te own fr) (nX i)):=by
 intro pins s σ H D I h
 rw[exec_Assign_Name_used _ _ _ _ hsw]
 refine wpAny_bind (wpAny_standAt (wpAny_bind ?_))
 show wpAny _ X.A (do let _ ←comprehension (.ListComp elt [⟨tg,iter,ifs,0⟩] scope pos) scope X.env _ (newList []) false (eval iter X.env) (some (assign (.Name y py) X.env))) _ _ s
 refine wpAny_bind (wpAny_mono (wpAny_comprehension_free (use:=some (assign (.Name y py) X.env)) (Q:=fun _ s'=>SP X pins D .next s') (g:=⟨tg,iter,ifs,0⟩) (gs:=[]) rfl hs hclos hkind hnames
  (FI (hi pins s σ H _ I h) fun v s1 h1=>FI h1 fun itv s2 h2=>?_)) (fun _ s' hq=>wpAny_pure (wpAny_pure hq)) fun _ _ e=>e)
 obtain⟨it,fp,tn,J,H2,e,I2,T,st2,f2,W⟩:=h2
 subst e
 refine kn (RR:=fun acc C=>compPost (model X.prog X.w) X.A X.xe (some (assign (.Name y py) X.env)) (fun _ s'=>SP X pins D .next s') acc C) hc hcell hkind hcl hhas hlen hN hF hg hf he I2 T st2 f2 W ?_
 intro Da C s' ys H' m' I' nD hn fC fin
 show wpAny _ X.A (assign (.Name y py) X.env (.ref Da)) _ _ s'
 refine wpAny_assign_Name (lL (v:=.ref Da) I' hX hix (.inl hy) rfl (fun s2 I3 ⟨a,sb,ha⟩=>?_) (.inr hy))
 have ca:C≠a:=by
  rcases ha with z|z
  ·rw[z];exact fC.2.1
  ·exact Ne.symm (fC.2.2.2.2.1 _ _ z)
 exact⟨m',hn.sameBut sb ca,fun h' hs'=>⟨_,_,I3.turned (t':=s2.toks) (fun b o hb e=>(hs'.2 b hb).trans e) fC.1 fC.2.1 fC.2.2.2.1 fC.2.2.2.2.1 fC.2.2.2.2.2,fin Da nD⟩⟩
end
end L2
namespace PySem
open Sem (wp)
namespace F
theorem sP:typeLookup (.type "list_reverseiterator") "__len__" = pure none:=by rw[typeLookup_type,builtinLookup_eq_fast];kernel_rfl
theorem uA:typeLookup (.type "list_reverseiterator") "__length_hint__" = pure (some (.builtin "list_reverseiterator.__length_hint__")):=by rw[typeLookup_type,builtinLookup_eq_fast];kernel_rfl
end F
section
variable {prog:Program} {w:World} {A:Around} {s:Shared} {R:Result→Shared→Prop}
variable {I:Addr} {fp wr:List Addr} {G:Array GenState→Array GenState→Prop} {n:Nat} {P:Nat→Value→Prop} {St:Nat→Shared→Prop}
theorem p8(W:WalksS prog w A.in1 I fp wr G n P St)(hT:∀i s,St i s→s.TypeIs (.ref I) "list_reverseiterator")(S:Addr)(res:Value)(c₀:Nat)(hst:St 0 s)(hSf:S ∉ fp)(hI:I∈fp)
  (hS:s.heap.get? S=some { cls:=.type "list",data:=.seq #[] c₀ })
  (hR:∀s' acc' c',Moved (S::wr) G s s'→s'.heap.get? S=some { cls:=.type "list",dict:=none,data:=.seq acc' c',slots:=#[] }→ItemsOf P acc' n→R (.ok (.ret res)) s') (hn:n≤sizeLine) :
  wpAny (model prog w) A.in1 (Builtin.List.listExtendWith (.ref S) (.ref I) res)
   (fun fin s'=>match fin with | .done f=>R (.ok f) s' | .again c'=>c'.quiet=true∧codeAny (model prog w) A c' R s') (fun e s'=>R (.error e) s') s:=by
 have hSI:S≠I:=fun e=>hSf (e▸hI)
 have h1:Builtin.List.listSameRef (.ref S) (.ref I)=false:=by simp[Builtin.List.listSameRef,hSI]
 unfold Builtin.List.listExtendWith
 refine wpAny_bind (wpAny_typeOf (hT 0 _ hst) ?_)
 rw[if_neg (by rw[h1];decide)]
 refine wpAny_bind (W.self 0 _ _ _ hst ?_)
 refine wpAny_bind (wpAny_holding ?_)
 unfold Builtin.List.listLengthHint
 refine wpAny_bind (wpAny_specialOf (hT 0 _ hst) F.sP ?_)
 show wpAny _ A.in1 (specialOf (Value.ref I) (Str.ofString "__length_hint__") >>= _) _ _ _
 refine wpAny_bind (wpAny_specialOf (hT 0 _ hst) F.uA ?_)
 (generalize hid:("list_reverseiterator.__length_hint__":String)=OH;wp_delta;rw[show splitId OH=some ("list_reverseiterator","__length_hint__")from by subst hid;decide +kernel];subst hid)
 refine wpAny_bind (wpAny_isInstance (b:=true) (hT 0 _ hst) (by rw[isSubtype_type];kernel_rfl) ?_)
 refine wpAny_pure ?_
 rw[if_neg (by decide)]
 exact wpAny_pure ⟨plainId_quiet F.plain_extend_loop _,codeAny_extend_loopS W hn _ hSf _ n 0 _ _ _ rfl (Nat.zero_le _) hst hS (ItemsOf.nil P) fun s' acc' c' hm hS' hacc=>hR s' acc' c' hm hS' hacc⟩
theorem lw(W:WalksS prog w A.in1 I fp wr G n P St)(hT:∀i s,St i s→s.TypeIs (.ref I) "list_reverseiterator")(S:Addr)(hst:St 0 s)(hSf:S ∉ fp)(hI:I∈fp)
  (hS:s.heap.get? S=some { cls:=.type "list",data:=.seq #[] })
  (hR:∀s' acc' c',Moved (S::wr) G s s'→s'.heap.get? S=some { cls:=.type "list",dict:=none,data:=.seq acc' c',slots:=#[] }→ItemsOf P acc' n→R (.ok (.ret .none)) s') (hn:n≤sizeLine) :
  wpAny (model prog w) A.in1 (Builtin.«list.__init__» ⟨[.ref S,.ref I],[]⟩)
   (fun fin s'=>match fin with | .done f=>R (.ok f) s' | .again c'=>c'.quiet=true∧codeAny (model prog w) A c' R s') (fun e s'=>R (.error e) s') s:=by
 show wpAny _ A.in1 (do let old ←Builtin.List.listItems (.ref S);Builtin.List.listUpdate (.ref S) (fun _=>#[]);letGo old.toList.reverse;Builtin.List.listExtendWith (.ref S) (.ref I) .none) _ _ s
 refine wpAny_bind ?_
 unfold Builtin.List.listItems
 refine wpAny_bind (wpAny_seqItems hS rfl (wpAny_pure ?_))
 show wpAny _ A.in1 (updateSeq S (fun _=>#[]) >>= fun _=>letGo (#[]:Array Value).toList.reverse >>= fun _=>Builtin.List.listExtendWith (.ref S) (.ref I) .none) _ _ s
 refine wpAny_bind (wpAny_updateSeq hS rfl ?_)
 have OI:=Heap.get?_update_self (Obj.mapSeq (fun _=>(#[]:Array Value))) hS rfl
 have NH:∀b o,b≠S→s.heap.get? b=some o→(s.heap.update S (Obj.mapSeq (fun _=>(#[]:Array Value)))).get? b=some o:=
  fun b o hb e=>(Heap.get?_update_other _ _ (Ne.symm hb)).trans e
 refine wpAny_bind (wpAny_letGo ?_)
 refine p8 (hn:=hn) W hT S .none _ (W.frame 0 s _ s.toks hst (Nat.le_refl _) fun b hb o e=>NH b o (fun h=>hSf (h▸hb)) e) hSf hI OI fun s' acc' c' hm hS' hacc=>?_
 exact hR s' acc' c' (Moved.trans W.gtrans ((Moved.refl W.grefl).then_heap (Nat.le_refl _) fun b o hb e=>NH b o (fun h=>hb (h▸List.mem_cons_self)) e) hm) hS' hacc
end
section
variable {prog:Program} {w:World} {A:Around} {E:Value→Shared→Prop} {s:Shared}
theorem ly{I l:Addr}{items:Array Value}{Q:Value→Shared→Prop}(hh:A.handled=none)(hl:s.heap.IsList l items)(hit:s.heap.IsRevIter I l ((items.size:Int) - 1))(hne:l≠I)(hn:items.size≤sizeLine)
  (hQ:∀h' tk acc' c',(∀b o,b≠I→s.heap.get? b=some o→h'.get? b=some o)→h'.get? s.heap.objs.size=some { cls:=.type "list",dict:=none,data:=.seq acc' c',slots:=#[] }→
   acc'.toList=items.toList.reverse→Q (.ref s.heap.objs.size) { s with heap:=h',toks:=tk }) :
  wpAny (model prog w) A (call (.type "list") [.ref I]) Q E s:=by
 have W:=(Walks.listRev (prog:=prog) (w:=w) (A:=A.in1.in1) hh I l hne items).toS
 have MT:I < s.heap.objs.size:=by obtain⟨o,ho,_⟩:=hit;exact Heap.lt_size ho
 have MU:l < s.heap.objs.size:=by obtain⟨o,ho,_⟩:=hl;exact Heap.lt_size ho
 have hfp:∀b∈[I,l],b < s.heap.objs.size:=fun b hb=>by
  rcases List.mem_cons.mp hb with rfl|hb
  ·exact MT
  ·rw[List.mem_singleton.mp hb];exact MU
 have hSf:s.heap.objs.size ∉ [I,l]:=fun hm=>Nat.lt_irrefl _ (hfp _ hm)
 have hst:(fun i (s:Shared)=>i≤items.size∧s.heap.IsRevIter I l ((items.size:Int) - 1 - (i:Int))∧s.heap.IsList l items) 0 s:=⟨Nat.zero_le _,by simpa using hit,hl⟩
 refine callType_codes (Q₁:=fun obj s₁=>obj = .ref s.heap.objs.size∧s₁={ s with heap:=s.heap.push { cls:=.type "list",data:=.seq #[] } }) F.called_list (F.typeCall_list_1 _) F.entry_list_init
  (code_list_new _ ⟨rfl,rfl⟩) fun obj s₁ h₁=>?_
 obtain⟨rfl,rfl⟩:=h₁
 have hS:(s.heap.push { cls:=.type "list",data:=.seq #[] }).get? s.heap.objs.size=some { cls:=.type "list",data:=.seq #[] }:=Heap.get?_push_size _ rfl
 refine⟨⟨_,hS,rfl⟩,F.args_list_init_2 _ _,lw (hn:=hn) W (fun i s st=>st.2.1.typeIs) _ (W.frame 0 s _ s.toks hst (Nat.le_refl _) fun b _ o e=>Heap.get?_push_of_some _ e) hSf (List.mem_cons_self ..) hS fun s' acc' c' hm hS' hacc=>?_⟩
 refine⟨rfl,?_⟩
 rw[hm.eq_with]
 refine hQ s'.heap s'.toks acc' c' (fun b o hb e=>hm.heap b o (fun z=>?_) (Heap.get?_push_of_some _ e)) hS' ?_
 ·rcases List.mem_cons.mp z with z|z
  ·exact absurd (Heap.lt_size e) (by rw[z];exact Nat.lt_irrefl _)
  ·exact hb (List.mem_singleton.mp z)
 ·obtain⟨hsz,hP⟩:=hacc
  apply List.ext_getElem?
  intro j
  by_cases hj:j < items.size
  ·have hj':j < acc'.size:=by rw[hsz];exact hj
   have q:=hP j acc'[j] (by simp[hj'])
   have e1:acc'.toList[j]?=some acc'[j]:=by simp[hj']
   rw[e1,List.getElem?_reverse (by simpa using hj)]
   simpa using q.symm
  ·rw[List.getElem?_eq_none (by simpa [hsz]using hj),List.getElem?_eq_none (by simpa using hj)]
end
end PySem
namespace L2
open PySem PySem.Spec PyProof.Rows
section
variable {X:Cx}
def uB(K:PySem.W.Frag)(te:TE):TE:=fun σ H Q=>te σ H fun x H1=>∃a xs,x = .ref a∧SqL K H1 a xs∧∀q,H1 q=none→Q (.ref q) (upd H1 q (.lst xs.reverse))
theorem p9{e:Expr}{te:TE}{p1 p2 q1 q2:Pos}(hc:X.calm=true)(he:PE X e te)(MV:Gl X "list")(hm1:X.mg "list" = none)(LV:Gl X "reversed")(hm2:X.mg "reversed" = none)
  (hs:starEach [e] X.env=[(false,eval e X.env)]:=by rfl) (hs2:starEach [.Call (.Name "reversed" p2) [e] [] q2] X.env=[(false,eval (.Call (.Name "reversed" p2) [e] [] q2) X.env)]:=by rfl) :
  PE X (.Call (.Name "list" p1) [.Call (.Name "reversed" p2) [e] [] q2] [] q1) (uB X.K te):=by
 intro pins s σ H Q I h
 refine wpAny_Call_Name_kw (gH I MV hm1 (u:=.type "list") (by decide +kernel) ?_)
 refine PyProof.Rows.callWith_type1 ?_ hs2 rfl
 rw[hs2]
 show wpAny _ _ (spliced ((false,eval (.Call (.Name "reversed" p2) [e] [] q2) X.env)::backTo q1 [])) _ _ s
 refine Calls.spliced_cons ?_
 refine wpAny_Call_Name_kw (gH I LV hm2 (u:=.type "reversed") boot_reversed ?_)
 refine PyProof.Rows.callWith_type1 ?_ hs rfl
 rw[hs]
 show wpAny _ _ (spliced ((false,eval e X.env)::backTo q2 [])) _ _ s
 refine Calls.spliced_cons (FI (he pins s σ H _ I h) fun u s1 ⟨x,H1,I1,r1,a,xs,ex,hx,q⟩=>?_)
 subst ex
 cases r1
 obtain⟨its,rv,p,hz⟩:=I1.list hx
 have hl:=rv.length
 have hal:a < s1.heap.objs.size:=by obtain⟨o,ho,_⟩:=p.isList;exact Heap.lt_size ho
 refine Calls.spliced_nil (call_reversed_list p.isList ?_)
 refine Calls.spliced_nil ?_
 refine ly (I.ok.hd hc) (p.isList.push _) ⟨_,Heap.get?_push_size _ rfl,rfl,rfl⟩ (Nat.ne_of_lt hal) (by rw[List.size_toArray,←hl];exact hz) fun h' tk acc c hk hS ha=>?_
 have hsz:(s1.heap.push (revObj a ((its.toArray.size:Int) - 1))).objs.size=s1.heap.objs.size+1:=Heap.size_push _ _
 have hle:s1.heap.objs.size≤(s1.heap.push (revObj a ((its.toArray.size:Int) - 1))).objs.size:=by rw[hsz];exact Nat.le_succ _
 refine⟨.ref _,_,I1.laid (a:=(s1.heap.push (revObj a ((its.toArray.size:Int) - 1))).objs.size) (o:=.lst xs.reverse) (h':=h') (t':=tk) (fun b u e=>hk b u (Nat.ne_of_lt (Heap.lt_size e)) (Heap.get?_push_of_some _ e)) hle ?_,rfl,q _ (I1.hok.fresh hle)⟩
 refine⟨by rw[List.length_reverse];exact hz,its.reverse,c,Vals.reverse rv,?_⟩
 rw[hS]
 have e:acc=its.reverse.toArray:=by
  apply Array.toList_inj.mp
  rw[ha]
 rw[e]
end
section
variable {X:Cx}
end
section
variable {X:Cx}
noncomputable abbrev lV(c:Nat):Str:=⟨#[c]⟩
noncomputable def DU(z:Str):It:=⟨fun i _=>i < z.cps.size,fun i H x H'=>H'=H∧∃c,z.cps[i]?=some c∧x = .str (lV c),fun i _=>z.cps.size≤i⟩
theorem uC{P:Program}{w:World}{K:PySem.W.Frag}{tg:Expr}{ty:String}(hty:ty = "str_ascii_iterator" ∨ ty = "str_iterator")(it:Addr)(z:Str)(t:Tok):nY P w K tg (DU z) [it] it (fun i h=>i≤z.cps.size∧h.IsStrIter it ty z t i):=by
 have W:∀A':Around,A'.handled=none→Walks P w A' it [it] [it] z.cps.size (SignAt z) (fun i h=>h.IsStrIter it ty z t i):=fun A' hA=>by
  rcases hty with rfl|rfl
  ·exact Walks.strAscii hA it z t
  ·exact Walks.strWide hA it z t
 have nt:(["enumerate","zip","dict_itemiterator","dict_reverseitemiterator","odict_iterator","itertools.zip_longest","itertools.pairwise"].contains ty)=false:=by
  rcases hty with rfl|rfl<;>decide
 refine⟨by simp,fun i h st b hb=>?_,fun i h h' st k=>?_,?_,?_,?_⟩
 ·have e:b=it:=by simpa using hb
  subst e
  obtain⟨_,o,e,c,d⟩:=st
  exact⟨o,e,fun v q=>by rw[d]at q;cases q⟩
 ·obtain⟨hi,o,e,r⟩:=st
  exact⟨hi,o,k it (by simp) o e,r⟩
 ·intro X hP hw hK hc i pins s σ H E I hf st hg
  subst hP hw hK
  obtain⟨f0,f1,f2,f3,f4,f5⟩:=hf it (by simp)
  refine(W X.A (I.ok.hd hc)).item i s _ _ hg st.2 fun v h' tk hv st' kk=>?_
  obtain⟨c,u,hcp,rfl⟩:=hv
  have I1:Inv X pins σ H { s with heap:=h',toks:=tk }:=I.turned (fun b o hb e=>kk b o (by simpa using hb) e) f0 f1 f3 f4 f5
  obtain⟨o,e,co,d⟩:=id st'
  exact⟨_,rfl,fc (s:={ s with heap:=h',toks:=tk }) e co d nt ⟨.str (lV c),H,I1,⟨u,rfl⟩,⟨rfl,c,hcp,rfl⟩,⟨hg,st'⟩,fun b hb=>(hf b hb).1⟩⟩
 ·intro X hP hw hK hc i pins s σ H E I hf st hg
  subst hP hw hK
  obtain⟨f0,f1,f2,f3,f4,f5⟩:=hf it (by simp)
  have e:i=z.cps.size:=Nat.le_antisymm st.1 hg
  subst e
  exact(W X.A (I.ok.hd hc)).done s _ _ st.2 fun h' tk kk=>⟨rfl,I.turned (fun b o hb e=>kk b o (by simpa using hb) e) f0 f1 f3 f4 f5⟩
 ·intro A i s Q E st h
  rcases hty with rfl|rfl
  ·exact wpAny_pyIter_striter_ascii st.2 h
  ·exact wpAny_pyIter_striter_wide st.2 h
theorem xj{ys:List Str}:∀{us:List Value},Vals (ys.map V.str) us→StrsAre us ys:=by
 induction ys with
 |nil=>intro us r;rw[List.map_nil]at r;cases r;exact .nil
 |cons n ns ih=>
  intro us r
  rw[List.map_cons]at r
  cases r with
  |cons r1 r2=>
   obtain⟨t,e⟩:=r1
   subst e
   exact .cons n t (ih r2)
noncomputable def B9(K:PySem.W.Frag):V→List V→Hp→VK→Prop:=fun x vs H Q=>∃sep p ys,x = .str sep∧vs=[.ref p]∧SqL K H p (ys.map V.str)∧(ys.map (·.length)).sum+ys.length * sep.length≤1000000∧Q (.str (Txt.join sep ys)) H
theorem xq:zA X "str.join" (B9 X.K):=by
 intro pins s σ H x vs v us Q I rx rv h
 obtain⟨sep,p,ys,rfl,rfl,hp,hz,q⟩:=h
 obtain⟨t,rfl⟩:=rx
 obtain⟨u,rfl,ru⟩:=fo rv
 cases ru
 obtain⟨its,r,pl,_⟩:=I.list hp
 exact join_list pl.isList (by simpa using xj r) (by omega) fun t' k=>⟨.str _,H,I.tok k,⟨t',rfl⟩,q⟩
end
section
variable {X:Cx}
noncomputable def DV:V→Option Int→Option Int→Hp→VK→Prop:=fun x lo hi H Q=>∃z,x = .str z∧z.length≤sizeLine∧Q (.str (Txt.slice z lo hi)) H
theorem zL:Bg X DV:=by
 intro pins s σ H x v vl vu lo hi sl Q I rx hs pl pu h
 obtain⟨z,rfl,hz,q⟩:=h
 obtain⟨t,rfl⟩:=rx
 refine⟨"str",_,F.slot_str_getitem.lookup,typeIs_str _ _ _,?_⟩
 obtain⟨o,e,c,d⟩:=hs
 have fin:∀l u:Option (Int×Tok),(vl=partValue l∧lo=l.map (·.1))→(vu=partValue u∧hi=u.map (·.1))→wpAny (model X.prog X.w) X.A (getItem (.str z t) (.ref sl)) (EP X pins σ Q) X.xe s:=by
  rintro l u ⟨rfl,rfl⟩ ⟨rfl,rfl⟩
  exact wpAny_getItem_str_slice (l:=l) (u:=u) (st:=none) ⟨o,e,c,d⟩ rfl (post_val_or_str ⟨Nat.le_trans (Txt.slice_le z _ _) hz,fun t' k=>⟨.str _,H,I.tok k,⟨t',rfl⟩,q⟩⟩)
 cases pl with
 |none=>
  cases pu with
  |none=>exact fin none none ⟨rfl,rfl⟩ ⟨rfl,rfl⟩
  |int j uj=>exact fin none (some (j,uj)) ⟨rfl,rfl⟩ ⟨rfl,rfl⟩
 |int i ui=>
  cases pu with
  |none=>exact fin (some (i,ui)) none ⟨rfl,rfl⟩ ⟨rfl,rfl⟩
  |int j uj=>exact fin (some (i,ui)) (some (j,uj)) ⟨rfl,rfl⟩ ⟨rfl,rfl⟩
noncomputable def zM:V→List V→Hp→VK→Prop:=fun x vs H Q=>∃a b i rest,x = .str a∧vs=[.str b]∧Builtin.Str.occurrences a b 0 a.length 1=i::rest∧Q (.int i) H
theorem uD:zA X "str.index" zM:=by
 intro pins s σ H x vs v us Q I rx rv h
 obtain⟨a,b,i,rest,rfl,rfl,ho,q⟩:=h
 obtain⟨t,rfl⟩:=rx
 obtain⟨w,rfl,u,rfl⟩:=fo rv
 exact call_gives F.slot_str_index (typeIs_str _ _ _) F.entry_str_index (F.args_str_index_2 _ _) (gives_str_index a b t u i rest ho) ⟨.int i,H,I.tok _,⟨_,rfl⟩,q⟩
def zN(K:PySem.W.Frag)(i j k:Nat)(te:TE):TS:=fun D σ H=>te σ H fun x H1=>∃p v w u,x = .ref p∧F3 K H1 p [v,w,u]∧D.nx (((σ.set k (some u)).set j (some w)).set i (some v)) H1
theorem uE{i j k:Nat}{x y z:Str}{e:Expr}{te:TE}{px py pz pt:Pos}{kt:Nat}{pos:Pos}(hc:X.calm=true)(hN:X.N.Nodup)(hi:X.N[i]?=some x)(hj:X.N[j]?=some y)(hk:X.N[k]?=some z)
  (hx:X.env.scope.names.lookup x=some .local) (hy:X.env.scope.names.lookup y=some .local) (hz:X.env.scope.names.lookup z=some .local) (he:PE X e te)
  (hw:swappedStores [.Tuple [.Name x px,.Name y py,.Name z pz] kt pt] e X.env=pure (some [x,y,z]))
  (hs:swapsWithSole [.Tuple [.Name x px,.Name y py,.Name z pz] kt pt] e pos.line X.env=pure false) :
  PS X (.Assign [.Tuple [.Name x px,.Name y py,.Name z pz] kt pt] e pos) (zN X.K i j k te):=by
 intro pins s σ H D I h
 refine Assign_Tuple_swapped (names:=[x,y,z]) (FI (he pins s σ H _ I h) fun r s1 ⟨xr,H1,I1,r1,p,v,w,u,ex,hp,q⟩=>?_) hs hw
 subst ex
 cases r1
 obtain⟨its,rv,tp,_⟩:=I1.tuple hp
 obtain⟨u1,u2,u3,ei,a1,a2,a3⟩:∃u1 u2 u3,its=[u1,u2,u3]∧RelV v u1∧RelV w u2∧RelV u u3:=by
  cases rv with
  |cons a1 rv=>
   cases rv with
   |cons a2 rv=>
    cases rv with
    |cons a3 rv=>
     cases rv
     exact⟨_,_,_,rfl,a1,a2,a3⟩
 subst ei
 refine unpackItems_tuple (items:=#[u1,u2,u3]) (I.ok.hd hc) tp fun h' kp=>?_
 have I2:=I1.kept (h':=h') (t':=s1.toks) fun b o eb=>kp b o (Nat.ne_of_lt (Heap.lt_size eb)) eb
 refine assignInOrder_cons (wpAny_bindName (cZ I2 hN hk (.inl hz) a3 (fun s2 I3=>?_) (.inr hz)))
 refine assignInOrder_cons (wpAny_bindName (cZ I3 hN hj (.inl hy) a2 (fun s3 I4=>?_) (.inr hy)))
 exact assignInOrder_cons (wpAny_bindName (cZ I4 hN hi (.inl hx) a1 (fun s4 I5=>assignInOrder_nil ⟨_,H1,I5,q⟩) (.inr hx)))
end
end L2
namespace Zt
open PySem
open Sem (wp)
section
variable {prog:Program} {w:World} {A:Around} {E:Value→Shared→Prop} {s:Shared}
theorem nx{j t:Addr}{i:Nat}{its:Array Value}{x:Value}{Q:Value→Shared→Prop}(hj:s.heap.IsTupleIter j t i)(ht:s.heap.IsTuple t its)(hx:its[i]?=some x)
  (k:∀g:Heap,g.IsTupleIter j t (i+1)→Heap.SameBut j s.heap g→Q x { s with heap:=g }):wpAny (model prog w) A (Builtin.SmallTypes.nextOf (.ref j)) Q E s:=by
 obtain⟨ob,eb,kb,db⟩:=id hj
 obtain⟨oc,ec,_,nc,dc⟩:=ht
 unfold Builtin.SmallTypes.nextOf
 refine wpAny_bind (wpAny_callSpecial?_slot (name:=Str.ofString "__next__") hj.typeIs F.slot_tuple_iterator_next (wpAny_call_entry F.slot_tuple_iterator_next hj.typeIs F.entry_tuple_iterator_next ?_ (F.args_tuple_iterator_next_1 _)))
 show wpAny _ _ (field (.ref j) 0 >>= _) _ _ s;refine wpAny_bind (wpAny_field eb db (x:=.ref t) rfl ?_)
 show wpAny _ _ (if (Value.ref t == Value.none)=true then _ else _) _ _ s;rw[if_neg (show ¬((Value.ref t == Value.none)=true)from Bool.false_ne_true)]
 show wpAny _ _ (field (.ref j) 1 >>= _) _ _ s;refine wpAny_bind (wpAny_field eb db (x:=.int i 0) rfl ?_)
 show wpAny _ _ (seqItems? (.ref t) >>= _) _ _ s;refine wpAny_bind (wpAny_seqItems ec dc ?_)
 simp only[Int.toNat_natCast,hx];refine wpAny_bind (wpAny_setField eb db (by simp) (wpAny_pure ⟨x,rfl,wpAny_pure (k _ ?_ (Heap.SameBut.update ..))⟩))
 exact⟨_,Heap.get?_update_self _ eb (Obj.isFreed_of_fields (Obj.data_mapFields db _)),(Obj.cls_mapFields ..).trans kb,by rw[Obj.data_mapFields db];simp[rawInt]⟩
theorem DW{j t:Addr}{i:Nat}{its:Array Value}{Q:Value→Shared→Prop}(hh:A.handled=none)(hj:s.heap.IsTupleIter j t i)(ht:s.heap.IsTuple t its)(hx:its[i]?=none)
  (k:∀(g:Heap) (e:Addr),Heap.ExtBut j s.heap g→(∃o,g.get? e=some o∧o.cls = .type "StopIteration")→E (.ref e) { s with heap:=g }):wpAny (model prog w) A (Builtin.SmallTypes.nextOf (.ref j)) Q E s:=by
 obtain⟨ob,eb,kb,db⟩:=id hj
 obtain⟨oc,ec,_,nc,dc⟩:=ht
 unfold Builtin.SmallTypes.nextOf
 refine wpAny_bind (wpAny_callSpecial?_slot (name:=Str.ofString "__next__") hj.typeIs F.slot_tuple_iterator_next (wpAny_call_entry F.slot_tuple_iterator_next hj.typeIs F.entry_tuple_iterator_next ?_ (F.args_tuple_iterator_next_1 _)))
 show wpAny _ _ (field (.ref j) 0 >>= _) _ _ s;refine wpAny_bind (wpAny_field eb db (x:=.ref t) rfl ?_)
 show wpAny _ _ (if (Value.ref t == Value.none)=true then _ else _) _ _ s;rw[if_neg (show ¬((Value.ref t == Value.none)=true)from Bool.false_ne_true)]
 show wpAny _ _ (field (.ref j) 1 >>= _) _ _ s;refine wpAny_bind (wpAny_field eb db (x:=.int i 0) rfl ?_)
 show wpAny _ _ (seqItems? (.ref t) >>= _) _ _ s;refine wpAny_bind (wpAny_seqItems ec dc ?_)
 simp only[Int.toNat_natCast,hx];refine wpAny_bind (wpAny_rule (wpAny_bind (wpAny_setField eb db (by simp) ?_)))
 show wpAny _ _ (newExc (.type "StopIteration") [] >>= _) _ _ _;refine wpAny_bind ?_
 simp only[newExc,newTuple];refine wpAny_bind (wpAny_newObj_type ?_ (by size_fits))
 refine wpAny_bind (m:=firstArgMember _ _) (wpAny_of_eq (a:=Value.none) (by first|rfl|(simp only[firstArgMember];rfl)) ?_);refine wpAny_newObj_type ?_ (by size_fits)
 simp only[raiseNew];refine wpAny_bind (wpAny_handled ?_)
 first|(rw[hh])|(rw[show A.in1.handled=none from hh])
 exact wpAny_bind (wpAny_pure (wpAny_throw (k _ _ (((Heap.SameBut.update ..).extBut.push _).push _) ⟨_,Heap.get?_push_size _ rfl,rfl⟩)))
variable {z TI TO i1 i2 l1 l2:Addr} {k1 k2:Nat} {xs ys:Array Value} {x y a b:Value}
theorem mM{Q:Value→Shared→Prop}(D:ZipApart z TI TO i1 i2 l1 l2)(gz:IsZip s.heap z TI TO .none)(gI:IsPair s.heap TI (.ref i1) (.ref i2))(gO:IsPair s.heap TO a b)
  (g1:s.heap.IsTupleIter i1 l1 k1) (g2:s.heap.IsTupleIter i2 l2 k2) (t1:s.heap.IsTuple l1 xs) (t2:s.heap.IsTuple l2 ys) (hx:xs[k1]?=some x) (hy:ys[k2]?=some y)
  (k:∀g,IsZip g z TI TO (rawInt s.heap.objs.size)→IsPair g TO x y→g.IsTupleIter i1 l1 (k1+1)→g.IsTupleIter i2 l2 (k2+1)→IsPair g s.heap.objs.size x y→
   (∀c o,c≠z→c≠TO→c≠i1→c≠i2→s.heap.get? c=some o→g.get? c=some o)→Q (.ref s.heap.objs.size) { s with heap:=g }) :
  wpAny (model prog w) A (Builtin.«zip.__next__» ⟨[.ref z],[]⟩) (fun fin s'=>∃v,fin = .done (.ret v)∧Q v s') E s:=by
 show wpAny _ _ (field (.ref z) 2 >>= _) _ _ _;refine wpAny_bind (wpAny_field gz rfl (x:=.bool false) rfl ?_)
 show wpAny _ _ (field (.ref z) 3 >>= _) _ _ _;refine wpAny_bind (wpAny_field gz rfl (x:=.ref TI) rfl (wpAny_bind (wpAny_seqItems gI rfl ?_)))
 show wpAny _ _ (Builtin.SmallTypes.ownedTupleIsFree (.ref z) >>= _) _ _ _;refine wpAny_bind ?_;unfold Builtin.SmallTypes.ownedTupleIsFree
 refine wpAny_bind (wpAny_field gz rfl (x:=.none) rfl (wpAny_pure ?_));simp only[if_true]
 refine wpAny_bind (wpAny_rule (wpAny_bind (wpAny_field gz rfl (x:=.ref TO) rfl (wpAny_bind (wpAny_setField_rec gz (by simp) fun h₁ z1 q1=>?_)))))
 replace z1:IsZip h₁ z TI TO .ellipsis:=z1
 refine wpAny_bind ?_;simp only[List.zipIdx_cons,List.zipIdx_nil,List.forIn_cons,List.forIn_nil]
 refine wpAny_bind (wpAny_bind (wpAny_onRaise ?_));show wpAny _ _ (Builtin.SmallTypes.nextOf (.ref i1) >>= _) _ _ _
 refine wpAny_bind (nx (g1.extBut q1.extBut D.i1z) (t1.extBut q1.extBut D.l1z) hx fun h₂ n1 q2=>wpAny_pure ?_)
 have o2:IsPair h₂ TO a b:=q2.extBut _ _ D.TOi1 (q1.extBut _ _ D.TOz gO)
 refine wpAny_bind (wpAny_seqItems o2 rfl (wpAny_bind (wpAny_updateSeq_pair o2 fun h₃ o3 q3=>?_)))
 replace o3:IsPair h₃ TO x b:=o3
 refine wpAny_bind (wpAny_letGo (wpAny_pure ?_));refine wpAny_bind (wpAny_bind (wpAny_onRaise ?_));show wpAny _ _ (Builtin.SmallTypes.nextOf (.ref i2) >>= _) _ _ _
 refine wpAny_bind (nx (((g2.extBut q1.extBut D.i2z).extBut q2.extBut D.i12.symm).extBut q3.extBut D.TOi2.symm) (((t2.extBut q1.extBut D.l2z).extBut q2.extBut D.l2i1).extBut q3.extBut D.l2TO) hy fun h₄ n2 q4=>wpAny_pure ?_)
 have o4:IsPair h₄ TO x b:=q4.extBut _ _ D.TOi2 o3
 refine wpAny_bind (wpAny_seqItems o4 rfl (wpAny_bind (wpAny_updateSeq_pair o4 fun h₅ o5 q5=>?_)))
 replace o5:IsPair h₅ TO x y:=o5
 refine wpAny_bind (wpAny_letGo (wpAny_pure (wpAny_pure ?_)));refine wpAny_bind (wpAny_seqItems o5 rfl (wpAny_bind (wpAny_newTuple ?_)))
 have sz:h₅.objs.size=s.heap.objs.size:=by rw[q5.1,q4.1,q3.1,q2.1,q1.1]
 have z5:IsZip h₅ z TI TO .ellipsis:=q5.extBut _ _ D.TOz.symm (q4.extBut _ _ D.i2z.symm (q3.extBut _ _ D.TOz.symm (q2.extBut _ _ D.i1z.symm z1)))
 have kk:∀c o,c≠z→c≠TO→c≠i1→c≠i2→s.heap.get? c=some o→h₅.get? c=some o:=fun c o c1 c2 c3 c4 e=>q5.extBut _ _ c2 (q4.extBut _ _ c4 (q3.extBut _ _ c2 (q2.extBut _ _ c3 (q1.extBut _ _ c1 e))))
 have m1:h₅.IsTupleIter i1 l1 (k1+1):=((n1.extBut q3.extBut D.TOi1.symm).extBut q4.extBut D.i12).extBut q5.extBut D.TOi1.symm
 have m2:h₅.IsTupleIter i2 l2 (k2+1):=n2.extBut q5.extBut D.TOi2.symm
 have zl:z < h₅.objs.size:=Heap.lt_size z5
 show wpAny _ _ (Builtin.SmallTypes.ownedTupleHandOut (.ref z) (.ref h₅.objs.size) >>= _) _ _ _;refine wpAny_bind ?_;unfold Builtin.SmallTypes.ownedTupleHandOut
 have z6:IsZip (h₅.push { cls:=.type "tuple",data:=.seq #[x,y] }) z TI TO .ellipsis:=Heap.get?_push_of_some _ z5
 refine wpAny_bind (wpAny_setField_rec z6 (by simp) fun h₇ z7 q7=>?_)
 replace z7:IsZip h₇ z TI TO (rawInt h₅.objs.size):=z7
 refine wpAny_setField_rec z7 (by simp) fun h₈ z8 q8=>?_
 replace z8:IsZip h₈ z TI TO (rawInt h₅.objs.size):=z8
 have up:∀c o,c≠z→h₅.get? c=some o→h₈.get? c=some o:=fun c o c1 e=>q8.extBut _ _ c1 (q7.extBut _ _ c1 (Heap.get?_push_of_some _ e))
 have T8:IsPair h₈ h₅.objs.size x y:=q8.extBut _ _ (Nat.ne_of_gt zl) (q7.extBut _ _ (Nat.ne_of_gt zl) (Heap.get?_push_size _ rfl))
 rw[sz]at z8 T8
 refine wpAny_pure ⟨_,rfl,?_⟩
 show Q (.ref h₅.objs.size) _
 rw[sz]
 exact k h₈ z8 (up _ _ D.TOz o5) (m1.at fun o e=>up _ o D.i1z e) (m2.at fun o e=>up _ o D.i2z e) T8 fun c o c1 c2 c3 c4 e=>up c o c1 (kk c o c1 c2 c3 c4 e)
theorem p_{Q:Fin→Shared→Prop}(hh:A.handled=none)(D:ZipApart z TI TO i1 i2 l1 l2)(gz:IsZip s.heap z TI TO .none)(gI:IsPair s.heap TI (.ref i1) (.ref i2))(gO:IsPair s.heap TO a b)
  (g1:s.heap.IsTupleIter i1 l1 k1) (g2:s.heap.IsTupleIter i2 l2 k2) (t1:s.heap.IsTuple l1 xs) (t2:s.heap.IsTuple l2 ys) (he:xs[k1]?=none∨ys[k2]?=none)
  (k:∀(g:Heap) (e:Addr),(∀c o,c≠z→c≠TO→c≠i1→c≠i2→s.heap.get? c=some o→g.get? c=some o)→(∃o,g.get? e=some o∧o.cls = .type "StopIteration")→E (.ref e) { s with heap:=g }) :
  wpAny (model prog w) A (Builtin.«zip.__next__» ⟨[.ref z],[]⟩) Q E s:=by
 show wpAny _ _ (field (.ref z) 2 >>= _) _ _ _;refine wpAny_bind (wpAny_field gz rfl (x:=.bool false) rfl ?_)
 show wpAny _ _ (field (.ref z) 3 >>= _) _ _ _;refine wpAny_bind (wpAny_field gz rfl (x:=.ref TI) rfl (wpAny_bind (wpAny_seqItems gI rfl ?_)))
 show wpAny _ _ (Builtin.SmallTypes.ownedTupleIsFree (.ref z) >>= _) _ _ _;refine wpAny_bind ?_;unfold Builtin.SmallTypes.ownedTupleIsFree
 refine wpAny_bind (wpAny_field gz rfl (x:=.none) rfl (wpAny_pure ?_));simp only[if_true]
 refine wpAny_bind (wpAny_rule (wpAny_bind (wpAny_field gz rfl (x:=.ref TO) rfl (wpAny_bind (wpAny_setField_rec gz (by simp) fun h₁ z1 q1=>?_)))))
 replace z1:IsZip h₁ z TI TO .ellipsis:=z1
 refine wpAny_bind ?_;simp only[List.zipIdx_cons,List.zipIdx_nil,List.forIn_cons,List.forIn_nil]
 refine wpAny_bind (wpAny_bind (wpAny_onRaise ?_));show wpAny _ _ (Builtin.SmallTypes.nextOf (.ref i1) >>= _) _ _ _
 cases hx:xs[k1]? with
 |none=>
  refine wpAny_bind (DW hh (g1.extBut q1.extBut D.i1z) (t1.extBut q1.extBut D.l1z) hx fun h₂ e q2 ⟨oe,ge,ce⟩=>?_)
  have z2:IsZip h₂ z TI TO .ellipsis:=q2 _ _ D.i1z.symm z1
  have ez:e≠z:=fun u=>by subst u;rw[z2]at ge;cases ge;simp at ce
  exact wpAny_setField_rec z2 (by simp) fun h₃ _ q3=>k h₃ e (fun c o c1 _ c3 _ u=>q3.extBut _ _ c1 (q2 _ _ c3 (q1.extBut _ _ c1 u))) ⟨oe,q3.extBut _ _ ez ge,ce⟩
 |some x=>
  have hy:ys[k2]?=none:=he.elim (fun q=>by rw[hx]at q;cases q) id
  refine wpAny_bind (nx (g1.extBut q1.extBut D.i1z) (t1.extBut q1.extBut D.l1z) hx fun h₂ n1 q2=>wpAny_pure ?_)
  have o2:IsPair h₂ TO a b:=q2.extBut _ _ D.TOi1 (q1.extBut _ _ D.TOz gO)
  refine wpAny_bind (wpAny_seqItems o2 rfl (wpAny_bind (wpAny_updateSeq_pair o2 fun h₃ o3 q3=>?_)))
  refine wpAny_bind (wpAny_letGo (wpAny_pure ?_));refine wpAny_bind (wpAny_bind (wpAny_onRaise ?_));show wpAny _ _ (Builtin.SmallTypes.nextOf (.ref i2) >>= _) _ _ _
  refine wpAny_bind (DW hh (((g2.extBut q1.extBut D.i2z).extBut q2.extBut D.i12.symm).extBut q3.extBut D.TOi2.symm) (((t2.extBut q1.extBut D.l2z).extBut q2.extBut D.l2i1).extBut q3.extBut D.l2TO) hy fun h₄ e q4 ⟨oe,ge,ce⟩=>?_)
  have z4:IsZip h₄ z TI TO .ellipsis:=q4 _ _ D.i2z.symm (q3.extBut _ _ D.TOz.symm (q2.extBut _ _ D.i1z.symm z1))
  have ez:e≠z:=fun u=>by subst u;rw[z4]at ge;cases ge;simp at ce
  exact wpAny_setField_rec z4 (by simp) fun h₅ _ q5=>k h₅ e (fun c o c1 c2 c3 c4 u=>q5.extBut _ _ c1 (q4 _ _ c4 (q3.extBut _ _ c2 (q2.extBut _ _ c3 (q1.extBut _ _ c1 u))))) ⟨oe,q5.extBut _ _ ez ge,ce⟩
theorem iS{Q:Option Value→Shared→Prop}(D:ZipApart z TI TO i1 i2 l1 l2)(gz:IsZip s.heap z TI TO .none)(gI:IsPair s.heap TI (.ref i1) (.ref i2))(gO:IsPair s.heap TO a b)
  (g1:s.heap.IsTupleIter i1 l1 k1) (g2:s.heap.IsTupleIter i2 l2 k2) (t1:s.heap.IsTuple l1 xs) (t2:s.heap.IsTuple l2 ys) (hx:xs[k1]?=some x) (hy:ys[k2]?=some y)
  (k:∀g,IsZip g z TI TO (rawInt s.heap.objs.size)→IsPair g TO x y→g.IsTupleIter i1 l1 (k1+1)→g.IsTupleIter i2 l2 (k2+1)→IsPair g s.heap.objs.size x y→
   (∀c o,c≠z→c≠TO→c≠i1→c≠i2→s.heap.get? c=some o→g.get? c=some o)→Q (some (.ref s.heap.objs.size)) { s with heap:=g }):wpAny (model prog w) A (pyNext (.ref z)) Q E s:=by
 have ty:s.TypeIs (.ref z) "zip":=⟨_,gz,rfl⟩
 unfold pyNext
 exact wpAny_bind (wpAny_attempt (wpAny_callSpecial?_slot (name:=Str.ofString "__next__") ty F.slot_zip_next (wpAny_call_entry F.slot_zip_next ty F.entry_zip_next
  (mM D gz gI gO g1 g2 t1 t2 hx hy fun g a1 a2 a3 a4 a5 a6=>wpAny_pure (k g a1 a2 a3 a4 a5 a6)) (F.args_zip_next_1 _))))
theorem ko{Q:Option Value→Shared→Prop}(hh:A.handled=none)(D:ZipApart z TI TO i1 i2 l1 l2)(gz:IsZip s.heap z TI TO .none)(gI:IsPair s.heap TI (.ref i1) (.ref i2))(gO:IsPair s.heap TO a b)
  (g1:s.heap.IsTupleIter i1 l1 k1) (g2:s.heap.IsTupleIter i2 l2 k2) (t1:s.heap.IsTuple l1 xs) (t2:s.heap.IsTuple l2 ys) (he:xs[k1]?=none∨ys[k2]?=none)
  (k:∀g:Heap,(∀c o,c≠z→c≠TO→c≠i1→c≠i2→s.heap.get? c=some o→g.get? c=some o)→Q none { s with heap:=g }):wpAny (model prog w) A (pyNext (.ref z)) Q E s:=by
 have ty:s.TypeIs (.ref z) "zip":=⟨_,gz,rfl⟩
 unfold pyNext
 refine wpAny_bind (wpAny_attempt (wpAny_callSpecial?_slot (name:=Str.ofString "__next__") ty F.slot_zip_next (wpAny_call_entry F.slot_zip_next ty F.entry_zip_next (p_ hh D gz gI gO g1 g2 t1 t2 he fun g e kk ⟨o,ho,hc⟩=>?_) (F.args_zip_next_1 _))))
 exact wpAny_bind (wpAny_isInstance (T:="StopIteration") (b:=true) ⟨o,ho,hc⟩ isSubtype_stop (wpAny_pure (k _ kk)))
end
noncomputable abbrev H1(h:Heap)(l1:Addr):Heap:=h.push { cls:=.type "tuple_iterator",data:=.fields #[.ref l1,.int 0 0] }
noncomputable abbrev H2(h:Heap)(l1 l2:Addr):Heap:=(H1 h l1).push { cls:=.type "tuple_iterator",data:=.fields #[.ref l2,.int 0 0] }
noncomputable abbrev H3(h:Heap)(l1 l2:Addr):Heap:=(H2 h l1 l2).push { cls:=.type "tuple",data:=.seq #[.ref h.objs.size,.ref (H1 h l1).objs.size] }
noncomputable abbrev H4(h:Heap)(l1 l2:Addr):Heap:=(H3 h l1 l2).push { cls:=.type "tuple",data:=.seq #[.none,.none] }
noncomputable abbrev H5(h:Heap)(l1 l2:Addr):Heap:=(H4 h l1 l2).push { cls:=.type "zip",data:=.fields #[.none,.bool false,.bool false,.ref (H2 h l1 l2).objs.size,.ref (H3 h l1 l2).objs.size] }
theorem iT(l1 l2:Addr)(xs ys:Array Value) :
  Meets (Builtin.«zip.__new__» ⟨[.type "zip",.ref l1,.ref l2],[]⟩) (fun _ R s=>s.heap.IsTuple l1 xs∧s.heap.IsTuple l2 ys∧R (.ok (.ret (.ref (H4 s.heap l1 l2).objs.size))) { s with heap:=H5 s.heap l1 l2 }):=
 .of_wp fun prog w A R s h=>by
  obtain⟨hp,g,d,tk,os⟩:=s;obtain⟨e1,e2,h⟩:=h
  have hsub:=sub_zip
  have L1:Heap.IsTuple (Shared.heap ⟨hp,g,d,tk,os⟩) l1 xs:=e1
  have L2:Heap.IsTuple (Shared.heap ⟨hp.push { cls:=.type "tuple_iterator",data:=.fields #[.ref l1,.int 0 0] },g,d,tk,os⟩) l2 ys:=Heap.IsTuple.push e2 _
  wp_walk using wpAny_pyIter_tuple L1,wpAny_pyIter_tuple L2
  exact⟨_,rfl,h⟩
section
variable {prog:Program} {w:World} {A:Around} {E:Value→Shared→Prop} {s:Shared}
theorem kq{l1 l2:Addr}{xs ys:Array Value}{Q:Value→Shared→Prop}(e1:s.heap.IsTuple l1 xs)(e2:s.heap.IsTuple l2 ys)
  (k:∀g,IsZip g (s.heap.objs.size+4) (s.heap.objs.size+2) (s.heap.objs.size+3) .none→IsPair g (s.heap.objs.size+2) (.ref s.heap.objs.size) (.ref (s.heap.objs.size+1))→
   IsPair g (s.heap.objs.size+3) .none .none→g.IsTupleIter s.heap.objs.size l1 0→g.IsTupleIter (s.heap.objs.size+1) l2 0→
   (∀c o,s.heap.get? c=some o→g.get? c=some o)→Q (.ref (s.heap.objs.size+4)) { s with heap:=g }) :
  wpAny (model prog w) A (call (.type "zip") [.ref l1,.ref l2]) Q E s:=by
 refine callType_new F.called_zip (by decide) (F.typeCall_zip_2 _ _) (F.newCall_zip_2 _ _) (fun obj=>F.args_object_init_3 obj _ _) F.entry_zip_new (iT l1 l2 xs ys) ⟨e1,e2,?_⟩
 have z1:(H1 s.heap l1).objs.size=s.heap.objs.size+1:=Heap.size_push ..
 have z2:(H2 s.heap l1 l2).objs.size=s.heap.objs.size+2:=by rw[Heap.size_push,z1]
 have z3:(H3 s.heap l1 l2).objs.size=s.heap.objs.size+3:=by rw[Heap.size_push,z2]
 have z4:(H4 s.heap l1 l2).objs.size=s.heap.objs.size+4:=by rw[Heap.size_push,z3]
 have g5:(H5 s.heap l1 l2).get? (H4 s.heap l1 l2).objs.size=some _:=Heap.get?_push_size _ rfl
 have g4:(H5 s.heap l1 l2).get? (H3 s.heap l1 l2).objs.size=some _:=Heap.get?_push_of_some _ (Heap.get?_push_size _ rfl)
 have g3:(H5 s.heap l1 l2).get? (H2 s.heap l1 l2).objs.size=some _:=Heap.get?_push_of_some _ (Heap.get?_push_of_some _ (Heap.get?_push_size _ rfl))
 have g2:(H5 s.heap l1 l2).get? (H1 s.heap l1).objs.size=some _:=Heap.get?_push_of_some _ (Heap.get?_push_of_some _ (Heap.get?_push_of_some _ (Heap.get?_push_size _ rfl)))
 have g1:(H5 s.heap l1 l2).get? s.heap.objs.size=some _:=Heap.get?_push_of_some _ (Heap.get?_push_of_some _ (Heap.get?_push_of_some _ (Heap.get?_push_of_some _ (Heap.get?_push_size _ rfl))))
 show _∧_
 rw[z2,z3,z4]at g5
 rw[z1,z2]at g3
 rw[z3]at g4
 rw[z1]at g2
 rw[z4]
 exact⟨⟨_,g5,rfl⟩,k _ g5 g3 g4 ⟨_,g1,rfl,rfl⟩ ⟨_,g2,rfl,rfl⟩ fun c o e=>Heap.get?_push_of_some _ (Heap.get?_push_of_some _ (Heap.get?_push_of_some _ (Heap.get?_push_of_some _ (Heap.get?_push_of_some _ e))))⟩
end
end Zt
namespace L2
open PySem PySem.Spec PyProof.Rows
section
variable {X:Cx} {pins:List (Addr×Obj)} {σ:St} {H:Hp} {s:Shared} {h':Heap}
theorem Inv.Is{t':Nat}{fp:List Addr}(I:Inv X pins σ H s)(k:∀b o,b ∉ fp→s.heap.get? b=some o→h'.get? b=some o)(hf:∀b∈fp,Gk X pins H b):Inv X pins σ H { s with heap:=h',toks:=t' }:=by
 have LN:∀b u,H b=some u→b ∉ fp:=fun b u e z=>by rw[(hf b z).1]at e;cases e
 refine I.step (g':=s.gens) (d':=s.drawn) (ch:=fp) (fun b hb=>?_) (fun b o _ _ hc e _=>k b o hc e) (fun b o _ _ hc e _=>⟨o.slots,k b o hc e⟩) (fun _ _ _ _ n=>n)
  (fun b o hc e=>⟨o,k b o hc e⟩) (fun _ _ e=>e) (fun _ _ _ e=>e) (fun b ps e=>⟨#[],by rw[e];simp⟩) (fun m hm=>?_) (fun b u e=>?_) I.bare
 ·obtain⟨f0,f1,f2,f3,f4,f5⟩:=hf b hb
  exact⟨f3,f1,f4,f5⟩
 ·obtain⟨o,es,ep,ho,r⟩:=hm
  exact⟨o,es,ep,k _ o (fun z=>(hf _ z).2.1 rfl) ho,r⟩
 ·refine(I.hok b u e).stay (fun c v hc q=>k c v ?_ q) (fun _ q=>q) fun _ _ q=>q
  rcases hc with z|z
  ·rw[z];exact LN b u e
  ·exact LN c _ z
theorem Inv.Kh{D:Addr}{us:List Value}{ys:List V}(I:Inv X pins σ H s)(f:Gk X pins H D)(e:Go s.heap D us.toArray)(r:Vals ys us)(hz:ys.length≤sizeLine) :
  Inv X pins σ (upd H D (.tup ys)) s:=by
 obtain⟨f0,f1,f2,f3,f4,f5⟩:=f
 have nD:∀b u,H b=some u→b≠D:=fun b u q=>aV q f0
 have hok:G8 X.prog X.w (upd H D (.tup ys)) s.heap:=fun b u q=>by
  by_cases hb:b=D
  ·subst hb
   rw[aq]at q
   cases q
   exact⟨hz,us,r,e⟩
  ·rw[ao hb]at q
   exact(I.hok b u q).stay (fun _ _ _ z=>z) (fun c z=>by rw[ao (nD c _ z)];exact z) fun c xs z=>by rw[ao (nD c _ z)];exact z
 exact I.step (H':=upd H D (.tup ys)) (h':=s.heap) (g':=s.gens) (t':=s.toks) (d':=s.drawn) (ch:=[D])
  (fun b hb=>by
   have z:b=D:=by simpa using hb
   subst z
   exact⟨f3,f1,f4,f5⟩)
  (fun _ _ _ _ _ q _=>q) (fun _ o _ _ _ q _=>⟨o.slots,q⟩)
  (fun b o hb _ n=>by rw[ao (fun z=>hb (by simp[z]))];exact n)
  (fun _ o _ q=>⟨o,q⟩) (fun b xs q=>by rw[ao (nD b _ q)];exact q) (fun b o u q=>by rw[ao (nD b _ q)];exact q)
  (fun b ps q=>⟨#[],by rw[ao (nD b _ q),q];simp⟩) (fun _ q=>q) hok I.bare
end
noncomputable def DX(K:PySem.W.Frag)(a b:Addr):It:=
  ⟨fun i H=>∃xs ys x y,F3 K H a xs∧F3 K H b ys∧xs[i]?=some x∧ys[i]?=some y,
   fun i H v H'=>∃p x y,v = .ref p∧H p=none∧H'=upd H p (.tup [x,y])∧∀xs ys,F3 K H a xs→F3 K H b ys→xs[i]?=some x∧ys[i]?=some y,
   fun i H=>∃xs ys,F3 K H a xs∧F3 K H b ys∧(xs.length≤i∨ys.length≤i)⟩
theorem uF{P:Program}{w:World}{K:PySem.W.Frag}{elts:List Expr}{k0:Nat}{Ix:Pos}{z TI TO i1 i2 a b:Addr}(D:ZipApart z TI TO i1 i2 a b) :
  nY P w K (.Tuple elts k0 Ix) (DX K a b) [z,TI,TO,i1,i2] z (fun i h=>IsZip h z TI TO .none∧IsPair h TI (.ref i1) (.ref i2)∧(∃x y,IsPair h TO x y)∧h.IsTupleIter i1 a i∧h.IsTupleIter i2 b i) where
 mem:=by simp
 obj:=fun i h st c hc=>by
  obtain⟨gz,gI,⟨x,y,gO⟩,⟨o1,e1,_,d1⟩,⟨o2,e2,_,d2⟩⟩:=st
  simp only[List.mem_cons,List.not_mem_nil,or_false]at hc
  rcases hc with rfl|rfl|rfl|rfl|rfl
  ·exact⟨_,gz,fun v q=>by cases q⟩
  ·exact⟨_,gI,fun v q=>by cases q⟩
  ·exact⟨_,gO,fun v q=>by cases q⟩
  ·exact⟨_,e1,fun v q=>by rw[d1]at q;cases q⟩
  ·exact⟨_,e2,fun v q=>by rw[d2]at q;cases q⟩
 keep:=fun i h h' st k=>by
  obtain⟨gz,gI,⟨x,y,gO⟩,g1,g2⟩:=st
  exact⟨k z (by simp) _ gz,k TI (by simp) _ gI,⟨x,y,k TO (by simp) _ gO⟩,g1.at fun o e=>k i1 (by simp) o e,g2.at fun o e=>k i2 (by simp) o e⟩
 item:=by
  intro X hP hw hK hc i pins s σ H E I hf st hg
  subst hP hw hK
  obtain⟨gz,gI,⟨ta,tb,gO⟩,g1,g2⟩:=st
  obtain⟨xs,ys,x,y,KE,Lg,hx,hy⟩:=hg
  obtain⟨ia,ra,pa,za⟩:=I.tuple KE
  obtain⟨ib,rb,pb,zb⟩:=I.tuple Lg
  obtain⟨u,hu,ru⟩:=ra.get hx
  obtain⟨v,hv,rv⟩:=rb.get hy
  refine Zt.iS D gz gI gO g1 g2 (show s.heap.IsTuple a ia.toArray from pa) (show s.heap.IsTuple b ib.toArray from pb) (x:=u) (y:=v) (by simpa using hu) (by simpa using hv) fun g a1 a2 a3 a4 a5 a6=>?_
  refine⟨_,rfl,wpAny_letOwnedTupleGo_zip (s:={ s with heap:=g }) a1 fun g' z' q'=>?_⟩
  have kk:∀c o,c ∉ [z,TI,TO,i1,i2]→s.heap.get? c=some o→g'.get? c=some o:=fun c o hc e=>by
   simp only[List.mem_cons,List.not_mem_nil,or_false,not_or]at hc
   exact q'.extBut _ _ hc.1 (a6 c o hc.1 hc.2.2.1 hc.2.2.2.1 hc.2.2.2.2 e)
  have I1:Inv X pins σ H { s with heap:=g' }:=I.Is (t':=s.toks) kk hf
  have f0:Gk X pins H s.heap.objs.size:=I.HB (Nat.le_refl _) (I.hok.fresh (Nat.le_refl _))
  have eT:Go g' s.heap.objs.size [u,v].toArray:=⟨_,q'.extBut _ _ (Nat.ne_of_gt (Heap.lt_size gz)) a5,rfl,rfl,_,rfl⟩
  have I2:=I1.Kh f0 eT (.cons ru (.cons rv .nil)) (by show 2≤sizeLine;decide)
  refine⟨.ref s.heap.objs.size,_,I2,rfl,⟨s.heap.objs.size,x,y,rfl,f0.1,rfl,fun xs' ys' h1 h2=>by rw[I.Gw h1 KE,I.Gw h2 Lg];exact⟨hx,hy⟩⟩,
   ⟨z',q'.extBut _ _ D.TIz (a6 TI _ D.TIz D.TITO D.TIi1 D.TIi2 gI),⟨_,_,q'.extBut _ _ D.TOz a2⟩,a3.extBut q'.extBut D.i1z,a4.extBut q'.extBut D.i2z⟩,fun c hc=>?_⟩
  have hlt:c < s.heap.objs.size:=by
   obtain⟨o1,e1,_⟩:=g1
   obtain⟨o2,e2,_⟩:=g2
   simp only[List.mem_cons,List.not_mem_nil,or_false]at hc
   rcases hc with rfl|rfl|rfl|rfl|rfl
   ·exact Heap.lt_size gz
   ·exact Heap.lt_size gI
   ·exact Heap.lt_size gO
   ·exact Heap.lt_size e1
   ·exact Heap.lt_size e2
  rw[ao (Nat.ne_of_lt hlt)]
  exact(hf c hc).1
 done:=by
  intro X hP hw hK hc i pins s σ H E I hf st hg
  subst hP hw hK
  obtain⟨gz,gI,⟨ta,tb,gO⟩,g1,g2⟩:=st
  obtain⟨xs,ys,KE,Lg,hl⟩:=hg
  obtain⟨ia,ra,pa,za⟩:=I.tuple KE
  obtain⟨ib,rb,pb,zb⟩:=I.tuple Lg
  have la:=ra.length
  have lb:=rb.length
  refine Zt.ko (I.ok.hd hc) D gz gI gO g1 g2 (show s.heap.IsTuple a ia.toArray from pa) (show s.heap.IsTuple b ib.toArray from pb) ?_ fun g kk=>⟨rfl,I.Is (t':=s.toks) (fun c o hc e=>?_) hf⟩
  ·rcases hl with q|q
   ·exact .inl (by simp;omega)
   ·exact .inr (by simp;omega)
  ·simp only[List.mem_cons,List.not_mem_nil,or_false,not_or]at hc
   exact kk c o hc.1 hc.2.2.1 hc.2.2.2.1 hc.2.2.2.2 e
 self:=fun _ _ _ _ _ st h=>wpAny_pyIter_zip st.1 h
section
variable {X:Cx}
def DY(K:PySem.W.Frag)(ta:TA):TI:=fun σ H R=>ta σ H fun vs H1=>∃a b,vs=[.ref a,.ref b]∧(∃xs,F3 K H1 a xs)∧(∃ys,F3 K H1 b ys)∧R (DX K a b) H1
theorem zO{elts:List Expr}{k0:Nat}{Ix:Pos}{a b:Expr}{ta:TA}{p pos:Pos}(hg:Gl X "zip")(hm:X.mg "zip" = none)(hv:bootBuiltins "zip" = some (.type "zip"))(ha:PA X [a,b] ta)
  (hs:starEach [a,b] X.env=[(false,eval a X.env),(false,eval b X.env)]:=by rfl) (hs2:starEach [b] X.env=[(false,eval b X.env)]:=by rfl):PI X (.Tuple elts k0 Ix) (.Call (.Name "zip" p) [a,b] [] pos) (DY X.K ta):=by
 intro pins s σ H R I h
 refine Call_ (gH I hg hm hv (PyProof.Rows.callWith_type1 (FI (ha pos pins s σ H _ I h) fun us s1 ⟨vs,H1,I1,r1,q1⟩=>?_) (by rw[hs,hs2]) (by rw[hs2];rfl)))
 obtain⟨a,b,e,⟨xs,qa⟩,⟨ys,qb⟩,q⟩:=q1
 subst e
 obtain⟨u,v,rfl,ru,rv⟩:=t_ r1
 cases ru
 cases rv
 obtain⟨ia,ra,pa,za⟩:=I1.tuple qa
 obtain⟨ib,rb,pb,zb⟩:=I1.tuple qb
 have la:a < s1.heap.objs.size:=by obtain⟨o,e,_⟩:=pa;exact Heap.lt_size e
 have lb:b < s1.heap.objs.size:=by obtain⟨o,e,_⟩:=pb;exact Heap.lt_size e
 refine Zt.kq (show s1.heap.IsTuple a ia.toArray from pa) (show s1.heap.IsTuple b ib.toArray from pb) fun g gz gI gO g1 g2 kk=>?_
 refine wpAny_pyIter_zip (s:={ s1 with heap:=g }) gz ?_
 refine⟨_,[s1.heap.objs.size+4,s1.heap.objs.size+2,s1.heap.objs.size+3,s1.heap.objs.size,s1.heap.objs.size+1],_,_,H1,rfl,I1.kept (t':=s1.toks) kk,uF (zipApart_new la lb),⟨gz,gI,⟨_,_,gO⟩,g1,g2⟩,fun c hc=>?_,q⟩
 have hle:s1.heap.objs.size≤c:=by
  simp only[List.mem_cons,List.not_mem_nil,or_false]at hc
  rcases hc with rfl|rfl|rfl|rfl|rfl
  ·exact Nat.le_add_right _ _
  ·exact Nat.le_add_right _ _
  ·exact Nat.le_add_right _ _
  ·exact Nat.le_refl _
  ·exact Nat.le_add_right _ _
 exact I1.HB hle (I1.hok.fresh hle)
def KD(P:Program)(w:World)(K:PySem.W.Frag)(a:Addr)(kvs:List (bg×V)):Prop:=(a == sysModules)=false∧∃o vs,K.lookup a=some o∧KV kvs vs∧Obj.IsDictOf (aQ P w) o vs
def B_(a:Addr)(kvs:List (bg×V))(ty tx:TE):TE:=fun σ H Q=>ty σ H fun y H2=>tx σ H2 fun z H3=>∃k,y=kV k∧Q ((gt kvs k).getD z) H3
theorem xu{x:Str}{e f:Expr}{px apos cpos:Pos}{ty tx:TE}{a:Addr}{kvs:List (bg×V)}(hu:X.A.units+1 < cLine)(hg:Gl X x)(hm:X.mg x=some (.ref a))(hD:KD X.prog X.w X.K a kvs)(he:PE X e ty)(hf:PE X f tx)(m:M2 X (.Name x px) "get" apos e f cpos)
  (hd:(x == ("__debug__":Str))=false:=by decide):PE X (.Call (.Attribute (.Name x px) "get" apos) [e,f] [] cpos) (B_ a kvs ty tx):=by
 intro pins s σ H Q I h
 obtain⟨hsys,o,vs,hk,rel,ii⟩:=hD
 have dd:∀{s1:Shared} {H1:Hp},Inv X pins σ H1 s1→s1.heap.DictOf (aQ X.prog X.w) a vs:=fun I1=>Heap.dictOf_iff.mpr ⟨o,I1.Ik a o hk,ii⟩
 refine wpAny_Call_method m.base m.few m.line PySem.F.plainAttrs_dict PySem.F.slot_dict_get PySem.F.type_dict_get (fY I hg hm ?_ hd)
 refine⟨(dd I).typeIs,fun b q=>?_,?_⟩
 ·cases q
  obtain⟨ob,_,_,h1,h2,_⟩:=dd I
  exact⟨ob,h1,h2.2.1⟩
 rw[m.trees]
 refine Calls.callWith_builtin rfl (Calls.evalArgs_plain (Calls.spliced_cons (FI (he pins s σ H _ I h) fun iv s2 ⟨y,H2,I2,ry,q2⟩=>
  Calls.spliced_cons (FI (hf pins s2 σ H2 _ I2 q2) fun fv s3 ⟨z,H3,I3,rz,k,ey,q3⟩=>Calls.spliced_nil ?_))))
 subst ey
 refine call_meetsIn PySem.F.slot_dict_get (dd I3).typeIs PySem.F.entry_dict_get (PySem.F.args_dict_get_3 _ _ _) (meets_dict_get_default (aQ X.prog X.w) a (kl ry) hsys fv) ⟨_,(dd I3).mapOf,⟨_,H3,I3.tok _,?_,q3⟩⟩
 exact(rel.val k).getD rz
end
section
variable {env:Env} {rest:List Expr} {pos:Pos}
theorem sQ{a:Expr}{gs:List Comprehension}{sc:Scope}:starEach (.ListComp a gs sc pos::rest) env=(false,eval (.ListComp a gs sc pos) env)::starEach rest env:=rfl
end
section
variable {X:Cx} {pos:Pos} {es:List Expr} {te:TE} {t:TA}
end
structure QE (X:Cx) (e:Expr) (t:TE):Prop where
 ok:PE X e t
structure QA (X:Cx) (es:List Expr) (t:TA):Prop where
 ok:PA X es t
section
variable {X:Cx} {pos:Pos} {e:Expr} {es:List Expr} {te:TE} {t:TA}
end
structure QS (X:Cx) (st:Stmt) (t:TS):Prop where
 ok:PS X st t
structure Fw (X:Cx) (st:List Stmt) (t:TS):Prop where
 ok:IN X st t
section
variable {X:Cx} {pos:Pos} {a b e tg iter:Expr} {es:List Expr} {ta tb' te:TE} {t:TA} {st:Stmt} {sts:List Stmt} {u v tb:TS}
end
section
variable {X:Cx}
end
end L2
namespace Et
open PySem
open Sem (wp)
open AutoSeq1 (wpAny_loadPart')
end Et
namespace L2
open PySem PySem.Spec PyProof.Rows
section
variable {X:Cx}
end
theorem uG(w:World)(x:Str):PyData.keyHash w.params x=hashStr w x:=rfl
noncomputable abbrev Dh(w:World)(x:Str×Int×Tok×Tok):DictEntry:=⟨PyData.keyHash w.params x.1,.str x.1 x.2.2.1,.int x.2.1 x.2.2.2⟩
theorem zP(P:Program)(w:World)(xs:List (Str×Int×Tok×Tok))(ep:Nat)(nd:(xs.map (·.1)).Nodup) :
  ∃vs,KV (xs.map fun x=>((Sum.inr x.1:bg),V.int x.2.1)) vs∧Obj.IsDictOf (aQ P w) { cls:=.type "dict",data:=.dict (xs.map (Dh w)).toArray ep } vs:=by
 refine⟨xs.map fun x=>((Sum.inr x.1:bg),Value.int x.2.1 x.2.2.2),?_,(xs.map (Dh w)).toArray,ep,⟨rfl,rfl,rfl⟩,rfl,?_,?_,?_⟩
 ·induction xs with
  |nil=>exact .nil
  |cons x xs ih=>exact .cons ⟨rfl,_,rfl⟩ (ih (by simpa using(List.nodup_cons.mp (by simpa using nd)).2))
 ·intro e he
  have he':e∈xs.map (Dh w):=by simpa using he
  obtain⟨x,_,rfl⟩:=List.mem_map.mp he'
  exact⟨Sum.inr x.1,iL x.1 x.2.2.1,uG w x.1⟩
 ·have key:∀ys:List (Str×Int×Tok×Tok),Pairs (aQ P w) (ys.map (Dh w)) (ys.map fun x=>((Sum.inr x.1:bg),Value.int x.2.1 x.2.2.2)):=by
   intro ys
   induction ys with
   |nil=>exact .nil
   |cons y ys ih=>exact .cons (iL y.1 y.2.2.1) rfl ih
  exact key xs
 ·rw[List.map_map]
  have e:((fun x:bg×Value=>x.1) ∘ fun x:Str×Int×Tok×Tok=>((Sum.inr x.1:bg),Value.int x.2.1 x.2.2.2))=fun x=>Sum.inr x.1:=rfl
  have key:∀ys:List (Str×Int×Tok×Tok),(ys.map (·.1)).Nodup→(ys.map fun x=>(Sum.inr x.1:bg)).Nodup:=by
   intro ys
   induction ys with
   |nil=>intro _;exact List.nodup_nil
   |cons y ys ih=>
    intro h
    rw[List.map_cons,List.nodup_cons]at h ⊢
    refine⟨fun hm=>h.1 ?_,ih h.2⟩
    obtain⟨z,hz,e⟩:=List.mem_map.mp hm
    have e':z.1=y.1:=Sum.inr.inj e
    exact List.mem_map.mpr ⟨z,hz,e'⟩
  exact key xs nd
end L2
namespace Wd
open PySem L2 PyProof.Rows
noncomputable def abc:Str:="abcdefghijklmnopqrstuvwxyz"
noncomputable def GA:List Str:=["jars","deed","rest","pay","put","then","either","take","often","use"]
theorem zQ:∀i,i < 26→abc.cps.toList[i]?=some (97+i):=by decide +kernel
theorem jZ:abc.length≤sizeLine∧abc.cps.toList.length=26:=by decide +kernel
theorem uH:∀i,i < 26→Builtin.Str.occurrences abc (lV (97+i)) 0 abc.length 1=[i]:=by decide +kernel
theorem rj{α:Type} [BEq α] [LawfulBEq α]:∀{xs ys:List α},xs.Nodup→(∀x∈xs,x∈ys)→xs.length≤ys.length
 |[],ys,_,_=>Nat.zero_le _
 |x::xs,ys,nd,h=>by
  have hx:=h x (List.mem_cons_self ..)
  have q:=rj (xs:=xs) (ys:=ys.erase x) (List.nodup_cons.mp nd).2 fun y hy=>by
   have ne:y≠x:=fun e=>(List.nodup_cons.mp nd).1 (e▸hy)
   exact(List.mem_erase_of_ne ne).mpr (h y (List.mem_cons_of_mem _ hy))
  rw[List.length_erase_of_mem hx]at q
  have:=List.length_pos_of_mem hx
  rw[List.length_cons]
  omega
noncomputable def cand(r:List Nat)(i:Nat):Str:=⟨((97+i % 26)::r).toArray⟩
theorem uI{r:List Nat}{i j:Nat}(h:cand r i=cand r j):i % 26=j % 26:=by
 have e:(((97+i % 26)::r).toArray).toList=(((97+j % 26)::r).toArray).toList:=congrArg (fun z:Str=>z.cps.toList) h
 simp only[List.cons.injEq]at e
 omega
theorem qd(r:List Nat)(c:Nat):((List.range 26).map fun i=>cand r (c+i)).Nodup:=by
 refine List.pairwise_map.mpr (List.Pairwise.imp_of_mem (R:=(·≠·)) ?_ List.nodup_range)
 intro a b ha hb ne e
 have h1:=List.mem_range.mp ha
 have h2:=List.mem_range.mp hb
 have h3:=uI e
 omega
theorem sR(r:List Nat)(c:Nat)(bad:List Str)(h:bad.length < 26):∃j,j < 26∧cand r (c+j) ∉ bad:=by
 refine Classical.byContradiction fun no=>?_
 have q:=rj (qd r c) (ys:=bad) fun x hx=>by
  obtain⟨j,hj,rfl⟩:=List.mem_map.mp hx
  exact Classical.byContradiction fun z=>no ⟨j,List.mem_range.mp hj,z⟩
 rw[List.length_map,List.length_range]at q
 omega
structure IsW (z:Str):Prop where
 ne:z.cps.toList≠[]
 le:z.cps.toList.length≤6
 sm:∀c∈z.cps.toList,97≤c∧c≤122
theorem IsW.cand{z:Str}(h:IsW z):∃i r,z=Wd.cand r i∧i < 26∧r.length≤5∧∀c∈r,97≤c∧c≤122:=by
 obtain⟨⟨⟨l⟩⟩,ne,le,sm⟩:∃z',_∧_∧_:=⟨z,h.ne,h.le,h.sm⟩
 obtain⟨⟨l⟩⟩:=z
 cases l with
 |nil=>exact absurd rfl h.ne
 |cons c r=>
  have q:=h.sm c (List.mem_cons_self ..)
  refine⟨c - 97,r,?_,by omega,by have:=h.le;simp at this;omega,fun d hd=>h.sm d (List.mem_cons_of_mem _ hd)⟩
  unfold Wd.cand
  rw[show 97+(c - 97) % 26=c by omega]
theorem uJ{r:List Nat}(h:r.length≤5)(hs:∀c∈r,97≤c∧c≤122)(i:Nat):IsW (cand r i):=by
 refine⟨by simp[cand],by simp[cand];omega,fun c hc=>?_⟩
 have hc':c∈(97+i % 26)::r:=hc
 rcases List.mem_cons.mp hc' with e|e
 ·omega
 ·exact hs c e
theorem IsW.len{z:Str}(h:IsW z):z.length≤6:=by have q:=h.le;rw[Array.length_toList]at q;exact q
theorem IsW.line{z:Str}(h:IsW z):z.length≤sizeLine:=Nat.le_trans h.len (by decide)
theorem lW(r:List Nat)(i:Nat):Gp (cand r i).cps.toList 0=some (97+i % 26):=bC (j:=0) rfl
theorem fZ(r:List Nat)(i:Nat):Txt.slice (cand r i) (some 1) none=⟨r.toArray⟩:=by
 have e:Txt.slice (cand r i) (some 1) none=StrLaws.sliceText (cand r i) (some 1) none:=rfl
 rw[e,StrLaws.sliceText_from ⟨by decide,by simp[cand];omega⟩]
 simp[cand]
theorem lX(r:List Nat)(i:Nat):(lV (97+(i+1) % 26):Str)++(⟨r.toArray⟩:Str)=cand r (i+1):=by
 refine Str.ext' ?_
 show #[97+(i+1) % 26]++r.toArray=_
 simp[cand]
theorem mN(i:Nat):Gp abc.cps.toList ((i % 26:Nat):Int)=some (97+i % 26):=bC (zQ _ (Nat.mod_lt _ (by decide)))
theorem kr(cs:List Nat):Txt.join "" (cs.map lV)=⟨cs.toArray⟩:=by
 have q:=join_nil_signs ⟨cs.toArray⟩
 have e:Txt.join "" (cs.map lV)=Str.join ⟨#[]⟩ (cs.map lV):=StrLaws.glued_eq_join _ _
 rw[e]
 exact q
theorem xv(cs:List Nat):((cs.map lV).map (·.length)).sum=cs.length:=by
 induction cs with
 |nil=>rfl
 |cons c r ih=>rw[List.map_cons,List.map_cons,List.sum_cons,ih,List.length_cons];show 1+r.length=_;omega
theorem xx{cs:List Nat}{a i:Nat}(h:cs.length≤5)(hs:∀c∈cs,97≤c∧c≤122)(ha:a≤cs.length)(hi:i < 26) :
  IsW (Txt.slice ⟨cs.toArray⟩ none (some (a:Int))++(lV (97+i):Str)++Txt.slice ⟨cs.toArray⟩ (some (a:Int)) none)∧(Txt.slice ⟨cs.toArray⟩ none (some (a:Int))).length≤5∧(Txt.slice ⟨cs.toArray⟩ (some (a:Int)) none).length≤5:=by
 have e1:Txt.slice ⟨cs.toArray⟩ none (some (a:Int))=⟨(cs.take a).toArray⟩:=by
  have e:Txt.slice ⟨cs.toArray⟩ none (some (a:Int))=StrLaws.sliceText ⟨cs.toArray⟩ none (some (a:Int)):=rfl
  rw[e,StrLaws.sliceText_to ⟨by omega,by simp;omega⟩]
  simp
 have e2:Txt.slice ⟨cs.toArray⟩ (some (a:Int)) none=⟨(cs.drop a).toArray⟩:=by
  have e:Txt.slice ⟨cs.toArray⟩ (some (a:Int)) none=StrLaws.sliceText ⟨cs.toArray⟩ (some (a:Int)) none:=rfl
  rw[e,StrLaws.sliceText_from ⟨by omega,by simp;omega⟩]
  refine Str.ext' ?_
  show((cs.drop (a:Int).toNat).take ((cs.length:Int) - a).toNat).toArray=(cs.drop a).toArray
  rw[Int.toNat_natCast,List.take_of_length_le (by rw[List.length_drop];omega)]
 rw[e1,e2]
 have e3:((⟨(cs.take a).toArray⟩:Str)++(lV (97+i):Str)++(⟨(cs.drop a).toArray⟩:Str)).cps.toList=cs.take a++[97+i]++cs.drop a:=by
  show((cs.take a).toArray++#[97+i]++(cs.drop a).toArray).toList=_
  simp
 refine⟨⟨by rw[e3];simp,by rw[e3];simp;omega,fun c hc=>?_⟩,?_,?_⟩
 ·rw[e3]at hc
  rcases List.mem_append.mp hc with hc|hc
  ·rcases List.mem_append.mp hc with hc|hc
   ·exact hs c (List.mem_of_mem_take hc)
   ·rw[List.mem_singleton.mp hc];omega
  ·exact hs c (List.mem_of_mem_drop hc)
 ·show(cs.take a).toArray.size≤5
  rw[List.size_toArray,List.length_take];omega
 ·show(cs.drop a).toArray.size≤5
  rw[List.size_toArray,List.length_drop];omega
end Wd
namespace M3
noncomputable def bu(t b:Int):Int:=(if b < 0 then -t else t) / (Int.gcd t b:Int)
noncomputable def aZ(t b:Int):Int:=(if b < 0 then -b else b) / (Int.gcd t b:Int)
theorem f9{t b:Int}(h:b≠0):0 < Int.gcd t b:=Nat.gcd_pos_of_pos_right _ (by omega)
theorem uK{t b:Int}(h:b≠0):(Int.gcd t b:Int)≤b.natAbs:=by
 have q:Nat.gcd t.natAbs b.natAbs≤b.natAbs:=Nat.gcd_le_right _ (by omega)
 have e:Int.gcd t b=Nat.gcd t.natAbs b.natAbs:=rfl
 omega
theorem uL(t b:Int):Int.gcd (-t) (-b)=Int.gcd t b:=by rw[Int.gcd_neg,Int.neg_gcd]
theorem parts(t b:Int):∃x y:Int,t=(Int.gcd t b:Int) * x∧b=(Int.gcd t b:Int) * y:=by
 obtain⟨x,hx⟩:=Int.gcd_dvd_left t b
 obtain⟨y,hy⟩:=Int.gcd_dvd_right t b
 exact⟨x,y,hx,hy⟩
theorem qe{t b x y g:Int}(hg:g=(Int.gcd t b:Int))(h:b≠0)(ht:t=g * x)(hb:b=g * y):bu t b=(if y < 0 then -x else x)∧aZ t b=(if y < 0 then -y else y):=by
 have gp:0 < g:=by rw[hg];exact Int.natCast_pos.mpr (f9 h)
 have hy:b < 0↔y < 0:=by
  rw[hb]
  constructor
  ·intro q
   by_cases z:y < 0
   ·exact z
   ·have:=Int.mul_nonneg (Int.le_of_lt gp) (Int.not_lt.mp z)
    omega
  ·intro q
   exact Int.mul_neg_of_pos_of_neg gp q
 unfold bu aZ
 rw[←hg]
 by_cases z:y < 0
 ·rw[if_pos (hy.mpr z),if_pos (hy.mpr z),if_pos z,if_pos z]
  constructor
  ·rw[ht,←Int.mul_neg,Int.mul_ediv_cancel_left _ (by omega)]
  ·rw[hb,←Int.mul_neg,Int.mul_ediv_cancel_left _ (by omega)]
 ·rw[if_neg (fun q=>z (hy.mp q)),if_neg (fun q=>z (hy.mp q)),if_neg z,if_neg z]
  constructor
  ·rw[ht,Int.mul_ediv_cancel_left _ (by omega)]
  ·rw[hb,Int.mul_ediv_cancel_left _ (by omega)]
theorem xy{t b x y:Int}(h:b≠0)(ht:t=(Int.gcd t b:Int) * x)(hb:b=(Int.gcd t b:Int) * y):Int.gcd x y=1:=by
 have gp:=f9 (t:=t) h
 have q:Int.gcd ((Int.gcd t b:Int) * x) ((Int.gcd t b:Int) * y)=(Int.gcd t b:Int).natAbs * Int.gcd x y:=Int.gcd_mul_left _ _ _
 rw[←ht,←hb,Int.natAbs_natCast]at q
 have q2:Int.gcd t b * 1=Int.gcd t b * Int.gcd x y:=by omega
 exact(Nat.eq_of_mul_eq_mul_left gp q2).symm
structure Di (a b:Int):Prop where
 pos:0 < b
 one:Int.gcd a b=1
theorem mO{t b:Int}(h:b≠0):Di (bu t b) (aZ t b):=by
 obtain⟨x,y,ht,hb⟩:=parts t b
 have c:=xy h ht hb
 obtain⟨e1,e2⟩:=qe rfl h ht hb
 have y0:y≠0:=fun z=>h (by rw[hb,z,Int.mul_zero])
 rw[e1,e2]
 by_cases z:y < 0
 ·rw[if_pos z,if_pos z]
  exact⟨by omega,by rw[uL];exact c⟩
 ·rw[if_neg z,if_neg z]
  exact⟨by omega,c⟩
theorem gK{a b x y:Int}(L:Di a b)(hy:0 < y)(e:x * b=a * y):bu x y=a∧aZ x y=b:=by
 have b0:=L.pos
 have d1:b.natAbs ∣ a.natAbs * y.natAbs:=by
  rw[←Int.natAbs_mul,←e,Int.natAbs_mul]
  exact Nat.dvd_mul_left _ _
 have c:Nat.Coprime b.natAbs a.natAbs:=by
  show Nat.gcd b.natAbs a.natAbs=1
  rw[Nat.gcd_comm]
  exact L.one
 obtain⟨k,hk⟩:=Int.natAbs_dvd_natAbs.mp (c.dvd_of_dvd_mul_left d1)
 have k0:0 < k:=by
  by_cases z:0 < k
  ·exact z
  ·have:=Int.mul_nonneg (Int.le_of_lt b0) (show 0 ≤ -k by omega)
   rw[Int.mul_neg]at this
   omega
 have hx:x=a * k:=by
  have q:x * b=a * k * b:=by rw[e,hk,Int.mul_assoc,Int.mul_comm k b]
  exact Int.eq_of_mul_eq_mul_right (by omega) q
 have g:(Int.gcd x y:Int)=k:=by
  rw[hx,hk,Int.gcd_mul_right,L.one,Nat.one_mul]
  omega
 have q:=qe (g:=k) (x:=a) (y:=b) (t:=x) (b:=y) g.symm (by omega) (by rw[hx,Int.mul_comm]) (by rw[hk,Int.mul_comm])
 rw[if_neg (by omega),if_neg (by omega)]at q
 exact q
theorem sT{t b:Int}(h:b≠0):bu t b * b=t * aZ t b:=by
 obtain⟨x,y,ht,hb⟩:=parts t b
 obtain⟨e1,e2⟩:=qe rfl h ht hb
 rw[e1,e2]
 have q:x * b=t * y:=by
  have e3:x * ((Int.gcd t b:Int) * y)=(Int.gcd t b:Int) * x * y:=by rw[←Int.mul_assoc,Int.mul_comm x]
  rw[←ht,←hb]at e3
  exact e3
 by_cases z:y < 0
 ·rw[if_pos z,if_pos z,Int.neg_mul,Int.mul_neg,q]
 ·rw[if_neg z,if_neg z]
  exact q
theorem oh{t b:Int}(h:b≠0):t.fdiv (if b < 0 then -(Int.gcd t b:Int) else (Int.gcd t b:Int))=bu t b∧b.fdiv (if b < 0 then -(Int.gcd t b:Int) else (Int.gcd t b:Int))=aZ t b:=by
 have gp:(0:Int) < (Int.gcd t b:Int):=Int.natCast_pos.mpr (f9 h)
 have d1:=Int.gcd_dvd_left t b
 have d2:=Int.gcd_dvd_right t b
 unfold bu aZ
 by_cases z:b < 0
 ·rw[if_pos z,if_pos z,if_pos z,Int.fdiv_neg (by omega),if_pos d1,Int.fdiv_neg (by omega),if_pos d2,Int.fdiv_eq_ediv_of_dvd d1,Int.fdiv_eq_ediv_of_dvd d2,Int.neg_ediv_of_dvd d1,Int.neg_ediv_of_dvd d2]
  exact⟨rfl,rfl⟩
 ·rw[if_neg z,if_neg z,if_neg z,Int.fdiv_eq_ediv_of_dvd d1,Int.fdiv_eq_ediv_of_dvd d2]
  exact⟨rfl,rfl⟩
theorem oi(x y:Int):Int.gcd y (x.fmod y)=Int.gcd x y:=by
 have q:=Int.mul_fdiv_add_fmod x y
 have e:Int.gcd y (x.fmod y+x.fdiv y * y)=Int.gcd y (x.fmod y):=Int.gcd_add_mul_right_right _ _ _
 rw[←e,Int.mul_comm (x.fdiv y) y,Int.add_comm,q,Int.gcd_comm]
theorem uM{t b T B:Int}(h:b≠0)(h1:-T≤t)(h2:t≤T)(h3:-B≤b)(h4:b≤B)(hT:0≤T)(hB:0≤B):-T≤bu t b∧bu t b≤T∧0 < aZ t b∧aZ t b≤B:=by
 have gp:(0:Int) < (Int.gcd t b:Int):=Int.natCast_pos.mpr (f9 h)
 have L:=(mO (t:=t) h).pos
 have key:∀z M:Int,0≤M→-M≤z→z≤M→-M≤z / (Int.gcd t b:Int)∧z / (Int.gcd t b:Int)≤M:=fun z M hM z1 z2=>by
  generalize (Int.gcd t b:Int)=g at gp
  have m2:M * 1≤M * g:=Int.mul_le_mul_of_nonneg_left (by omega) hM
  have m3:-M * g = -(M * g):=Int.neg_mul M g
  exact⟨Int.le_ediv_of_mul_le gp (by omega),Int.ediv_le_of_le_mul gp (by omega)⟩
 have k1:=key (if b < 0 then -t else t) T hT (by split<;>omega) (by split<;>omega)
 have k2:=key (if b < 0 then -b else b) B hB (by split<;>omega) (by split<;>omega)
 exact⟨k1.1,k1.2,L,k2.2⟩
end M3
namespace Xc
open PySem PySem.W PySem.Calls PyProof.Rows Builtin Builtin.ObjectAttr
noncomputable abbrev zR:List Value:=[.type "ValueError",.type "Exception",.type "BaseException",.type "object"]
noncomputable def jL(K:Frag)(C:Addr):Bool:=match K.lookup C with
 |some ⟨.type "type",_,.cls cd,sl⟩=>(match cd.mro,sl.toList with
  | .ref C'::bm,[_,_,_,_,some (.builtin n),_]=>C' == C&&n == "ValueError.__new__" && !cd.hasDel&&cd.hasDict&&tailIn K zR bm
  |_,_=>false)
 |_=>false
theorem qg{K:Frag}{h:Heap}{C:Addr}(X:K.In h)(q:jL K C=true):∃nm qn N bs bm sn sub ab col dd k0 k1 k2 k3 k5,
  K.lookup C=some (excClassObj nm qn C N bs bm true sn sub ab col dd k0 k1 k2 k3 k5 "ValueError.__new__")∧OwnTail h zR bm:=by
 unfold jL at q
 split at q
 ·rename_i dd cd sl ho
  split at q
  ·rename_i C' bm k0 k1 k2 k3 n k5 hm hs
   simp only[Bool.and_eq_true,beq_iff_eq,Bool.not_eq_true']at q
   obtain⟨⟨⟨⟨rfl,rfl⟩,LW⟩,hdct⟩,ht⟩:=q
   obtain⟨nm,bs,mro,ns,qn,hd,sn,sub,ab,col,del⟩:=cd
   dsimp only at hm LW hdct
   subst hm LW hdct
   have hsl:sl=#[k0,k1,k2,k3,some (.builtin "ValueError.__new__"),k5]:=by
    obtain⟨l⟩:=sl
    simp only at hs
    rw[hs]
   subst hsl
   exact⟨nm,qn,ns,bs,bm,sn,sub,ab,col,dd,k0,k1,k2,k3,k5,ho,tail_of_in X ht⟩
  ·cases q
 ·cases q
noncomputable abbrev eo(rest:List Value):Obj:={ cls:=.type "tuple",data:=.seq rest.toArray }
noncomputable abbrev eu(C:Addr)(t:Addr):Obj:={ cls:=.ref C,data:=.fields #[.ref t,.none,.none,.none,.bool false,.none] }
section
variable {prog:Program} {w:World} {A:Around} {K:Frag} {C f:Addr} {R:Result→Shared→Prop} {h:Heap} {g:Array GenState} {d:Drawn} {t:Nat} {os:OsState}
theorem uN{rest:List Value}(X:K.In h)(q:jL K C=true)(hi:findIn K (.ref C) "__init__" = some (some (.ref f)))(hf:typeIn K (.ref f)=some (.type "function"))(hrest:rest.length≤sizeLine)
  (hq:codeAny (model prog w) (A.under (.builtin "type.__call__" ⟨.ref C::rest,[]⟩)) (.call (.ref f) ⟨.ref (h.objs.size+1)::rest,[]⟩) (InitBack (h.objs.size+1) R) ⟨(h.push (eo rest)).push (eu C h.objs.size),g,d,t,os⟩) :
  codeAny (model prog w) A (.call (.ref C) ⟨rest,[]⟩) R ⟨h,g,d,t,os⟩:=by
 obtain⟨nm,qn,N,bs,bm,sn,sub,ab,col,dd,k0,k1,k2,k3,k5,hK,T⟩:=qg X q
 have hC:=X _ _ hK
 have F0:=PySem.F.excBase_ValueError
 have f1:=tc_lookup
 have f2:=tc_bind (.ref C)
 have hT:(⟨h,g,d,t,os⟩:Shared).TypeIs (.ref C) "type":=⟨_,hC,rfl⟩
 refine codeAny_of_tree ?_
 show wpAny _ _ (callAny (.ref C) _) _ _ _
 repeat (any_goals (first|assumption|with_reducible refine wpAny_loadPart_at hC ?_|wp_step))
 refine⟨rfl,?_⟩
 refine codeAny_call_builtin_at (Code.quiet_builtin _ (by decide +kernel)) entry_typeCall (wpAny_check_type_call_sub hC ?_)
 repeat (first|with_reducible refine wpAny_loadPart_at hC ?_|with_reducible refine wpAny_madeBy_exc hC ?_|wp_step)
 refine codeAny_call_builtin_code (Code.quiet_builtin _ F0.quiet) (wpAny_check_new_subU F0 F0.hasB T hC ?_)
 refine codeAny_exc_new_subU F0 F0.hasB F0 T hC ?_ hrest
 show wpAny _ _ _ _ _ _
 have k:∀b o,h.get? b=some o→((h.push (eo rest)).push (eu C h.objs.size)).get? b=some o:=fun b o e=>Heap.get?_push_of_some _ (Heap.get?_push_of_some _ e)
 have hx:((h.push (eo rest)).push (eu C h.objs.size)).get? (h.objs.size+1)=some (eu C h.objs.size):=by heap_get
 have t1:Looks (model prog w) ((h.push (eo rest)).push (eu C h.objs.size)) (typeOf (.ref (h.objs.size+1))) (.ref C):=(Looks.ld hx).andThen .now
 have hC₁:=k _ _ hC
 have hcC:(Value.ref C::bm).contains (.ref C)=true:=by simp
 have i1:=(looks_findIn (M:=model prog w) X hi).keeps k
 have b1:=(bind_fn (M:=model prog w) X (.ref (h.objs.size+1)) hf).keeps k
 show wpAny (model prog w) (A.under (.builtin "type.__call__" ⟨.ref C::rest,[]⟩)) _ _ _ ⟨(h.push (eo rest)).push (eu C h.objs.size),g,d,t,os⟩
 unfold isInstance callSpecial? specialOf
 repeat (first|with_reducible refine wpAny_call ?_|simp only[hcC,Bool.not_true,Bool.false_eq_true,if_false]|lk)
 refine codeAny_mono hq fun r s' z=>?_
 rcases r with e|(v|_|_|_)<;>first|exact z|exact z.elim|skip
 obtain⟨rfl,z⟩:=z
 exact wpAny_pure (wpAny_pure z)
end
structure uO (h:Heap) (e:Addr) (oe:Obj) (vs:Array Value):Prop where
 at_:h.get? e=some oe
 dat:oe.data = .fields vs
 tb:vs[1]?=some .none∨∃T oT ts,vs[1]?=some (.ref T)∧T≠e∧h.get? T=some oT∧oT.data = .fields ts∧ts[3]?=some .none
section
variable {M:Model} {A:Around} {E:Value→Shared→Prop} {s:Shared}
noncomputable abbrev Dj(l:List Env):List Addr:=l.filterMap (·.frame)
structure rm (l:List Env) (e:Addr) (oe:Obj) (old:Addr→Prop) (h h':Heap):Prop where
 lies:∃KQ vs' T oT ts,h'.get? e=some KQ∧KQ.cls=oe.cls∧KQ.dict=oe.dict∧KQ.data = .fields vs'∧vs'[1]?=some (.ref T)∧h.objs.size≤T∧T≠e∧h'.get? T=some oT∧oT.data = .fields ts∧ts[3]?=some .none
 keep:∀b o,b≠e→¬old b→b ∉ Dj l→h.get? b=some o→h'.get? b=some o
 slot:∀b o,b∈Dj l→h.get? b=some o→∃sl,h'.get? b=some { o with slots:=sl }
theorem lY{base:Heap}{env:Env}{outer:List Env}{L e:Addr}{oe:Obj}{vs:Array Value}{head:Value}{hadNext:Bool}{Q:Unit→Shared→Prop}
  (hfr:A.frames=some (env::outer)) (hl:s.heap.FunFrames base (env::outer)) (hf:env.frame=some L) (he:s.heap.get? e=some oe) (hd:oe.data = .fields vs) (hsz:1 < vs.size)
  (h:∀h',rm (env::outer) e oe (fun _=>False) s.heap h'→Q () { s with heap:=h' }) :
  wpAny M A (do let a ←frameOf env;let pl ←entryPlaceOf L hadNext;let b ←EntryCells.newEntry head a .none (rawInt L) .none pl;setField (.ref e) 1 b) (fun _ s'=>wpAny M A (setFlight (.ref e) none) Q E s') E s:=by
 have LX:e ∉ (env::outer).filterMap (·.frame):=fun hm=>by
  obtain⟨_,o,ho,hnf⟩:=hl.mem hm
  rw[he]at ho;injection ho with ho;subst ho;exact hnf vs hd
 refine wpAny_bind (wpAny_frameOf_fun hfr hl hf fun h₁ hs₁=>?_)
 refine wpAny_bind (wpAny_entryPlaceOf fun pl hpl=>?_)
 unfold EntryCells.newEntry newFields
 refine wpAny_bind (wpAny_newObj_type ?_ (hpl.sizeOk5 _ _ _ _ _))
 have NI:h₁.get? e=some oe:=(hs₁.2.1 e LX).trans he
 have NJ:=Heap.get?_push_of_some (h:=h₁) { cls:=.type "traceback",dict:=none,data:=.fields ([head,.ref L,.none,rawInt L,.none]++(if pl.isEmpty then List.replicate 6 Value.none else pl)).toArray } NI
 refine wpAny_setField NJ hd hsz ?_
 have LY:h₁.objs.size≠e:=Nat.ne_of_gt (Heap.lt_size NI)
 have hd₃:=Obj.data_mapFields hd (·.setIfInBounds 1 (Value.ref h₁.objs.size))
 have NK:=Heap.get?_update_self (Obj.mapFields (·.setIfInBounds 1 (Value.ref h₁.objs.size))) NJ (Obj.isFreed_of_fields hd₃)
 have NL:=(Heap.get?_update_other (h₁.push { cls:=.type "traceback",dict:=none,data:=.fields ([head,.ref L,.none,rawInt L,.none]++(if pl.isEmpty then List.replicate 6 Value.none else pl)).toArray })
  (Obj.mapFields (·.setIfInBounds 1 (Value.ref h₁.objs.size))) (Ne.symm LY)).trans (Heap.get?_push_size h₁ rfl)
 unfold setFlight
 refine wpAny_bind (wpAny_field NK hd₃ (x:=.ref h₁.objs.size) (by simp[hsz]) ?_)
 rw[if_pos (show(Value.ref h₁.objs.size != Value.none)=true from by simp)]
 refine wpAny_setField NL rfl (by simp only[List.size_toArray,List.length_append,List.length_cons,List.length_nil]<;>omega) (h _ ?_)
 have keep:∀b o,b≠e→h₁.get? b=some o→
   (((h₁.push { cls:=.type "traceback",dict:=none,data:=.fields ([head,.ref L,.none,rawInt L,.none]++(if pl.isEmpty then List.replicate 6 Value.none else pl)).toArray }).update e (Obj.mapFields (·.setIfInBounds 1 (Value.ref h₁.objs.size)))).update h₁.objs.size
    (Obj.mapFields (·.setIfInBounds 3 ((none:Option Addr).elim Value.none fun f=>rawInt f)))).get? b=some o:=fun b o JX hb=>by
  have OJ:h₁.objs.size≠b:=Nat.ne_of_gt (Heap.lt_size hb)
  rw[Heap.get?_update_other _ _ OJ,Heap.get?_update_other _ _ (Ne.symm JX)]
  exact Heap.get?_push_of_some _ hb
 refine⟨⟨_,_,h₁.objs.size,_,_,?_,Obj.cls_mapFields _ _,?_,hd₃,by simp[hsz],Nat.le_of_eq hs₁.1.symm,LY,Heap.get?_update_self _ NL (Obj.isFreed_of_fields (Obj.data_mapFields rfl _)),Obj.data_mapFields rfl _,by first|(simp;done)|(rcases hpl with rfl|⟨_,_,_,_,_,_,_,rfl⟩<;>simp)⟩,fun b o JX _ KR hb=>keep b o JX ((hs₁.2.1 b KR).trans hb),fun b o KR hb=>?_⟩
 ·rw[Heap.get?_update_other _ _ LY];exact NK
 ·obtain⟨c,dd,da,sl⟩:=oe;cases hd;rfl
 ·obtain⟨sl,hs⟩:=hs₁.2.2 b o hb
  exact⟨sl,keep b _ (fun z=>LX (z▸KR)) hs⟩
def h_(vs:Array Value)(b:Addr):Prop:=vs[1]?=some (.ref b)
theorem rq{base:Heap}{env:Env}{outer:List Env}{L e:Addr}{oe:Obj}{vs:Array Value}{Q:Unit→Shared→Prop}
  (hfr:A.frames=some (env::outer)) (hl:s.heap.FunFrames base (env::outer)) (hf:env.frame=some L) (x:uO s.heap e oe vs)
  (h:∀h',rm (env::outer) e oe (h_ vs) s.heap h'→Q () { s with heap:=h' }) :
  wpAny M A (noteFrame (.ref e) env) (fun _ s'=>wpAny M A (setFlight (.ref e) none) Q E s') E s:=by
 obtain⟨he,hd,h1|⟨T,oT,ts,h1,LY,hT,Mo,h3⟩⟩:=x
 ·unfold noteFrame
  simp only[hf]
  refine wpAny_bind (wpAny_field he hd h1 ?_)
  rw[if_neg (by decide)]
  refine lY hfr hl hf he hd (Array.getElem?_eq_some_iff.mp h1).1 fun h' n=>h h' ⟨n.lies,fun b o hb _=>n.keep b o hb id,n.slot⟩
 ·unfold noteFrame
  simp only[hf]
  refine wpAny_bind (wpAny_field he hd h1 ?_)
  rw[if_pos (show(Value.ref T != Value.none)=true from by simp)]
  refine wpAny_bind (wpAny_field hT Mo h3 ?_)
  rw[if_neg (show ¬((Value.none == rawInt L)=true)from by simp[rawInt])]
  refine wpAny_bind (wpAny_setField hT Mo (Array.getElem?_eq_some_iff.mp h3).1 ?_)
  have other:∀b,b≠T→(s.heap.update T (Obj.mapFields (·.setIfInBounds 3 Value.none))).get? b=s.heap.get? b:=fun b hb=>Heap.get?_update_other _ _ (Ne.symm hb)
  have Ki:∀b o,s.heap.get? b=some o→(∀vs,o.data ≠ .fields vs)→b≠T:=fun b o hb hnf q=>by
   rw[q,hT]at hb;injection hb with hb;subst hb;exact hnf ts Mo
  refine lY hfr (hl.of_keeps fun b o hb hnf=>⟨o,(other b (Ki b o hb hnf)).trans hb,rfl⟩) hf ((other e (Ne.symm LY)).trans he) hd (Array.getElem?_eq_some_iff.mp h1).1 fun h' n=>h h' ⟨?_,fun b o hb ho KR q=>n.keep b o hb id KR ((other b fun z=>ho (by rw[z];exact h1)).trans q),fun b o KR q=>n.slot b o KR ((other b fun z=>?_).trans q)⟩
  ·obtain⟨KQ,vs',T',OK,ts',a1,a2,a3,a4,a5,a6,a7⟩:=n.lies
   exact⟨KQ,vs',T',OK,ts',a1,a2,a3,a4,a5,by simpa [Heap.size_after_update]using a6,a7⟩
  ·obtain⟨_,o',ho',hnf⟩:=hl.mem KR
   rw[z,hT]at ho';injection ho' with ho';subst ho';exact hnf ts Mo
theorem uP{base:Heap}{env:Env}{outer:List Env}{L e:Addr}{oe:Obj}{vs:Array Value}{Q:Unit→Shared→Prop}
  (hfr:A.frames=some (env::outer)) (hl:s.heap.FunFrames base (env::outer)) (hf:env.frame=some L) (x:uO s.heap e oe vs)
  (h:∀h',rm (env::outer) e oe (h_ vs) s.heap h'→Q () { s with heap:=h' }):wpAny M A (leaving env (.ref e)) Q E s:=by
 unfold leaving
 exact wpAny_bind (rq hfr hl hf x h)
end
section
variable {M:Model} {A:Around} {E:Value→Shared→Prop} {env:Env} {K:Frag} {C:Addr}
theorem sU{s:Shared}{x:Sem Value}{Q:Flow→Shared→Prop}(q:jL K C=true)(hh:A.handled=none)
  (h:wpAny M A x (fun v s₁=>∃e oe vs,v = .ref e∧K.In s₁.heap∧s₁.heap.get? e=some oe∧oe.cls = .ref C∧oe.data = .fields vs∧vs[1]?=some .none∧E (.ref e) s₁) E s) :
  wpAny M A (raiseStmt env (some x) none) Q E s:=by
 unfold raiseStmt
 refine wpAny_bind (wpAny_mono h (fun v s₁ h₁=>?_) fun _ _ x=>x)
 obtain⟨e,oe,vs,rfl,X,he,hc,hd,h1,hE⟩:=h₁
 obtain⟨nm,qn,N,bs,bm,sn,sub,ab,col,dd,k0,k1,k2,k3,k5,hK,T⟩:=qg X q
 have hC:=X _ _ hK
 obtain⟨hp,g,d,tk,os⟩:=s₁
 have OL:(Value.ref C::bm).contains (.type "BaseException")=true:=by rw[List.contains_cons,T.hasType PySem.F.excBase_ValueError.hasBase];rfl
 have OM:(Value.ref C::bm).contains (.type "type")=false:=by rw[List.contains_cons,T.hasType (b:=false) (by decide +kernel)];rfl
 repeat (first|(with_reducible refine wpAny_loadPart_at he ?_;rw[hc])|with_reducible refine wpAny_loadPart_at hC ?_|(with_reducible refine wpAny_isSubtype_exc hC ?_;first|rw[OL]|rw[OM])|with_reducible refine wpAny_field he hd h1 ?_|wp_step)
 exact wpAny_raiseNew_none hh hE
end
structure ExcK (K:Frag) (C:Addr):Prop where
 ok:jL K C=true
 sa:findIn K (.ref C) "__setattr__" = some (some (.builtin "object.__setattr__"))
 ga:findIn K (.ref C) "__getattribute__" = some (some (.builtin "BaseException.__getattribute__"))
 gh:findIn K (.ref C) "__getattr__" = some none
 be:mroIn K C (.type "BaseException")=some true
 ob:mroIn K C (.type "object")=some true
 cl:findIn K (.ref C) "__class__" = some (some (.builtin "object.__class__"))
 cg:specialIn K (.builtin "object.__class__") "__get__" = some (some (.builtin "getset_descriptor.__get__"))
 ct:takesIn K (.builtin "object.__class__")=some true
theorem ExcK.dict{K:Frag}{C:Addr}(k:ExcK K C):hasDictIn K C=true:=by
 have q:=k.ok
 unfold jL at q
 unfold hasDictIn clsIn
 split at q
 ·rename_i dd cd sl ho
  rw[ho]
  split at q
  ·simp only[Bool.and_eq_true]at q
   exact q.1.2
  ·cases q
 ·cases q
section
variable {prog:Program} {w:World} {A:Around} {E:Value→Shared→Prop} {s:Shared} {K:Frag} {x C:Addr} {ox:Obj} {od:Option Obj} {name:Str} {expr:Bool} {Q:Value→Shared→Prop}
end
theorem oj(self:Value){h:Heap}{l:List Value}(T:OwnTail h zR l):refuseLoop self "__setattr__" l=pure ():=by
 induction T with
 |base=>exact PySem.F.store_ValueError.passes self
 |own _ _ _ _ ih=>rw[refuseLoop_ref];exact ih
section
variable {prog:Program} {w:World} {A:Around} {E:Value→Shared→Prop} {s:Shared} {K:Frag} {x C:Addr} {ox:Obj} {od:Option Obj} {name:Str} {v:Value} {R:Result→Shared→Prop}
theorem xz{tk:Tok}{r:Option Value}(X:K.In s.heap)(I:InstAt s.heap x ox C od)(k:ExcK K C)(ht:takerIn K C name=some r)
  (h:∀b,wpAny (model prog w) A.in1 (match r with|some a=>setByDescriptor a (.ref x) v|none=>storeInOwnDict (.ref x) (.ref C) (.str name tk) name v b)
   (fun fin s'=>match fin with | .done f=>R (.ok f) s' | .again c'=>c'.quiet=true∧codeAny (model prog w) A c' R s') (fun e s'=>R (.error e) s') s) :
  codeAny (model prog w) A (.call (.builtin "object.__setattr__") ⟨[.ref x,.str name tk,v],[]⟩) R s:=by
 have SF:=PySem.F.store_object
 obtain⟨nm,qn,N,bs,bm,sn,sub,ab,col,dd,k0,k1,k2,k3,k5,hK,T⟩:=qg X k.ok
 have hc:clsIn K C=some { name:=nm,bases:=bs,mro:=.ref C::bm,ns:=N,qualname:=qn,hasDict:=true,slotNames:=sn,subclasses:=sub,abstract:=ab,collection:=col,hasDel:=false }:=by unfold clsIn;rw[hK]
 have sub:Looks (model prog w) s.heap (isInstance (.ref x) (.type "object")) true:=I.type.andThen (looks_mroIn X k.ob)
 refine codeAny_call_builtin SF.slot.plain SF.entry (@check_slot (model prog w) _ _ s "object.__setattr__" "object" "__setattr__" (.ref x) [.str name tk,v] [] _ SF.kind SF.split sub (SF.args (.ref x) (.str name tk) v) ?_)
 obtain⟨attr,ha,hr⟩:=Option.bind_eq_some_iff.mp ht
 have hm:Looks (model prog w) s.heap (mroOf (.ref C)) (.ref C::bm):=(looks_clsIn X hc).andThen .now
 have L3:Looks (model prog w) s.heap (storeTaker? attr) r:=by
  cases attr with
  |none=>cases hr;exact .now
  |some a=>
   obtain⟨b,hb,rfl⟩:=Option.map_eq_some_iff.mp hr
   refine(looks_takesIn X hb).andThen ?_
   cases b<;>exact .now
 rw[osa_eq,refuse_eq]
 refine wpAny_bind (wpAny_bind (I.type.here (wpAny_bind (hm.here ?_))))
 rw[refuseLoop_ref,oj _ T]
 refine wpAny_pure (wpAny_bind (I.type.here (wpAny_bind ((looks_findIn X ha).here (wpAny_bind (L3.here ?_))))))
 exact h _
theorem uQ{Q:Unit→Shared→Prop}(X:K.In s.heap)(hx:s.heap.get? x=some ox)(hcl:ox.cls = .ref C)(hno:∀c,ox.data ≠ .cls c)(hd:ox.dict=none)(k:ExcK K C)(ht:takerIn K C name=some none)
  (h:∀h',h'.Ns1 s.heap.objs.size (fun y=>if y=name then some v else none)→h'.get? x=some { ox with dict:=some s.heap.objs.size }→(∀b o,b≠x→s.heap.get? b=some o→h'.get? b=some o)→Q () { s with heap:=h',toks:=s.toks+2 }) :
  wpAny (model prog w) A (setAttr (.ref x) name v) Q E s:=by
 have I:InstAt s.heap x ox C none:=⟨hx,hcl,by obtain⟨a,b,c,d⟩:=ox;cases c<;>first|rfl|exact absurd rfl (hno _),by rw[hd];trivial⟩
 refine set_plain X I k.sa (xz (s:={ s with toks:=s.toks+1 }) X I k ht fun b=>?_)
 obtain⟨cd,hc,hd'⟩:=any_some k.dict
 obtain⟨oc,odd,NM,osl⟩:=ox
 dsimp only at hcl hd hno
 subst hcl hd
 obtain⟨hp,g,d,t,os⟩:=s
 unfold storeInOwnDict ownDictForStores instanceDict
 refine wpAny_bind (wpAny_pure (wpAny_bind (wpAny_bind (wpAny_loadPart hx (wpAny_bind (Looks.here (s:=⟨hp,g,d,t+1,os⟩) (looks_clsIn X hc) ?_))))))
 rw[hd']
 simp only[Bool.not_true,Bool.false_eq_true,if_false]
 rw[if_neg (by simp[typeHasDict])]
 have NN:(hp.push { cls:=.type "dict",data:=.dict #[] }).get? x=some { cls:=Value.ref C,data:=NM,slots:=osl }:=Heap.get?_push_of_some _ hx
 have hxs:x≠hp.objs.size:=Nat.ne_of_lt (Heap.lt_size hx)
 refine wpAny_bind (wpAny_alloc' ?_)
 refine wpAny_bind (wpAny_update' NN ?_)
 refine wpAny_pure ?_
 have hgd:((hp.push { cls:=.type "dict",data:=.dict #[] }).update x fun o=>{ cls:=o.cls,dict:=some hp.objs.size,data:=o.data,slots:=o.slots }).get? hp.objs.size=some { cls:=.type "dict",data:=.dict #[] }:=
  (Heap.get?_update_ne _ _ _ _ hxs.symm).trans (Heap.get?_push_at rfl rfl)
 have hnd:((hp.push { cls:=.type "dict",data:=.dict #[] }).update x fun o=>{ cls:=o.cls,dict:=some hp.objs.size,data:=o.data,slots:=o.slots }).Ns hp.objs.size (fun _=>none):=
  ⟨_,#[],_,hgd,rfl,fun e he=>absurd he (by simp),fun _=>rfl⟩
 show wpAny _ _ (storeInDict hp.objs.size (.str name t) name v) _ _ _
 unfold storeInDict newKeyGuard
 refine wpAny_bind (wpAny_pure (wpAny_bind (wpAny_nsSet1 (Heap.Ns1.of_empty hnd) fun h' hn' hs=>?_)))
 obtain⟨oD,esD,Ox,MI,MJ,K_⟩:=hn'.count (Within.cons name v Within.nil)
 refine wpAny_bind (wpAny_lookBehind MI (by rw[MJ];exact pastItsLine_dict (Nat.le_trans K_ (by rw[List.length_cons,List.length_nil,sizeLine_eq];omega))) ?_)
 refine wpAny_pure (h h' hn' ?_ fun b o hb q=>(hs.2 b (Nat.ne_of_lt (Heap.lt_size q))).trans ((Heap.get?_update_ne _ _ _ _ hb).trans (Heap.get?_push_of_some _ q)))
 refine(hs.2 x hxs).trans (Heap.get?_update_self _ NN ?_)
 have hfr:=(Heap.get?_some_iff.mp hx).2
 cases NM<;>first|rfl|exact hfr
end
theorem ol{M:Model}{A:Around}{E:Value→Shared→Prop}{s:Shared}{K:Frag}{x C D:Addr}{ox:Obj}{b:Bool}{Q:Bool→Shared→Prop}(X:K.In s.heap)(hx:s.heap.get? x=some ox)(hcl:ox.cls = .ref C)(hb:mroIn K C (.ref D)=some b)
  (hD:typeIn K (.ref D)=some (.type "type")) (K_:(clsIn K D).isSome=true) (JX:mroIn K D (.type "BaseException")=some true) (h:Q b s):wpAny M A (excMatches (.ref x) (.ref D)) Q E s:=by
 obtain⟨hp,g,d,t,os⟩:=s
 have t1:Looks M hp (typeOf (.ref x)) (.ref C):=by rw[←hcl];exact(Looks.ld hx).andThen .now
 have t2:Looks M hp (typeOf (.ref D)) (.type "type"):=looks_typeIn X hD
 have t3:Looks M hp (isType (.ref D)) true:=by
  unfold clsIn at K_
  split at K_
  ·rename_i c' d' cd' sl' ho
   intro A' Q' E' s' k q
   unfold isType loadHead
   exact wpAny_bind (wpAny_loadPart (k _ _ (X _ _ ho)) (wpAny_pure q))
  ·cases K_
 have i1:Looks M hp (isInstance (.ref D) (.type "tuple")) false:=t2.andThen (Looks.of_pure tc_notTuple)
 have i2:Looks M hp (isExcClass (.ref D)) true:=by
  unfold isExcClass
  refine t3.andThen ?_
  exact looks_mroIn X JX
 have i3:Looks M hp (isSubtype (.ref C) (.ref D)) b:=looks_mroIn X hb
 unfold excMatches
 refine wpAny_bind (m:=isInstance (.ref D) (.type "tuple")) (i1.at ?_)
 simp only[Bool.false_eq_true,if_false]
 refine wpAny_bind (wpAny_pure ?_)
 rw[List.forIn_cons]
 refine wpAny_bind (wpAny_bind (wpAny_bind (i2.at ?_)))
 simp only[Bool.not_true,Bool.false_eq_true,if_false]
 refine wpAny_pure (wpAny_pure (wpAny_bind (t1.at ?_)))
 rw[List.forIn_cons]
 refine wpAny_bind (wpAny_bind (wpAny_bind (i3.at ?_)))
 cases b with
 |true=>exact wpAny_pure (wpAny_pure (wpAny_pure h))
 |false=>exact wpAny_pure (wpAny_pure (wpAny_pure h))
end Xc
namespace L2
open PySem PySem.Spec PyProof.Rows Xc
def Bi(X:Cx)(pins:List (Addr×Obj))(H:Hp)(h:Heap)(a C dx:Addr):Prop:=
 ∃oe vs,uO h a oe vs∧oe.cls = .ref C∧oe.dict=some dx∧Gk X pins H a∧∀T,vs[1]?=some (.ref T)→Gk X pins H T
def Ca(n:Nat)(H:Hp)(h:Heap)(a C dx:Addr):Prop:=
 ∃oe vs,uO h a oe vs∧oe.cls = .ref C∧oe.dict=some dx∧H a=none∧n≤a∧∀T,vs[1]?=some (.ref T)→H T=none∧n≤T
noncomputable def uR(P:Program)(w:World):tP:=fun outer H s E e s'=>
 ∃a C dx H',e = .ref a∧s'.os=s.os∧AllBare s'.gens∧Un (frs outer) [] H H' s.heap s'.heap∧G8 P w H' s'.heap∧Ca s.heap.objs.size H' s'.heap a C dx∧E (.ref C) (some dx) H'
section
variable {X:Cx} {pins:List (Addr×Obj)} {σ:St} {H H':Hp} {s s':Shared} {a C dx:Addr}
theorem Inv.noted{oe:Obj}{vs:Array Value}{h':Heap}(I:Inv X pins σ H s)(n:rm X.stack a oe (h_ vs) s.heap h')(x:uO s.heap a oe vs)(hc:oe.cls = .ref C)(hd:oe.dict=some dx)(f:Gk X pins H a)(fT:∀T,vs[1]?=some (.ref T)→Gk X pins H T) :
  Inv X pins σ H { s with heap:=h' }∧Bi X pins H h' a C dx:=by
 have tr:∀b u,H b=some u→b≠a∧¬h_ vs b∧b ∉ Dj X.stack:=fun b u e=>⟨fun z=>(by rw[z,f.1]at e;cases e),fun z=>(by rw[(fT b z).1]at e;cases e),fun z=>(by rw[I.IV b z]at e;cases e)⟩
 have ff:∀b,(b=a∨h_ vs b)→Gk X pins H b:=fun b hb=>by
  rcases hb with rfl|hb
  ·exact f
  ·exact fT b hb
 have hok:G8 X.prog X.w H h':=fun b u e=>(I.hok b u e).stay (fun c v hc q=>by
  rcases hc with rfl|hc
  ·obtain⟨t1,t2,t3⟩:=tr c u e;exact n.keep c v t1 t2 t3 q
  ·obtain⟨t1,t2,t3⟩:=tr c _ hc;exact n.keep c v t1 t2 t3 q) (fun _ z=>z) fun _ _ z=>z
 have ON:∀b o,s.heap.get? b=some o→b≠a→¬h_ vs b→∃o',h'.get? b=some o':=fun b o e h1 h2=>by
  by_cases hb:b∈Dj X.stack
  ·obtain⟨sl,q⟩:=n.slot b o hb e;exact⟨_,q⟩
  ·exact⟨o,n.keep b o h1 h2 hb e⟩
 have go:∀ch:List Addr,(∀b,b∈ch↔(b=a∨h_ vs b))→Inv X pins σ H { s with heap:=h' }:=fun ch hch=>by
  refine I.call (g':=s.gens) (t':=s.toks) (d':=s.drawn) (ch:=ch) ⟨fun b o e n1 n2 n3=>?_,fun b o e _ n2 _=>n.slot b o n2 e,fun _ _ _ z _=>z,fun b o e n1=>?_,fun _ _ z=>z,fun _ _ _ z=>z,fun _ ps z=>⟨#[],by rw[z];simp⟩⟩ hok I.bare fun b hb=>?_
  ·exact n.keep b o (fun z=>n3 ((hch b).mpr (.inl z))) (fun z=>n3 ((hch b).mpr (.inr z))) n2 e
  ·exact ON b o e (fun z=>n1 ((hch b).mpr (.inl z))) (fun z=>n1 ((hch b).mpr (.inr z)))
  ·obtain⟨f0,f1,f2,f3,f4,f5⟩:=ff b ((hch b).mp hb)
   exact⟨f3,f1,f4,f5⟩
 refine⟨?_,?_⟩
 ·rcases x.tb with h1|⟨T,oT,ts,h1,_⟩
  ·refine go [a] fun b=>⟨fun z=>.inl (by simpa using z),fun z=>?_⟩
   rcases z with z|z
   ·simp[z]
   ·unfold h_ at z;rw[h1]at z;cases z
  ·refine go [a,T] fun b=>⟨fun z=>?_,fun z=>?_⟩
   ·simp only[List.mem_cons,List.not_mem_nil,or_false]at z
    rcases z with z|z
    ·exact .inl z
    ·exact .inr (by rw[z];exact h1)
   ·rcases z with z|z
    ·simp[z]
    ·unfold h_ at z;rw[h1]at z;cases z;simp
 ·obtain⟨KQ,vs',T,oT,ts,a1,a2,a3,a4,a5,a6,a7,a8,a9,OO⟩:=n.lies
  refine⟨KQ,vs',⟨a1,a4,.inr ⟨T,oT,ts,a5,a7,a8,a9,OO⟩⟩,a2.trans hc,a3.trans hd,f,fun T' hT'=>?_⟩
  rw[a5]at hT'
  cases hT'
  exact I.HB a6 (I.hok.fresh a6)
theorem Inv.raised{E:XK}{e:Value}(I:Inv X pins σ H s)(h:uR X.prog X.w X.stack H s E e s'):∃a C dx H',e = .ref a∧Inv X pins σ H' s'∧Bi X pins H' s'.heap a C dx∧E (.ref C) (some dx) H':=by
 obtain⟨a,C,dx,H',rfl,os,bare,un,hok,⟨oe,vs,x,hc,hd,h0,hn,hT⟩,hE⟩:=h
 refine⟨a,C,dx,H',rfl,I.KO (ch:=[]) os un hok bare (fun b z=>absurd z (by simp)),⟨oe,vs,x,hc,hd,I.HB hn h0,fun T z=>I.HB (hT T z).2 (hT T z).1⟩,hE⟩
end
theorem sV{P:Program}{w:World}{K:PySem.W.Frag}{mg:Str→Option Value}{base:Heap}{N:List Str}{qual:Str}{scope:Scope}{f:Addr}{cd:Value}{A:Around}{outer:List Env}{s s':Shared}{H H':Hp}{E:XK}{pins:List (Addr×Obj)}{σ:St}{a C dx:Addr}
  (I:Inv (gr (uR P w) P w K mg base N qual scope f cd A outer s H E) pins σ H' s') (x:Bi (gr (uR P w) P w K mg base N qual scope f cd A outer s H E) pins H' s'.heap a C dx) (hE:E (.ref C) (some dx) H') :
  (gr (uR P w) P w K mg base N qual scope f cd A outer s H E).xe (.ref a) s':=by
 obtain⟨oe,vs,x,hc,hd,fa,fT⟩:=x
 have hfr:(gr (uR P w) P w K mg base N qual scope f cd A outer s H E).A.frames=some (envOfC qual scope s.heap.objs.size f cd::outer):=I.ok.frames
 have hl:=I.stack
 refine uP (s:=s') (env:=envOfC qual scope s.heap.objs.size f cd) (outer:=outer) hfr hl rfl x fun h' n=>?_
 obtain⟨I2,x2⟩:=I.noted (h':=h') n x hc hd fa fT
 obtain⟨NO,IR,x2,hc2,hd2,MW,Mp⟩:=x2
 have lt:∀b,Gk (gr (uR P w) P w K mg base N qual scope f cd A outer s H E) pins H' b→s.heap.objs.size≤b:=fun b q=>by
  rcases q.2.2.2.1 with z|z
  ·exact absurd (show b∈([]:List Addr)from z) (by simp)
  ·exact z
 exact⟨a,C,dx,H',rfl,I2.os,I2.bare,I2.base,I2.hok,⟨NO,IR,x2,hc2,hd2,MW.1,lt a MW,fun T z=>⟨(Mp T z).1,lt T (Mp T z)⟩⟩,hE⟩
section
variable {X:Cx} {k:Nat} {f C:Addr} {fd:FuncData} {ps:List Str} {sp:Sp} {x m:Str} {p pos apos:Pos} {e o:Expr} {es:List Expr} {ta:TE} {t:TA}
noncomputable def EX(X:Cx)(pins:List (Addr×Obj))(σ:St):XK:=fun c d H'=>∀s' a C dx,c = .ref C→d=some dx→Inv X pins σ H' s'→Bi X pins H' s'.heap a C dx→X.xe (.ref a) s'
theorem rA{pins:List (Addr×Obj)}{σ:St}{H:Hp}{s:Shared}{Q:VK}{E:XK}{us:List Value}{vs:List V}(F:dP X.prog X.w X.K X.mg X.base (uR X.prog X.w) k f fd ps sp)(hr:Room k X.A)(hb:Binds X.K fd ps [])
  (hE:∀c d H',E c d H'→EX X pins σ c d H') (I:Inv X pins σ H s) (r:Vals vs us) (h:sp vs H Q E):wpAny (model X.prog X.w) X.A (call (.ref f) us) (EP X pins σ Q) X.xe s:=by
 have hl:(us++[]).length=ps.length:=by rw[List.append_nil,←r.length];exact F.len _ _ _ _ h
 have hb':=hb s us I.Ik hl
 rw[List.append_nil]at hb'
 refine wpAny_call (codeAny_mono (F.run X.A X.stack s H ⟨us,[]⟩ us vs Q E hr I.KA hb' r h) fun r s' hq=>?_)
 cases r with
 |error e=>
  obtain⟨a,C,dx,H',rfl,I',xa,he⟩:=I.raised hq
  exact hE _ _ _ he s' a C dx rfl rfl I' xa
 |ok fl=>
  cases fl with
  |ret u=>exact I.after hq
  |next=>exact False.elim hq
  |brk=>exact False.elim hq
  |cont=>exact False.elim hq
def zS(X:Cx)(sp:Sp)(t:TA):TE:=fun σ H Q=>t σ H fun vs H1=>∃E,sp vs H1 Q E∧∀pins c d H',E c d H'→EX X pins σ c d H'
theorem uS(F:dP X.prog X.w X.K X.mg X.base (uR X.prog X.w) k f fd ps sp)(hr:Room k X.A)(hg:Gl X x)(hm:X.mg x=some (.ref f))(hk:PySem.W.keepIn X.K (.ref f)=true)(hb:Binds X.K fd ps [])
  (ha:PA X (e::es) t) (hdb:(x == ("__debug__":Str))=false:=by decide) (he:starEach (e::es) X.env=(false,eval e X.env)::starEach es X.env:=by rfl) (hpl:(backTo pos (starEach es X.env)).any (·.1)=false:=by rfl) :
  PE X (.Call (.Name x p) (e::es) [] pos) (zS X sp t):=by
 intro pins s σ H Q I h
 refine wpAny_Call_Name_kw (fY I hg hm ?_ hdb)
 refine PySem.W.callWith_K (h₀:=X.base) I.ok.mod.KN hk (FI (ha pos pins s σ H _ I h) fun us s1 ⟨vs,H1,I1,r,E,q,hE⟩=>⟨I1.Ik,?_⟩) he hpl
 exact rA F hr hb (hE pins) I1 r q
end
def XO(a C:Addr)(d:Option Addr)(h:Heap):Prop:=∃oe vs,h.get? a=some oe∧oe.cls = .ref C∧oe.dict=d∧oe.data = .fields vs∧vs[1]?=some .none
def XD(dx:Addr)(fs:List (Str×V))(h:Heap):Prop:=∃mA,h.Ns1 dx mA∧(∀f,G0 (fs.lookup f) (mA f))∧PySem.Within mA (fs.map (·.1))
theorem XO.stay{a C:Addr}{d:Option Addr}{h1 h2:Heap}(x:XO a C d h1)(k:∀o,h1.get? a=some o→h2.get? a=some o):XO a C d h2:=let ⟨oe,vs,e,r⟩:=x;⟨oe,vs,k oe e,r⟩
theorem XD.stay{dx:Addr}{fs:List (Str×V)}{h1 h2:Heap}(x:XD dx fs h1)(k:∀o,h1.get? dx=some o→h2.get? dx=some o):XD dx fs h2:=let ⟨mA,⟨o,es,ep,e,r⟩,q⟩:=x;⟨mA,⟨o,es,ep,k o e,r⟩,q⟩
theorem XO.ok{P:Program}{w:World}{H:Hp}{h:Heap}{a C:Addr}{d:Option Addr}(x:XO a C d h):ObjOk P w H h a (.ext (XO a C d)):=⟨x,let ⟨oe,_,e,_⟩:=x;⟨oe,e⟩,fun _ _ y k=>y.stay k⟩
theorem XD.ok{P:Program}{w:World}{H:Hp}{h:Heap}{dx:Addr}{fs:List (Str×V)}(x:XD dx fs h):ObjOk P w H h dx (.ext (XD dx fs)):=⟨x,let ⟨_,⟨o,_,_,e,_⟩,_⟩:=x;⟨o,e⟩,fun _ _ y k=>y.stay k⟩
theorem XO.of{P:Program}{w:World}{H:Hp}{h:Heap}{a C:Addr}{d:Option Addr}(hok:G8 P w H h)(e:H a=some (.ext (XO a C d))):XO a C d h:=(show ObjOk P w H h a (.ext (XO a C d))from hok a _ e).1
theorem XD.of{P:Program}{w:World}{H:Hp}{h:Heap}{a:Addr}{fs:List (Str×V)}(hok:G8 P w H h)(e:H a=some (.ext (XD a fs))):XD a fs h:=(show ObjOk P w H h a (.ext (XD a fs))from hok a _ e).1
section
variable {X:Cx} {pins:List (Addr×Obj)} {σ:St} {H:Hp} {s:Shared}
theorem Inv.Lh{D:Addr}{o:HO}(I:Inv X pins σ H s)(f:Gk X pins H D)(n:ObjOk X.prog X.w (upd H D o) s.heap D o):Inv X pins σ (upd H D o) s:=by
 obtain⟨f0,f1,f2,f3,f4,f5⟩:=f
 have nD:∀b u,H b=some u→b≠D:=fun b u q=>aV q f0
 have hok:G8 X.prog X.w (upd H D o) s.heap:=fun b u q=>by
  by_cases hb:b=D
  ·subst hb
   rw[aq]at q
   cases q
   exact n
  ·rw[ao hb]at q
   exact(I.hok b u q).stay (fun _ _ _ z=>z) (fun c z=>by rw[ao (nD c _ z)];exact z) fun c xs z=>by rw[ao (nD c _ z)];exact z
 exact I.step (H':=upd H D o) (h':=s.heap) (g':=s.gens) (t':=s.toks) (d':=s.drawn) (ch:=[D])
  (fun b hb=>by
   have z:b=D:=by simpa using hb
   subst z
   exact⟨f3,f1,f4,f5⟩)
  (fun _ _ _ _ _ q _=>q) (fun _ o _ _ _ q _=>⟨o.slots,q⟩)
  (fun b o hb _ n=>by rw[ao (fun z=>hb (by simp[z]))];exact n)
  (fun _ o _ q=>⟨o,q⟩) (fun b xs q=>by rw[ao (nD b _ q)];exact q) (fun b o u q=>by rw[ao (nD b _ q)];exact q)
  (fun b ps q=>⟨#[],by rw[ao (nD b _ q),q];simp⟩) (fun _ q=>q) hok I.bare
theorem Inv.forget{H':Hp}{D:Addr}{φ:Heap→Prop}(I:Inv X pins σ H s)(e:H D=some (.ext φ))(h1:H' D=none)(h2:∀b,b≠D→H' b=H b):Inv X pins σ H' s:=by
 have ne:∀b u,H b=some u→u ≠ .ext φ→b≠D:=fun b u q z y=>by rw[y,e]at q;exact z (Option.some.inj q).symm
 refine I.un (h':=s.heap) (t':=s.toks) ⟨fun _ _ q _ _ _=>q,fun _ o q _ _ _=>⟨o.slots,q⟩,fun b o q n _=>?_,fun _ o q _=>⟨o,q⟩,fun b xs q=>?_,fun b o u q=>?_,fun b ps q=>?_⟩ fun b u q=>?_
 ·by_cases z:b=D
  ·rw[z];exact h1
  ·rw[h2 b z];exact n
 ·rw[h2 b (ne b _ q fun z=>nomatch z)];exact q
 ·rw[h2 b (ne b _ q fun z=>nomatch z)];exact q
 ·exact⟨#[],by rw[h2 b (ne b _ q fun z=>nomatch z),q];simp⟩
 ·have hb:b≠D:=fun z=>by rw[z,h1]at q;cases q
  rw[h2 b hb]at q
  exact(I.hok b u q).stay (fun _ _ _ z=>z) (fun c z=>by rw[h2 c (ne c _ z fun y=>nomatch y)];exact z) fun c xs z=>by rw[h2 c (ne c _ z fun y=>nomatch y)];exact z
end
def zT(K:PySem.W.Frag)(ta tv:TE)(f:Str):TS:=fun D σ H=>tv σ H fun y H1=>ta σ H1 fun x H2=>∃a C,x = .ref a∧H2 a=some (.ext (XO a C none))∧ExcK K C∧NoAttr K C f∧
 ∀dx,H2 dx=none→dx≠a→D.nx σ (upd (upd H2 a (.ext (XO a C (some dx)))) dx (.ext (XD dx [(f,y)])))
section
variable {X:Cx} {o value:Expr} {f:Str} {pos pos':Pos} {ta tv:TE}
theorem uT(ha:PE X o ta)(hv:PE X value tv)(hs:swapsWith value (some (.Attribute o f pos')) pos.line X.env=pure false):PS X (.Assign [.Attribute o f pos'] value pos) (zT X.K ta tv f):=by
 intro pins s σ H D I h
 refine plainObj_wpAny_Assign_Attribute (FI (hv pins s σ H _ I h) fun u s1 ⟨y,H1,I1,ry,q⟩=>FI (ha pins s1 σ H1 _ I1 q) fun ov s2 ⟨x,H2,I2,rx,a,C,ex,ea,k,n,q2⟩=>?_) hs
 subst ex
 obtain rfl:ov=Value.ref a:=rx
 obtain⟨oe,vs,g1,g2,g3,g4,g5⟩:=XO.of I2.hok ea
 have ne:s2.heap.objs.size≠a:=Nat.ne_of_gt (Heap.lt_size g1)
 refine uQ I2.Ik g1 g2 (fun c z=>by rw[g4]at z;cases z) g3 k n.KP fun h' n1 n2 n3=>?_
 have J1:Inv X pins σ (upd H2 a (.ext (XO a C (some s2.heap.objs.size)))) { s2 with heap:=h',toks:=s2.toks+2 }:=
  I2.write (x:=a) (e:=a) (by rw[ea];exact True.intro) (.inl rfl) (fun b u hb z=>n3 b u hb z) ⟨_,n2⟩ (XO.ok ⟨_,vs,n2,g2,rfl,g4,g5⟩)
 have f0:H2 s2.heap.objs.size=none:=I2.hok.fresh (Nat.le_refl _)
 have f1:Gk X pins (upd H2 a (.ext (XO a C (some s2.heap.objs.size)))) s2.heap.objs.size:=I2.HB (Nat.le_refl _) (by rw[ao ne];exact f0)
 have xd:XD s2.heap.objs.size [(f,y)] h':=⟨_,n1,fun g=>by
  show G0 (List.lookup g [(f,y)]) (if g=f then some u else none)
  by_cases q:g=f
  ·subst q;rw[if_pos rfl];simp;exact ry
  ·rw[if_neg q,List.lookup_cons,beq_eq_false_iff_ne.mpr q];exact True.intro,fun g hg=>by
  by_cases q:g=f
  ·simp[q]
  ·exact absurd (show(if g=f then some u else none)=none by rw[if_neg q]) hg⟩
 exact⟨σ,_,J1.Lh f1 xd.ok,q2 _ f0 ne⟩
end
noncomputable def mP(K:PySem.W.Frag)(C:Addr)(ks:List Str):Sp:=fun vs H Q _=>∃a rest,vs = .ref a::rest∧rest.length=ks.length∧H a=some (.ext (XO a C none))∧ExcK K C∧(∀k∈ks,NoAttr K C k)∧
 ∀dx,H dx=none→dx≠a→Q .non (upd (upd H a (.ext (XO a C (some dx)))) dx (.ext (XD dx (ks.zip rest))))
section
variable {P:Program} {w:World} {K:PySem.W.Frag} {mg:Str→Option Value} {base:Heap}
theorem Cb{qual:Str}{st:Stmt}{f C:Addr}{fd:FuncData}{N ps:List Str}{k1:Str}(F:Kd K "__init__" qual st f fd)(S:bL N ps (au st))(hp:ps.length=2)
  (hbody:∀(cdv:Value) (A:Around) (outer:List Env) (s:Shared) (H:Hp) (E:XK),IN (gr pI P w K mg base N qual (au st) f cdv A outer s H E).JY (aR st) (zT K (sv 0) (sv 1) k1)) :
  dP P w K mg base pI 1 f fd ps (mP K C [k1]):=
 F.ok S (fun vs H Q E ⟨a,rest,e,l,_⟩=>by rw[e,List.length_cons,l,hp];rfl) fun cdv A outer s H vs Q E hr ⟨a,rest,e,l,ea,ek,en,q⟩=>by
  obtain⟨x,rfl⟩:=List.length_eq_one_iff.mp l
  subst e
  refine⟨_,hbody cdv A outer s H E,?_⟩
  exact⟨x,rfl,.ref a,rfl,a,C,rfl,ea,ek,en k1 (by simp),fun dx h1 h2=>q dx h1 h2⟩
end
section
variable {X:Cx} {f C:Addr} {fd:FuncData} {ps ks:List Str} {x:Str} {p cpos pos:Pos} {e:Expr} {es:List Expr} {t:TA}
def zU(X:Cx)(C:Addr)(ks:List Str)(t:TA):TS:=fun D σ H=>t σ H fun vs H1=>vs.length=ks.length∧∀pins dx od,H1 dx=none→EX X pins σ (.ref C) (some dx) (upd H1 dx (.frz od (.ext (XD dx (ks.zip vs)))))
theorem uU(F:dP X.prog X.w X.K X.mg X.base pI 1 f fd ps (mP X.K C ks))(hps:ps.length=ks.length+1)(hks:ks.length≤1000)(ek:ExcK X.K C)(en:∀k∈ks,NoAttr X.K C k)(hi:PySem.W.findIn X.K (.ref C) "__init__" = some (some (.ref f)))(hf:PySem.W.isFn X.K (.ref f)=true)(hkp:PySem.W.keepIn X.K (.ref C)=true)
  (hr:Room 2 X.A) (Jq:X.calm=true) (hg:Gl X x) (hm:X.mg x=some (.ref C)) (hb:Binds X.K fd ps []) (ha:PA X (e::es) t)
  (hdb:(x == ("__debug__":Str))=false:=by decide) (he:starEach (e::es) X.env=(false,eval e X.env)::starEach es X.env:=by rfl) (hpl:(backTo cpos (starEach es X.env)).any (·.1)=false:=by rfl) :
  PS X (.Raise (some (.Call (.Name x p) (e::es) [] cpos)) none pos) (zU X C ks t):=by
 intro pins s σ H D I h
 rw[arm_exec_Raise]
 refine wpAny_bind (wpAny_standAt ?_)
 show wpAny _ _ (raiseStmt X.env (some (do let v ←eval (.Call (.Name x p) (e::es) [] cpos) X.env;standAt pos;pure v)) none) _ _ _
 refine sU (K:=X.K) (C:=C) ek.ok (I.ok.hd Jq) (wpAny_bind ?_)
 refine wpAny_Call_Name_kw (fY I hg hm ?_ hdb)
 refine PySem.W.callWith_K (h₀:=X.base) I.ok.mod.KN hkp (FI (ha cpos pins s σ H _ I h) fun us s1 ⟨vs,H1,I1,r,hl,q⟩=>⟨I1.Ik,?_⟩) he hpl
 have NP:us.length=ks.length:=by rw[←r.length];exact hl
 obtain⟨hp,g,d,tk,os⟩:=s1
 have e1:(hp.push (eo us)).objs.size=hp.objs.size+1:=Heap.size_push _ _
 have OP:Inv X pins σ H1 ⟨hp.push (eo us),g,d,tk,os⟩:=I1.kept (t':=tk) fun b o q=>Heap.get?_push_of_some _ q
 have ex:((hp.push (eo us)).push (eu C hp.objs.size)).get? (hp.objs.size+1)=some (eu C hp.objs.size):=by heap_get
 have I2:Inv X pins σ (upd H1 (hp.objs.size+1) (.ext (XO (hp.objs.size+1) C none))) ⟨(hp.push (eo us)).push (eu C hp.objs.size),g,d,tk,os⟩:=
  OP.laid (a:=hp.objs.size+1) (t':=tk) (fun b o q=>Heap.get?_push_of_some _ q) (Nat.le_of_eq e1) (XO.ok ⟨_,_,ex,rfl,rfl,rfl,rfl⟩)
 have n0:H1 (hp.objs.size+1)=none:=I1.hok.fresh (Nat.le_succ _)
 have r2:Vals (V.ref (hp.objs.size+1)::vs) (Value.ref (hp.objs.size+1)::us):=.cons rfl r
 have Kj:(Value.ref (hp.objs.size+1)::us++[]).length=ps.length:=by rw[List.append_nil,List.length_cons,NP,hps]
 have hb':=hb _ (Value.ref (hp.objs.size+1)::us) I2.Ik Kj
 rw[List.append_nil]at hb'
 refine wpAny_call (uN (f:=f) I1.Ik ek.ok hi (beq_iff_eq.mp hf) (by rw[List.nil_append,NP];exact Nat.le_of_lt (cY hks)) (codeAny_mono (F.run _ X.stack _ _ ⟨Value.ref (hp.objs.size+1)::us,[]⟩ (Value.ref (hp.objs.size+1)::us) _
  (fun v H2=>v = .non∧∃dx,H1 dx=none∧dx≠hp.objs.size+1∧H2=upd (upd (upd H1 (hp.objs.size+1) (.ext (XO (hp.objs.size+1) C none))) (hp.objs.size+1) (.ext (XO (hp.objs.size+1) C (some dx)))) dx (.ext (XD dx (ks.zip vs)))) (fun _ _ _=>False) (hr.make C us [])
  (I2.KA.make C us []) hb' r2 ⟨_,vs,rfl,hl,aq,ek,en,fun dx h1 h2=>⟨rfl,dx,by rw[ao h2]at h1;exact h1,h2,rfl⟩⟩) fun r s' hq'=>?_))
 cases r with
 |error e=>exact hq'.elim
 |ok fl=>
  cases fl with
  |ret u=>
   obtain⟨v,H',I3,rv,ev,dx,d1,d2,rfl⟩:=I2.after hq'
   subst ev
   refine⟨rv,wpAny_bind (wpAny_standAt (wpAny_pure ?_))⟩
   obtain⟨oe,ws,g1,g2,g3,g4,g5⟩:=XO.of (a:=hp.objs.size+1) (C:=C) (d:=some dx) I3.hok (by rw[ao d2.symm,aq])
   have xd:XD dx (ks.zip vs) s'.heap:=XD.of I3.hok aq
   obtain⟨od,hod⟩:∃o,s'.heap.get? dx=some o:=let ⟨_,⟨o,_,_,e,_⟩,_⟩:=xd;⟨o,e⟩
   refine⟨hp.objs.size+1,oe,ws,rfl,I3.Ik,g1,g2,g4,g5,?_⟩
   have I4:Inv X pins σ (upd (upd (upd (upd H1 (hp.objs.size+1) (.ext (XO (hp.objs.size+1) C none))) (hp.objs.size+1) (.ext (XO (hp.objs.size+1) C (some dx)))) dx (.ext (XD dx (ks.zip vs)))) dx (.frz od (.ext (XD dx (ks.zip vs))))) s':=by
    have J:=I3.write (x:=dx) (e:=dx) (o:=.frz od (.ext (XD dx (ks.zip vs)))) (h':=s'.heap) (t':=s'.toks) (by rw[aq];exact True.intro) (.inl rfl) (fun _ _ _ z=>z) ⟨od,hod⟩ ⟨hod,xd.ok⟩
    exact J
   have I5:Inv X pins σ (upd H1 dx (.frz od (.ext (XD dx (ks.zip vs))))) s':=I4.forget (D:=hp.objs.size+1) (φ:=XO (hp.objs.size+1) C (some dx)) (by rw[wt,ao d2.symm,aq]) (by rw[ao d2.symm];exact n0) fun b hb=>by
    by_cases z:b=dx
    ·rw[z,aq,aq]
    ·rw[ao z,ao z,ao z,ao hb,ao hb]
   refine q pins dx od d1 s' _ C dx rfl rfl I5 ⟨oe,ws,⟨g1,g4,.inl g5⟩,g2,g3,I1.HB (Nat.le_succ _) (by rw[ao d2.symm];exact n0),fun T z=>?_⟩
   rw[g5]at z
   cases z
  |next=>exact hq'.elim
  |brk=>exact hq'.elim
  |cont=>exact hq'.elim
end
noncomputable abbrev Cx.tr(X:Cx)(E:Value→Shared→Prop)(pins:List (Addr×Obj)):Cx:={ X with xe:=E,pn:=X.pn++pins }
noncomputable abbrev Cx.JZ(X:Cx)(a:Addr):Cx:={ X with A:=X.A.mark (some (.ref a)),calm:=false,xe:=fun _ _=>False }
section
variable {X:Cx} {pins pins':List (Addr×Obj)} {σ:St} {H H':Hp} {s s':Shared} {E:Value→Shared→Prop}
theorem Cx.Ok.tr(ok:X.Ok):(X.tr E pins).Ok:=⟨ok.mod,ok.kind,ok.glob,ok.blt,ok.above,ok.inj,ok.has,ok.Kv,ok.hd,ok.frames,ok.stk,ok.K7,ok.bs,ok.JN,ok.IO,ok.IU,ok.Hi,ok.Kc⟩
theorem Cx.Ok.Il(ok:(X.tr E pins).Ok):X.Ok:=⟨ok.mod,ok.kind,ok.glob,ok.blt,ok.above,ok.inj,ok.has,ok.Kv,ok.hd,ok.frames,ok.stk,ok.K7,ok.bs,ok.JN,ok.IO,ok.IU,ok.Hi,ok.Kc⟩
theorem Cx.Ok.JZ{a:Addr}(ok:X.Ok):(X.JZ a).Ok:=⟨ok.mod,ok.kind,ok.glob,ok.blt,ok.above,ok.inj,ok.has,ok.Kv,fun z=>absurd (show false=true from z) (by decide),ok.frames,ok.stk,ok.K7,ok.bs,ok.JN,ok.IO,ok.IU,ok.Hi,ok.Kc⟩
theorem Cx.Ok.J3{a:Addr}(hc:X.calm=true→X.A.handled=none)(ok:(X.JZ a).Ok):X.Ok:=⟨ok.mod,ok.kind,ok.glob,ok.blt,ok.above,ok.inj,ok.has,ok.Kv,hc,ok.frames,ok.stk,ok.K7,ok.bs,ok.JN,ok.IO,ok.IU,ok.Hi,ok.Kc⟩
theorem Inv.tr(I:Inv X pins σ H s):Inv (X.tr E pins) [] σ H s:=⟨I.ok.tr,I.os,I.bare,I.base,I.loc,I.cell,I.free,I.Gz,fun p hp=>I.pin p (by simpa using hp),I.hok,I.len⟩
theorem Inv.Il(I:Inv (X.tr E pins) pins' σ H s):Inv X pins σ H s:=⟨I.ok.Il,I.os,I.bare,I.base,I.loc,I.cell,I.free,I.Gz,fun p hp=>I.pin p (List.mem_append_left _ hp),I.hok,I.len⟩
theorem Inv.JZ{a:Addr}(I:Inv X pins σ H s):Inv (X.JZ a) pins σ H s:=⟨I.ok.JZ,I.os,I.bare,I.base,I.loc,I.cell,I.free,I.Gz,I.pin,I.hok,I.len⟩
theorem Inv.J3{a:Addr}(hc:X.calm=true→X.A.handled=none)(I:Inv (X.JZ a) pins σ H s):Inv X pins σ H s:=⟨I.ok.J3 hc,I.os,I.bare,I.base,I.loc,I.cell,I.free,I.Gz,I.pin,I.hok,I.len⟩
theorem Gk.Il{b:Addr}(f:Gk (X.tr E pins) pins' H b):Gk X pins H b:=⟨f.1,f.2.1,f.2.2.1,f.2.2.2.1,f.2.2.2.2.1,fun p hp=>f.2.2.2.2.2 p (List.mem_append_left _ hp)⟩
theorem SP.Il{D:ka}{f:Flow}(h:SP (X.tr E pins) [] D f s'):SP X pins D f s':=by
 cases f with
 |next=>obtain⟨a,b,I,q⟩:=h;exact⟨a,b,I.Il,q⟩
 |brk=>obtain⟨a,b,I,q⟩:=h;exact⟨a,b,I.Il,q⟩
 |cont=>obtain⟨a,b,I,q⟩:=h;exact⟨a,b,I.Il,q⟩
 |ret v=>obtain⟨v,a,b,I,r,q⟩:=h;exact⟨v,a,b,I.Il,r,q⟩
end
structure Cc (K:PySem.W.Frag) (Dc:Addr):Prop where
 ty:PySem.W.typeIn K (.ref Dc)=some (.type "type")
 cl:(PySem.W.clsIn K Dc).isSome=true
 be:PySem.W.mroIn K Dc (.type "BaseException")=some true
section
variable {X:Cx} {pins pins':List (Addr×Obj)} {σ:St} {H:Hp} {s':Shared} {E:Value→Shared→Prop} {a C dx Dc:Addr} {i:Nat} {n x:Str} {np hpos:Pos} {b₀:Stmt} {suite:List Stmt} {th:Addr→TS} {D:ka}
end
noncomputable def tryXe(X:Cx)(pins:List (Addr×Obj))(D:ka)(hs:List ExceptHandler):Value→Shared→Prop:=fun e s₁=>
 wpAny (model X.prog X.w) X.A (noteFrame e X.env) (fun _ s₂=>wpAny (model X.prog X.w) X.A (setFlight e none) (fun _ s₃=>wpAny (model X.prog X.w) X.A (handleBy e X.env hs) (SP X pins D) X.xe s₃) X.xe s₂) X.xe s₁
theorem tryXe.passes{X:Cx}{pins:List (Addr×Obj)}{D:ka}{hs:List ExceptHandler}:PassesOwn (model X.prog X.w) X.A X.env (tryXe X pins D hs):=PassesOwn.looking
theorem zV{X:Cx}{h₀:ExceptHandler}{body:List Stmt}{pos:Pos}{tb:(E:Value→Shared→Prop)→List (Addr×Obj)→TS}
  (hb:∀E pins,PassesOwn (model X.prog X.w) X.A X.env E→IN (X.tr E pins) body (tb E pins)) :
  PS X (.Try body [h₀] [] [] pos) (fun D σ H=>∀pins,tb (tryXe X pins D [h₀]) pins D σ H):=by
 intro pins s σ H D I h
 refine wpAny_Try_except ?_
 refine wpAny_mono (hb (tryXe X pins D [h₀]) pins tryXe.passes [] s σ H D I.tr (h pins)) (fun f s1 q=>?_) fun e s1 q=>q
 have q':=SP.Il q
 cases f with
 |next=>exact wpAny_execs_nil q'
 |ret v=>exact q'
 |brk=>exact q'
 |cont=>exact q'
end L2
namespace L3
open PySem L2
inductive PV where
 |non|bl (b:Bool)|int (i:Int)|str (x:Str)|tup (xs:List PV)|cl (xs:List PV)|ref (a:Addr)|ty (n:String)|exc (c:Str) (ks:List Str) (ps:List PV)|cls (c:Str)
def Lz(K:PySem.W.Frag)(H:Hp)(a:Addr)(xs:List V):Prop:=
 (∃o,H a=some (.frz o (.lst xs))) ∨
  ∃(o:Obj) (its:Array Value) (n:Nat),K.lookup a=some o∧o.cls = .type "list"∧o.dict=none∧o.data = .seq its n∧its.size≤sizeLine∧Vals xs its.toList
theorem Lz.sq{K:PySem.W.Frag}{H:Hp}{a:Addr}{xs:List V}(h:Lz K H a xs):SqL K H a xs:=h.elim (fun z=>.inl (.inr z)) .inr
def Mq(H:Hp)(a C:Addr)(ks:List Str)(vs:List V):Prop:=
 ∃oe dx od,H a=some (.frz oe (.ext fun _=>True))∧oe.cls = .ref C∧oe.dict=some dx∧(∀c,oe.data ≠ .cls c)∧H dx=some (.frz od (.ext (XD dx (ks.zip vs))))
def Gh(K:PySem.W.Frag)(c:Str)(C:Addr):Prop:=PySem.W.nsIn K mainGlobals c=some (some (.ref C))
mutual
inductive Rep (K:PySem.W.Frag) (H:Hp):V→PV→Prop
 |non:Rep K H .non .non
 |bl (b:Bool):Rep K H (.bl b) (.bl b)
 |int (i:Int):Rep K H (.int i) (.int i)
 |str (x:Str):Rep K H (.str x) (.str x)
 |ty (n:String):Rep K H (.ty n) (.ty n)
 |ref (a:Addr):Rep K H (.ref a) (.ref a)
 |tup {a:Addr} {vs:List V} {ps:List PV}:F3 K H a vs→Reps K H vs ps→Rep K H (.ref a) (.tup ps)
 |cl {a:Addr} {vs:List V} {ps:List PV}:Lz K H a vs→Reps K H vs ps→Rep K H (.ref a) (.cl ps)
 |exc {a C:Addr} {c:Str} {ks:List Str} {vs:List V} {ps:List PV}:Gh K c C→Mq H a C ks vs→Reps K H vs ps→Rep K H (.ref a) (.exc c ks ps)
 |cls {C:Addr} {c:Str}:Gh K c C→Rep K H (.ref C) (.cls c)
inductive Reps (K:PySem.W.Frag) (H:Hp):List V→List PV→Prop
 |nil:Reps K H [] []
 |cons {v:V} {p:PV} {vs:List V} {ps:List PV}:Rep K H v p→Reps K H vs ps→Reps K H (v::vs) (p::ps)
end
structure Grow (K:PySem.W.Frag) (H H':Hp):Prop where
 t:∀a vs,F3 K H a vs→F3 K H' a vs
 c:∀a vs,Lz K H a vs→Lz K H' a vs
 x:∀a o u,H a=some (.frz o u)→H' a=some (.frz o u)
theorem Grow.refl{K:PySem.W.Frag}{H:Hp}:Grow K H H:=⟨fun _ _ h=>h,fun _ _ h=>h,fun _ _ _ h=>h⟩
theorem Grow.trans{K:PySem.W.Frag}{H H1 H2:Hp}(a:Grow K H H1)(b:Grow K H1 H2):Grow K H H2:=⟨fun x vs h=>b.t x vs (a.t x vs h),fun x vs h=>b.c x vs (a.c x vs h),fun x o u h=>b.x x o u (a.x x o u h)⟩
theorem Mq.mono{K:PySem.W.Frag}{H H':Hp}(g:Grow K H H'){a C:Addr}{ks:List Str}{vs:List V}(h:Mq H a C ks vs):Mq H' a C ks vs:=let ⟨oe,dx,od,h1,h2,h3,h4,h5⟩:=h;⟨oe,dx,od,g.x _ _ _ h1,h2,h3,h4,g.x _ _ _ h5⟩
theorem Grow.of{K:PySem.W.Frag}{H H':Hp}(h:∀a xs,H a=some (.tup xs)→H' a=some (.tup xs))(h2:∀a o u,H a=some (.frz o u)→H' a=some (.frz o u)):Grow K H H':=by
 refine⟨fun a vs q=>?_,fun a vs q=>?_,h2⟩
 ·rcases q with(q|⟨o,q⟩)|q
  ·exact .inl (.inl (h a vs q))
  ·exact .inl (.inr ⟨o,h2 a o _ q⟩)
  ·exact .inr q
 ·rcases q with⟨o,q⟩|q
  ·exact .inl ⟨o,h2 a o _ q⟩
  ·exact .inr q
theorem Grow.same{K:PySem.W.Frag}{H H':Hp}(h:∀c o,H c=some o→H' c=some o):Grow K H H':=.of (fun a _ q=>h a _ q) (fun a _ _ q=>h a _ q)
theorem Grow.new{K:PySem.W.Frag}{H:Hp}{p:Addr}{o:HO}(h:H p=none):Grow K H (upd H p o):=.same fun c u q=>by rw[ao (aV q h)];exact q
noncomputable def Mu:HO→Prop
 | .tup _=>False
 | .frz _ _=>False
 |_=>True
theorem Grow.mut{K:PySem.W.Frag}{H:Hp}{p:Addr}{o u:HO}(h:H p=some u)(m:Mu u):Grow K H (upd H p o):=
 .of (fun a xs q=>by rw[ao (fun e=>by subst e;rw[h]at q;cases q;exact m)];exact q) (fun a _ _ q=>by rw[ao (fun e=>by subst e;rw[h]at q;cases q;exact m)];exact q)
mutual
theorem Rep.mono{K:PySem.W.Frag}{H H':Hp}(g:Grow K H H'):∀{v:V} {p:PV},Rep K H v p→Rep K H' v p
 |_,_,.non=>.non
 |_,_,.bl b=>.bl b
 |_,_,.int i=>.int i
 |_,_,.str x=>.str x
 |_,_,.ty n=>.ty n
 |_,_,.ref a=>.ref a
 |_,_,.tup h r=>.tup (g.t _ _ h) (Reps.mono g r)
 |_,_,.cl h r=>.cl (g.c _ _ h) (Reps.mono g r)
 |_,_,.exc n h r=>.exc n (h.mono g) (Reps.mono g r)
 |_,_,.cls n=>.cls n
theorem Reps.mono{K:PySem.W.Frag}{H H':Hp}(g:Grow K H H'):∀{vs:List V} {ps:List PV},Reps K H vs ps→Reps K H' vs ps
 |_,_,.nil=>.nil
 |_,_,.cons a r=>.cons (Rep.mono g a) (Reps.mono g r)
end
theorem Reps.length{K:PySem.W.Frag}{H:Hp}:∀{vs:List V} {ps:List PV},Reps K H vs ps→vs.length=ps.length
 |_,_,.nil=>rfl
 |_,_,.cons _ r=>by rw[List.length_cons,List.length_cons,Reps.length r]
theorem Reps.append{K:PySem.W.Frag}{H:Hp}:∀{vs us:List V} {ps qs:List PV},Reps K H vs ps→Reps K H us qs→Reps K H (vs++us) (ps++qs)
 |_,_,_,_,.nil,s=>s
 |_,_,_,_,.cons a r,s=>.cons a (Reps.append r s)
theorem Reps.get{K:PySem.W.Frag}{H:Hp}:∀{vs:List V} {ps:List PV} {i:Nat} {p:PV},Reps K H vs ps→ps[i]?=some p→∃v,vs[i]?=some v∧Rep K H v p
 |_,_,_,_,.nil,e=>by simp at e
 |_,_,0,_,.cons a r,e=>by simp at e;subst e;exact⟨_,rfl,a⟩
 |_,_,i+1,p,.cons a r,e=>by
  obtain⟨v,h1,h2⟩:=Reps.get (i:=i) (p:=p) r (by simpa using e)
  exact⟨v,by simpa using h1,h2⟩
theorem Reps.take{K:PySem.W.Frag}{H:Hp}:∀{vs:List V} {ps:List PV} (n:Nat),Reps K H vs ps→Reps K H (vs.take n) (ps.take n)
 |_,_,0,_=>.nil
 |_,_,_+1,.nil=>.nil
 |_,_,n+1,.cons a r=>.cons a (Reps.take n r)
theorem Reps.drop{K:PySem.W.Frag}{H:Hp}:∀{vs:List V} {ps:List PV} (n:Nat),Reps K H vs ps→Reps K H (vs.drop n) (ps.drop n)
 |_,_,0,r=>r
 |_,_,_+1,.nil=>.nil
 |_,_,n+1,.cons _ r=>Reps.drop n r
theorem Reps.set{K:PySem.W.Frag}{H:Hp}{v:V}{p:PV}(q:Rep K H v p):∀{vs:List V} {ps:List PV} (n:Nat),Reps K H vs ps→Reps K H (vs.set n v) (ps.set n p)
 |_,_,_,.nil=>.nil
 |_,_,0,.cons _ r=>.cons q r
 |_,_,n+1,.cons a r=>.cons a (Reps.set q n r)
theorem Reps.eraseIdx{K:PySem.W.Frag}{H:Hp}:∀{vs:List V} {ps:List PV} (n:Nat),Reps K H vs ps→Reps K H (vs.eraseIdx n) (ps.eraseIdx n)
 |_,_,_,.nil=>.nil
 |_,_,0,.cons _ r=>r
 |_,_,n+1,.cons a r=>.cons a (Reps.eraseIdx n r)
theorem Reps.reverse{K:PySem.W.Frag}{H:Hp}:∀{vs:List V} {ps:List PV},Reps K H vs ps→Reps K H vs.reverse ps.reverse
 |_,_,.nil=>.nil
 |_,_,.cons a r=>by rw[List.reverse_cons,List.reverse_cons];exact(Reps.reverse r).append (.cons a .nil)
theorem Reps.dropLast{K:PySem.W.Frag}{H:Hp}{vs:List V}{ps:List PV}(r:Reps K H vs ps):Reps K H vs.dropLast ps.dropLast:=by
 rw[List.dropLast_eq_take,List.dropLast_eq_take,r.length]
 exact r.take _
inductive SO where
 |lst (xs:List PV)
 |dct (kvs:List (bg×PV))
 |ins (c:Str) (fs:List (Str×PV))
abbrev ar:=Addr→Option SO
noncomputable def FF(S:ar)(a:Addr)(o:SO):ar:=fun b=>if b=a then some o else S b
theorem FC{S:ar}{a:Addr}{o:SO}:FF S a o a=some o:=by unfold FF;rw[if_pos rfl]
theorem al{S:ar}{a b:Addr}{o:SO}(h:b≠a):FF S a o b=S b:=by unfold FF;rw[if_neg h]
theorem iU{S:ar}{a:Addr}{o u:SO}:FF (FF S a o) a u=FF S a u:=by
 funext b;unfold FF;split<;>rfl
inductive FQ (K:PySem.W.Frag) (H:Hp) {κ:Type}:List (κ×V)→List (κ×PV)→Prop
 |nil:FQ K H [] []
 |cons {k:κ} {v:V} {p:PV} {vs:List (κ×V)} {ps:List (κ×PV)}:Rep K H v p→FQ K H vs ps→FQ K H ((k,v)::vs) ((k,p)::ps)
theorem FQ.mono{K:PySem.W.Frag}{H H':Hp}(g:Grow K H H'){κ:Type}:∀{vs:List (κ×V)} {ps:List (κ×PV)},FQ K H vs ps→FQ K H' vs ps
 |_,_,.nil=>.nil
 |_,_,.cons a r=>.cons (a.mono g) (FQ.mono g r)
theorem FQ.length{K:PySem.W.Frag}{H:Hp}{κ:Type}:∀{vs:List (κ×V)} {ps:List (κ×PV)},FQ K H vs ps→vs.length=ps.length
 |_,_,.nil=>rfl
 |_,_,.cons _ r=>by rw[List.length_cons,List.length_cons,FQ.length r]
noncomputable def IY(K:PySem.W.Frag)(H:Hp)(a:Addr):SO→Prop
 | .lst xs=>∃vs,H a=some (.lst vs)∧Reps K H vs xs
 | .dct kvs=>∃kv,H a=some (.dK kv)∧FQ K H kv kvs
 | .ins c fs=>∃C dx f',Gh K c C∧H a=some (.ins C dx f')∧FQ K H f' fs
theorem IY.stay{K:PySem.W.Frag}{H H':Hp}(g:Grow K H H'){a:Addr}(e:H' a=H a):∀{o:SO},IY K H a o→IY K H' a o
 | .lst _,⟨vs,h,r⟩=>⟨vs,e.trans h,r.mono g⟩
 | .dct _,⟨vs,h,r⟩=>⟨vs,e.trans h,r.mono g⟩
 | .ins _ _,⟨C,dx,vs,n,h,r⟩=>⟨C,dx,vs,n,e.trans h,r.mono g⟩
theorem IY.some{K:PySem.W.Frag}{H:Hp}{a:Addr}:∀{o:SO},IY K H a o→∃u,H a=Option.some u∧Mu u
 | .lst _,⟨_,h,_⟩=>⟨_,h,trivial⟩
 | .dct _,⟨_,h,_⟩=>⟨_,h,trivial⟩
 | .ins _ _,⟨_,_,_,_,h,_⟩=>⟨_,h,trivial⟩
def FJ(K:PySem.W.Frag)(H:Hp)(S:ar):Prop:=∀a o,S a=some o→IY K H a o
theorem FJ.free{K:PySem.W.Frag}{H:Hp}{S:ar}(r:FJ K H S){p:Addr}(h:H p=none):S p=none:=by
 cases e:S p with
 |none=>rfl
 |some o=>
  obtain⟨u,q,_⟩:=(r p o e).some
  rw[h]at q;cases q
theorem FJ.grow{K:PySem.W.Frag}{H H':Hp}{S:ar}(r:FJ K H S)(h:∀c o,H c=some o→H' c=some o):FJ K H' S:=fun a o e=>by
 obtain⟨u,q,_⟩:=(r a o e).some
 exact(r a o e).stay (.same h) ((h a u q).trans q.symm)
theorem FJ.other{K:PySem.W.Frag}{H:Hp}{S:ar}(r:FJ K H S){p:Addr}{o:HO}(h:H p=none):FJ K (upd H p o) S:=r.grow fun c u q=>by rw[ao (aV q h)];exact q
theorem FJ.new{K:PySem.W.Frag}{H:Hp}{S:ar}(r:FJ K H S){p:Addr}{u:HO}{o:SO}(h:H p=none)(q:IY K (upd H p u) p o):FJ K (upd H p u) (FF S p o):=fun a x e=>by
 by_cases z:a=p
 ·subst z;rw[FC]at e;cases e;exact q
 ·rw[al z]at e;exact(r a x e).stay (.new h) (ao z)
theorem FJ.put{K:PySem.W.Frag}{H:Hp}{S:ar}(r:FJ K H S){p:Addr}{u0 u:HO}{o:SO}(h:H p=some u0)(m:Mu u0)(q:IY K (upd H p u) p o):FJ K (upd H p u) (FF S p o):=fun a x e=>by
 by_cases z:a=p
 ·subst z;rw[FC]at e;cases e;exact q
 ·rw[al z]at e;exact(r a x e).stay (.mut h m) (ao z)
abbrev b_:=List (Option PV)
noncomputable def lk:b_→Nat→Option PV
 |[],_=>none
 |x::_,0=>x
 |_::r,i+1=>lk r i
theorem uV{σ:b_}{i:Nat}{p:PV}(h:lk σ i=some p):σ[i]?=some (some p):=by
 induction σ generalizing i with
 |nil=>cases h
 |cons x r ih=>
  cases i with
  |zero=>exact congrArg some h
  |succ i=>exact ih h
structure FO (K:PySem.W.Frag) (H:Hp) (σ:St) (σ3:b_):Prop where
 len:σ.length=σ3.length
 at':∀(i:Nat) (p:PV),σ3[i]?=some (some p)→∃v,σ[i]?=some (some v)∧Rep K H v p
theorem FO.mono{K:PySem.W.Frag}{H H':Hp}{σ:St}{σ3:b_}(r:FO K H σ σ3)(g:Grow K H H'):FO K H' σ σ3:=⟨r.len,fun i p e=>let ⟨v,h,q⟩:=r.at' i p e;⟨v,h,q.mono g⟩⟩
theorem FO.set{K:PySem.W.Frag}{H:Hp}{σ:St}{σ3:b_}(r:FO K H σ σ3){v:V}{p:PV}(q:Rep K H v p)(i:Nat):FO K H (σ.set i (some v)) (σ3.set i (some p)):=by
 refine⟨by rw[List.length_set,List.length_set,r.len],fun j x e=>?_⟩
 rw[List.getElem?_set]at e ⊢
 split at e
 ·rename_i hij
  rw[if_pos hij]
  subst hij
  split at e
  ·rename_i hl
   cases e
   rw[if_pos (by rw[r.len];exact hl)]
   exact⟨v,rfl,q⟩
  ·cases e
 ·rename_i hij
  rw[if_neg hij]
  exact r.at' j x e
abbrev bB:=PV→ar→Prop
abbrev bH:=PV→b_→ar→Prop
abbrev aJ:=b_→ar→bB→bH→Prop
abbrev jM:=b_→ar→(Bool→ar→Prop)→bH→Prop
abbrev DZ:=b_→ar→(List PV→ar→Prop)→bH→Prop
abbrev EN:=PV→b_→ar→(b_→ar→Prop)→bH→Prop
structure ku where
 nx:b_→ar→Prop
 rt:bB
 ex:bH
 bk:b_→ar→Prop:=fun _ _=>False
 ct:b_→ar→Prop:=fun _ _=>False
abbrev bh:=ku→b_→ar→Prop
def JQ(X:Cx)(H:Hp)(E:bH):Prop:=∀(c:Str) (ks:List Str) (ps:List PV) (σ3:b_) (S':ar) (H':Hp) (pins:List (Addr×Obj)) (σ:St) (s':Shared) (a C dx:Addr) (od:Obj) (vs:List V),E (.exc c ks ps) σ3 S'→Gh X.K c C→vs.length=ks.length→
 H' dx=some (.frz od (.ext (XD dx (ks.zip vs))))→Reps X.K H' vs ps→FJ X.K H' S'→FO X.K H' σ σ3→Grow X.K H H'→Inv X pins σ H' s'→Bi X pins H' s'.heap a C dx→X.xe (.ref a) s'
theorem JQ.mono{X:Cx}{H H':Hp}{E:bH}(x:JQ X H E)(g:Grow X.K H H'):JQ X H' E:=fun c ks ps σ3 S' H2 pins σ s' a C dx od vs h1 h2 h3 h4 h5 h6 h7 h8 h9 OQ=>x c ks ps σ3 S' H2 pins σ s' a C dx od vs h1 h2 h3 h4 h5 h6 h7 (g.trans h8) h9 OQ
def J4(K:PySem.W.Frag)(H:Hp)(Q3:bB)(Q:VK):Prop:=∀p S' v H',Q3 p S'→Rep K H' v p→FJ K H' S'→Grow K H H'→Q v H'
theorem J4.mono{K:PySem.W.Frag}{H H':Hp}{Q3:bB}{Q:VK}(r:J4 K H Q3 Q)(g:Grow K H H'):J4 K H' Q3 Q:=fun p S' v H2 h1 h2 h3 h4=>r p S' v H2 h1 h2 h3 (g.trans h4)
def Li(K:PySem.W.Frag)(H:Hp)(N3:b_→ar→Prop)(N:St→Hp→Prop):Prop:=∀σ3 S' σ H',N3 σ3 S'→FO K H' σ σ3→FJ K H' S'→Grow K H H'→N σ H'
theorem Li.mono{K:PySem.W.Frag}{H H':Hp}{Q3:b_→ar→Prop}{Q:St→Hp→Prop}(r:Li K H Q3 Q)(g:Grow K H H'):Li K H' Q3 Q:=fun p S' v H2 h1 h2 h3 h4=>r p S' v H2 h1 h2 h3 (g.trans h4)
def LE(X:Cx)(t:aJ):TE:=fun σ H Q=>∃σ3 S Q3 E3,FO X.K H σ σ3∧FJ X.K H S∧t σ3 S Q3 E3∧JQ X H E3∧J4 X.K H Q3 Q
def LT(X:Cx)(t:jM):TT:=fun σ H Q=>∃σ3 S Q3 E3,FO X.K H σ σ3∧FJ X.K H S∧t σ3 S Q3 E3∧JQ X H E3∧∀b S' H',Q3 b S'→FJ X.K H' S'→Grow X.K H H'→Q b H'
def LA(X:Cx)(t:DZ):TA:=fun σ H Q=>∃σ3 S Q3 E3,FO X.K H σ σ3∧FJ X.K H S∧t σ3 S Q3 E3∧JQ X H E3∧∀ps S' vs H',Q3 ps S'→Reps X.K H' vs ps→FJ X.K H' S'→Grow X.K H H'→Q vs H'
def LG(X:Cx)(t:EN):TG:=fun v σ H Q=>∃p σ3 S Q3 E3,Rep X.K H v p∧FO X.K H σ σ3∧FJ X.K H S∧t p σ3 S Q3 E3∧JQ X H E3∧Li X.K H Q3 Q
def LS(X:Cx)(t:bh):TS:=fun D σ H=>∃σ3 S D3,FO X.K H σ σ3∧FJ X.K H S∧t D3 σ3 S∧JQ X H D3.ex∧Li X.K H D3.nx D.nx∧J4 X.K H D3.rt D.rt∧Li X.K H D3.bk D.bk∧Li X.K H D3.ct D.ct
structure ba (X:Cx) (e:Expr) (t:aJ):Prop where
 ok:PE X e (LE X t)
structure qh (X:Cx) (e:Expr) (t:jM):Prop where
 ok:PT X e (LT X t)
structure zW (X:Cx) (e:Expr) (t:jM):Prop where
 ok:PW X e (LT X t)
structure Fx (X:Cx) (es:List Expr) (t:DZ):Prop where
 ok:PA X es (LA X t)
structure Fy (X:Cx) (e:Expr) (t:EN):Prop where
 ok:PG X e (LG X t)
structure mQ (X:Cx) (st:Stmt) (t:bh):Prop where
 ok:PS X st (LS X t)
structure ft (X:Cx) (st:List Stmt) (t:bh):Prop where
 ok:IN X st (LS X t)
theorem aL{X:Cx}{e:Expr}{t t':TE}(h:PE X e t)(k:∀σ H Q,t' σ H Q→t σ H Q):PE X e t':=fun pins s σ H Q I q=>h pins s σ H Q I (k σ H Q q)
theorem qi{X:Cx}{e:Expr}{t t':TT}(h:PT X e t)(k:∀σ H Q,t' σ H Q→t σ H Q):PT X e t':=fun pins s σ H Q I q=>h pins s σ H Q I (k σ H Q q)
theorem uW{X:Cx}{e:Expr}{t t':TT}(h:PW X e t)(k:∀σ H Q,t' σ H Q→t σ H Q):PW X e t':=fun wh pins s σ H Q I q=>h wh pins s σ H Q I (k σ H Q q)
theorem b5{X:Cx}{e:Stmt}{t t':TS}(h:PS X e t)(k:∀D σ H,t' D σ H→t D σ H):PS X e t':=fun pins s σ H D I q=>h pins s σ H D I (k D σ H q)
theorem rB{X:Cx}{e:List Stmt}{t t':TS}(h:IN X e t)(k:∀D σ H,t' D σ H→t D σ H):IN X e t':=fun pins s σ H D I q=>h pins s σ H D I (k D σ H q)
section
variable {X:Cx} {a b c e o:Expr} {es:List Expr} {ta tb tc te:aJ} {pos:Pos}
def v3(i:Nat):aJ:=fun σ S Q _=>match lk σ i with|some p=>Q p S|none=>False
theorem aa(i:Nat){x:Str}(hN:X.N[i]?=some x:=by rfl)(hv:Bz X.env.scope x:=by first|exact Or.inl rfl|exact Or.inr (Or.inl rfl)|exact Or.inr (Or.inr rfl))(hd:(x == ("__debug__":Str))=false:=by decide)
  (hcd:(x == ("__classdict__":Str))=false:=by decide):ba X (.Name x pos) (v3 i):=
 ⟨aL (tU hN hv hd hcd) fun σ H Q ⟨σ3,S,Q3,E3,rσ,rS,h,xo,k⟩=>by
  unfold v3 at h
  split at h
  ·rename_i p e
   obtain⟨v,ev,rv⟩:=rσ.at' i p (uV e)
   exact⟨v,ev,k p S v H h rv rS .refl⟩
  ·exact h.elim⟩
def c3(p:PV):aJ:=fun _ S Q _=>Q p S
theorem ac{i:Int}{j:Nat}:ba X (.Constant (.int i) j pos) (c3 (.int i)):=⟨aL yV fun σ H Q ⟨σ3,S,Q3,E3,rσ,rS,h,xo,k⟩=>k _ S _ H h (.int i) rS .refl⟩
theorem om{i:Bool}{j:Nat}:ba X (.Constant (.bool i) j pos) (c3 (.bl i)):=⟨aL BA fun σ H Q ⟨σ3,S,Q3,E3,rσ,rS,h,xo,k⟩=>k _ S _ H h (.bl i) rS .refl⟩
theorem ay{i:Str}{j:Nat}:ba X (.Constant (.str i) j pos) (c3 (.str i)):=⟨aL yW fun σ H Q ⟨σ3,S,Q3,E3,rσ,rS,h,xo,k⟩=>k _ S _ H h (.str i) rS .refl⟩
noncomputable def ap:List aJ→DZ
 |[],_,S,Q,_=>Q [] S
 |t::ts,σ,S,Q,E=>t σ S (fun x S1=>ap ts σ S1 (fun xs S2=>Q (x::xs) S2) E) E
noncomputable def Dk:List TE→TA
 |[]=>BU
 |t::ts=>yC t (Dk ts)
structure iK (X:Cx) (es:List Expr) (ts:List aJ):Prop where
 ok:PA X es (Dk (ts.map (LE X)))
theorem on:iK X [] []:=⟨zv⟩
theorem uX{ts:List aJ}(hs:starEach (e::es) X.env=(false,eval e X.env)::starEach es X.env)(ha:ba X e te)(hr:iK X es ts):iK X (e::es) (te::ts):=⟨wL ha.ok hr.ok hs⟩
theorem bi:∀{ts:List aJ} {σ:L2.St} {H:Hp} {Q:List V→Hp→Prop} {σ3:b_} {S:ar} {Q3:List PV→ar→Prop} {E3:bH},FO X.K H σ σ3→FJ X.K H S→ap ts σ3 S Q3 E3→JQ X H E3→
  (∀ps S' vs H',ps.length=ts.length→Q3 ps S'→Reps X.K H' vs ps→FJ X.K H' S'→Grow X.K H H'→Q vs H')→Dk (ts.map (LE X)) σ H Q
 |[],σ,H,Q,σ3,S,Q3,E3,rσ,rS,h,xo,k=>k [] S [] H rfl h .nil rS .refl
 |t::ts,σ,H,Q,σ3,S,Q3,E3,rσ,rS,h,xo,k=>
  ⟨σ3,S,_,E3,rσ,rS,h,xo,fun p S1 v H1 h1 rv FR g1=>bi (rσ.mono g1) FR h1 (xo.mono g1) fun ps S2 vs H2 hl h2 MX Hv g2=>k (p::ps) S2 (v::vs) H2 (by rw[List.length_cons,List.length_cons,hl]) h2 (.cons (rv.mono g2) MX) Hv (g1.trans g2)⟩
def aI(ts:List aJ):aJ:=fun σ S Q E=>ap ts σ S (fun xs S1=>Q (.tup xs) S1) E
theorem aH{ts:List aJ}{x1:Nat}(h:iK X es ts)(hn:ts.length≤1000:=by exact Nat.le_of_ble_eq_true rfl):ba X (.Tuple es x1 pos) (aI ts):=
 ⟨aL (zw h.ok) fun σ H Q ⟨σ3,S,Q3,E3,rσ,rS,hq,xo,k⟩=>bi rσ rS hq xo fun ps S' vs H' hl q rv G4 g=>
  ⟨Nat.le_of_lt (cY (by rw[rv.length,hl];exact hn)),fun p hp=>k _ S' _ _ q (.tup (F3.of aq) (rv.mono (.new hp))) (G4.other hp) (g.trans (.new hp))⟩⟩
def c_(ts:List aJ):aJ:=fun σ S Q E=>ap ts σ S (fun xs S1=>∀p,S1 p=none→Q (.ref p) (FF S1 p (.lst xs))) E
theorem dC{ts:List aJ}(h:iK X es ts)(hn:ts.length≤1000:=by exact Nat.le_of_ble_eq_true rfl):ba X (.List es pos) (c_ ts):=
 ⟨aL (zx h.ok) fun σ H Q ⟨σ3,S,Q3,E3,rσ,rS,hq,xo,k⟩=>bi rσ rS hq xo fun ps S' vs H' hl q rv G4 g=>
  ⟨Nat.le_of_lt (cY (by rw[rv.length,hl];exact hn)),fun p hp=>k _ _ _ _ (q p (G4.free hp)) (.ref p) (G4.new hp ⟨vs,aq,rv.mono (.new hp)⟩) (g.trans (.new hp))⟩⟩
abbrev R3:=PV→PV→ar→bB→Prop
def LR(X:Cx)(r:R3):R2:=fun x y H Q=>∃px py S Q3,Rep X.K H x px∧Rep X.K H y py∧FJ X.K H S∧r px py S Q3∧J4 X.K H Q3 Q
structure iV (X:Cx) (f:Value→Value→Sem Value) (r:R3):Prop where
 ok:iJ X f (LR X r)
def ah(r:R3)(ta tb:aJ):aJ:=fun σ S Q E=>ta σ S (fun x S1=>tb σ S1 (fun y S2=>r x y S2 Q) E) E
theorem j0{r:R3}{σ:L2.St}{H:Hp}{Q:VK}:LE X (ah r ta tb) σ H Q→BK (LR X r) (LE X ta) (LE X tb) σ H Q:=fun⟨σ3,S,Q3,E3,rσ,rS,h,xo,k⟩=>
 ⟨σ3,S,_,E3,rσ,rS,h,xo,fun x S1 v H1 h1 rx FR g1=>⟨σ3,S1,_,E3,rσ.mono g1,FR,h1,xo.mono g1,fun y S2 u H2 h2 ry Hv g2=>⟨x,y,S2,Q3,rx.mono g2,ry,Hv,h2,k.mono (g1.trans g2)⟩⟩⟩
theorem aB{op:Operator}{r:R3}(ho:iV X (binaryOp op) r)(ha:ba X a ta)(hb:ba X b tb):ba X (.BinOp a op b pos) (ah r ta tb):=⟨aL (BL ho.ok ha.ok hb.ok) fun _ _ _=>j0⟩
theorem oo{op:CmpOp}{r:R3}(ho:iV X (compareOp op) r)(ha:ba X a ta)(hb:ba X b tb)(hm:behindInMarks op b=false):ba X (.Compare a [op] [b] pos) (ah r ta tb):=⟨aL (wF ho.ok ha.ok hb.ok hm) fun _ _ _=>j0⟩
def aO(t:aJ):jM:=fun σ S Q E=>t σ S (fun v S'=>match v with | .bl k=>Q k S'|_=>False) E
theorem uY{σ:L2.St}{H:Hp}{Q:Bool→Hp→Prop}:LT X (aO te) σ H Q→LE X te σ H (fun x H'=>∃k,x = .bl k∧Q k H'):=fun⟨σ3,S,Q3,E3,rσ,rS,h,xo,k⟩=>
 ⟨σ3,S,_,E3,rσ,rS,h,xo,fun p S' v H' h1 rv G4 g=>by
  cases p with
  |bl z=>cases rv;exact⟨z,rfl,k z S' H' h1 G4 g⟩
  |_=>exact h1.elim⟩
theorem bD{op:CmpOp}{r:R3}(ho:iV X (compareOp op) r)(ha:ba X a ta)(hb:ba X b tb)(hm:behindInMarks op b=false):qh X (.Compare a [op] [b] pos) (aO (ah r ta tb)):=
 ⟨qi (wG ho.ok ha.ok hb.ok hm) fun σ H Q ⟨σ3,S,Q3,E3,rσ,rS,h,xo,k⟩=>j0 ⟨σ3,S,_,E3,rσ,rS,h,xo,fun p S' v H' h1 rv G4 g=>by
  cases p with
  |bl z=>cases rv;exact⟨z,rfl,k z S' H' h1 G4 g⟩
  |_=>exact h1.elim⟩⟩
theorem rC(h:ba X e te)(he:∀whole,isTrue e X.env whole=(do let v ←whole;standAt e.pos;holding [v] (truthy v)):=by intro _;rfl):qh X e (aO te):=
 ⟨qi (yX h.ok he) fun σ H Q q=>uY q⟩
end
section
variable {X:Cx} {a b c:Expr} {rest:List Expr} {ta tb te:aJ} {tA tB:jM} {pos:Pos}
def jW(t u:jM):jM:=fun σ S Q E=>t σ S (fun c S1=>if c=true then u σ S1 Q E else Q false S1) E
def oq(t u:jM):jM:=fun σ S Q E=>t σ S (fun c S1=>if c=true then Q true S1 else u σ S1 Q E) E
def mR(t:jM):jM:=fun σ S Q E=>t σ S (fun c S1=>Q (!c) S1) E
theorem mS(ha:qh X a tA):zW X (.BoolOp .And [a] pos) tA:=⟨wv ha.ok⟩
theorem jN(ha:qh X a tA):zW X (.BoolOp .Or [a] pos) tA:=⟨yY ha.ok⟩
theorem rD(ha:qh X a tA)(hb:zW X (.BoolOp .And (b::rest) pos) tB):zW X (.BoolOp .And (a::b::rest) pos) (jW tA tB):=
 ⟨uW (yZ ha.ok hb.ok) fun σ H Q ⟨σ3,S,Q3,E3,rσ,rS,h,xo,k⟩=>⟨σ3,S,_,E3,rσ,rS,h,xo,fun c S1 H1 h1 FR g1=>by
  cases c with
  |true=>rw[if_pos rfl]at h1 ⊢;exact⟨σ3,S1,Q3,E3,rσ.mono g1,FR,h1,xo.mono g1,fun b S2 H2 h2 Hv g2=>k b S2 H2 h2 Hv (g1.trans g2)⟩
  |false=>rw[if_neg (by decide)]at h1 ⊢;exact k false S1 H1 h1 FR g1⟩⟩
theorem mT(ha:qh X a tA)(hb:zW X (.BoolOp .Or (b::rest) pos) tB):zW X (.BoolOp .Or (a::b::rest) pos) (oq tA tB):=
 ⟨uW (BB ha.ok hb.ok) fun σ H Q ⟨σ3,S,Q3,E3,rσ,rS,h,xo,k⟩=>⟨σ3,S,_,E3,rσ,rS,h,xo,fun c S1 H1 h1 FR g1=>by
  cases c with
  |true=>rw[if_pos rfl]at h1 ⊢;exact k true S1 H1 h1 FR g1
  |false=>rw[if_neg (by decide)]at h1 ⊢;exact⟨σ3,S1,Q3,E3,rσ.mono g1,FR,h1,xo.mono g1,fun b S2 H2 h2 Hv g2=>k b S2 H2 h2 Hv (g1.trans g2)⟩⟩⟩
theorem tQ(h:zW X a tA):qh X a tA:=⟨h.ok.pt⟩
theorem uZ(ha:qh X a tA):qh X (.UnaryOp .Not a pos) (mR tA):=
 ⟨qi (y7 ha.ok) fun σ H Q ⟨σ3,S,Q3,E3,rσ,rS,h,xo,k⟩=>⟨σ3,S,_,E3,rσ,rS,h,xo,fun c S1 H1 h1 FR g1=>k (!c) S1 H1 h1 FR g1⟩⟩
def ky(t u:aJ):aJ:=fun σ S Q E=>t σ S (fun v S1=>match v with | .bl c=>if c=true then u σ S1 Q E else Q (.bl false) S1|_=>False) E
def zX(t u:aJ):aJ:=fun σ S Q E=>t σ S (fun v S1=>match v with | .bl c=>if c=true then Q (.bl true) S1 else u σ S1 Q E|_=>False) E
def u4(t:aJ):aJ:=fun σ S Q E=>t σ S (fun v S1=>match v with | .bl c=>Q (.bl (!c)) S1|_=>False) E
theorem Cd{op:BoolOp}(h:ba X a ta):ba X (.BoolOp op [a] pos) ta:=⟨y8 h.ok⟩
theorem Ce(ha:ba X a ta)(hb:ba X (.BoolOp .And (b::rest) pos) tb):ba X (.BoolOp .And (a::b::rest) pos) (ky ta tb):=
 ⟨aL (y9 ha.ok hb.ok) fun σ H Q ⟨σ3,S,Q3,E3,rσ,rS,h,xo,k⟩=>⟨σ3,S,_,E3,rσ,rS,h,xo,fun p S1 v H1 h1 rv FR g1=>by
  cases p with
  |bl z=>
   cases rv
   refine⟨z,rfl,?_⟩
   cases z with
   |true=>rw[if_pos rfl];exact⟨σ3,S1,Q3,E3,rσ.mono g1,FR,h1,xo.mono g1,k.mono g1⟩
   |false=>rw[if_neg (by decide)];exact k _ S1 _ H1 h1 (.bl false) FR g1
  |_=>exact h1.elim⟩⟩
def lz(t:jM)(ta tb:aJ):aJ:=fun σ S Q E=>t σ S (fun c S1=>if c=true then ta σ S1 Q E else tb σ S1 Q E) E
theorem yG(hc:qh X c tA)(ha:ba X a ta)(hb:ba X b tb):ba X (.IfExp c a b pos) (lz tA ta tb):=
 ⟨aL (tV hc.ok ha.ok hb.ok) fun σ H Q ⟨σ3,S,Q3,E3,rσ,rS,h,xo,k⟩=>⟨σ3,S,_,E3,rσ,rS,h,xo,fun c S1 H1 h1 FR g1=>by
  cases c with
  |true=>rw[if_pos rfl]at h1 ⊢;exact⟨σ3,S1,Q3,E3,rσ.mono g1,FR,h1,xo.mono g1,k.mono g1⟩
  |false=>rw[if_neg (by decide)]at h1 ⊢;exact⟨σ3,S1,Q3,E3,rσ.mono g1,FR,h1,xo.mono g1,k.mono g1⟩⟩⟩
abbrev Cf:=PV→ar→bB→Prop
noncomputable def E8(X:Cx)(r:Cf):V→Hp→VK→Prop:=fun x H Q=>∃px S Q3,Rep X.K H x px∧FJ X.K H S∧r px S Q3∧J4 X.K H Q3 Q
structure EO (X:Cx) (f:Value→Sem Value) (r:Cf):Prop where
 ok:C_ X f (E8 X r)
def lZ(r:Cf)(ta:aJ):aJ:=fun σ S Q E=>ta σ S (fun x S1=>r x S1 Q) E
theorem kz{op:UnaryOp}{r:Cf}(ho:EO X (unaryOp op) r)(ha:ba X a ta):ba X (.UnaryOp op a pos) (lZ r ta):=
 ⟨aL (BM ho.ok ha.ok) fun σ H Q ⟨σ3,S,Q3,E3,rσ,rS,h,xo,k⟩=>⟨σ3,S,_,E3,rσ,rS,h,xo,fun p S1 v H1 h1 rv FR g1=>⟨p,S1,Q3,rv,FR,h1,k.mono g1⟩⟩⟩
noncomputable def dY:Cf:=fun x S Q=>match x with | .int i=>Q (.int (-i)) S|_=>False
theorem de:EO X (unaryOp .USub) dY:=⟨fun pins s σ H x v Q I rx ⟨px,S,Q3,r1,rS,h,k⟩=>by
 cases px with
 |int i=>cases r1;exact zr pins s σ H _ v Q I rx ⟨i,rfl,k _ S _ H h (.int _) rS .refl⟩
 |_=>exact h.elim⟩
end
section
variable {X:Cx}
def dA(g:Int→Int→PV):R3:=fun x y S Q=>match x,y with | .int i,.int j=>Q (g i j) S|_,_=>False
def fu(C:Int→Int→Prop)(g:Int→Int→PV):R3:=fun x y S Q=>match x,y with | .int i,.int j=>C i j∧Q (g i j) S|_,_=>False
theorem zY{f:Value→Value→Sem Value}{g:Int→Int→Int}(h:iJ X f (wD fun i j=>.int (g i j))):iV X f (dA fun i j=>.int (g i j)):=⟨fun pins s σ H x y v u Q I rx ry ⟨px,py,S,Q3,r1,r2,rS,q,k⟩=>by
 cases px with
 |int i=>
  cases py with
  |int j=>cases r1;cases r2;exact h pins s σ H _ _ v u Q I rx ry ⟨i,j,rfl,rfl,k _ S _ H q (.int _) rS .refl⟩
  |_=>exact q.elim
 |_=>exact q.elim⟩
theorem mU{f:Value→Value→Sem Value}{g:Int→Int→Bool}(h:iJ X f (wD fun i j=>.bl (g i j))):iV X f (dA fun i j=>.bl (g i j)):=⟨fun pins s σ H x y v u Q I rx ry ⟨px,py,S,Q3,r1,r2,rS,q,k⟩=>by
 cases px with
 |int i=>
  cases py with
  |int j=>cases r1;cases r2;exact h pins s σ H _ _ v u Q I rx ry ⟨i,j,rfl,rfl,k _ S _ H q (.bl _) rS .refl⟩
  |_=>exact q.elim
 |_=>exact q.elim⟩
theorem mV{f:Value→Value→Sem Value}{C:Int→Int→Prop}{g:Int→Int→Int}(h:iJ X f (rI C fun i j=>.int (g i j))):iV X f (fu C fun i j=>.int (g i j)):=⟨fun pins s σ H x y v u Q I rx ry ⟨px,py,S,Q3,r1,r2,rS,q,k⟩=>by
 cases px with
 |int i=>
  cases py with
  |int j=>cases r1;cases r2;exact h pins s σ H _ _ v u Q I rx ry ⟨i,j,rfl,rfl,q.1,k _ S _ H q.2 (.int _) rS .refl⟩
  |_=>exact q.elim
 |_=>exact q.elim⟩
def l4(i j:Int):Prop:=j≠0∧j.natAbs < 2 ^ 8000
theorem qj{n:Nat}(h:n < 2 ^ 8000):n.log2 < 9000:=by
 by_cases z:n=0
 ·rw[z];decide +kernel
 ·exact Nat.lt_trans ((Nat.log2_lt z).mpr h) (by decide)
theorem zZ:iV X (binaryOp .Sub) (dA fun i j=>.int (i - j)):=zY zp
theorem z_:iV X (binaryOp .Mod) (fu (fun _ j=>j≠0) fun i j=>.int (i.fmod j)):=mV wE
theorem xA:iV X (binaryOp .FloorDiv) (fu l4 fun i j=>.int (i.fdiv j)):=mV (De fun _ _ _ _ _ _ _ hc q=>PyProof.Rows.floordiv_int hc.1 q (.inl (PyProof.noPylong_of_log2 (qj hc.2))))
theorem Aa:iV X (binaryOp .Pow) (fu zn fun i j=>.int (i ^ j.toNat)):=mV zq
theorem Cg:iV X (compareOp .Lt) (dA fun i j=>.bl (decide (i < j))):=mU BP
theorem Ch:iV X (compareOp .Gt) (dA fun i j=>.bl (decide (j < i))):=mU BQ
theorem Ci:iV X (compareOp .GtE) (dA fun i j=>.bl (decide (j≤i))):=mU BR
end
end L3
namespace L2
open PySem PySem.Spec PyProof.Rows
section
variable {X:Cx}
def Cj(K:PySem.W.Frag):R2:=fun x y H Q=>∃a b xs ys,x = .ref a∧y = .ref b∧F3 K H a xs∧F3 K H b ys∧xs.length+ys.length≤sizeLine∧∀r H',(∀c o,H c=some o→H' c=some o)→F3 K H' r (xs++ys)→Q (.ref r) H'
theorem xB:iJ X (binaryOp .Add) (Cj X.K):=by
 intro pins s σ H x y v u Q I rx ry h
 obtain⟨a,b,xs,ys,rfl,rfl,ha,hb,hz,q⟩:=h
 by_cases hx:xs=[]
 ·subst hx
  cases rx
  cases ry
  obtain⟨its,r1,p1,_⟩:=I.tuple ha
  obtain⟨its2,r2,p2,_⟩:=I.tuple hb
  cases r1
  obtain⟨⟨cls,dd,data,sl⟩,ho,hc,n,hd⟩:=id p1
  obtain⟨⟨MK,dd2,data2,sl2⟩,ho2,hc2,n2,hd2⟩:=id p2
  simp only at hc hd hc2 hd2
  subst hc hd hc2 hd2
  exact concat_meets ⟨_,ho,rfl⟩ ⟨_,ho2,rfl⟩ noFill_tuple_add seq_tuple_add PySem.F.slot_tuple_add PySem.F.entry_tuple_add (PySem.F.args_tuple_add_2 _ _)
   (tuple_addW0 a b _ its2.toArray n n2 dd dd2 sl sl2 rfl) ⟨ho,ho2,⟨.ref b,H,I,rfl,q b H (fun _ _ e=>e) hb⟩⟩
 ·exact wT pins s σ H _ _ v u Q I rx ry ⟨a,b,xs,ys,rfl,rfl,ha,hb,hx,hz,fun e=>q a H (fun _ _ e=>e) (by rw[e,List.append_nil];exact ha),
   fun _ p hp=>q p _ (fun c o e=>by rw[ao (aV e hp)];exact e) (F3.of aq)⟩
end
end L2
namespace L3
open PySem L2
section
variable {X:Cx}
def aS:R3:=fun x y S Q=>match x,y with
 | .int i,.int j=>Q (.int (i+j)) S
 | .str i,.str j=>i.length+j.length≤sizeLine∧Q (.str (i++j)) S
 | .tup i,.tup j=>i.length+j.length≤sizeLine∧Q (.tup (i++j)) S
 | .ref i,.ref j=>match S i,S j with
  |some (.lst xs),some (.lst ys)=>xs.length+ys.length≤sizeLine∧∀p,S p=none→Q (.ref p) (FF S p (.lst (xs++ys)))
  |_,_=>False
 |_,_=>False
theorem aE:iV X (binaryOp .Add) aS:=⟨fun pins s σ H x y v u Q I rx ry ⟨px,py,S,Q3,r1,r2,rS,q,k⟩=>by
 unfold aS at q
 split at q
 ·cases r1;cases r2
  exact zo pins s σ H _ _ v u Q I rx ry ⟨_,_,rfl,rfl,k _ S _ H q (.int _) rS .refl⟩
 ·cases r1;cases r2
  exact pQ pins s σ H _ _ v u Q I rx ry ⟨_,_,rfl,rfl,q.1,k _ S _ H q.2 (.str _) rS .refl⟩
 ·cases r1 with
  |tup h1 s1=>
   cases r2 with
   |tup h2 s2=>
    refine xB pins s σ H _ _ v u Q I rx ry ⟨_,_,_,_,rfl,rfl,h1,h2,by rw[s1.length,s2.length];exact q.1,fun r H' hs hr=>?_⟩
    exact k _ S _ H' q.2 (.tup hr ((s1.mono (.same hs)).append (s2.mono (.same hs)))) (rS.grow hs) (.same hs)
 ·cases r1;cases r2
  split at q
  ·rename_i i j xs ys e1 e2
   obtain⟨vs,h1,s1⟩:=rS _ _ e1
   obtain⟨us,h2,s2⟩:=rS _ _ e2
   exact zG pins s σ H _ _ v u Q I rx ry ⟨_,_,_,_,rfl,rfl,h1,h2,by rw[s1.length,s2.length];exact q.1,fun p hp=>k _ _ _ _ (q.2 p (rS.free hp)) (.ref p) (rS.new hp ⟨_,aq,(s1.append s2).mono (.new hp)⟩) (.new hp)⟩
  ·exact q.elim
 ·exact q.elim⟩
end
mutual
inductive Dat (S:ar):PV→PyData→Prop
 |non:Dat S .non .none
 |bl (b:Bool):Dat S (.bl b) (.bool b)
 |int (i:Int):Dat S (.int i) (.int i)
 |str (x:Str):Dat S (.str x) (.str x)
 |tup {ps:List PV} {ds:List PyData}:G9 S ps ds→Dat S (.tup ps) (.tuple ds)
 |cl {ps:List PV} {ds:List PyData}:G9 S ps ds→Dat S (.cl ps) (.list ds)
 |ref {a:Addr} {ps:List PV} {ds:List PyData}:S a=some (.lst ps)→G9 S ps ds→Dat S (.ref a) (.list ds)
inductive G9 (S:ar):List PV→List PyData→Prop
 |nil:G9 S [] []
 |cons {p:PV} {d:PyData} {ps:List PV} {ds:List PyData}:Dat S p d→G9 S ps ds→G9 S (p::ps) (d::ds)
end
section
variable {X:Cx} {pins:List (Addr×Obj)} {σ:L2.St} {H:Hp} {s:Shared} {S:ar}
theorem qk(I:Inv X pins σ H s)(rS:FJ X.K H S):(∀{p:PV} {d:PyData},Dat S p d→∀{v:V} {u:Value},Rep X.K H v p→RelV v u→∃as,Reads s.heap u d as)∧∀{ps:List PV} {ds:List PyData},G9 S ps ds→∀{vs:List V} {us:List Value},Reps X.K H vs ps→Vals vs us→∃as,ReadsAll s.heap us ds as:=by
 have one:=@Dat.rec S (motive_1:=fun p d _=>∀{v:V} {u:Value},Rep X.K H v p→RelV v u→∃as,Reads s.heap u d as) (motive_2:=fun ps ds _=>∀{vs:List V} {us:List Value},Reps X.K H vs ps→Vals vs us→∃as,ReadsAll s.heap us ds as)
 have two:=@G9.rec S (motive_1:=fun p d _=>∀{v:V} {u:Value},Rep X.K H v p→RelV v u→∃as,Reads s.heap u d as) (motive_2:=fun ps ds _=>∀{vs:List V} {us:List Value},Reps X.K H vs ps→Vals vs us→∃as,ReadsAll s.heap us ds as)
 have c1:∀{v:V} {u:Value},Rep X.K H v .non→RelV v u→∃as,Reads s.heap u .none as:=fun h r=>by cases h;cases r;exact⟨_,.none⟩
 have c2:∀(b:Bool) {v:V} {u:Value},Rep X.K H v (.bl b)→RelV v u→∃as,Reads s.heap u (.bool b) as:=fun b _ _ h r=>by cases h;cases r;exact⟨_,.bool b⟩
 have c3:∀(i:Int) {v:V} {u:Value},Rep X.K H v (.int i)→RelV v u→∃as,Reads s.heap u (.int i) as:=fun i _ _ h r=>by cases h;obtain⟨t,rfl⟩:=r;exact⟨_,.int i t⟩
 have c4:∀(x:Str) {v:V} {u:Value},Rep X.K H v (.str x)→RelV v u→∃as,Reads s.heap u (.str x) as:=fun x _ _ h r=>by cases h;obtain⟨t,rfl⟩:=r;exact⟨_,.str x t⟩
 have c5:∀{ps:List PV} {ds:List PyData},G9 S ps ds→(∀{vs:List V} {us:List Value},Reps X.K H vs ps→Vals vs us→∃as,ReadsAll s.heap us ds as)→∀{v:V} {u:Value},Rep X.K H v (.tup ps)→RelV v u→∃as,Reads s.heap u (.tuple ds) as:=fun _ ih _ _ h r=>by
  cases h with
  |tup h rs=>
   cases r
   obtain⟨its,rv,⟨o,ho,hc,n,hd⟩,hz⟩:=I.tuple h
   obtain⟨as,q⟩:=ih rs rv
   exact⟨as,.tuple ho hc hd (by simpa using q)⟩
 have c6:∀{ps:List PV} {ds:List PyData},G9 S ps ds→(∀{vs:List V} {us:List Value},Reps X.K H vs ps→Vals vs us→∃as,ReadsAll s.heap us ds as)→∀{v:V} {u:Value},Rep X.K H v (.cl ps)→RelV v u→∃as,Reads s.heap u (.list ds) as:=fun _ ih _ _ h r=>by
  cases h with
  |cl h rs=>
   cases r
   obtain⟨its,rv,⟨o,n,ho,hc,_,hd⟩,hz⟩:=I.list h.sq
   obtain⟨as,q⟩:=ih rs rv
   exact⟨_,.list ho hc hd (by simpa using q)⟩
 have c7:∀{a:Addr} {ps:List PV} {ds:List PyData},S a=some (.lst ps)→G9 S ps ds→(∀{vs:List V} {us:List Value},Reps X.K H vs ps→Vals vs us→∃as,ReadsAll s.heap us ds as)→∀{v:V} {u:Value},Rep X.K H v (.ref a)→RelV v u→∃as,Reads s.heap u (.list ds) as:=fun e _ ih _ _ h r=>by
  cases h
  cases r
  obtain⟨vs,hv,rs⟩:=rS _ _ e
  obtain⟨its,rv,⟨o,n,ho,hc,_,hd⟩,hz⟩:=I.list (SqL.of hv)
  obtain⟨as,q⟩:=ih rs rv
  exact⟨_,.list ho hc hd (by simpa using q)⟩
 have c8:∀{vs:List V} {us:List Value},Reps X.K H vs []→Vals vs us→∃as,ReadsAll s.heap us [] as:=fun h r=>by cases h;cases r;exact⟨_,.nil⟩
 have c9:∀{p:PV} {d:PyData} {ps:List PV} {ds:List PyData},Dat S p d→G9 S ps ds→(∀{v:V} {u:Value},Rep X.K H v p→RelV v u→∃as,Reads s.heap u d as)→(∀{vs:List V} {us:List Value},Reps X.K H vs ps→Vals vs us→∃as,ReadsAll s.heap us ds as)→∀{vs:List V} {us:List Value},Reps X.K H vs (p::ps)→Vals vs us→∃as,ReadsAll s.heap us (d::ds) as:=fun _ _ i1 i2 _ _ h r=>by
  cases h with
  |cons a rs=>
   cases r with
   |cons r1 r2=>
    obtain⟨as,q⟩:=i1 a r1
    obtain⟨bs,q2⟩:=i2 rs r2
    exact⟨_,.cons q q2⟩
 exact⟨fun h=>one c1 c2 c3 c4 c5 c6 c7 c8 c9 h,fun h=>two c1 c2 c3 c4 c5 c6 c7 c8 c9 h⟩
theorem Dat.reads(I:Inv X pins σ H s)(rS:FJ X.K H S){p:PV}{d:PyData}{v:V}{u:Value}(h:Dat S p d)(r:Rep X.K H v p)(r2:RelV v u):∃as,Reads s.heap u d as:=(qk I rS).1 h r r2
end
section
variable {X:Cx}
def bt(neg:Bool):R3:=fun x y S Q=>match x,y with
 | .int i,.int j=>Q (.bl (neg != decide (i=j))) S
 | .str i,.str j=>Q (.bl (neg != decide (i=j))) S
 | .bl i,.bl j=>Q (.bl (neg != decide (i=j))) S
 |x,y=>∃d d',Dat S x d∧Dat S y d'∧d.canLay0=true∧d'.canLay0=true∧min d.depth d'.depth≤150∧Q (.bl (neg != PyData.eqv d d')) S
theorem ot(hu:X.A.units+150 < cLine):iV X (compareOp .Eq) (bt false):=⟨fun pins s σ H x y v u Q I rx ry ⟨px,py,S,Q3,r1,r2,rS,q,k⟩=>by
 unfold bt at q
 split at q
 ·cases r1;cases r2
  exact t8 pins s σ H _ _ v u Q I rx ry ⟨rfl,k _ S _ H (by simpa using q) (.bl _) rS .refl⟩
 ·cases r1;cases r2
  exact t8 pins s σ H _ _ v u Q I rx ry ⟨rfl,k _ S _ H (by simpa using q) (.bl _) rS .refl⟩
 ·cases r1;cases r2
  exact t8 pins s σ H _ _ v u Q I rx ry ⟨rfl,k _ S _ H (by simpa using q) (.bl _) rS .refl⟩
 ·obtain⟨d,d',h1,h2,c1,c2,hd,q⟩:=q
  obtain⟨as,a1⟩:=h1.reads I rS r1 rx
  obtain⟨bs,a2⟩:=h2.reads I rS r2 ry
  exact SeqAt.compareEq_reads a1 a2 c1 c2 (by omega) ⟨.bl _,H,I,rfl,k _ S _ H (by simpa using q) (.bl _) rS .refl⟩⟩
theorem Ck(hu:X.A.units+150 < cLine):iV X (compareOp .NotEq) (bt true):=⟨fun pins s σ H x y v u Q I rx ry ⟨px,py,S,Q3,r1,r2,rS,q,k⟩=>by
 unfold bt at q
 split at q
 ·cases r1;cases r2
  exact t9 pins s σ H _ _ v u Q I rx ry ⟨rfl,k _ S _ H (by simpa using q) (.bl _) rS .refl⟩
 ·cases r1;cases r2
  exact t9 pins s σ H _ _ v u Q I rx ry ⟨rfl,k _ S _ H (by simpa using q) (.bl _) rS .refl⟩
 ·cases r1;cases r2
  exact t9 pins s σ H _ _ v u Q I rx ry ⟨rfl,k _ S _ H (by simpa using q) (.bl _) rS .refl⟩
 ·obtain⟨d,d',h1,h2,c1,c2,hd,q⟩:=q
  obtain⟨as,a1⟩:=h1.reads I rS r1 rx
  obtain⟨bs,a2⟩:=h2.reads I rS r2 ry
  exact SeqAt.compareNe_reads a1 a2 c1 c2 (by omega) ⟨.bl _,H,I,rfl,k _ S _ H (by simpa using q) (.bl _) rS .refl⟩⟩
def Bj(neg:Bool):R3:=fun x y S Q=>match y with
 | .non=>Q (.bl (neg != match x with | .non=>true|_=>false)) S
 | .bl true=>match x with | .bl true=>Q (.bl (neg != true)) S|_=>False
 |_=>False
noncomputable def ou(S:ar):PV→Option (List PV)
 | .tup xs=>some xs
 | .cl xs=>some xs
 | .ref a=>match S a with|some (.lst xs)=>some xs|_=>none
 |_=>none
theorem Ab{H:Hp}{S:ar}{v:V}{p:PV}{xs:List PV}(rS:FJ X.K H S)(r:Rep X.K H v p)(h:ou S p=some xs):∃a vs,v = .ref a∧(SqL X.K H a vs∨F3 X.K H a vs)∧Reps X.K H vs xs:=by
 unfold ou at h
 split at h
 ·cases h;cases r with|tup h1 rs=>exact⟨_,_,rfl,.inr h1,rs⟩
 ·cases h;cases r with|cl h1 rs=>exact⟨_,_,rfl,.inl h1.sq,rs⟩
 ·cases r
  split at h
  ·rename_i e
   cases h
   obtain⟨vs,hv,rs⟩:=rS _ _ e
   exact⟨_,vs,rfl,.inl (SqL.of hv),rs⟩
  ·cases h
 ·cases h
noncomputable def jO(x:PyData)(xs:List PyData):Bool:=xs.any fun y=>PyData.eqv y x
def pJ(neg:Bool):R3:=fun x y S Q=>match x,y with
 | .str i,.str j=>Q (.bl (neg != !(Builtin.Str.occurrences j i 0 j.length 1).isEmpty)) S
 |x,y=>match y with
  | .ref a=>match S a with
   |some (.lst xs)=>∃d ds,Dat S x d∧G9 S xs ds∧d.canLay0=true∧PyData.canLayAll0 ds=true∧d.depth≤150∧Q (.bl (neg != jO d ds)) S
   |some (.dct kvs)=>match x with
    | .str z=>Q (.bl (neg != (kvs.any fun kv=>decide (kv.1=Sum.inr z)))) S
    | .int z=>Q (.bl (neg != (kvs.any fun kv=>decide (kv.1=Sum.inl z)))) S
    |_=>False
   |_=>False
  | .tup xs=>∃d ds,Dat S x d∧G9 S xs ds∧d.canLay0=true∧PyData.canLayAll0 ds=true∧d.depth≤150∧Q (.bl (neg != jO d ds)) S
  |_=>False
theorem FQ.any{K:PySem.W.Frag}{H:Hp}{κ:Type} [DecidableEq κ](k:κ):∀{vs:List (κ×V)} {ps:List (κ×PV)},FQ K H vs ps→(gt vs k).isSome=ps.any fun kv=>decide (kv.1=k)
 |_,_,.nil=>rfl
 |_,_,.cons (k:=k') a r=>by
  rw[List.any_cons,←FQ.any k r]
  by_cases e:k'=k
  ·rw[G1 e];simp[e]
  ·rw[G2 e];simp[e]
theorem rE(hu:X.A.units+160 < cLine):iV X (compareOp .In) (pJ false):=⟨fun pins s σ H x y v u Q I rx ry ⟨px,py,S,Q3,r1,r2,rS,q,k⟩=>by
 unfold pJ at q
 split at q
 ·cases r1;cases r2
  exact sA pins s σ H _ _ v u Q I rx ry ⟨_,_,rfl,rfl,k _ S _ H (by simpa using q) (.bl _) rS .refl⟩
 ·split at q
  ·cases r2
   cases ry
   split at q
   ·rename_i xs e
    obtain⟨d,ds,h1,h2,c1,c2,hd,q⟩:=q
    obtain⟨as,a1⟩:=h1.reads I rS r1 rx
    obtain⟨bs,a2⟩:=(Dat.ref e h2).reads I rS (.ref _) (rfl:RelV (.ref _) (.ref _))
    exact SeqAt.in_list_reads a2 a1 c2 c1 (by omega) ⟨.bl _,H,I,rfl,k _ S _ H (by simpa [jO]using q) (.bl _) rS .refl⟩
   ·rename_i kvs e
    obtain⟨kv,hv,rk⟩:=rS _ _ e
    split at q
    ·cases r1
     exact B5 (by omega) I (DGet.k (k:=Sum.inr _) hv) rx fun s3 I3=>⟨.bl _,H,I3,rfl,k _ S _ H (by rw[rk.any];simpa using q) (.bl _) rS .refl⟩
    ·cases r1
     exact B5 (by omega) I (DGet.k (k:=Sum.inl _) hv) rx fun s3 I3=>⟨.bl _,H,I3,rfl,k _ S _ H (by rw[rk.any];simpa using q) (.bl _) rS .refl⟩
    ·exact q.elim
   ·exact q.elim
  ·rename_i xs
   obtain⟨d,ds,h1,h2,c1,c2,hd,q⟩:=q
   obtain⟨as,a1⟩:=h1.reads I rS r1 rx
   obtain⟨bs,a2⟩:=(Dat.tup h2).reads I rS r2 ry
   exact SeqAt.in_tuple_reads a2 a1 c2 c1 (by omega) ⟨.bl _,H,I,rfl,k _ S _ H (by simpa [jO]using q) (.bl _) rS .refl⟩
  ·exact q.elim⟩
theorem ow(hu:X.A.units+160 < cLine):iV X (compareOp .NotIn) (pJ true):=⟨fun pins s σ H x y v u Q I rx ry ⟨px,py,S,Q3,r1,r2,rS,q,k⟩=>by
 unfold pJ at q
 split at q
 ·cases r1;cases r2
  exact mG pins s σ H _ _ v u Q I rx ry ⟨_,_,rfl,rfl,k _ S _ H (by simpa using q) (.bl _) rS .refl⟩
 ·split at q
  ·cases r2
   cases ry
   split at q
   ·rename_i xs e
    obtain⟨d,ds,h1,h2,c1,c2,hd,q⟩:=q
    obtain⟨as,a1⟩:=h1.reads I rS r1 rx
    obtain⟨bs,a2⟩:=(Dat.ref e h2).reads I rS (.ref _) (rfl:RelV (.ref _) (.ref _))
    exact SeqAt.notIn_list_reads a2 a1 c2 c1 (by omega) ⟨.bl _,H,I,rfl,k _ S _ H (by simpa [jO]using q) (.bl _) rS .refl⟩
   ·rename_i kvs e
    obtain⟨kv,hv,rk⟩:=rS _ _ e
    split at q
    ·cases r1
     exact rh (by omega) I (DGet.k (k:=Sum.inr _) hv) rx fun s3 I3=>⟨.bl _,H,I3,rfl,k _ S _ H (by rw[rk.any];simpa using q) (.bl _) rS .refl⟩
    ·cases r1
     exact rh (by omega) I (DGet.k (k:=Sum.inl _) hv) rx fun s3 I3=>⟨.bl _,H,I3,rfl,k _ S _ H (by rw[rk.any];simpa using q) (.bl _) rS .refl⟩
    ·exact q.elim
   ·exact q.elim
  ·rename_i xs
   obtain⟨d,ds,h1,h2,c1,c2,hd,q⟩:=q
   obtain⟨as,a1⟩:=h1.reads I rS r1 rx
   obtain⟨bs,a2⟩:=(Dat.tup h2).reads I rS r2 ry
   exact SeqAt.notIn_tuple_reads a2 a1 c2 c1 (by omega) ⟨.bl _,H,I,rfl,k _ S _ H (by simpa [jO]using q) (.bl _) rS .refl⟩
  ·exact q.elim⟩
end
end L3
namespace HT
open PySem PySem.Spec PyProof.Rows
section
variable {prog:Program} {w:World} {A:Around} {E:Value→Shared→Prop} {s:Shared}
theorem ie{t sl:Addr}{items:Array Value}{vl vu:Value}{lo hi:Option Int}{Q:Value→Shared→Prop}(ht:IsTup s.heap t items)(hs:s.heap.IsSliceOf sl vl vu .none)(pl:IsPart vl lo)(pu:IsPart vu hi)
  (hw:F2 items.size 0 lo=0∧F2 items.size items.size hi=items.size)
  (h:Q (.ref t) s):wpAny (model prog w) A (getItem (.ref t) (.ref sl)) Q E s:=by
 obtain⟨os,hos,hcs,hds⟩:=id hs
 have ML:s.TypeIs (.ref sl) "slice":=⟨os,hos,hcs⟩
 unfold getItem
 try with_reducible refine wpAny_holding ?_
 first|refine wpAny_bind (wpAny_pure ?_)|skip
 refine wpAny_bind (wpAny_sequenceKey ht.typeIs (by decide) ?_)
 refine wpAny_bind (wpAny_callSpecial?_slot (name:=Str.ofString "__getitem__") ht.typeIs PyProof.Rows.slot_tuple_getitem
  (wpAny_call_entry PyProof.Rows.slot_tuple_getitem ht.typeIs entry_tuple_getitem ?_ (args_tuple_getitem _ _)))
 show wpAny _ _ (Builtin.Tuple.tupleItemsOf (.ref t) >>= _) _ _ s
 refine wpAny_bind (tupleItemsOf_ ht ?_)
 refine wpAny_bind (wpAny_typeOf ML ?_)
 rw[if_pos (by decide)]
 refine wpAny_bind (dW hs pl pu ?_)
 have hyes:(((F2 items.size 0 lo:Nat):Int) == 0&&(1:Int) == 1&&(F2 items.size items.size hi - F2 items.size 0 lo) == items.size)=true:=by
  rw[hw.1,hw.2];simp
 show wpAny _ _ (if (((F2 items.size 0 lo:Nat):Int) == 0&&(1:Int) == 1&&(F2 items.size items.size hi - F2 items.size 0 lo) == items.size)=true then _ else _) _ _ s
 rw[if_pos hyes]
 unfold Builtin.Tuple.tupleIsExact
 refine wpAny_bind (wpAny_bind (wpAny_typeOf ht.typeIs (wpAny_pure ?_)))
 rw[if_pos (by decide)]
 first
  |exact wpAny_bind (wpAny_rule (wpAny_pure ⟨_,rfl,wpAny_pure h⟩))
  |exact wpAny_bind (wpAny_rule (wpAny_bind (wpAny_pure (wpAny_pure ⟨_,rfl,wpAny_pure h⟩))))
  |exact wpAny_bind (wpAny_rule (wpAny_bind (wpAny_pure ⟨_,rfl,wpAny_pure h⟩)))
end
end HT
namespace L2
open PySem PySem.Spec PyProof.Rows
section
variable {X:Cx}
noncomputable def Cl(K:PySem.W.Frag):V→Option Int→Option Int→Hp→VK→Prop:=fun x lo hi H Q=>∃a xs,x = .ref a∧F3 K H a xs∧∀r H',(∀c o,H c=some o→H' c=some o)→F3 K H' r (ki xs lo hi)→Q (.ref r) H'
theorem xC:Bg X (Cl X.K):=by
 intro pins s σ H x v vl vu lo hi sl Q I rx hs pl pu h
 obtain⟨a,xs,rfl,hx,q⟩:=h
 by_cases hw:HT.F2 xs.length 0 lo=0∧HT.F2 xs.length xs.length hi=xs.length
 ·cases rx
  obtain⟨its,r,ht,hz⟩:=I.tuple hx
  have hlen:its.toArray.size=xs.length:=by rw[List.size_toArray];exact r.length.symm
  refine⟨"tuple",_,PyProof.Rows.slot_tuple_getitem.lookup,ht.typeIs,HT.ie ht hs pl pu (by rw[hlen];exact hw) ⟨.ref a,H,I,rfl,q a H (fun _ _ e=>e) ?_⟩⟩
  have e:ki xs lo hi=xs:=by unfold ki;rw[hw.1,hw.2];simp
  rw[e];exact hx
 ·exact zz pins s σ H _ v vl vu lo hi sl Q I rx hs pl pu ⟨a,xs,rfl,hx,hw,fun p hp=>q p _ (fun c o e=>by rw[ao (aV e hp)];exact e) (F3.of aq)⟩
theorem xD(hu:X.A.units+1 < cLine):Bh X (fun x y H Q=>∃a v,x = .ref a∧DGet H a y (some v)∧Q v H):=by
 intro value slice pins s σ H x y v u Q I rx ry h hs
 obtain⟨a,z,rfl,g,q⟩:=h
 cases rx
 exact tail_any (oa I g) PySem.F.slot_dict_getitem.lookup (sJ hu I g ry fun w' s3 I3 rw'=>⟨z,H,I3,rw',q⟩) hs
theorem u5(hu:X.A.units+1 < cLine):wy X (fun o i v H Q=>∃a H',o = .ref a∧JA H a i v H'∧Q H'):=by
 intro pins s σ H o i v ov iv u Q I ro ri rv h
 obtain⟨a,H',rfl,g,q⟩:=h
 cases ro
 exact sK hu I g ri rv fun s' I'=>⟨H',I',q⟩
end
end L2
namespace L3
open PySem L2
theorem Reps.Gp{K:PySem.W.Frag}{H:Hp}{vs:List V}{ps:List PV}{i:Int}{p:PV}(r:Reps K H vs ps)(h:L2.Gp ps i=some p):∃v,L2.Gp vs i=some v∧Rep K H v p:=by
 unfold L2.Gp at h ⊢
 rw[r.length]
 cases e:pZ ps.length i with
 |none=>rw[e]at h;cases h
 |some j=>
  rw[e]at h
  obtain⟨v,h1,h2⟩:=r.get h
  exact⟨v,h1,h2⟩
noncomputable def mW:PV→Option bg
 | .int i=>some (.inl i)
 | .str x=>some (.inr x)
 |_=>none
theorem dQ{K:PySem.W.Frag}{H:Hp}{v:V}{p:PV}{k:bg}(r:Rep K H v p)(h:mW p=some k):v=kV k:=by
 cases p with
 |int i=>cases h;cases r;rfl
 |str i=>cases h;cases r;rfl
 |_=>cases h
noncomputable def lA{κ:Type} [DecidableEq κ]:List (κ×PV)→κ→Option PV
 |[],_=>none
 |(k',v)::r,k=>if k'=k then some v else lA r k
theorem FQ.val{K:PySem.W.Frag}{H:Hp}{κ:Type} [DecidableEq κ]{k:κ}{p:PV}:∀{vs:List (κ×V)} {ps:List (κ×PV)},FQ K H vs ps→lA ps k=some p→∃v,gt vs k=some v∧Rep K H v p
 |_,_,.nil,h=>by cases h
 |_,_,.cons (k:=k') a r,h=>by
  unfold lA at h
  split at h
  ·rename_i e;cases h;exact⟨_,G1 e,a⟩
  ·rename_i e;rw[G2 e];exact FQ.val r h
section
variable {X:Cx} {a b e lo hi:Expr} {ta tb te:aJ} {pos p2:Pos}
structure EQ (X:Cx) (r:R3):Prop where
 ok:Bh X (LR X r)
theorem Cm{r:R3}(hr:EQ X r)(ha:ba X a ta)(hb:ba X b tb)(hs:jY b):ba X (.Subscript a b pos) (ah r ta tb):=⟨aL (B1 hr.ok ha.ok hb.ok hs) fun _ _ _=>j0⟩
def af:R3:=fun x y S Q=>match x with
 | .tup xs=>match y with | .int i=>(match Gp xs i with|some v=>Q v S|none=>False)|_=>False
 | .cl xs=>match y with | .int i=>(match Gp xs i with|some v=>Q v S|none=>False)|_=>False
 | .str z=>match y with | .int i=>z.length≤sizeLine∧(match Gp z.cps.toList i with|some c=>Q (.str ⟨#[c]⟩) S|none=>False)|_=>False
 | .ref a=>match S a with
  |some (.lst xs)=>(match y with | .int i=>(match Gp xs i with|some v=>Q v S|none=>False)|_=>False)
  |some (.dct kvs)=>(match mW y with|some k=>(match lA kvs k with|some v=>Q v S|none=>False)|none=>False)
  |_=>False
 |_=>False
theorem ER(hu:X.A.units+1 < cLine):EQ X af:=⟨fun value slice pins s σ H x y v u Q I rx ry ⟨px,py,S,Q3,r1,r2,rS,q,k⟩ hs=>by
 unfold af at q
 split at q
 ·split at q
  ·split at q
   ·rename_i e
    cases r2
    cases r1 with
    |tup h1 rs=>
     obtain⟨w,hw,rw'⟩:=rs.Gp e
     exact zB value slice pins s σ H _ _ v u Q I rx ry ⟨_,_,_,w,rfl,rfl,h1,hw,k _ S _ H q rw' rS .refl⟩ hs
   ·exact q.elim
  ·exact q.elim
 ·split at q
  ·split at q
   ·rename_i e
    cases r2
    cases r1 with
    |cl h1 rs=>
     obtain⟨w,hw,rw'⟩:=rs.Gp e
     exact re value slice pins s σ H _ _ v u Q I rx ry ⟨_,_,_,w,rfl,rfl,h1.sq,hw,k _ S _ H q rw' rS .refl⟩ hs
   ·exact q.elim
  ·exact q.elim
 ·split at q
  ·obtain⟨hz,q⟩:=q
   split at q
   ·rename_i e
    cases r1;cases r2
    exact zC value slice pins s σ H _ _ v u Q I rx ry ⟨_,_,_,rfl,rfl,hz,e,k _ S _ H q (.str _) rS .refl⟩ hs
   ·exact q.elim
  ·exact q.elim
 ·split at q
  ·rename_i e0
   split at q
   ·split at q
    ·rename_i e
     cases r1;cases r2
     obtain⟨vs,hv,rs⟩:=rS _ _ e0
     obtain⟨w,hw,rw'⟩:=rs.Gp e
     exact re value slice pins s σ H _ _ v u Q I rx ry ⟨_,_,_,w,rfl,rfl,SqL.of hv,hw,k _ S _ H q rw' rS .refl⟩ hs
    ·exact q.elim
   ·exact q.elim
  ·rename_i e0
   split at q
   ·rename_i ek
    split at q
    ·rename_i ev
     cases r1
     have e1:=dQ r2 ek
     subst e1
     obtain⟨kv,hv,rk⟩:=rS _ _ e0
     obtain⟨w,hw,rw'⟩:=rk.val ev
     refine xD hu value slice pins s σ H _ _ v u Q I rx ry ⟨_,w,rfl,?_,k _ S _ H q rw' rS .refl⟩ hs
     rw[←hw]
     exact DGet.k hv
    ·exact q.elim
   ·exact q.elim
  ·exact q.elim
 ·exact q.elim⟩
abbrev Bl:=b_→ar→(Option Int→ar→Prop)→bH→Prop
noncomputable def LO(X:Cx)(t:Bl):TO:=fun σ H Q=>∃σ3 S Q3 E3,FO X.K H σ σ3∧FJ X.K H S∧t σ3 S Q3 E3∧JQ X H E3∧∀o S' H',Q3 o S'→FJ X.K H' S'→Grow X.K H H'→Q o H'
structure Dl (X:Cx) (e:Option Expr) (t:Bl):Prop where
 ok:PO X e (LO X t)
noncomputable def nT:Bl:=fun _ S Q _=>Q none S
noncomputable def l5(t:aJ):Bl:=fun σ S Q E=>t σ S (fun v S'=>match v with | .int i=>Q (some i) S'|_=>False) E
theorem u6{e:Option Expr}{t t':TO}(h:PO X e t)(k:∀σ H Q,t' σ H Q→t σ H Q):PO X e t':=fun pins s σ H Q I q=>h pins s σ H Q I (k σ H Q q)
theorem dR:Dl X none nT:=⟨u6 wR fun σ H Q ⟨σ3,S,Q3,E3,rσ,rS,h,xo,k⟩=>k none S H h rS .refl⟩
theorem cI(h:ba X e te):Dl X (some e) (l5 te):=⟨u6 (wS h.ok) fun σ H Q ⟨σ3,S,Q3,E3,rσ,rS,h,xo,k⟩=>⟨σ3,S,_,E3,rσ,rS,h,xo,fun p S' v H' h1 rv G4 g=>by
 cases p with
 |int i=>cases rv;exact⟨i,rfl,k _ S' H' h1 G4 g⟩
 |_=>exact h1.elim⟩⟩
noncomputable def dZ{α:Type}(xs:List α)(lo hi:Option Int):List α:=(xs.drop (HT.F2 xs.length 0 lo)).take (HT.F2 xs.length xs.length hi - HT.F2 xs.length 0 lo)
theorem Reps.cut{K:PySem.W.Frag}{H:Hp}{vs:List V}{ps:List PV}(r:Reps K H vs ps)(lo hi:Option Int):Reps K H (ki vs lo hi) (dZ ps lo hi):=by
 unfold ki dZ
 rw[r.length]
 exact(r.drop _).take _
def mX(x:PV)(lo hi:Option Int)(S:ar)(Q:bB):Prop:=match x with
 | .tup xs=>Q (.tup (dZ xs lo hi)) S
 | .cl xs=>∀p,S p=none→Q (.ref p) (FF S p (.lst (dZ xs lo hi)))
 | .str z=>z.length≤sizeLine∧Q (.str (Txt.slice z lo hi)) S
 | .ref a=>match S a with|some (.lst xs)=>∀p,S p=none→Q (.ref p) (FF S p (.lst (dZ xs lo hi)))|_=>False
 |_=>False
noncomputable def E9(X:Cx):V→Option Int→Option Int→Hp→VK→Prop:=fun x lo hi H Q=>∃px S Q3,Rep X.K H x px∧FJ X.K H S∧mX px lo hi S Q3∧J4 X.K H Q3 Q
theorem E_:Bg X (E9 X):=by
 intro pins s σ H x v vl vu lo hi sl Q I rx hs pl pu ⟨px,S,Q3,r1,rS,q,k⟩
 unfold mX at q
 split at q
 ·cases r1 with
  |tup h1 rs=>exact xC pins s σ H _ v vl vu lo hi sl Q I rx hs pl pu ⟨_,_,rfl,h1,fun r H' hh hr=>k _ S _ H' q (.tup hr ((rs.cut lo hi).mono (.same hh))) (rS.grow hh) (.same hh)⟩
 ·cases r1 with
  |cl h1 rs=>exact rg pins s σ H _ v vl vu lo hi sl Q I rx hs pl pu ⟨_,_,rfl,h1.sq,fun p hp=>k _ _ _ _ (q p (rS.free hp)) (.ref p) (rS.new hp ⟨_,aq,(rs.cut lo hi).mono (.new hp)⟩) (.new hp)⟩
 ·cases r1
  exact zL pins s σ H _ v vl vu lo hi sl Q I rx hs pl pu ⟨_,rfl,q.1,k _ S _ H q.2 (.str _) rS .refl⟩
 ·split at q
  ·rename_i e
   cases r1
   obtain⟨vs,hv,rs⟩:=rS _ _ e
   exact rg pins s σ H _ v vl vu lo hi sl Q I rx hs pl pu ⟨_,_,rfl,SqL.of hv,fun p hp=>k _ _ _ _ (q p (rS.free hp)) (.ref p) (rS.new hp ⟨_,aq,(rs.cut lo hi).mono (.new hp)⟩) (.new hp)⟩
  ·exact q.elim
 ·exact q.elim
def bv(te:aJ)(tl th:Bl):aJ:=fun σ S Q E=>te σ S (fun x S1=>tl σ S1 (fun l S2=>th σ S2 (fun u S3=>mX x l u S3 Q) E) E) E
theorem b6{lo hi:Option Expr}{tl th:Bl}(he:ba X e te)(hl:Dl X lo tl)(hu:Dl X hi th):ba X (.Subscript e (.Slice lo hi none p2) pos) (bv te tl th):=
 ⟨aL (uk E_ he.ok hl.ok hu.ok) fun σ H Q ⟨σ3,S,Q3,E3,rσ,rS,h,xo,k⟩=>⟨σ3,S,_,E3,rσ,rS,h,xo,fun x S1 v H1 h1 rx FR g1=>⟨σ3,S1,_,E3,rσ.mono g1,FR,h1,xo.mono g1,fun l S2 H2 h2 Hv g2=>
  ⟨σ3,S2,_,E3,rσ.mono (g1.trans g2),Hv,h2,xo.mono (g1.trans g2),fun u S3 H3 h3 KF g3=>⟨x,S3,Q3,rx.mono (g2.trans g3),KF,h3,k.mono (g1.trans (g2.trans g3))⟩⟩⟩⟩⟩
theorem xE:iJ X (binaryOp .Mult) (rI IntMulOk fun i j=>.int (i * j)):=De fun _ _ _ _ _ _ _ hc q=>PyProof.Rows.mul_int q hc
def df:R3:=fun x y S Q=>match x,y with
 | .int i,.int j=>IntMulOk i j∧Q (.int (i * j)) S
 | .ref a,.int j=>(match S a with|some (.lst xs)=>-(2 ^ 63)≤j∧j < 2 ^ 63∧xs.length * j.toNat≤sizeLine∧∀p,S p=none→Q (.ref p) (FF S p (.lst (List.replicate j.toNat xs).flatten))|_=>False)
 |_,_=>False
theorem Reps.rep{K:PySem.W.Frag}{H:Hp}{vs:List V}{ps:List PV}(r:Reps K H vs ps):∀n:Nat,Reps K H (List.replicate n vs).flatten (List.replicate n ps).flatten
 |0=>.nil
 |n+1=>by
  rw[List.replicate_succ,List.replicate_succ,List.flatten_cons,List.flatten_cons]
  exact r.append (Reps.rep r n)
theorem bR:iV X (binaryOp .Mult) df:=⟨fun pins s σ H x y v u Q I rx ry ⟨px,py,S,Q3,r1,r2,rS,q,k⟩=>by
 unfold df at q
 split at q
 ·cases r1;cases r2
  exact xE pins s σ H _ _ v u Q I rx ry ⟨_,_,rfl,rfl,q.1,k _ S _ H q.2 (.int _) rS .refl⟩
 ·split at q
  ·rename_i e
   cases r1;cases r2
   obtain⟨vs,hv,rs⟩:=rS _ _ e
   exact zH pins s σ H _ _ v u Q I rx ry ⟨_,_,_,rfl,rfl,hv,q.1,q.2.1,by rw[rs.length];exact q.2.2.1,fun p hp=>k _ _ _ _ (q.2.2.2 p (rS.free hp)) (.ref p) (rS.new hp ⟨_,aq,(rs.rep _).mono (.new hp)⟩) (.new hp)⟩
  ·exact q.elim
 ·exact q.elim⟩
end
end L3
namespace L2
open PySem PySem.Spec PyProof.Rows
section
variable {X:Cx}
end
end L2
namespace L3
open PySem L2
abbrev pK:=List PV→ar→bB→Prop
section
variable {X:Cx} {e o:Expr} {es:List Expr} {te to:aJ} {ts:List aJ} {x:Str} {p pos apos cpos:Pos}
noncomputable def LC(X:Cx)(r:pK):List V→Hp→VK→Prop:=fun xs H Q=>∃ps S Q3,Reps X.K H xs ps∧FJ X.K H S∧r ps S Q3∧J4 X.K H Q3 Q
structure gA (X:Cx) (f:Value) (r:pK):Prop where
 ok:fm X f (LC X r)
def aA(r:pK)(ts:List aJ):aJ:=fun σ S Q E=>ap ts σ S (fun ps S1=>r ps S1 Q) E
theorem rF{r:pK}{σ:L2.St}{H:Hp}{Q:VK}:LE X (aA r ts) σ H Q→Dk (ts.map (LE X)) σ H fun vs H1=>LC X r vs H1 Q:=fun⟨σ3,S,Q3,E3,rσ,rS,h,xo,k⟩=>
 bi rσ rS h xo fun ps S' vs H' hl q rv G4 g=>⟨ps,S',Q3,rv,G4,q,k.mono g⟩
theorem xF{id:String}{r:pK}(hc:gA X (.builtin id) r)(hg:Gl X x)(hm:X.mg x=none)(hv:bootBuiltins x=some (.builtin id))(he:starEach (e::es) X.env=(false,eval e X.env)::starEach es X.env)(ha:iK X (e::es) ts)
  (hn:x ≠ "__name__":=by decide) (hdb:(x == ("__debug__":Str))=false:=by decide) (hpl:(backTo pos (starEach es X.env)).any (·.1)=false:=by rfl):ba X (.Call (.Name x p) (e::es) [] pos) (aA r ts):=
 ⟨aL (ug hc.ok hg hm hv ha.ok hn hdb he hpl) fun _ _ _=>rF⟩
theorem xG{id:String}{r:pK}(hc:gA X (.type id) r)(hg:Gl X x)(hm:X.mg x=none)(hv:bootBuiltins x=some (.type id))(he:starEach (e::es) X.env=(false,eval e X.env)::starEach es X.env)(ha:iK X (e::es) ts)
  (hn:x ≠ "__name__":=by decide) (hdb:(x == ("__debug__":Str))=false:=by decide) (hpl:(backTo pos (starEach es X.env)).any (·.1)=false:=by rfl):ba X (.Call (.Name x p) (e::es) [] pos) (aA r ts):=
 ⟨aL (sG hc.ok hg hm hv ha.ok hn hdb he hpl) fun _ _ _=>rF⟩
def dB:pK:=fun ps S Q=>match ps with
 |[.tup xs]=>Q (.int xs.length) S
 |[.cl xs]=>Q (.int xs.length) S
 |[.str z]=>z.length≤sizeLine∧Q (.int z.length) S
 |[.ref a]=>(match S a with|some (.lst xs)=>Q (.int xs.length) S|some (.dct kvs)=>Q (.int kvs.length) S|_=>False)
 |_=>False
theorem d0:gA X (.builtin "len") dB:=⟨fun pins s σ H xs us Q I r ⟨ps,S,Q3,rp,rS,q,k⟩=>by
 unfold dB at q
 split at q
 ·cases rp with|cons a rr=>cases rr;cases a with|tup h rs=>exact eh pins s σ H _ us Q I r ⟨_,_,rfl,.inr h,by rw[rs.length];exact k _ S _ H q (.int _) rS .refl⟩
 ·cases rp with|cons a rr=>cases rr;cases a with|cl h rs=>exact eh pins s σ H _ us Q I r ⟨_,_,rfl,.inl h.sq,by rw[rs.length];exact k _ S _ H q (.int _) rS .refl⟩
 ·cases rp with|cons a rr=>cases rr;cases a;exact mH pins s σ H _ us Q I r ⟨_,rfl,q.1,k _ S _ H q.2 (.int _) rS .refl⟩
 ·cases rp with
  |cons a rr=>
   cases rr;cases a
   split at q
   ·rename_i e
    obtain⟨vs,hv,rs⟩:=rS _ _ e
    exact eh pins s σ H _ us Q I r ⟨_,_,rfl,.inl (SqL.of hv),by rw[rs.length];exact k _ S _ H q (.int _) rS .refl⟩
   ·rename_i e
    obtain⟨vs,hv,rs⟩:=rS _ _ e
    exact sN pins s σ H _ us Q I r ⟨_,_,rfl,hv,by rw[rs.length];exact k _ S _ H q (.int _) rS .refl⟩
   ·exact q.elim
 ·exact q.elim⟩
def sW:pK:=fun ps S Q=>match ps with|[.int i]=>Q (.int (if i < 0 then -i else i)) S|_=>False
theorem Cn:gA X (.builtin "abs") sW:=⟨fun pins s σ H xs us Q I r ⟨ps,S,Q3,rp,rS,q,k⟩=>by
 unfold sW at q
 split at q
 ·cases rp with|cons a rr=>cases rr;cases a;exact ua pins s σ H _ us Q I r ⟨_,rfl,k _ S _ H q (.int _) rS .refl⟩
 ·exact q.elim⟩
def ig:pK:=fun ps S Q=>match ps with|[.int i,.int j]=>Q (.int (if j > i then j else i)) S|_=>False
theorem mY(hc:X.calm=true):gA X (.builtin "max") ig:=⟨fun pins s σ H xs us Q I r ⟨ps,S,Q3,rp,rS,q,k⟩=>by
 unfold ig at q
 split at q
 ·cases rp with|cons a rr=>cases rr with|cons b r3=>cases r3;cases a;cases b;exact sB hc pins s σ H _ us Q I r ⟨_,_,rfl,k _ S _ H q (.int _) rS .refl⟩
 ·exact q.elim⟩
def u7:pK:=fun ps S Q=>match ps with|[.int i,.int j]=>Q (.int (if j < i then j else i)) S|_=>False
def kA:pK:=fun ps S Q=>match ps with|[.int i]=>Q (.int i) S|[.bl b]=>Q (.int (if b then 1 else 0)) S|_=>False
theorem Co:gA X (.type "int") kA:=⟨fun pins s σ H xs us Q I r ⟨ps,S,Q3,rp,rS,q,k⟩=>by
 unfold kA at q
 split at q
 ·cases rp with|cons a rr=>cases rr;cases a;exact lM pins s σ H _ us Q I r (.inl ⟨_,rfl,k _ S _ H q (.int _) rS .refl⟩)
 ·cases rp with|cons a rr=>cases rr;cases a;exact lM pins s σ H _ us Q I r (.inr ⟨_,rfl,k _ S _ H q (.int _) rS .refl⟩)
 ·exact q.elim⟩
def qm:pK:=fun ps S Q=>match ps with
 |[.str z]=>z.length≤sizeLine∧∀p,S p=none→Q (.ref p) (FF S p (.lst (z.cps.toList.map fun c=>.str (lV c))))
 |[v]=>(match ou S v with|some xs=>∀p,S p=none→Q (.ref p) (FF S p (.lst xs))|none=>False)
 |_=>False
def a_:pK:=fun ps S Q=>match ps with
 |[v]=>(match ou S v with|some xs=>Q (.tup xs) S|none=>False)
 |_=>False
theorem bM:gA X (.type "tuple") a_:=⟨fun pins s σ H xs us Q I r ⟨ps,S,Q3,rp,rS,q,k⟩=>by
 unfold a_ at q
 split at q
 ·cases rp with
  |cons a rr=>
   cases rr
   split at q
   ·rename_i e
    obtain⟨b,vs,rfl,hs,rs⟩:=Ab rS a e
    rcases hs with hs|hs
    ·exact gx pins s σ H _ us Q I r ⟨_,_,rfl,.inl ⟨hs,fun p hp=>k _ S _ _ q (.tup (F3.of aq) (rs.mono (.new hp))) (rS.other hp) (.new hp)⟩⟩
    ·exact gx pins s σ H _ us Q I r ⟨_,_,rfl,.inr ⟨hs,k _ S _ _ q (.tup hs rs) rS .refl⟩⟩
   ·exact q.elim
 ·exact q.elim⟩
end
section
variable {X:Cx}
end
abbrev rG:=PV→List PV→ar→bB→Prop
section
variable {X:Cx} {e o:Expr} {es:List Expr} {te to:aJ} {ts:List aJ} {name:Str} {p pos apos cpos:Pos} {T id:String}
noncomputable def LM(X:Cx)(r:rG):V→List V→Hp→VK→Prop:=fun x xs H Q=>∃px ps S Q3,Rep X.K H x px∧Reps X.K H xs ps∧FJ X.K H S∧r px ps S Q3∧J4 X.K H Q3 Q
structure u8 (X:Cx) (id:String) (r:rG):Prop where
 ok:zA X id (LM X r)
def yH(T:String)(x:PV)(S:ar):Prop:=match x with
 | .str _=>T = "str"
 | .ref a=>(match S a with|some (.lst _)=>T = "list" | some (.dct _)=>T = "dict" | _=>False)
 | .cl _=>T = "list"
 |_=>False
theorem u9{H:Hp}{S:ar}{v:V}{p:PV}(rS:FJ X.K H S)(r:Rep X.K H v p)(h:yH T p S):Df X.K T v H:=by
 cases r with
 |str x=>exact h
 |ref a=>
  unfold yH at h
  simp only at h
  split at h
  ·rename_i e
   obtain⟨vs,hv,_⟩:=rS _ _ e
   exact .inl ⟨h,_,SqL.of hv⟩
  ·rename_i e
   obtain⟨vs,hv,_⟩:=rS _ _ e
   exact .inr (.inr (.inl ⟨h,.inl ⟨_,hv⟩⟩))
  ·exact h.elim
 |cl h1 _=>exact .inl ⟨h,_,h1.sq⟩
 |_=>exact h.elim
def l7(T:String)(r:rG)(to:aJ)(ts:List aJ):aJ:=fun σ S Q E=>to σ S (fun x S1=>yH T x S1∧ap ts σ S1 (fun ps S2=>r x ps S2 Q) E) E
theorem D9{r:rG}(pa:PlainAttrs T)(slot:Slot T name id)(hty:typeOf (.builtin id)=pure (.type "method_descriptor"))(hm:u8 X id r)(hs:starEach (e::es) X.env=(false,eval e X.env)::starEach es X.env)(ho:ba X o to)(ha:iK X (e::es) ts)
  (hbase:attributeBase o name X.env (eval o X.env)=eval o X.env:=by rfl)
  (hfew:((backTo cpos (starEach (e::es) X.env)).all (fun x=>!x.1)&&(backToKw cpos (keywordEach [] X.env)).all (fun x=>x.1.isSome)
   && decide ((e::es).length+([]:List Keyword).length+(if ([]:List Keyword).isEmpty then 0 else 1) < 30))=true:=by rfl)
  (hline:(apos.endLine == cpos.line)=true:=by rfl) (hplain:(backTo cpos (starEach es X.env)).any (·.1)=false:=by rfl):ba X (.Call (.Attribute o name apos) (e::es) [] cpos) (l7 T r to ts):=
 ⟨aL (B3 pa slot hty hm.ok ho.ok ha.ok hbase hfew hline hs hplain) fun σ H Q ⟨σ3,S,Q3,E3,rσ,rS,h,xo,k⟩=>⟨σ3,S,_,E3,rσ,rS,h,xo,fun x S1 v H1 h1 rx FR g1=>
  ⟨u9 FR rx h1.1,bi (rσ.mono g1) FR h1.2 (xo.mono g1) fun ps S2 vs H2 hl q rv Hv g2=>⟨x,ps,S2,Q3,rx.mono g2,rv,Hv,q,k.mono (g1.trans g2)⟩⟩⟩⟩
theorem Cp{r:rG}(pa:PlainAttrs T)(slot:Slot T name id)(hty:typeOf (.builtin id)=pure (.type "method_descriptor"))(hm:u8 X id r)(ho:ba X o to)
  (hbase:attributeBase o name X.env (eval o X.env)=eval o X.env:=by rfl) (hline:(apos.endLine == cpos.line)=true:=by rfl):ba X (.Call (.Attribute o name apos) [] [] cpos) (l7 T r to []):=
 ⟨aL (zD pa slot hty hm.ok ho.ok hbase hline) fun σ H Q ⟨σ3,S,Q3,E3,rσ,rS,h,xo,k⟩=>⟨σ3,S,_,E3,rσ,rS,h,xo,fun x S1 v H1 h1 rx FR g1=>
  ⟨u9 FR rx h1.1,⟨x,[],S1,Q3,rx,.nil,FR,h1.2,k.mono g1⟩⟩⟩⟩
def cC:rG:=fun x ps S Q=>match x,ps with
 | .ref a,[y]=>(match S a with|some (.lst xs)=>xs.length < sizeLine∧Q .non (FF S a (.lst (xs++[y])))|_=>False)
 |_,_=>False
theorem kB:u8 X "list.append" cC:=⟨fun pins s σ H x xs v us Q I rx rs ⟨px,ps,S,Q3,r1,rp,rS,q,k⟩=>by
 unfold cC at q
 split at q
 ·split at q
  ·rename_i e
   cases r1
   cases rp with
   |cons b rr=>
    cases rr
    obtain⟨vs,hv,rl⟩:=rS _ _ e
    exact sH pins s σ H _ _ v us Q I rx rs ⟨_,_,_,rfl,rfl,hv,by rw[rl.length];exact q.1,k _ _ _ _ q.2 .non (rS.put hv trivial ⟨_,aq,(rl.append (.cons b .nil)).mono (.mut hv trivial)⟩) (.mut hv trivial)⟩
  ·exact q.elim
 ·exact q.elim⟩
def dD:rG:=fun x ps S Q=>match x,ps with
 | .ref a,[.ref b]=>(match S a,S b with|some (.lst xs),some (.lst ys)=>xs.length+ys.length≤sizeLine∧Q .non (FF S a (.lst (xs++ys)))|_,_=>False)
 |_,_=>False
theorem oy:u8 X "list.extend" dD:=⟨fun pins s σ H x xs v us Q I rx rs ⟨px,ps,S,Q3,r1,rp,rS,q,k⟩=>by
 unfold dD at q
 split at q
 ·split at q
  ·rename_i e e2
   cases r1
   cases rp with
   |cons b rr=>
    cases rr
    cases b
    obtain⟨vs,hv,rl⟩:=rS _ _ e
    obtain⟨us',hu,ru⟩:=rS _ _ e2
    exact sI pins s σ H _ _ v us Q I rx rs ⟨_,_,_,_,rfl,rfl,hv,hu,by rw[rl.length,ru.length];exact q.1,k _ _ _ _ q.2 .non (rS.put hv trivial ⟨_,aq,(rl.append ru).mono (.mut hv trivial)⟩) (.mut hv trivial)⟩
  ·exact q.elim
 ·exact q.elim⟩
def sX:rG:=fun x ps S Q=>match x,ps with
 | .ref a,[]=>(match S a with|some (.lst xs)=>(match xs[xs.length - 1]? with|some y=>Q y (FF S a (.lst xs.dropLast))|none=>False)|_=>False)
 | .ref a,[.int i]=>(match S a with|some (.lst xs)=>-(2 ^ 63)≤i∧i < 2 ^ 63∧(match seqIndex? i xs.length with|some j=>(match xs[j]? with|some y=>Q y (FF S a (.lst (xs.eraseIdx j)))|none=>False)|none=>False)|_=>False)
 |_,_=>False
theorem Cq:u8 X "list.pop" sX:=⟨fun pins s σ H x xs v us Q I rx rs ⟨px,ps,S,Q3,r1,rp,rS,q,k⟩=>by
 unfold sX at q
 split at q
 ·split at q
  ·rename_i e
   split at q
   ·rename_i ey
    cases r1
    cases rp
    obtain⟨vs,hv,rl⟩:=rS _ _ e
    rw[←rl.length]at ey
    obtain⟨y',MY,ry⟩:=rl.get ey
    exact zE pins s σ H _ _ v us Q I rx rs ⟨_,_,_,rfl,rfl,hv,MY,k _ _ _ _ q (ry.mono (.mut hv trivial)) (rS.put hv trivial ⟨_,aq,rl.dropLast.mono (.mut hv trivial)⟩) (.mut hv trivial)⟩
   ·exact q.elim
  ·exact q.elim
 ·split at q
  ·rename_i e
   obtain⟨h1,h2,q⟩:=q
   split at q
   ·rename_i ej
    split at q
    ·rename_i ey
     cases r1
     cases rp with
     |cons b rr=>
      cases rr;cases b
      obtain⟨vs,hv,rl⟩:=rS _ _ e
      obtain⟨y',MY,ry⟩:=rl.get ey
      rw[←rl.length]at ej
      exact uq pins s σ H _ _ v us Q I rx rs ⟨_,_,_,_,_,rfl,rfl,hv,h1,h2,ej,MY,k _ _ _ _ q (ry.mono (.mut hv trivial)) (rS.put hv trivial ⟨_,aq,(rl.eraseIdx _).mono (.mut hv trivial)⟩) (.mut hv trivial)⟩
    ·exact q.elim
   ·exact q.elim
  ·exact q.elim
 ·exact q.elim⟩
noncomputable def texts:List PV→Option (List Str)
 |[]=>some []
 | .str b::r=>(texts r).map (b::·)
 |_::_=>none
theorem kC{K:PySem.W.Frag}{H:Hp}:∀{vs:List V} {ps:List PV} {bs:List Str},Reps K H vs ps→texts ps=some bs→vs=bs.map V.str
 |_,_,_,.nil,h=>by cases h;rfl
 |_,_,bs,.cons (p:=p) a r,h=>by
  cases p with
  |str b=>
   cases a
   unfold texts at h
   cases e:texts _ with
   |none=>rw[e]at h;cases h
   |some l=>rw[e]at h;cases h;rw[kC r e];rfl
  |_=>cases h
def l8:rG:=fun x ps S Q=>match x,ps with
 | .str z,[.ref a]=>(match S a with|some (.lst xs)=>(match texts xs with|some ys=>(ys.map (·.length)).sum+ys.length * z.length≤1000000∧Q (.str (Txt.join z ys)) S|none=>False)|_=>False)
 |_,_=>False
theorem u_:u8 X "str.join" l8:=⟨fun pins s σ H x xs v us Q I rx rs ⟨px,ps,S,Q3,r1,rp,rS,q,k⟩=>by
 unfold l8 at q
 split at q
 ·split at q
  ·rename_i e
   split at q
   ·rename_i et
    cases r1
    cases rp with
    |cons b rr=>
     cases rr;cases b
     obtain⟨vs,hv,rl⟩:=rS _ _ e
     have e2:=kC rl et
     subst e2
     exact xq pins s σ H _ _ v us Q I rx rs ⟨_,_,_,rfl,rfl,SqL.of hv,q.1,k _ S _ H q.2 (.str _) rS .refl⟩
   ·exact q.elim
  ·exact q.elim
 ·exact q.elim⟩
def iW:rG:=fun x ps S Q=>match x,ps with
 | .str a,[.str b]=>(match Builtin.Str.occurrences a b 0 a.length 1 with|i::_=>Q (.int i) S|[]=>False)
 |_,_=>False
theorem xH:u8 X "str.index" iW:=⟨fun pins s σ H x xs v us Q I rx rs ⟨px,ps,S,Q3,r1,rp,rS,q,k⟩=>by
 unfold iW at q
 split at q
 ·split at q
  ·rename_i e
   cases r1
   cases rp with
   |cons b rr=>
    cases rr;cases b
    exact uD pins s σ H _ _ v us Q I rx rs ⟨_,_,_,_,rfl,rfl,e,k _ S _ H q (.int _) rS .refl⟩
  ·exact q.elim
 ·exact q.elim⟩
end
section
variable {X:Cx} {e c:Expr} {te:aJ} {st:Stmt} {rest a b:List Stmt} {t u:bh} {tc:jM} {pos:Pos}
def aW:bh:=fun D σ S=>D.nx σ S
def ai(t u:bh):bh:=fun D σ S=>t { D with nx:=u D } σ S
theorem aM:ft X [] aW:=⟨rB ww fun D σ H ⟨σ3,S,D3,rσ,rS,h,xo,n,r,bk,ct⟩=>n σ3 S σ H h rσ rS .refl⟩
theorem ad(h1:mQ X st t)(h2:ft X rest u):ft X (st::rest) (ai t u):=
 ⟨rB (tW h1.ok h2.ok) fun D σ H ⟨σ3,S,D3,rσ,rS,h,xo,n,r,bk,ct⟩=>⟨σ3,S,{ D3 with nx:=u D3 },rσ,rS,h,xo,fun σ4 S' σ' H' h' Kx G4 g=>⟨σ4,S',D3,Kx,G4,h',xo.mono g,n.mono g,r.mono g,bk.mono g,ct.mono g⟩,r,bk,ct⟩⟩
theorem aj(h1:mQ X st t):ft X [st] t:=⟨mC h1.ok⟩
def aD(te:aJ):bh:=fun D σ S=>te σ S (fun _ S1=>D.nx σ S1) D.ex
theorem bc(he:ba X e te)(hs:swapsWith e none pos.line X.env=pure false:=by rfl):mQ X (.Expr e pos) (aD te):=
 ⟨b5 (wx he.ok hs) fun D σ H ⟨σ3,S,D3,rσ,rS,h,xo,n,r,bk,ct⟩=>⟨σ3,S,_,D3.ex,rσ,rS,h,xo,fun p S1 v H1 h1 rv FR g1=>n σ3 S1 σ H1 h1 (rσ.mono g1) FR g1⟩⟩
def aF(te:aJ):bh:=fun D σ S=>te σ S D.rt D.ex
theorem ax(he:ba X e te):mQ X (.Return (some e) pos) (aF te):=
 ⟨b5 (y_ he.ok) fun D σ H ⟨σ3,S,D3,rσ,rS,h,xo,n,r,bk,ct⟩=>⟨σ3,S,D3.rt,D3.ex,rσ,rS,h,xo,r⟩⟩
def bA(c:jM)(t u:bh):bh:=fun D σ S=>c σ S (fun b S1=>if b=true then t D σ S1 else u D σ S1) D.ex
theorem bo(hc:qh X c tc)(ha:ft X a t)(hb:ft X b u):mQ X (.If c a b pos) (bA tc t u):=
 ⟨b5 (BF hc.ok ha.ok hb.ok) fun D σ H ⟨σ3,S,D3,rσ,rS,h,xo,n,r,bk,ct⟩=>⟨σ3,S,_,D3.ex,rσ,rS,h,xo,fun z S1 H1 h1 FR g1=>by
  cases z with
  |true=>rw[if_pos rfl]at h1 ⊢;exact⟨σ3,S1,D3,rσ.mono g1,FR,h1,xo.mono g1,n.mono g1,r.mono g1,bk.mono g1,ct.mono g1⟩
  |false=>rw[if_neg (by decide)]at h1 ⊢;exact⟨σ3,S1,D3,rσ.mono g1,FR,h1,xo.mono g1,n.mono g1,r.mono g1,bk.mono g1,ct.mono g1⟩⟩⟩
def aC(i:Nat)(te:aJ):bh:=fun D σ S=>te σ S (fun v S1=>D.nx (σ.set i (some v)) S1) D.ex
theorem va{i:Nat}{D:ka}{σ:L2.St}{H:Hp}:LS X (aC i te) D σ H→wC (LE X te) (nX i) D σ H:=fun⟨σ3,S,D3,rσ,rS,h,xo,n,r,bk,ct⟩=>
 ⟨σ3,S,_,D3.ex,rσ,rS,h,xo,fun p S1 v H1 h1 rv FR g1=>n _ S1 _ H1 h1 ((rσ.mono g1).set rv i) FR g1⟩
theorem Cr{i:Nat}{x:Str}{pos':Pos}(hN:X.N.Nodup)(hi:X.N[i]?=some x)(hx:yz X.env.scope x)(he:ba X e te)(hs:swapsWith e (some (.Name x pos')) pos.line X.env=pure false:=by rfl)
  (hf:X.fn x=true∨X.env.scope.names.lookup x=some .local:=by first|exact .inl rfl|exact .inr rfl|assumption):mQ X (.Assign [.Name x pos'] e pos) (aC i te):=⟨b5 (zg hN hi hx he.ok hs hf) fun _ _ _=>va⟩
def sY(i j:Nat)(ta tb:aJ):bh:=fun D σ S=>ta σ S (fun v S1=>tb σ S1 (fun w S2=>D.nx ((σ.set i (some v)).set j (some w)) S2) D.ex) D.ex
theorem yI{i j:Nat}{x y:Str}{a b:Expr}{ta tb:aJ}{px py pt:Pos}{kt k2 K9}(hc:X.calm=true)(hN:X.N.Nodup)(hi:X.N[i]?=some x)(hj:X.N[j]?=some y)(hij:i≠j)
  (hx:X.env.scope.names.lookup x=some .local) (hy:X.env.scope.names.lookup y=some .local) (ha:iK X [a,b] [ta,tb])
  (hw:swappedStores [.Tuple [.Name x px,.Name y py] kt pt] (.Tuple [a,b] k2 K9) X.env=pure (some [x,y]):=by rfl)
  (hs:swapsWithSole [.Tuple [.Name x px,.Name y py] kt pt] (.Tuple [a,b] k2 K9) pos.line X.env=pure false:=by rfl) :
  mQ X (.Assign [.Tuple [.Name x px,.Name y py] kt pt] (.Tuple [a,b] k2 K9) pos) (sY i j ta tb):=
 ⟨b5 (zh hc hN hi hj hij hx hy ha.ok hw hs) fun D σ H ⟨σ3,S,D3,rσ,rS,h,xo,n,r,bk,ct⟩=>
  ⟨σ3,S,_,D3.ex,rσ,rS,h,xo,fun v S1 v' H1 h1 rv FR g1=>⟨σ3,S1,_,D3.ex,rσ.mono g1,FR,h1,xo.mono g1,fun w S2 w' H2 h2 rw' Hv g2=>
   ⟨v',w',rfl,n _ S2 _ H2 h2 (((rσ.mono (g1.trans g2)).set (rv.mono g2) i).set rw' j) Hv (g1.trans g2)⟩⟩⟩⟩
def kD(i j k:Nat)(te:aJ):bh:=fun D σ S=>te σ S (fun p S1=>match p with | .tup [v,w,u]=>D.nx (((σ.set k (some u)).set j (some w)).set i (some v)) S1|_=>False) D.ex
theorem xI{i j k:Nat}{x y z:Str}{px py pz pt:Pos}{kt:Nat}(hc:X.calm=true)(hN:X.N.Nodup)(hi:X.N[i]?=some x)(hj:X.N[j]?=some y)(hk:X.N[k]?=some z)
  (hx:X.env.scope.names.lookup x=some .local) (hy:X.env.scope.names.lookup y=some .local) (hz:X.env.scope.names.lookup z=some .local) (he:ba X e te)
  (hw:swappedStores [.Tuple [.Name x px,.Name y py,.Name z pz] kt pt] e X.env=pure (some [x,y,z]):=by rfl)
  (hs:swapsWithSole [.Tuple [.Name x px,.Name y py,.Name z pz] kt pt] e pos.line X.env=pure false:=by rfl):mQ X (.Assign [.Tuple [.Name x px,.Name y py,.Name z pz] kt pt] e pos) (kD i j k te):=
 ⟨b5 (uE hc hN hi hj hk hx hy hz he.ok hw hs) fun D σ H ⟨σ3,S,D3,rσ,rS,h,xo,n,r,bk,ct⟩=>⟨σ3,S,_,D3.ex,rσ,rS,h,xo,fun p S1 v H1 h1 rv FR g1=>by
  dsimp only at h1
  split at h1
  ·cases rv with
   |tup hq rs=>
    cases rs with
    |cons r1 rs=>
     cases rs with
     |cons r2 rs=>
      cases rs with
      |cons r3 rs=>
       cases rs
       exact⟨_,_,_,_,rfl,hq,n _ S1 _ H1 h1 ((((rσ.mono g1).set r3 k).set r2 j).set r1 i) FR g1⟩
  ·exact h1.elim⟩⟩
inductive Tg where
 |n (i:Nat)|tp (l:Tg)|nil|cons (a r:Tg)
mutual
noncomputable def Tg.put:Tg→PV→b_→Option b_
 | .n i,p,σ=>some (σ.set i (some p))
 | .tp l,.tup xs,σ=>l.GO xs σ
 |_,_,_=>none
noncomputable def Tg.GO:Tg→List PV→b_→Option b_
 | .nil,[],σ=>some σ
 | .cons a r,x::xs,σ=>(match a.put x σ with|some σ'=>r.GO xs σ'|none=>none)
 |_,_,_=>none
end
noncomputable def Tg.len:Tg→Nat
 | .cons _ r=>r.len+1
 |_=>0
mutual
noncomputable def Tg.g2(K:PySem.W.Frag):Tg→TG
 | .n i=>nX i
 | .tp l=>BI K l.len (l.KS K)
 |_=>fun _ _ _ _=>False
noncomputable def Tg.KS(K:PySem.W.Frag):Tg→yA
 | .nil=>BH
 | .cons a r=>yB (a.g2 K) (r.KS K)
 |_=>fun _ _ _ _=>False
end
noncomputable def Tg.under(own:Nat):Tg→Bool
 | .n i=>decide (i < own)
 | .tp l=>l.under own
 | .nil=>true
 | .cons a r=>a.under own&&r.under own
theorem Tg.Jr:∀(g:Tg) {ps:List PV} {σ3 σ4:b_},g.GO ps σ3=some σ4→ps.length=g.len
 | .nil,ps,σ3,σ4,h=>by
  cases ps with
  |nil=>rfl
  |cons _ _=>unfold Tg.GO at h;cases h
 | .cons a r,ps,σ3,σ4,h=>by
  cases ps with
  |nil=>unfold Tg.GO at h;cases h
  |cons x xs=>
   unfold Tg.GO at h
   split at h
   ·rw[List.length_cons,Tg.Jr r h];rfl
   ·cases h
 | .n _,ps,σ3,σ4,h=>by unfold Tg.GO at h;cases h
 | .tp _,ps,σ3,σ4,h=>by unfold Tg.GO at h;cases h
mutual
theorem Tg.IZ{K:PySem.W.Frag}{H:Hp}{own:Nat}:∀(g:Tg) {v:V} {p:PV} {σ:L2.St} {σ3 σ4:b_} {Q:L2.St→Hp→Prop},Rep K H v p→FO K H σ σ3→g.put p σ3=some σ4→(∀σ',FO K H σ' σ4→(g.under own=true→σ'.drop own=σ.drop own)→Q σ' H)→g.g2 K v σ H Q
 | .n i,v,p,σ,σ3,σ4,Q,r,rσ,h,k=>by
  unfold Tg.put at h
  cases h
  unfold Tg.g2
  refine k _ (rσ.set r i) fun hb=>?_
  have hi:i < own:=of_decide_eq_true hb
  rw[List.drop_set]
  rw[if_pos hi]
 | .tp l,v,p,σ,σ3,σ4,Q,r,rσ,h,k=>by
  cases p with
  |tup xs=>
   unfold Tg.put at h
   cases r with
   |tup hq rs=>
    have hg:=Tg.JR (own:=own) l rs rσ h k
    unfold Tg.g2
    exact⟨_,_,rfl,hq,rs.length.trans (Tg.Jr l h),hg⟩
  |_=>unfold Tg.put at h;cases h
 | .nil,v,p,σ,σ3,σ4,Q,r,rσ,h,k=>by unfold Tg.put at h;cases h
 | .cons _ _,v,p,σ,σ3,σ4,Q,r,rσ,h,k=>by unfold Tg.put at h;cases h
theorem Tg.JR{K:PySem.W.Frag}{H:Hp}{own:Nat}:∀(g:Tg) {vs:List V} {ps:List PV} {σ:L2.St} {σ3 σ4:b_} {Q:L2.St→Hp→Prop},Reps K H vs ps→FO K H σ σ3→g.GO ps σ3=some σ4→(∀σ',FO K H σ' σ4→(g.under own=true→σ'.drop own=σ.drop own)→Q σ' H)→g.KS K vs σ H Q
 | .nil,vs,ps,σ,σ3,σ4,Q,r,rσ,h,k=>by
  cases ps with
  |nil=>
   unfold Tg.GO at h
   cases h
   cases r
   unfold Tg.KS
   exact⟨rfl,k _ rσ fun _=>rfl⟩
  |cons _ _=>unfold Tg.GO at h;cases h
 | .cons a r',vs,ps,σ,σ3,σ4,Q,r,rσ,h,k=>by
  cases ps with
  |nil=>unfold Tg.GO at h;cases h
  |cons x xs=>
   unfold Tg.GO at h
   split at h
   ·rename_i σ5 e5
    cases r with
    |cons r1 r2=>
     unfold Tg.KS
     refine⟨_,_,rfl,Tg.IZ (own:=own) a r1 rσ e5 fun σ' Kx d1=>Tg.JR (own:=own) r' r2 Kx h fun OR MZ d2=>k OR MZ fun hb=>?_⟩
     have hb':a.under own=true∧r'.under own=true:=by simpa [Tg.under]using hb
     rw[d2 hb'.2,d1 hb'.1]
   ·cases h
 | .n _,vs,ps,σ,σ3,σ4,Q,r,rσ,h,k=>by unfold Tg.GO at h;cases h
 | .tp _,vs,ps,σ,σ3,σ4,Q,r,rσ,h,k=>by unfold Tg.GO at h;cases h
end
structure wj (X:Cx) (e:Expr) (g:Tg):Prop where
 ok:PG X e (g.g2 X.K)
structure xJ (X:Cx) (es:List Expr) (g:Tg):Prop where
 ok:BG X es (g.KS X.K)
 len:(assignEach es X.env).length=g.len
theorem Fa(i:Nat){x:Str}(hN:X.N.Nodup)(hi:X.N[i]?=some x)(hx:yz X.env.scope x)(hf:X.fn x=true∨X.env.scope.names.lookup x=some .local:=by first|exact .inl rfl|exact .inr rfl|assumption):wj X (.Name x pos) (.n i):=⟨by
 have h:=wA (pos:=pos) hN hi hx hf
 unfold Tg.g2
 exact h⟩
theorem kE:xJ X [] .nil:=⟨by unfold Tg.KS;exact wB,rfl⟩
theorem bI{es:List Expr}{a r:Tg}(h1:wj X e a)(h2:xJ X es r)(hs:(assignEach (e::es) X.env).map (·.2)=assign e X.env::(assignEach es X.env).map (·.2):=by rfl)(hl:(assignEach (e::es) X.env).length=(assignEach es X.env).length+1:=by rfl):xJ X (e::es) (.cons a r):=
 ⟨by unfold Tg.KS;exact tX h1.ok h2.ok hs,by rw[hl,h2.len];rfl⟩
theorem Ac{es:List Expr}{k:Nat}{l:Tg}(hc:X.calm=true)(h:xJ X es l)(hst:(assignEach es X.env).findIdx? (·.1)=none:=by rfl):wj X (.Tuple es k pos) (.tp l):=⟨by
 have h:=ze (pos:=pos) (k:=k) hc h.ok h.len hst
 unfold Tg.g2
 exact h⟩
def sZ(te:aJ)(g:Tg):bh:=fun D σ S=>te σ S (fun v S1=>match g.put v σ with|some σ'=>D.nx σ' S1|none=>False) D.ex
theorem Cs{tg:Expr}{g:Tg}(he:ba X e te)(hg:wj X tg g)(hs:swapsWithSole [tg] e pos.line X.env=pure false:=by rfl)(hw:swappedStores [tg] e X.env=pure none:=by rfl)
  (h1:(assignEach [tg] X.env).map (·.2)=[assign tg X.env]:=by rfl):mQ X (.Assign [tg] e pos) (sZ te g):=
 ⟨b5 (tY he.ok hg.ok hs hw h1) fun D σ H ⟨σ3,S,D3,rσ,rS,h,xo,n,r,bk,ct⟩=>⟨σ3,S,_,D3.ex,rσ,rS,h,xo,fun p S1 v H1 h1 rv FR g1=>by
  dsimp only at h1
  split at h1
  ·rename_i σ' e'
   exact Tg.IZ (own:=0) g rv (rσ.mono g1) e' fun σ2 OS _=>n _ S1 _ H1 h1 OS FR g1
  ·exact h1.elim⟩⟩
end
noncomputable def mZ{κ:Type} [DecidableEq κ](kvs:List (κ×PV))(k:κ)(v:PV):List (κ×PV):=
 if (kvs.any fun kv=>decide (kv.1=k))=true then kvs.map (fun kv=>if kv.1=k then (kv.1,v) else kv) else kvs++[(k,v)]
theorem FQ.append{K:PySem.W.Frag}{H:Hp}{κ:Type}:∀{vs us:List (κ×V)} {ps qs:List (κ×PV)},FQ K H vs ps→FQ K H us qs→FQ K H (vs++us) (ps++qs)
 |_,_,_,_,.nil,s=>s
 |_,_,_,_,.cons a r,s=>.cons a (FQ.append r s)
theorem FQ.put{K:PySem.W.Frag}{H:Hp}{κ:Type} [DecidableEq κ]{k:κ}{v:V}{p:PV}(q:Rep K H v p){vs:List (κ×V)}{ps:List (κ×PV)}(r:FQ K H vs ps):FQ K H (fj vs k v) (mZ ps k p):=by
 have e:(vs.any fun kv=>decide (kv.1=k))=(ps.any fun kv=>decide (kv.1=k)):=by rw[kj,r.any]
 unfold fj mZ
 rw[e]
 split
 ·clear e
  rename_i h
  clear h
  induction r with
  |nil=>exact .nil
  |@cons k' v' p' vs' ps' a r ih=>
   rw[List.map_cons,List.map_cons]
   by_cases z:k'=k
   ·rw[if_pos z,if_pos z];exact .cons q ih
   ·rw[if_neg z,if_neg z];exact .cons a ih
 ·exact r.append (.cons q .nil)
def iX(o i v:PV)(S:ar)(Q:ar→Prop):Prop:=match o with
 | .ref a=>(match S a with
  |some (.lst xs)=>(match i with | .int k=>(match pZ xs.length k with|some j=>Q (FF S a (.lst (xs.set j v)))|none=>False)|_=>False)
  |some (.dct kvs)=>(match mW i with|some k=>kvs.length < sizeLine∧Q (FF S a (.dct (mZ kvs k v)))|none=>False)
  |_=>False)
 |_=>False
section
variable {X:Cx} {e o i:Expr} {te to ti:aJ} {pos pos':Pos}
noncomputable def D_(X:Cx):V→V→V→Hp→(Hp→Prop)→Prop:=fun o i v H Q=>∃po pi pv S Q3,Rep X.K H o po∧Rep X.K H i pi∧Rep X.K H v pv∧FJ X.K H S∧iX po pi pv S Q3∧∀S' H',Q3 S'→FJ X.K H' S'→Grow X.K H H'→Q H'
theorem Ad(hu:X.A.units+1 < cLine):wy X (D_ X):=by
 intro pins s σ H o i v ov iv u Q I ro ri rv ⟨po,pi,pv,S,Q3,r1,r2,r3,rS,q,k⟩
 unfold iX at q
 split at q
 ·split at q
  ·rename_i e
   split at q
   ·split at q
    ·rename_i ej
     cases r1;cases r2
     obtain⟨vs,hv,rl⟩:=rS _ _ e
     rw[←rl.length]at ej
     exact ul pins s σ H _ _ _ ov iv u Q I ro ri rv ⟨_,_,_,_,rfl,rfl,hv,ej,k _ _ q (rS.put hv trivial ⟨_,aq,((rl.set r3 _).mono (.mut hv trivial))⟩) (.mut hv trivial)⟩
    ·exact q.elim
   ·exact q.elim
  ·rename_i e
   split at q
   ·rename_i ek
    cases r1
    have e1:=dQ r2 ek
    subst e1
    obtain⟨kv,hv,rk⟩:=rS _ _ e
    exact u5 hu pins s σ H _ _ _ ov iv u Q I ro ri rv ⟨_,_,rfl,JA.k hv (by rw[rk.length];exact q.1),k _ _ q.2 (rS.put hv trivial ⟨_,aq,(rk.put r3).mono (.mut hv trivial)⟩) (.mut hv trivial)⟩
   ·exact q.elim
  ·exact q.elim
 ·exact q.elim
def lB(te to ti:aJ):bh:=fun D σ S=>te σ S (fun v S1=>to σ S1 (fun o S2=>ti σ S2 (fun i S3=>iX o i v S3 (fun S4=>D.nx σ S4)) D.ex) D.ex) D.ex
theorem l9(hu:X.A.units+1 < cLine)(he:ba X e te)(ho:ba X o to)(hi:ba X i ti)
  (ha:∀v,assign (.Subscript o i pos') X.env v=(do
   let ov ←holding [v] (eval o X.env)
   let iv ←holding [v,ov] (eval i X.env)
   standAt pos'
   holding [v,ov,iv] (setItem ov iv v)
   release [v,ov,iv] []):=by intro _;rfl)
  (hs:swapsWithSole [.Subscript o i pos'] e pos.line X.env=pure false:=by rfl) (hw:swappedStores [.Subscript o i pos'] e X.env=pure none:=by rfl)
  (h1:(assignEach [.Subscript o i pos'] X.env).map (·.2)=[assign (.Subscript o i pos') X.env]:=by rfl):mQ X (.Assign [.Subscript o i pos'] e pos) (lB te to ti):=
 ⟨b5 (tY he.ok (zf ho.ok hi.ok (Ad hu) ha) hs hw h1) fun D σ H ⟨σ3,S,D3,rσ,rS,h,xo,n,r,bk,ct⟩=>⟨σ3,S,_,D3.ex,rσ,rS,h,xo,fun v S1 v' H1 h1 rv FR g1=>
  ⟨σ3,S1,_,D3.ex,rσ.mono g1,FR,h1,xo.mono g1,fun o S2 o' H2 h2 ro Hv g2=>⟨σ3,S2,_,D3.ex,rσ.mono (g1.trans g2),Hv,h2,xo.mono (g1.trans g2),fun i S3 i' H3 h3 ri KF g3=>
   ⟨o,i,v,S3,_,ro.mono g3,ri,rv.mono (g2.trans g3),KF,h3,fun S4 H4 h4 OT g4=>n _ S4 _ H4 h4 (rσ.mono (g1.trans (g2.trans (g3.trans g4)))) OT (g1.trans (g2.trans (g3.trans g4)))⟩⟩⟩⟩⟩
end
end L3
namespace L2
open PySem PySem.Spec PyProof.Rows
section
variable {X:Cx} {tg:Expr}
def Ea(K:PySem.W.Frag)(tl:TE):TI:=fun σ H R=>tl σ H fun x H1=>(∃a,x = .ref a∧(∃xs,SqL K H1 a xs)∧R (C8 K a) H1)∨(∃a,x = .ref a∧(∃xs,F3 K H1 a xs)∧R (DD K a) H1)∨∃z,x = .str z∧R (DU z) H1
theorem Ae{l:Expr}{tl:TE}(hl:PE X l tl):PI X tg l (Ea X.K tl):=by
 intro pins s σ H R I h
 refine FI (hl pins s σ H _ I h) fun v s1 ⟨x,H1,I1,r1,q1⟩=>?_
 rcases q1 with⟨a,e,⟨xs,hq⟩,q⟩|⟨a,e,⟨xs,hq⟩,q⟩|⟨z,e,q⟩
 ·subst e
  cases r1
  obtain⟨its,rv,p,hz⟩:=I1.list hq
  refine wpAny_pyIter_list p.isList ?_
  refine⟨s1.heap.objs.size,[s1.heap.objs.size],_,_,H1,rfl,I1.kept (t':=s1.toks) fun b o e=>Heap.get?_push_of_some _ e,sw a _,⟨_,Heap.get?_push_size _ rfl,rfl,rfl⟩,fun b hb=>?_,q⟩
  have e:b=s1.heap.objs.size:=by simpa using hb
  subst e
  exact I1.HB (Nat.le_refl _) (I1.hok.fresh (Nat.le_refl _))
 ·subst e
  cases r1
  obtain⟨its,rv,p,hz⟩:=I1.tuple hq
  refine wpAny_pyIter_tuple (show s1.heap.IsTuple a its.toArray from p) ?_
  refine⟨s1.heap.objs.size,[s1.heap.objs.size],_,_,H1,rfl,I1.kept (t':=s1.toks) fun b o e=>Heap.get?_push_of_some _ e,pO a _,⟨_,Heap.get?_push_size _ rfl,rfl,rfl⟩,fun b hb=>?_,q⟩
  have e:b=s1.heap.objs.size:=by simpa using hb
  subst e
  exact I1.HB (Nat.le_refl _) (I1.hok.fresh (Nat.le_refl _))
 ·subst e
  obtain⟨t,rfl⟩:=r1
  have fin:∀ty,(ty = "str_ascii_iterator" ∨ ty = "str_iterator")→DC X pins σ tg R (.ref s1.heap.objs.size) { s1 with heap:=s1.heap.push { cls:=.type ty,data:=.fields #[.str z t,.int 0 0] } }:=fun ty hty=>by
   refine⟨s1.heap.objs.size,[s1.heap.objs.size],_,_,H1,rfl,I1.kept (t':=s1.toks) fun b o e=>Heap.get?_push_of_some _ e,uC hty _ z t,⟨Nat.zero_le _,_,Heap.get?_push_size _ rfl,rfl,rfl⟩,fun b hb=>?_,q⟩
   have e:b=s1.heap.objs.size:=by simpa using hb
   subst e
   exact I1.HB (Nat.le_refl _) (I1.hok.fresh (Nat.le_refl _))
  cases ha:z.cps.all (· < 128)
  ·exact wpAny_pyIter_wide ha (fin _ (.inr rfl))
  ·exact wpAny_pyIter_ascii ha (fin _ (.inl rfl))
end
end L2
namespace L3
open PySem L2
structure Eb where
 items:List PV
 keep:ar→Prop
def jP(K:PySem.W.Frag)(H0:Hp)(J:It)(src:Eb):Prop:=∀(i:Nat) (S:ar) (H:Hp),Grow K H0 H→FJ K H S→src.keep S→
 (∀p,src.items[i]?=some p→J.go i H∧∀x H',J.Ml i H x H'→Rep K H' x p∧FJ K H' S∧Grow K H H')∧(i=src.items.length→J.stop i H)
abbrev s9:=b_→ar→(Eb→ar→Prop)→bH→Prop
def LI(X:Cx)(t:s9):TI:=fun σ H R=>∃σ3 S R3 E3,FO X.K H σ σ3∧FJ X.K H S∧t σ3 S R3 E3∧JQ X H E3∧∀src S' J H',R3 src S'→jP X.K H' J src→FJ X.K H' S'→Grow X.K H H'→R J H'
structure xK (X:Cx) (tg iter:Expr) (t:s9):Prop where
 ok:PI X tg iter (LI X t)
theorem m4{X:Cx}{tg iter:Expr}{t t':TI}(h:PI X tg iter t)(k:∀σ H R,t' σ H R→t σ H R):PI X tg iter t':=fun pins s σ H R I q=>h pins s σ H R I (k σ H R q)
section
variable {X:Cx} {e tg:Expr} {es:List Expr} {te:aJ} {ts:List aJ} {p pos:Pos}
noncomputable def gB(S:ar):PV→Option Eb
 | .tup xs=>some ⟨xs,fun _=>True⟩
 | .cl xs=>some ⟨xs,fun _=>True⟩
 | .str z=>some ⟨z.cps.toList.map fun c=>.str (lV c),fun _=>True⟩
 | .ref a=>(match S a with|some (.lst xs)=>some ⟨xs,fun S'=>S' a=some (.lst xs)⟩|_=>none)
 |_=>none
def bO(te:aJ):s9:=fun σ S R E=>te σ S (fun v S1=>match gB S1 v with|some src=>R src S1|none=>False) E
end
section
variable {X:Cx} {e tg a b:Expr} {es:List Expr} {te ta tb:aJ} {ts:List aJ} {p pos:Pos}
theorem vb{K:PySem.W.Frag}{H0:Hp}{a:Addr}{xs:List PV}:jP K H0 (C8 K a) ⟨xs,fun S'=>S' a=some (.lst xs)⟩:=by
 intro i S H g rS hk
 obtain⟨vs,hv,rs⟩:=rS a _ hk
 refine⟨fun p hp=>?_,fun hi=>⟨vs,SqL.of hv,by rw[rs.length,hi];exact Nat.le_refl _⟩⟩
 obtain⟨v,hx,rv⟩:=rs.get hp
 refine⟨⟨vs,v,SqL.of hv,hx⟩,fun x H' ⟨e,h⟩=>?_⟩
 subst e
 have:=h vs (SqL.of hv)
 rw[hx]at this
 cases this
 exact⟨rv,rS,.refl⟩
theorem xL{K:PySem.W.Frag}{H0:Hp}{a:Addr}{vs:List V}{xs:List PV}(h:F3 K H0 a vs)(rs:Reps K H0 vs xs):jP K H0 (DD K a) ⟨xs,fun _=>True⟩:=by
 intro i S H g rS _
 have hv:=g.t _ _ h
 refine⟨fun p hp=>?_,fun hi=>⟨vs,hv,by rw[rs.length,hi];exact Nat.le_refl _⟩⟩
 obtain⟨v,hx,rv⟩:=rs.get hp
 refine⟨⟨vs,v,hv,hx⟩,fun x H' ⟨e,h⟩=>?_⟩
 subst e
 have:=h vs hv
 rw[hx]at this
 cases this
 exact⟨rv.mono g,rS,.refl⟩
theorem Af{K:PySem.W.Frag}{H0:Hp}{a:Addr}{vs:List V}{xs:List PV}(h:Lz K H0 a vs)(rs:Reps K H0 vs xs):jP K H0 (C8 K a) ⟨xs,fun _=>True⟩:=by
 intro i S H g rS _
 have hv:=(g.c _ _ h).sq
 refine⟨fun p hp=>?_,fun hi=>⟨vs,hv,by rw[rs.length,hi];exact Nat.le_refl _⟩⟩
 obtain⟨v,hx,rv⟩:=rs.get hp
 refine⟨⟨vs,v,hv,hx⟩,fun x H' ⟨e,h⟩=>?_⟩
 subst e
 have:=h vs hv
 rw[hx]at this
 cases this
 exact⟨rv.mono g,rS,.refl⟩
theorem xM{K:PySem.W.Frag}{H0:Hp}{z:Str}:jP K H0 (DU z) ⟨z.cps.toList.map fun c=>.str (lV c),fun _=>True⟩:=by
 intro i S H g rS _
 refine⟨fun p hp=>?_,fun hi=>by show z.cps.size≤i;rw[hi,List.length_map,Array.length_toList];exact Nat.le_refl _⟩
 rw[List.getElem?_map]at hp
 cases hc:z.cps.toList[i]? with
 |none=>rw[hc]at hp;cases hp
 |some c=>
  rw[hc]at hp
  cases hp
  have hc':z.cps[i]?=some c:=by simpa using hc
  refine⟨?_,fun x H' ⟨e,c',h1,h2⟩=>?_⟩
  ·show i < z.cps.size
   by_cases hi:i < z.cps.size
   ·exact hi
   ·rw[Array.getElem?_eq_none (by omega)]at hc';cases hc'
  ·subst e
   rw[hc']at h1
   cases h1
   subst h2
   exact⟨.str _,rS,.refl⟩
theorem fg(he:ba X e te):xK X tg e (bO te):=⟨m4 (Ae he.ok) fun σ H R ⟨σ3,S,R3,E3,rσ,rS,h,xo,k⟩=>⟨σ3,S,_,E3,rσ,rS,h,xo,fun v S1 v' H1 h1 rv FR g1=>by
 dsimp only at h1
 split at h1
 ·rename_i src hs
  unfold gB at hs
  split at hs
  ·cases hs
   cases rv with
   |tup hq rs=>exact .inr (.inl ⟨_,rfl,⟨_,hq⟩,k _ S1 _ H1 h1 (xL hq rs) FR g1⟩)
  ·cases hs
   cases rv with
   |cl hq rs=>exact .inl ⟨_,rfl,⟨_,hq.sq⟩,k _ S1 _ H1 h1 (Af hq rs) FR g1⟩
  ·cases hs
   cases rv
   exact .inr (.inr ⟨_,rfl,k _ S1 _ H1 h1 xM FR g1⟩)
  ·cases rv
   split at hs
   ·rename_i ea
    cases hs
    obtain⟨vs,hv,rs⟩:=FR _ _ ea
    exact .inl ⟨_,rfl,⟨_,SqL.of hv⟩,k _ S1 _ H1 h1 vb FR g1⟩
   ·cases hs
  ·cases hs
 ·exact h1.elim⟩⟩
noncomputable def bx(lo:Int)(n:Nat):List PV:=(List.range n).map fun(i:Nat)=>PV.int (lo+i)
theorem s_{K:PySem.W.Frag}{H0:Hp}{lo:Int}{n:Nat}:jP K H0 (C9 lo n) ⟨bx lo n,fun _=>True⟩:=by
 intro i S H g rS _
 refine⟨fun p hp=>?_,fun hi=>by show n≤i;rw[hi];simp[bx]⟩
 unfold bx at hp
 rw[List.getElem?_map]at hp
 by_cases hi:i < n
 ·rw[List.getElem?_range hi]at hp
  cases hp
  refine⟨hi,fun x H' ⟨e,h⟩=>?_⟩
  subst e h
  exact⟨.int _,rS,.refl⟩
 ·rw[List.getElem?_eq_none (by simpa using hi)]at hp
  cases hp
def fk(ta:aJ):s9:=fun σ S R E=>ta σ S (fun v S1=>match v with | .int j=>-(2 ^ 62)≤j∧j < 2 ^ 62∧R ⟨bx 0 j.toNat,fun _=>True⟩ S1|_=>False) E
theorem b7(hs:starEach [a] X.env=[(false,eval a X.env)])(hg:Gl X "range")(hm:X.mg "range" = none)(ha:iK X [a] [ta]):xK X tg (.Call (.Name "range" p) [a] [] pos) (fk ta):=
 ⟨m4 (sx hg hm ha.ok hs) fun σ H R ⟨σ3,S,R3,E3,rσ,rS,h,xo,k⟩=>⟨σ3,S,_,E3,rσ,rS,h,xo,fun v S1 v' H1 h1 rv FR g1=>by
  dsimp only at h1
  split at h1
  ·cases rv
   exact⟨_,rfl,h1.1,h1.2.1,k _ S1 _ H1 h1.2.2 s_ FR g1⟩
  ·exact h1.elim⟩⟩
def Ag(ta tb:aJ):s9:=fun σ S R E=>ta σ S (fun v S1=>tb σ S1 (fun w S2=>match v,w with | .int i,.int j=>(-(2 ^ 62)≤i∧i < 2 ^ 62∧-(2 ^ 62)≤j∧j < 2 ^ 62)∧R ⟨bx i (j - i).toNat,fun _=>True⟩ S2|_,_=>False) E) E
noncomputable def oz(xs:List PV):List PV:=xs.mapIdx fun i x=>.tup [.int i,x]
def vc(ta:aJ):s9:=fun σ S R E=>ta σ S (fun v S1=>match v with
 | .tup xs=>R ⟨oz xs,fun _=>True⟩ S1
 | .ref a=>(match S1 a with|some (.lst xs)=>R ⟨oz xs,fun S'=>S' a=some (.lst xs)⟩ S1|_=>False)
 |_=>False) E
noncomputable def dg(xs ys:List PV):List PV:=(xs.zip ys).map fun z=>.tup [z.1,z.2]
theorem vd{K:PySem.W.Frag}{H0:Hp}{a b:Addr}{vs us:List V}{xs ys:List PV}(h1:F3 K H0 a vs)(h2:F3 K H0 b us)(r1:Reps K H0 vs xs)(r2:Reps K H0 us ys):jP K H0 (DX K a b) ⟨dg xs ys,fun _=>True⟩:=by
 intro i S H g rS _
 have hv:=g.t _ _ h1
 have hu:=g.t _ _ h2
 have l1:=r1.length
 have l2:=r2.length
 refine⟨fun p hp=>?_,fun hi=>⟨vs,us,hv,hu,?_⟩⟩
 ·unfold dg at hp
  rw[List.getElem?_map]at hp
  cases hz:(xs.zip ys)[i]? with
  |none=>rw[hz]at hp;cases hp
  |some z=>
   rw[hz]at hp
   cases hp
   obtain⟨e1,e2⟩:=List.getElem?_zip_eq_some.mp hz
   obtain⟨v,hx',rv⟩:=r1.get e1
   obtain⟨u,hy',ru⟩:=r2.get e2
   refine⟨⟨vs,us,v,u,hv,hu,hx',hy'⟩,fun x H' ⟨q,x2,y2,e3,hq,e4,h⟩=>?_⟩
   subst e3 e4
   obtain⟨k1,k2⟩:=h vs us hv hu
   rw[hx']at k1
   rw[hy']at k2
   cases k1;cases k2
   exact⟨.tup (F3.of aq) (.cons ((rv.mono g).mono (.new hq)) (.cons ((ru.mono g).mono (.new hq)) .nil)),rS.other hq,.new hq⟩
 ·have e:(dg xs ys).length=min xs.length ys.length:=by simp[dg]
  rw[e]at hi
  by_cases hle:xs.length≤ys.length
  ·exact .inl (by omega)
  ·exact .inr (by omega)
def qo(ta tb:aJ):s9:=fun σ S R E=>ta σ S (fun v S1=>tb σ S1 (fun w S2=>match v,w with
 | .tup xs,.tup ys=>R ⟨dg xs ys,fun _=>True⟩ S2
 |_,_=>False) E) E
theorem ve{elts:List Expr}{k0:Nat}{Ix:Pos}(hs:starEach [a,b] X.env=[(false,eval a X.env),(false,eval b X.env)])(hs2:starEach [b] X.env=[(false,eval b X.env)])(hg:Gl X "zip")(hm:X.mg "zip" = none)(hv:bootBuiltins "zip" = some (.type "zip"))(ha:iK X [a,b] [ta,tb]) :
  xK X (.Tuple elts k0 Ix) (.Call (.Name "zip" p) [a,b] [] pos) (qo ta tb):=
 ⟨m4 (zO hg hm hv ha.ok hs hs2) fun σ H R ⟨σ3,S,R3,E3,rσ,rS,h,xo,k⟩=>⟨σ3,S,_,E3,rσ,rS,h,xo,fun v S1 v' H1 h1 rv FR g1=>⟨σ3,S1,_,E3,rσ.mono g1,FR,h1,xo.mono g1,fun w S2 w' H2 h2 rw' Hv g2=>by
  dsimp only at h2
  split at h2
  ·cases rv with
   |tup hq rs=>
    cases rw' with
    |tup hq2 M0=>exact⟨_,_,rfl,⟨_,g2.t _ _ hq⟩,⟨_,hq2⟩,k _ S2 _ H2 h2 (vd (g2.t _ _ hq) hq2 (rs.mono g2) M0) Hv (g1.trans g2)⟩
  ·exact h2.elim⟩⟩⟩
end
section
variable {X:Cx} {iter tg c:Expr} {body:List Stmt} {ti:s9} {g:Tg} {tb:bh} {tc:jM} {pos:Pos}
noncomputable def oA(g:Tg)(tb:bh)(D:ku)(keep:ar→Prop):List PV→b_→ar→Prop
 |[],σ,S=>keep S∧D.nx σ S
 |x::r,σ,S=>keep S∧match g.put x σ with|some σ'=>tb { D with nx:=oA g tb D keep r,ct:=oA g tb D keep r,bk:=D.nx } σ' S|none=>False
def dh(ti:s9)(g:Tg)(tb:bh):bh:=fun D σ S=>ti σ S (fun src S1=>oA g tb D src.keep src.items σ S1) D.ex
theorem gC(hp:PassesOwn (model X.prog X.w) X.A X.env X.xe)(hc:X.calm=true)(hi:xK X tg iter ti)(hg:wj X tg g)(hb:ft X body tb)(hs:∀x,foldedSetIterable iter X.env x=pure x:=by intro _;rfl):mQ X (.For tg iter body [] pos) (dh ti g tb):=
 ⟨b5 (zj hp hc hi.ok hg.ok hb.ok hs) fun D σ H ⟨σ3,S,D3,rσ,rS,h,xo,n,r,bk,ct⟩=>⟨σ3,S,_,D3.ex,rσ,rS,h,xo,fun src S1 J H1 h1 sim FR g1=>by
  refine⟨fun i m σ' H'=>i+m=src.items.length∧∃σ4 S',FO X.K H' σ' σ4∧FJ X.K H' S'∧Grow X.K H1 H'∧oA g tb D3 src.keep (src.items.drop i) σ4 S',⟨src.items.length,Nat.zero_add _,σ3,S1,rσ.mono g1,FR,.refl,by simpa using h1⟩,?_⟩
  rintro i m σ' H' ⟨hm,σ4,S',Kx,G4,g',hw⟩
  cases hd:src.items.drop i with
  |nil=>
   rw[hd]at hw
   have hi:i=src.items.length:=by
    have:=congrArg List.length hd
    rw[List.length_drop,List.length_nil]at this
    omega
   exact .inl ⟨(sim i S' H' g' G4 hw.1).2 hi,n _ S' _ H' hw.2 Kx G4 (g1.trans g')⟩
  |cons x rest=>
   rw[hd]at hw
   have hx:src.items[i]?=some x:=by
    have:=congrArg (fun l=>l[0]?) hd
    simpa using this
   have hrest:src.items.drop (i+1)=rest:=by
    have:=congrArg List.tail hd
    simpa [List.tail_drop]using this
   have hlt:i < src.items.length:=by
    by_cases z:i < src.items.length
    ·exact z
    ·rw[List.getElem?_eq_none (by omega)]at hx;cases hx
   obtain⟨go,yl⟩:=(sim i S' H' g' G4 hw.1).1 x hx
   refine .inr ⟨go,fun σ5 H5=>∃σ6 S6,FO X.K H5 σ5 σ6∧FJ X.K H5 S6∧Grow X.K H1 H5∧oA g tb D3 src.keep rest σ6 S6,?_,fun v H5 hv=>?_⟩
   ·rintro σ5 H5 ⟨σ6,S6,q1,q2,q3,q4⟩
    exact⟨m - 1,by omega,by omega,σ6,S6,q1,q2,q3,by rw[hrest];exact q4⟩
   ·obtain⟨rv,M4,g5⟩:=yl v H5 hv
    obtain⟨_,hw⟩:=hw
    split at hw
    ·rename_i σ6 e6
     refine Tg.IZ (own:=0) g rv (Kx.mono g5) e6 fun σ7 Mr _=>?_
     exact⟨σ6,S',_,Mr,M4,hw,xo.mono (g1.trans (g'.trans g5)),fun σ8 S8 σ9 H9 q1 q2 q3 q4=>⟨σ8,S8,q2,q3,g'.trans (g5.trans q4),q1⟩,r.mono (g1.trans (g'.trans g5)),n.mono (g1.trans (g'.trans g5)),
      fun σ8 S8 σ9 H9 q1 q2 q3 q4=>⟨σ8,S8,q2,q3,g'.trans (g5.trans q4),q1⟩⟩
    ·exact hw.elim⟩⟩
def iY(tc:jM)(tb:bh):bh:=fun D σ S=>∃W:Nat→b_→ar→Prop,(∃m,W m σ S)∧∀m σ S,W m σ S→
 tc σ S (fun b S1=>if b=true then ∃N:b_→ar→Prop,(∀σ' S',N σ' S'→∃m',m' < m∧W m' σ' S')∧tb { D with nx:=N,ct:=N,bk:=D.nx } σ S1 else D.nx σ S1) D.ex
theorem j2(hp:PassesOwn (model X.prog X.w) X.A X.env X.xe)(hc:qh X c tc)(hb:ft X body tb):mQ X (.While c body [] pos) (iY tc tb):=
 ⟨b5 (tZ hp hc.ok hb.ok) fun D σ H ⟨σ3,S,D3,rσ,rS,⟨W,⟨m0,w0⟩,turn⟩,xo,n,r,bk,ct⟩=>by
  refine⟨fun m σ' H'=>∃σ4 S',FO X.K H' σ' σ4∧FJ X.K H' S'∧Grow X.K H H'∧W m σ4 S',⟨m0,σ3,S,rσ,rS,.refl,w0⟩,?_⟩
  rintro m σ' H' ⟨σ4,S',Kx,G4,g',w'⟩
  refine⟨σ4,S',_,D3.ex,Kx,G4,turn m σ4 S' w',xo.mono g',fun b S1 H1 h1 FR g1=>?_⟩
  cases b with
  |true=>
   rw[if_pos rfl]at h1 ⊢
   obtain⟨N,hN,h1⟩:=h1
   refine⟨fun σ5 H5=>∃σ6 S6,FO X.K H5 σ5 σ6∧FJ X.K H5 S6∧Grow X.K H H5∧N σ6 S6,?_,?_⟩
   ·rintro σ5 H5 ⟨σ6,S6,q1,q2,q3,q4⟩
    obtain⟨m',hm,w6⟩:=hN σ6 S6 q4
    exact⟨m',hm,σ6,S6,q1,q2,q3,w6⟩
   ·exact⟨σ4,S1,_,Kx.mono g1,FR,h1,xo.mono (g'.trans g1),fun σ8 S8 σ9 H9 q1 q2 q3 q4=>⟨σ8,S8,q2,q3,g'.trans (g1.trans q4),q1⟩,r.mono (g'.trans g1),n.mono (g'.trans g1),
     fun σ8 S8 σ9 H9 q1 q2 q3 q4=>⟨σ8,S8,q2,q3,g'.trans (g1.trans q4),q1⟩⟩
  |false=>
   rw[if_neg (by decide)]at h1 ⊢
   exact n _ S1 _ H1 h1 (Kx.mono g1) FR (g'.trans g1)⟩
end
noncomputable def gD:bH:=fun _ _ _=>False
theorem JQ.no{X:Cx}{H:Hp}:JQ X H gD:=fun _ _ _ _ _ _ _ _ _ _ _ _ _ _ h=>h.elim
section
variable {X:Cx} {elt iter tg c:Expr} {ifs:List Expr} {scope:Scope} {pos:Pos} {ti:s9} {g:Tg} {tc:jM} {te:aJ} {fs N:List Str} {own:Nat} {fr:List Nat}
noncomputable def d4(g:Tg)(tc:jM)(te:aJ)(σ':b_)(keep:ar→Prop)(fin:List PV→ar→Prop):List PV→List PV→ar→Prop
 |[],ys,S=>keep S∧ys.length≤sizeLine∧fin ys S
 |x::r,ys,S=>keep S∧ys.length≤sizeLine∧match g.put x σ' with
  |some σ2=>tc σ2 S (fun b S3=>if b=true then te σ2 S3 (fun y S4=>d4 g tc te σ' keep fin r (ys++[y]) S4) gD else d4 g tc te σ' keep fin r ys S3) gD
  |none=>False
def di:jM:=fun _ S Q _=>Q true S
structure Bm (X:Cx) (ifs:List Expr) (t:jM):Prop where
 ok:PF X ifs (LT X t)
theorem qp{t t':TT}(h:PF X ifs t)(k:∀σ H Q,t' σ H Q→t σ H Q):PF X ifs t':=fun pins s σ H Q I q=>h pins s σ H Q I (k σ H Q q)
theorem d5:Bm X [] di:=⟨qp zJ fun σ H Q ⟨σ3,S,Q3,E3,rσ,rS,h,xo,k⟩=>k true S H h rS .refl⟩
theorem yJ(h:qh X c tc):Bm X [c] tc:=⟨zK h.ok⟩
noncomputable def kF(own:Nat)(fr:List Nat)(σ:b_):b_:=List.replicate own none++fr.map fun j=>lk σ j
theorem xN{K:PySem.W.Frag}{H:Hp}{σ:L2.St}{σ3:b_}(r:FO K H σ σ3)(own:Nat)(fr:List Nat):FO K H (dX own fr σ) (kF own fr σ3):=by
 refine⟨by unfold dX kF;simp,fun i p e=>?_⟩
 unfold kF at e
 unfold dX
 by_cases hi:i < own
 ·rw[List.getElem?_append_left (by simpa using hi),List.getElem?_replicate,if_pos hi]at e
  cases e
 ·rw[List.getElem?_append_right (by simpa using hi),List.length_replicate,List.getElem?_map]at e ⊢
  cases hj:fr[i - own]? with
  |none=>rw[hj]at e;cases e
  |some j=>
   rw[hj]at e
   simp only[Option.map_some,Option.some.injEq]at e ⊢
   obtain⟨v,hv,rv⟩:=r.at' j p (uV e)
   exact⟨v,by rw[hv];rfl,rv⟩
def bz(ti:s9)(g:Tg)(tc:jM)(te:aJ)(own:Nat)(fr:List Nat):aJ:=fun σ S Q E=>ti σ S (fun src S1=>d4 g tc te (kF own fr σ) src.keep (fun ys S2=>∀p,S2 p=none→Q (.ref p) (FF S2 p (.lst ys))) src.items [] S1) E
theorem l_{σ:L2.St}{H:Hp}{Q:VK}(Kj:g.under own=true)(B0:Bk):LE X (bz ti g tc te own fr) σ H Q→uz (LI X ti) (g.g2 X.K) (fun σ H Q=>∃σ3 S Q3,FO X.K H σ σ3∧FJ X.K H S∧tc σ3 S Q3 gD∧∀b S' H',Q3 b S'→FJ X.K H' S'→Grow X.K H H'→Q b H')
  (fun σ H Q=>∃σ3 S Q3,FO X.K H σ σ3∧FJ X.K H S∧te σ3 S Q3 gD∧J4 X.K H Q3 Q) own fr σ H Q:=fun⟨σ3,S,Q3,E3,rσ,rS,h,xo,k⟩=>by
 refine⟨σ3,S,_,E3,rσ,rS,h,xo,fun src S1 J H1 h1 sim FR g1=>?_⟩
 refine⟨fun i m ys H'=>i+m=src.items.length∧∃zs S',Reps X.K H' ys zs∧FJ X.K H' S'∧Grow X.K H1 H'∧d4 g tc te (kF own fr σ3) src.keep (fun ys S2=>∀p,S2 p=none→Q3 (.ref p) (FF S2 p (.lst ys))) (src.items.drop i) zs S',⟨src.items.length,Nat.zero_add _,[],S1,.nil,FR,.refl,by simpa using h1⟩,?_⟩
 rintro i m ys H' ⟨hm,zs,S',rz,G4,g',hw⟩
 cases hd:src.items.drop i with
 |nil=>
  rw[hd]at hw
  have hi:i=src.items.length:=by
   have:=congrArg List.length hd
   rw[List.length_drop,List.length_nil]at this
   omega
  refine .inl ⟨(sim i S' H' g' G4 hw.1).2 hi,by rw[rz.length];exact hw.2.1,fun D hD=>?_⟩
  exact k _ _ _ _ (hw.2.2 D (G4.free hD)) (.ref D) (G4.new hD ⟨_,aq,rz.mono (.new hD)⟩) (g1.trans (g'.trans (.new hD)))
 |cons x rest=>
  rw[hd]at hw
  have hx:src.items[i]?=some x:=by
   have:=congrArg (fun l=>l[0]?) hd
   simpa using this
  have hrest:src.items.drop (i+1)=rest:=by
   have:=congrArg List.tail hd
   simpa [List.tail_drop]using this
  have hlt:i < src.items.length:=by
   by_cases z:i < src.items.length
   ·exact z
   ·rw[List.getElem?_eq_none (by omega)]at hx;cases hx
  obtain⟨go,yl⟩:=(sim i S' H' g' G4 hw.1).1 x hx
  refine .inr ⟨go,by rw[rz.length];exact hw.2.1,fun ys' H5=>∃zs' S6,Reps X.K H5 ys' zs'∧FJ X.K H5 S6∧Grow X.K H1 H5∧d4 g tc te (kF own fr σ3) src.keep (fun ys S2=>∀p,S2 p=none→Q3 (.ref p) (FF S2 p (.lst ys))) rest zs' S6,?_,fun v H5 hv=>?_⟩
  ·rintro ys' H5 ⟨zs',S6,q1,q2,q3,q4⟩
   exact⟨m - 1,by omega,by omega,zs',S6,q1,q2,q3,by rw[hrest];exact q4⟩
  ·obtain⟨rv,M4,g5⟩:=yl v H5 hv
   obtain⟨_,_,hw⟩:=hw
   split at hw
   ·rename_i σ6 e6
    refine Tg.IZ (own:=own) g rv ((xN rσ own fr).mono (g1.trans (g'.trans g5))) e6 fun σ7 Mr d7=>⟨d7 Kj,?_⟩
    refine⟨σ6,S',_,Mr,M4,hw,fun b S8 H8 h8 NQ g8=>?_⟩
    cases b with
    |true=>
     rw[if_pos rfl]at h8 ⊢
     exact⟨σ6,S8,_,Mr.mono g8,NQ,h8,fun y S9 y' H9 h9 ry OU g9=>⟨zs++[y],S9,(rz.mono (g5.trans (g8.trans g9))).append (.cons ry .nil),OU,g'.trans (g5.trans (g8.trans g9)),h9⟩⟩
    |false=>
     rw[if_neg (by decide)]at h8 ⊢
     exact⟨zs,S8,rz.mono (g5.trans g8),NQ,g'.trans (g5.trans g8),h8⟩
   ·exact hw.elim
theorem Ah(fs:List Str)(own:Nat)(fr:List Nat)(N:List Str)(Kj:g.under own=true)(hc:X.calm=true)(hclos:closureFor scope X.env=pure (cb X.env fs))(hcell:∀y∈scope.names,y.2 ≠ .cell)(hkind:scope.kind = .function)
  (hnames:∀x∈scope.names,x.2 = .local→scope.names.lookup x.1=some .local) (hcl:b4 X.env fs) (hhas:hasB (relabel scope X.env).names (cb X.env fs)=true)
  (hlen:N.length=own+fr.length) (hN:(N.drop own).map some=fr.map fun j=>X.N[j]?) (hF:Gq X.env scope (cb X.env fs) (N.drop own))
  (hi:xK X tg iter ti) (hg:∀B,wj (X.Hu N scope fs B) tg g) (hf:∀B,Bm (X.Hu N scope fs B) ifs tc) (he:∀B,ba (X.Hu N scope fs B) elt te)
  (hs:∀x,foldedSetIterable iter X.env x=pure x:=by intro _;rfl):ba X (.ListComp elt [⟨tg,iter,ifs,0⟩] scope pos) (bz ti g tc te own fr):=
 ⟨aL (w9 fs own fr N hc hclos hcell hkind hnames hcl hhas hlen hN hF hi.ok (fun B=>(hg B).ok)
  (fun B=>qp (hf B).ok fun σ H Q ⟨σ3,S,Q3,rσ,rS,h,k⟩=>⟨σ3,S,Q3,gD,rσ,rS,h,.no,k⟩) (fun B=>aL (he B).ok fun σ H Q ⟨σ3,S,Q3,rσ,rS,h,k⟩=>⟨σ3,S,Q3,gD,rσ,rS,h,.no,k⟩) hs) fun _ _ _=>l_ Kj ⟨0,X.s₀,X.H₀,[],[]⟩⟩
theorem Ai(fs:List Str)(own:Nat)(fr:List Nat)(N:List Str){i:Nat}{y:Str}{py spos:Pos}(hX:X.N.Nodup)(hix:X.N[i]?=some y)(hy:X.env.scope.names.lookup y=some .local)
  (hsw:swapsWith (.ListComp elt [⟨tg,iter,ifs,0⟩] scope pos) (some (.Name y py)) spos.line X.env=pure true)
  (Kj:g.under own=true) (hc:X.calm=true) (hclos:closureFor scope X.env=pure (cb X.env fs)) (hcell:∀y∈scope.names,y.2 ≠ .cell) (hkind:scope.kind = .function)
  (hnames:∀x∈scope.names,x.2 = .local→scope.names.lookup x.1=some .local) (hcl:b4 X.env fs) (hhas:hasB (relabel scope X.env).names (cb X.env fs)=true)
  (hlen:N.length=own+fr.length) (hN:(N.drop own).map some=fr.map fun j=>X.N[j]?) (hF:Gq X.env scope (cb X.env fs) (N.drop own))
  (hi:xK X tg iter ti) (hg:∀B,wj (X.Hu N scope fs B) tg g) (hf:∀B,Bm (X.Hu N scope fs B) ifs tc) (he:∀B,ba (X.Hu N scope fs B) elt te)
  (hs:∀x,foldedSetIterable iter X.env x=pure x:=by intro _;rfl):mQ X (.Assign [.Name y py] (.ListComp elt [⟨tg,iter,ifs,0⟩] scope pos) spos) (aC i (bz ti g tc te own fr)):=
 ⟨b5 (w_ fs own fr N hX hix hy hsw hc hclos hcell hkind hnames hcl hhas hlen hN hF hi.ok (fun B=>(hg B).ok)
  (fun B=>qp (hf B).ok fun σ H Q ⟨σ3,S,Q3,rσ,rS,h,k⟩=>⟨σ3,S,Q3,gD,rσ,rS,h,.no,k⟩) (fun B=>aL (he B).ok fun σ H Q ⟨σ3,S,Q3,rσ,rS,h,k⟩=>⟨σ3,S,Q3,gD,rσ,rS,h,.no,k⟩) hs)
  fun D σ H ⟨σ3,S,D3,rσ,rS,h,xo,n,r,bk,ct⟩=>l_ Kj ⟨0,X.s₀,X.H₀,[],[]⟩ ⟨σ3,S,_,D3.ex,rσ,rS,h,xo,fun p S1 v H1 h1 rv FR g1=>n _ S1 _ H1 h1 ((rσ.mono g1).set rv i) FR g1⟩⟩
end
abbrev aw:=List PV→ar→bB→bH→Prop
noncomputable def Ct(K:PySem.W.Frag)(n:Nat)(sp:aw):Sp:=fun vs H Q _=>vs.length=n∧∃ps S Q3 E3,Reps K H vs ps∧FJ K H S∧sp ps S Q3 E3∧J4 K H Q3 Q
structure KG (P:Program) (w:World) (K:PySem.W.Frag) (mg:Str→Option Value) (base:Heap) (k:Nat) (f:Addr) (fd:FuncData) (ps:List Str) (sp:aw):Prop where
 ok:dP P w K mg base pI k f fd ps (Ct K ps.length sp)
section
variable {X:Cx} {e o:Expr} {es:List Expr} {te to:aJ} {ts:List aJ} {x:Str} {p pos apos cpos:Pos} {k:Nat} {f:Addr} {fd:FuncData} {ps:List Str} {sp:aw}
def ae(sp:aw)(ts:List aJ):aJ:=fun σ S Q E=>ap ts σ S (fun ps S1=>sp ps S1 Q E) E
theorem Aj(F:KG X.prog X.w X.K X.mg X.base k f fd ps sp)(hr:Room k X.A)(hg:Gl X x)(hm:X.mg x=some (.ref f))(hk:PySem.W.keepIn X.K (.ref f)=true)(hb:Binds X.K fd ps [])(he:starEach (e::es) X.env=(false,eval e X.env)::starEach es X.env)(ha:iK X (e::es) ts)
  (hl:ts.length=ps.length:=by rfl) (hdb:(x == ("__debug__":Str))=false:=by decide) (hpl:(backTo pos (starEach es X.env)).any (·.1)=false:=by rfl):ba X (.Call (.Name x p) (e::es) [] pos) (ae sp ts):=
 ⟨aL (wM F.ok hr hg hm hk hb .nil ux ha.ok hdb he hpl) fun σ H Q ⟨σ3,S,Q3,E3,rσ,rS,h,xo,k⟩=>bi rσ rS h xo fun ps' S' vs H' hl' q rv G4 g=>by
  rw[List.append_nil]
  exact⟨by rw[rv.length,hl',hl],ps',S',Q3,E3,rv,G4,q,k.mono g⟩⟩
end
noncomputable def av(n:Nat)(args:List PV):b_:=args.map some++List.replicate (n - args.length) none
def bn(n:Nat)(t:bh):aw:=fun args S Q _=>t { nx:=fun _ S'=>Q .non S',rt:=Q,ex:=gD } (av n args) S
theorem ma{K:PySem.W.Frag}{H:Hp}{N:List Str}{vs:List V}{ps:List PV}(r:Reps K H vs ps):FO K H (L2.fe N vs) (av N.length ps):=by
 refine⟨by unfold L2.fe av;simp[r.length],fun i p e=>?_⟩
 unfold av at e
 unfold L2.fe
 by_cases hi:i < ps.length
 ·rw[List.getElem?_append_left (by simpa using hi),List.getElem?_map]at e
  cases hp:ps[i]? with
  |none=>rw[hp]at e;cases e
  |some q=>
   rw[hp]at e
   cases e
   obtain⟨v,hv,rv⟩:=r.get hp
   rw[List.getElem?_append_left (by rw[List.length_map,r.length];exact hi),List.getElem?_map,hv]
   exact⟨v,rfl,rv⟩
 ·rw[List.getElem?_append_right (by simpa using hi),List.getElem?_replicate]at e
  split at e
  ·cases e
  ·cases e
section
variable {P:Program} {w:World} {K:PySem.W.Frag} {mg:Str→Option Value} {base:Heap}
noncomputable abbrev Dn(P:Program)(w:World)(K:PySem.W.Frag)(mg:Str→Option Value)(base:Heap)(N:List Str)(qual:Str)(st:Stmt)(f:Addr)(cdv:Value)(A:Around)(outer:List Env)(s:Shared)(H:Hp)(E:XK):Cx:=(gr pI P w K mg base N qual (au st) f cdv A outer s H E).JY
theorem Ec{x qual:Str}{st:Stmt}{f:Addr}{fd:FuncData}{N ps:List Str}{k:Nat}{t:bh}(F:Kd K x qual st f fd)(S:bL N ps (au st))
  (hbody:∀(cdv:Value) (A:Around) (outer:List Env) (s:Shared) (H:Hp) (E:XK),Room k (A.deeper (PyProof.Rows.envOfC qual (au st) s.heap.objs.size f cdv))→ft (Dn P w K mg base N qual st f cdv A outer s H E) (aR st) t) :
  KG P w K mg base (k+1) f fd ps (bn N.length t):=
 ⟨F.ok S (fun vs H Q E h=>h.1) fun cdv A outer s H vs Q E hr ⟨hl,ps',S',Q3,E3,rv,rS,q,kk⟩=>⟨_,(hbody cdv A outer s H E hr).ok,av N.length ps',S',_,ma rv,rS,q,.no,fun σ3 S2 σ2 H2 h2 _ Hv g2=>kk _ S2 _ H2 h2 .non Hv g2,kk,fun _ _ _ _ h2=>h2.elim,fun _ _ _ _ h2=>h2.elim⟩⟩
end
section
variable {X:Cx} {o e f:Expr} {to te tf:aJ} {pos apos cpos:Pos}
noncomputable def iZ:List (aJ×aJ)→b_→ar→(List (PV×PV)→ar→Prop)→bH→Prop
 |[],_,S,Q,_=>Q [] S
 |(tk,tv)::r,σ,S,Q,E=>tk σ S (fun x S1=>tv σ S1 (fun y S2=>iZ r σ S2 (fun ps S3=>Q ((x,y)::ps) S3) E) E) E
noncomputable def oB:List (PV×PV)→Option (List (bg×PV))
 |[]=>some []
 |(x,y)::r=>match mW x,oB r with|some k,some l=>some ((k,y)::l)|_,_=>none
noncomputable def m5(kvs more:List (bg×PV)):List (bg×PV):=more.foldl (fun acc kv=>mZ acc kv.1 kv.2) kvs
structure Do (X:Cx) (pos:Pos) (keys:List (Option Expr)) (values:List Expr) (Ir:List (aJ×aJ)):Prop where
 ok:B7 X pos keys values (Ir.map fun t=>(LE X t.1,LE X t.2))
theorem Al:Do X pos [] [] []:=⟨wX⟩
theorem m6{k v:Expr}{ks:List (Option Expr)}{vs:List Expr}{tk tv:aJ}{Ir:List (aJ×aJ)}(hk:ba X k tk)(hv:ba X v tv)(hr:Do X pos ks vs Ir):Do X pos (some k::ks) (v::vs) ((tk,tv)::Ir):=⟨uu hk.ok hv.ok hr.ok⟩
inductive md (K:PySem.W.Frag) (H:Hp):List (V×V)→List (PV×PV)→Prop
 |nil:md K H [] []
 |cons {a b:V} {p q:PV} {vs:List (V×V)} {ps:List (PV×PV)}:Rep K H a p→Rep K H b q→md K H vs ps→md K H ((a,b)::vs) ((p,q)::ps)
theorem kG:∀{Ir:List (aJ×aJ)} {σ:L2.St} {H:Hp} {Q:List (V×V)→Hp→Prop} {σ3:b_} {S:ar} {Q3:List (PV×PV)→ar→Prop} {E3:bH},FO X.K H σ σ3→FJ X.K H S→iZ Ir σ3 S Q3 E3→JQ X H E3→
  (∀ps S' vs H',ps.length=Ir.length→Q3 ps S'→md X.K H' vs ps→FJ X.K H' S'→Grow X.K H H'→Q vs H')→mJ (Ir.map fun t=>(LE X t.1,LE X t.2)) σ H Q
 |[],σ,H,Q,σ3,S,Q3,E3,rσ,rS,h,xo,k=>k [] S [] H rfl h .nil rS .refl
 |(tk,tv)::ts,σ,H,Q,σ3,S,Q3,E3,rσ,rS,h,xo,k=>
  ⟨σ3,S,_,E3,rσ,rS,h,xo,fun p S1 v H1 h1 rv FR g1=>⟨σ3,S1,_,E3,rσ.mono g1,FR,h1,xo.mono g1,fun p2 S2 v2 H2 h2 M5 Hv g2=>kG (rσ.mono (g1.trans g2)) Hv h2 (xo.mono (g1.trans g2)) fun ps S3 vs H3 hl h3 MX KF g3=>
   k ((p,p2)::ps) S3 ((v,v2)::vs) H3 (by rw[List.length_cons,List.length_cons,hl]) h3 (.cons (rv.mono (g2.trans g3)) (M5.mono g3) MX) KF (g1.trans (g2.trans g3))⟩⟩
theorem me{K:PySem.W.Frag}{H:Hp}:∀{vs:List (V×V)} {ps:List (PV×PV)} {l:List (bg×PV)},md K H vs ps→oB ps=some l→∃kvs:List (bg×V),vs=kvs.map (fun kv=>(kV kv.1,kv.2))∧FQ K H kvs l
 |_,_,_,.nil,h=>by cases h;exact⟨[],rfl,.nil⟩
 |_,_,l,.cons a b r,h=>by
  unfold oB at h
  split at h
  ·rename_i k l' ek el
   cases h
   obtain⟨kvs,e,q⟩:=me r el
   refine⟨(k,_)::kvs,?_,.cons b q⟩
   rw[List.map_cons,←e,dQ a ek]
  ·cases h
theorem FQ.merge{K:PySem.W.Frag}{H:Hp}{more:List (bg×V)}{m3:List (bg×PV)}(r:FQ K H more m3):∀{kvs:List (bg×V)} {k3:List (bg×PV)},FQ K H kvs k3→FQ K H (iQ kvs more) (m5 k3 m3):=by
 induction r with
 |nil=>intro kvs k3 q;exact q
 |cons a r ih=>intro kvs k3 q;exact ih (q.put a)
def oC(Ir:List (aJ×aJ)):aJ:=fun σ S Q E=>∀p,S p=none→iZ Ir σ (FF S p (.dct [])) (fun ps S2=>S2 p=some (.dct [])∧match oB ps with|some kvs=>Q (.ref p) (FF S2 p (.dct (m5 [] kvs)))|none=>False) E
theorem Am{keys:List (Option Expr)}{values:List Expr}{Ir:List (aJ×aJ)}(h:Do X pos keys values Ir)(hall:keys.all (·.isSome)=true:=by rfl)(hl:keys.length=values.length:=by rfl)(h0:keys≠[]:=by exact List.cons_ne_nil _ _)(MM:keys.length≤15:=by decide)
  (ht:Ir.length≤15:=by exact Nat.le_of_ble_eq_true rfl):ba X (.Dict keys values pos) (oC Ir):=
 ⟨aL (wY h.ok hall hl h0 MM) fun σ H Q ⟨σ3,S,Q3,E3,rσ,rS,hq,xo,k⟩=>fun p hp=>by
  have g0:Grow X.K H (upd H p (.dK [])):=.new hp
  refine kG (rσ.mono g0) (rS.new hp (o:=.dct []) ⟨[],aq,.nil⟩) (hq p (rS.free hp)) (xo.mono g0) fun ps S' vs H' hl' q rv G4 g=>?_
  obtain⟨e,q⟩:=q
  obtain⟨kv,hv,rk⟩:=G4 _ _ e
  cases rk
  refine⟨hv,?_⟩
  split at q
  ·rename_i kvs ek
   obtain⟨l,el,rl⟩:=me rv ek
   refine⟨l,el,?_,k _ _ _ _ q (.ref p) (G4.put hv trivial ⟨_,aq,(FQ.merge rl .nil).mono (.mut hv trivial)⟩) (g0.trans (g.trans (.mut hv trivial)))⟩
   have z1:∀{vs:List (V×V)} {ps:List (PV×PV)},md X.K H' vs ps→vs.length=ps.length:=by
    intro vs ps r
    induction r with
    |nil=>rfl
    |cons _ _ _ ih=>rw[List.length_cons,List.length_cons,ih]
   have z2:=congrArg List.length el
   rw[List.length_map,z1 rv,hl']at z2
   omega
  ·exact q.elim⟩
def rH(kvs:List (bg×Int))(te tf:aJ):aJ:=fun σ S Q E=>te σ S (fun y S2=>tf σ S2 (fun z S3=>match mW y with|some k=>Q (((kvs.find? fun kv=>decide (kv.1=k)).map fun kv=>PV.int kv.2).getD z) S3|none=>False) E) E
theorem An{x:Str}{px:Pos}{a:Addr}{kvs:List (bg×Int)}(hu:X.A.units+1 < cLine)(hg:Gl X x)(hm:X.mg x=some (.ref a))(hD:KD X.prog X.w X.K a (kvs.map fun kv=>(kv.1,V.int kv.2)))(he:ba X e te)(hf:ba X f tf)(m:M2 X (.Name x px) "get" apos e f cpos)
  (hd:(x == ("__debug__":Str))=false:=by decide):ba X (.Call (.Attribute (.Name x px) "get" apos) [e,f] [] cpos) (rH kvs te tf):=
 ⟨aL (xu hu hg hm hD he.ok hf.ok m hd) fun σ H Q ⟨σ3,S,Q3,E3,rσ,rS,h,xo,k⟩=>⟨σ3,S,_,E3,rσ,rS,h,xo,fun y S2 y' H2 h2 ry Hv g2=>⟨σ3,S2,_,E3,rσ.mono g2,Hv,h2,xo.mono g2,fun z S3 z' H3 h3 rz KF g3=>by
  dsimp only at h3
  split at h3
  ·rename_i k' ek
   have e1:=dQ (ry.mono g3) ek
   subst e1
   refine⟨_,rfl,k _ S3 _ H3 h3 ?_ KF (g2.trans g3)⟩
   have:∀l:List (bg×Int),Rep X.K H3 ((gt (l.map fun kv=>(kv.1,V.int kv.2)) k').getD z') (((l.find? fun kv=>decide (kv.1=k')).map fun kv=>PV.int kv.2).getD z):=by
    intro l
    induction l with
    |nil=>exact rz
    |cons q r ih=>
     rw[List.map_cons,List.find?_cons]
     by_cases e:q.1=k'
     ·rw[G1 e,decide_eq_true e];exact .int _
     ·rw[G2 e,decide_eq_false e];exact ih
   exact this kvs
  ·exact h3.elim⟩⟩⟩
def oE(te:aJ):aJ:=fun σ S Q E=>te σ S (fun x S1=>match x with
 | .ref a=>(match S1 a with|some (.lst xs)=>∀p,S1 p=none→Q (.ref p) (FF S1 p (.lst xs.reverse))|_=>False)
 |_=>False) E
theorem Ao{p1 p2 q1 q2:Pos}(hs:starEach [e] X.env=[(false,eval e X.env)])(hc:X.calm=true)(he:ba X e te)(MV:Gl X "list")(hm1:X.mg "list" = none)(LV:Gl X "reversed")(hm2:X.mg "reversed" = none):ba X (.Call (.Name "list" p1) [.Call (.Name "reversed" p2) [e] [] q2] [] q1) (oE te):=
 ⟨aL (p9 hc he.ok MV hm1 LV hm2 hs rfl) fun σ H Q ⟨σ3,S,Q3,E3,rσ,rS,h,xo,k⟩=>⟨σ3,S,_,E3,rσ,rS,h,xo,fun x S1 v H1 h1 rx FR g1=>by
  dsimp only at h1
  split at h1
  ·cases rx
   split at h1
   ·rename_i ea
    obtain⟨vs,hv,rs⟩:=FR _ _ ea
    exact⟨_,_,rfl,SqL.of hv,fun q hq=>k _ _ _ _ (h1 q (FR.free hq)) (.ref q) (FR.new hq ⟨_,aq,rs.reverse.mono (.new hq)⟩) (g1.trans (.new hq))⟩
   ·exact h1.elim
  ·exact h1.elim⟩⟩
end
def bY:R3:=dA fun i j=>.int (i - j)
def fx:R3:=fu (fun _ j=>j≠0) fun i j=>.int (i.fmod j)
def gE:R3:=fu l4 fun i j=>.int (i.fdiv j)
def qq:R3:=fu zn fun i j=>.int (i ^ j.toNat)
def pL:R3:=dA fun i j=>.bl (decide (i < j))
def Ed:R3:=dA fun i j=>.bl (decide (i≤j))
def tj:R3:=dA fun i j=>.bl (decide (j < i))
def Ap:R3:=dA fun i j=>.bl (decide (j≤i))
section
variable {X:Cx}
theorem dE:iV X (binaryOp .Sub) bY:=zZ
theorem fh:iV X (binaryOp .Mod) fx:=z_
theorem i7:iV X (binaryOp .FloorDiv) gE:=xA
theorem yK:iV X (binaryOp .Pow) qq:=Aa
theorem m7:iV X (compareOp .Lt) pL:=Cg
theorem tm:iV X (compareOp .Gt) tj:=Ch
theorem Cu:iV X (compareOp .GtE) Ap:=Ci
end
theorem xO{A:Around}{k:Nat}(hr:Room k A):A.units+1 < cLine:=by have:=hr.un;omega
theorem mf{A:Around}{k:Nat}(hr:Room k A):A.units+150 < cLine:=by have:=hr.un;omega
theorem mh{A:Around}{k:Nat}(hr:Room k A):A.units+160 < cLine:=by have:=hr.un;omega
structure Dp (K:PySem.W.Frag) (mg:Str→Option Value) (x:Str) (st:Stmt) (ps:List Str) (f:Addr) (fd:FuncData):Prop where
 F:Kd K x x st f fd
 b:Binds K fd ps []
 k:PySem.W.keepIn K (.ref f)=true
 m:mg x=some (.ref f)
theorem KG.zero{P:Program}{w:World}{K:PySem.W.Frag}{mg:Str→Option Value}{base:Heap}{k:Nat}{f:Addr}{fd:FuncData}{ps:List Str}{sp:aw}(h:sp=fun _ _ _ _=>False):KG P w K mg base k f fd ps sp:=by
 subst h
 exact⟨⟨fun vs H Q E q=>q.1,fun A outer s H args us vs Q E _ _ _ _ ⟨_,_,_,_,_,_,_,q,_⟩=>q.elim⟩⟩
theorem Ee{K:PySem.W.Frag}{H:Hp}{a:Addr}{ns:List Int}{sp:aw}(hO:wZ H)(hS:SqL K H a (ns.map V.int))(h:sp [.cl (ns.map PV.int)] (fun _=>none) (fun v _=>v = .bl true) gD):Ct K 1 sp [.ref a] H (fun v _=>v = .bl true) fun _ _ _=>False:=by
 have hr:∀l:List Int,Reps K H (l.map V.int) (l.map PV.int):=by
  intro l
  induction l with
  |nil=>exact .nil
  |cons x r ih=>exact .cons (.int x) ih
 refine⟨rfl,[.cl (ns.map PV.int)],fun _=>none,_,gD,.cons (.cl (vs:=ns.map V.int) ?_ (hr ns)) .nil,(fun b o e=>by simp at e),h,fun p S' v H' q rv rS g=>?_⟩
 ·rcases hS with(q|q)|q
  ·rcases hO a with z|⟨o,xs,z⟩
   ·rw[z]at q;cases q
   ·rw[z]at q;cases q
  ·exact .inl q
  ·exact .inr q
 ·subst q
  cases rv
  rfl
end L3
namespace L2
open PySem PySem.Spec PyProof.Rows
section
variable {X:Cx}
end
end L2
namespace HT
open PySem PySem.Spec PyProof.Rows
section
variable {prog:Program} {w:World} {A:Around} {E:Value→Shared→Prop} {s:Shared}
end
end HT
namespace L2
open PySem PySem.Spec PyProof.Rows
section
variable {X:Cx} {e st:Expr} {te ts:TE} {p2 pos:Pos}
end
end L2
namespace L3
open PySem L2
section
variable {X:Cx} {e st:Expr} {te ts:aJ} {p2 pos:Pos}
noncomputable def gL:List PV→Option (List Int)
 |[]=>some []
 | .int i::r=>(gL r).map (i::·)
 |_::_=>none
theorem oF:∀ns:List Int,gL (ns.map PV.int)=some ns
 |[]=>rfl
 |n::ns=>by rw[List.map_cons];unfold gL;rw[oF ns];rfl
theorem mi{K:PySem.W.Frag}{H:Hp}:∀{vs:List V} {ps:List PV} {ns:List Int},Reps K H vs ps→gL ps=some ns→vs=ns.map V.int
 |_,_,_,.nil,h=>by cases h;rfl
 |_,_,ns,.cons (p:=p) a r,h=>by
  cases p with
  |int b=>
   cases a
   unfold gL at h
   cases e:gL _ with
   |none=>rw[e]at h;cases h
   |some l=>rw[e]at h;cases h;rw[mi r e];rfl
  |_=>cases h
def Aq(te ts:aJ):aJ:=fun σ S Q E=>te σ S (fun x S1=>ts σ S1 (fun y S2=>match x,y with | .tup xs,.int i=>i = -1∧Q (.tup xs.reverse) S2|_,_=>False) E) E
end
end L3
namespace L2
open PySem PySem.Spec PyProof.Rows
section
variable {X:Cx}
end
end L2
namespace L3
open PySem L2
section
variable {X:Cx} {a b c:Expr} {ta tb tc:aJ} {pos:Pos}
end
end L3
namespace L2
open PySem PySem.Spec PyProof.Rows PySem.AutoSeq1
section
variable {X:Cx}
end
end L2
namespace L3
open PySem L2
section
variable {X:Cx}
end
end L3
namespace C
open PySem L2 L3
noncomputable def k_SIDES_FROM:List (bg×Int):=[(Sum.inr "then",1),(Sum.inr "either",1),(Sum.inr "take",3),(Sum.inr "often",1)]
def fy:bh:=(ai (aC 3 (bz (bO (bv (v3 0) (l5 (v3 1)) (l5 (c3 (.int 63))))) (.n 0) di (aA ig [(v3 0),(ah bY (c3 (.int 0)) (v3 0))]) 1 []))
  (ai (aC 4 (ah aS (c3 (.int 7919)) (v3 1)))
  (ai (dh (bO (v3 3)) (.n 2) (aC 4 (ah fx (ah aS (ah df (v3 4) (c3 (.int 48271))) (ah fx (v3 2) (c3 (.int 2147483629)))) (c3 (.int 2147483647)))))
  (aF (oC [((c3 (.str "seed")),(v3 4)),((c3 (.str "number")),(c3 (.int 0))),((c3 (.str "left")),(oE (bz (bO (v3 3)) (.n 0) (aO (ah Ap (v3 0) (ah qq (c3 (.int 10)) (c3 (.int 18))))) (v3 0) 1 [])))])))))
def fz:bh:=(ai (iY (jW (aO (ah (bt false) (ah af (v3 0) (c3 (.str "number"))) (c3 (.int 0)))) (aO (ah tj (aA dB [(ah af (v3 0) (c3 (.str "left")))]) (c3 (.int 0))))) (lB (l7 "list" sX (ah af (v3 0) (c3 (.str "left"))) []) (v3 0) (c3 (.str "number"))))
  (ai (aC 2 (ah af (v3 0) (c3 (.str "number"))))
  (ai (bA (aO (ah tj (v3 2) (c3 (.int 0)))) (ai (lB (ah gE (v3 2) (v3 1)) (v3 0) (c3 (.str "number")))
  (aF (ah fx (v3 2) (v3 1)))) aW)
  (ai (aC 3 (ah fx (ah aS (ah df (ah af (v3 0) (c3 (.str "seed"))) (c3 (.int 48271))) (c3 (.int 7919))) (c3 (.int 2147483647))))
  (ai (lB (ah fx (ah aS (ah df (v3 3) (c3 (.int 40692))) (c3 (.int 104729))) (c3 (.int 2147483399))) (v3 0) (c3 (.str "seed")))
  (ai (aC 4 (ah fx (ah df (ah af (v3 0) (c3 (.str "seed"))) (ah af (v3 0) (c3 (.str "seed")))) (c3 (.int 2147483563))))
  (aF (ah fx (ah aS (ah df (ah fx (ah df (v3 3) (v3 3)) (c3 (.int 2147483629))) (c3 (.int 2147483563))) (v3 4)) (v3 1)))))))))
def gM:bh:=(ai (sY 2 3 (aA ig [(v3 0),(ah bY (c3 (.int 0)) (v3 0))]) (v3 1))
  (ai (iY (aO (ah tj (v3 3) (c3 (.int 0)))) (sY 2 3 (v3 3) (ah fx (v3 2) (v3 3))))
  (aF (aI [(ah gE (v3 0) (v3 2)),(ah gE (v3 1) (v3 2))]))))
def eA(FD:aw):bh:=(ai (aC 2 (c3 (.str "abcdefghijklmnopqrstuvwxyz")))
  (ai (aC 3 (c_ [(c3 (.str "jars")),(c3 (.str "deed")),(c3 (.str "rest")),(c3 (.str "pay")),(c3 (.str "put")),(c3 (.str "then")),(c3 (.str "either")),(c3 (.str "take")),(c3 (.str "often")),(c3 (.str "use"))]))
  (ai (aC 5 (l7 "str" l8 (c3 (.str "")) [(bz (fk (ae FD [(v3 0),(c3 (.int 6))])) (.n 0) di (ah af (v3 2) (ae FD [(v3 1),(c3 (.int 26))])) 1 [0,2])]))
  (ai (kD 6 7 8 (aI [(ae FD [(v3 0),(ah aS (aA dB [(v3 5)]) (c3 (.int 1)))]),(ae FD [(v3 0),(c3 (.int 26))]),(ah (bt false) (ae FD [(v3 0),(c3 (.int 2))]) (c3 (.int 0)))]))
  (ai (aC 9 (c_ []))
  (ai (dh (fk (v3 1)) (.n 4) (ai (aC 10 (ah aS (ah aS (bv (v3 5) nT (l5 (v3 6))) (ah af (v3 2) (ah fx (ah aS (v3 7) (v3 4)) (c3 (.int 26))))) (bv (v3 5) (l5 (v3 6)) nT)))
  (ai (bA (mR (aO (v3 8))) (aC 10 (l7 "str" l8 (c3 (.str "")) [(bz (fk (ah aS (c3 (.int 1)) (ae FD [(v3 0),(c3 (.int 6))]))) (.n 0) di (ah af (v3 2) (ae FD [(v3 1),(c3 (.int 26))])) 1 [0,2])])) aW)
  (ai (iY (oq (aO (ah (pJ false) (v3 10) (v3 3))) (aO (ah (pJ false) (v3 10) (v3 9)))) (aC 10 (ah aS (ah af (v3 2) (ah fx (ah aS (l7 "str" iW (v3 2) [(ah af (v3 10) (c3 (.int 0)))]) (c3 (.int 1))) (c3 (.int 26)))) (bv (v3 10) (l5 (c3 (.int 1))) nT))))
  (aD (l7 "list" cC (v3 9) [(v3 10)]))))))
  (aF (v3 9))))))))
def fA(FD JB:aw):bh:=(ai (aC 1 (ae FD [(v3 0),(c3 (.int 4))]))
  (ai (bA (aO (ah (bt false) (v3 1) (c3 (.int 0)))) (aF (aI [(c3 (.int 0)),(c3 (.int 1))])) aW)
  (ai (bA (aO (ah pL (v3 1) (c3 (.int 3)))) (aF (aI [(ah aS (c3 (.int 1)) (ae FD [(v3 0),(c3 (.int 5))])),(c3 (.int 1))])) aW)
  (aF (ae JB [(ae FD [(v3 0),(c3 (.int 1000))]),(ah aS (c3 (.int 1)) (ae FD [(v3 0),(c3 (.int 9))]))])))))
def fB(FD Js:aw):bh:=(ai (aC 2 (ae FD [(v3 0),(c3 (.int 7))]))
  (ai (bA (aO (ah (bt false) (v3 2) (c3 (.int 0)))) (aF (aI [(c3 (.str "rest"))])) aW)
  (ai (bA (oq (aO (ah pL (v3 2) (c3 (.int 4)))) (aO (ah (bt false) (aA dB [(v3 1)]) (c3 (.int 0))))) (aF (aI [(c3 (.str "pay")),(ae Js [(v3 0)])])) aW)
  (ai (aC 3 (ah af (c_ [(c3 (.int 1)),(c3 (.int 2)),(ah aS (c3 (.int 1)) (ae FD [(v3 0),(c3 (.int 9))]))]) (ae FD [(v3 0),(c3 (.int 3))])))
  (aF (aI [(c3 (.str "put")),(ah af (v3 1) (ae FD [(v3 0),(aA dB [(v3 1)])])),(v3 3)]))))))
def fD(FD GK s0:aw):bh:=(ai (aC 4 (ae FD [(v3 0),(c3 (.int 12))]))
  (ai (bA (oq (aO (ah (bt false) (v3 3) (c3 (.int 0)))) (oq (aO (ah pL (ah af (v3 2) (c3 (.int 0))) (c3 (.int 2)))) (aO (ah pL (v3 4) (c3 (.int 3)))))) (aF (ae GK [(v3 0),(v3 1)])) aW)
  (ai (bA (aO (ah pL (v3 4) (c3 (.int 5)))) (ai (lB (ah bY (ah af (v3 2) (c3 (.int 0))) (c3 (.int 1))) (v3 2) (c3 (.int 0)))
  (aF (aI [(c3 (.str "often")),(ae s0 [(v3 0),(v3 1),(v3 2),(ah bY (v3 3) (c3 (.int 1)))])]))) aW)
  (ai (lB (ah bY (ah af (v3 2) (c3 (.int 0))) (c3 (.int 2))) (v3 2) (c3 (.int 0)))
  (ai (aC 5 (ae s0 [(v3 0),(v3 1),(v3 2),(ah bY (v3 3) (c3 (.int 1)))]))
  (ai (aC 6 (ae s0 [(v3 0),(v3 1),(v3 2),(ah bY (v3 3) (c3 (.int 1)))]))
  (ai (bA (aO (ah pL (v3 4) (c3 (.int 8)))) (aF (aI [(c3 (.str "then")),(v3 5),(v3 6)])) aW)
  (ai (bA (oq (aO (ah (bt false) (v3 4) (c3 (.int 8)))) (aO (ah (bt false) (aA dB [(v3 1)]) (c3 (.int 0))))) (aF (aI [(c3 (.str "either")),(v3 5),(v3 6)])) aW)
  (ai (aC 7 (ah af (c_ [(c3 (.int 1)),(c3 (.int 1)),(c3 (.int 2)),(ah aS (c3 (.int 1)) (ae FD [(v3 0),(c3 (.int 9))]))]) (ae FD [(v3 0),(c3 (.int 4))])))
  (aF (aI [(c3 (.str "take")),(ah af (v3 1) (ae FD [(v3 0),(aA dB [(v3 1)])])),(v3 7),(v3 5),(v3 6)])))))))))))
def b8(s0:aw):bh:=(ai (bA (aO (ah (bt false) (ah af (v3 0) (c3 (.int 0))) (c3 (.str "then")))) (aF (ah df (ae s0 [(ah af (v3 0) (c3 (.int 1)))]) (ae s0 [(ah af (v3 0) (c3 (.int 2)))]))) aW)
  (ai (bA (oq (aO (ah (bt false) (ah af (v3 0) (c3 (.int 0))) (c3 (.str "either")))) (aO (ah (bt false) (ah af (v3 0) (c3 (.int 0))) (c3 (.str "take"))))) (aF (ah aS (ae s0 [(ah af (v3 0) (lZ dY (c3 (.int 2))))]) (ae s0 [(ah af (v3 0) (lZ dY (c3 (.int 1))))]))) aW)
  (aF (c3 (.int 1)))))
def bW(F_ s0:aw):bh:=(ai (bA (aO (ah (bt false) (ah af (v3 0) (c3 (.int 0))) (c3 (.str "often")))) (aF (ah aS (ae F_ [(ah af (v3 0) (c3 (.int 1)))]) (ae s0 [(ah af (v3 0) (c3 (.int 1)))]))) aW)
  (ai (bA (aO (ah (pJ false) (ah af (v3 0) (c3 (.int 0))) (aI [(c3 (.str "then")),(c3 (.str "either")),(c3 (.str "take"))]))) (aF (ah aS (ae s0 [(ah af (v3 0) (lZ dY (c3 (.int 2))))]) (ae s0 [(ah af (v3 0) (lZ dY (c3 (.int 1))))]))) aW)
  (aF (c3 (.int 0)))))
def ci(Hj F_ HC GK:aw):bh:=(ai (aC 4 (ae Hj [(v3 0),(v3 1),(c_ [(ah bY (v3 2) (c3 (.int 1)))]),(c3 (.int 5))]))
  (ai (bA (aO (ah tj (ah aS (ae F_ [(v3 4)]) (ae HC [(v3 4)])) (v3 3))) (aC 4 (aI [(c3 (.str "then")),(aI [(c3 (.str "often")),(ae GK [(v3 0),(v3 1)])]),(ae GK [(v3 0),(v3 1)])])) aW)
  (aF (v3 4))))
def eB(G_ FD HV:aw):bh:=(ai (aC 4 (ae G_ [(v3 0),(c3 (.int 8))]))
  (ai (aC 5 (aA a_ [(bv (v3 4) nT (l5 (ae FD [(v3 0),(ah aS (v3 1) (c3 (.int 1)))])))]))
  (ai (aC 6 (ah af (c_ [(c3 (.int 0)),(c3 (.int 4))]) (ae FD [(v3 0),(c3 (.int 2))])))
  (ai (aC 7 (ah aS (c3 (.int 1)) (ae FD [(v3 0),(v3 2)])))
  (ai (aC 8 (bz (fk (v3 7)) (.n 0) di (aI [(ah af (v3 6) (ah aS (v3 2) (v3 0))),(ae HV [(v3 1),(v3 3),(v3 5),(ah gE (c3 (.int 24)) (v3 4))])]) 1 [0,6,5,7,3,4]))
  (aF (aI [(v3 5),(aA a_ [(v3 8)])])))))))
def gN:bh:=(aF (bv (v3 0) (l5 (rH C.k_SIDES_FROM (ah af (v3 0) (c3 (.int 0))) (aA dB [(v3 0)]))) nT))
def gP(JC s0:aw):bh:=(ai (aC 1 (c_ [(v3 0)]))
  (ai (dh (bO (ae JC [(v3 0)])) (.n 2) (aD (l7 "list" dD (v3 1) [(ae s0 [(v3 2)])])))
  (aF (v3 1))))
def kH:bh:=(ai (iY (aO (ah (bt true) (v3 1) (c3 (.int 0)))) (ai (aC 2 (ah fx (v3 0) (v3 1)))
  (ai (aC 0 (v3 1))
  (aC 1 (v3 2)))))
  (aF (aA sW [(v3 0)])))
def gQ(Kk:aw):bh:=(ai (aC 2 (ae Kk [(v3 0),(v3 1)]))
  (ai (bA (aO (ah pL (v3 1) (c3 (.int 0)))) (aC 2 (lZ dY (v3 2))) aW)
  (aF (aI [(ah gE (v3 0) (v3 2)),(ah gE (v3 1) (v3 2))]))))
def qr(HD:aw):bh:=(aF (ae HD [(ah aS (ah df (ah af (v3 0) (c3 (.int 0))) (ah af (v3 1) (c3 (.int 1)))) (ah df (ah af (v3 1) (c3 (.int 0))) (ah af (v3 0) (c3 (.int 1))))),(ah df (ah af (v3 0) (c3 (.int 1))) (ah af (v3 1) (c3 (.int 1))))]))
def m8(HD:aw):bh:=(aF (ae HD [(ah df (ah af (v3 0) (c3 (.int 0))) (ah af (v3 1) (c3 (.int 0)))),(ah df (ah af (v3 0) (c3 (.int 1))) (ah af (v3 1) (c3 (.int 1))))]))
def kI:bh:=(aF (ah af (v3 0) (ah aS (lZ dY (c3 (.int 2))) (ah af (v3 1) (c3 (.int 0))))))
def fE:bh:=(aF (aA a_ [(bz (bO (v3 0)) (.n 0) di (lz (aO (ah (bt false) (v3 0) (v3 1))) (v3 2) (c3 (.int 0))) 1 [1,2])]))
def m9:bh:=(aF (aA a_ [(bz (qo (v3 0) (v3 1)) (.tp (.cons (.n 0) (.cons (.n 1) .nil))) di (ah aS (v3 0) (v3 1)) 2 [])]))
def eC:bh:=(aF (aA a_ [(bz (bO (v3 0)) (.n 0) di (ah df (v3 0) (v3 1)) 1 [1])]))
def m_(I9 KH:aw):bh:=(ai (aC 2 (bz (qo (ah af (v3 0) (c3 (.int 1))) (ah af (v3 0) (c3 (.int 2)))) (.tp (.cons (.n 0) (.cons (.n 1) .nil))) di (ah aS (v3 1) (aA ig [(c3 (.int 0)),(ah df (lZ dY (v3 0)) (ah bY (v3 2) (c3 (.int 1))))])) 2 [1]))
  (aF (aI [(ae KH [(ah af (v3 0) (c3 (.int 0))),(aI [(v3 1),(c3 (.int 1))])]),(ae I9 [(ah af (v3 0) (c3 (.int 1))),(v3 1)]),(aA a_ [(v3 2)])])))
def cJ(F8:aw):bh:=(aF (aI [(aI [(c3 (.int 0)),(c3 (.int 1))]),(ae F8 [(v3 0),(ah af (v3 1) (c3 (.int 1))),(lZ dY (ah af (v3 1) (c3 (.int 2))))]),(ae F8 [(v3 0),(ah af (v3 1) (c3 (.int 1))),(ah af (v3 1) (c3 (.int 2)))])]))
def i8:bh:=(aF (ah (pJ true) (ah af (v3 0) (c3 (.int 0))) (aI [(c3 (.str "rest")),(c3 (.str "then"))])))
def i9(JD J5:aw):bh:=(aF (aA dB [(bz (bO (ae JD [(v3 0)])) (.n 0) (aO (ae J5 [(v3 0)])) (v3 0) 1 [])]))
def eE(FD s0:aw):bh:=(ai (bA (aO (ah (bt false) (ah af (v3 1) (c3 (.int 0))) (c3 (.str "then")))) (ai (aC 3 (ae s0 [(v3 0),(ah af (v3 1) (c3 (.int 1))),(v3 2)]))
  (aF (aI [(v3 3),(ae s0 [(v3 0),(ah af (v3 1) (c3 (.int 2))),(v3 2)])]))) aW)
  (ai (bA (oq (aO (ah (bt false) (ah af (v3 1) (c3 (.int 0))) (c3 (.str "either")))) (aO (ah (bt false) (ah af (v3 1) (c3 (.int 0))) (c3 (.str "take"))))) (ai (aC 4 (ae FD [(v3 0),(c3 (.int 2))]))
  (aF (aI [(v3 4),(ae s0 [(v3 0),(ah af (v3 1) (ah bY (v3 4) (c3 (.int 2)))),(v3 2)])]))) aW)
  (ai (aC 5 (c_ []))
  (ai (dh (fk (ah df (ae FD [(v3 0),(c3 (.int 3))]) (aA kA [(ah (bt false) (ah af (v3 1) (c3 (.int 0))) (c3 (.str "often")))]))) (.n 6) (bA (aO (ah tj (ah af (v3 2) (c3 (.int 0))) (c3 (.int 0)))) (ai (lB (ah bY (ah af (v3 2) (c3 (.int 0))) (c3 (.int 1))) (v3 2) (c3 (.int 0)))
  (aD (l7 "list" cC (v3 5) [(aI [(ah aS (c3 (.int 1)) (ae FD [(v3 0),(c3 (.int 3))])),(ae s0 [(v3 0),(ah af (v3 1) (c3 (.int 1))),(v3 2)])])]))) aW))
  (aF (aA a_ [(v3 5)]))))))
end C
namespace Zu
open PySem
open Sem (wp)
theorem nn{a b:Nat}(h:a≠b):@Ne Addr a b:=h
abbrev bP(h:Heap)(T:Nat)(a b c:Value):Prop:=h.get? T=some { cls:=.type "tuple",data:=.seq #[a,b,c] }
section
variable {prog:Program} {w:World} {A:Around} {E:Value→Shared→Prop} {s:Shared}
theorem ng{T:Addr}{a b c x:Value}{k:Nat}{Q:Unit→Shared→Prop}(hT:bP s.heap T a b c)
  (h:∀h',h'.get? T=some { cls:=.type "tuple",data:=.seq ((#[a,b,c]:Array Value).setIfInBounds k x) }→Heap.SameBut T s.heap h'→Q () { s with heap:=h' }) :
  wpAny (model prog w) A (updateSeq T (·.setIfInBounds k x)) Q E s:=by
 refine wpAny_updateSeq hT rfl (h _ ?_ (Heap.SameBut.update ..))
 rw[Heap.get?_update_self _ hT rfl]
 simp[Obj.mapSeq]
variable {n l1 l2 l3:Nat} {i:Nat} {xs ys zs:Array Value} {x y z a b c:Value}
theorem mM{Q:Value→Shared→Prop}(d1:l1 < n)(d2:l2 < n)(d3:l3 < n)(gz:IsZip s.heap (n+5) (n+3) (n+4) .none)(gI:bP s.heap (n+3) (.ref n) (.ref (n+1)) (.ref (n+2)))(gO:bP s.heap (n+4) a b c)
  (g1:s.heap.IsTupleIter n l1 i) (g2:s.heap.IsTupleIter (n+1) l2 i) (g3:s.heap.IsTupleIter (n+2) l3 i) (t1:s.heap.IsTuple l1 xs) (t2:s.heap.IsTuple l2 ys) (t3:s.heap.IsTuple l3 zs) (hx:xs[i]?=some x) (hy:ys[i]?=some y) (hz:zs[i]?=some z)
  (k:∀g,IsZip g (n+5) (n+3) (n+4) (rawInt s.heap.objs.size)→bP g (n+4) x y z→g.IsTupleIter n l1 (i+1)→g.IsTupleIter (n+1) l2 (i+1)→g.IsTupleIter (n+2) l3 (i+1)→bP g s.heap.objs.size x y z→
   (∀c o,c≠n+5→c≠n+4→c≠n→c≠n+1→c≠n+2→s.heap.get? c=some o→g.get? c=some o)→Q (.ref s.heap.objs.size) { s with heap:=g }) :
  wpAny (model prog w) A (Builtin.«zip.__next__» ⟨[.ref (n+5)],[]⟩) (fun fin s'=>∃v,fin = .done (.ret v)∧Q v s') E s:=by
 show wpAny _ _ (field (.ref (n+5)) 2 >>= _) _ _ _;refine wpAny_bind (wpAny_field gz rfl (x:=.bool false) rfl ?_)
 show wpAny _ _ (field (.ref (n+5)) 3 >>= _) _ _ _;refine wpAny_bind (wpAny_field gz rfl (x:=.ref (n+3)) rfl (wpAny_bind (wpAny_seqItems gI rfl ?_)))
 show wpAny _ _ (Builtin.SmallTypes.ownedTupleIsFree (.ref (n+5)) >>= _) _ _ _;refine wpAny_bind ?_;unfold Builtin.SmallTypes.ownedTupleIsFree
 refine wpAny_bind (wpAny_field gz rfl (x:=.none) rfl (wpAny_pure ?_));simp only[if_true]
 refine wpAny_bind (wpAny_rule (wpAny_bind (wpAny_field gz rfl (x:=.ref (n+4)) rfl (wpAny_bind (wpAny_setField_rec gz (by simp) fun h₁ z1 q1=>?_)))))
 replace z1:IsZip h₁ (n+5) (n+3) (n+4) .ellipsis:=z1
 refine wpAny_bind ?_;simp only[List.zipIdx_cons,List.zipIdx_nil,List.forIn_cons,List.forIn_nil]
 refine wpAny_bind (wpAny_bind (wpAny_onRaise ?_));show wpAny _ _ (Builtin.SmallTypes.nextOf (.ref n) >>= _) _ _ _
 refine wpAny_bind (Zt.nx (g1.extBut q1.extBut (nn (by omega))) (t1.extBut q1.extBut (nn (by omega))) hx fun h₂ n1 q2=>wpAny_pure ?_)
 have o2:bP h₂ (n+4) a b c:=q2.extBut _ _ (nn (by omega)) (q1.extBut _ _ (nn (by omega)) gO)
 refine wpAny_bind (wpAny_seqItems o2 rfl (wpAny_bind (ng o2 fun h₃ o3 q3=>?_)))
 replace o3:bP h₃ (n+4) x b c:=o3
 refine wpAny_bind (wpAny_letGo (wpAny_pure ?_));refine wpAny_bind (wpAny_bind (wpAny_onRaise ?_));show wpAny _ _ (Builtin.SmallTypes.nextOf (.ref (n+1)) >>= _) _ _ _
 refine wpAny_bind (Zt.nx (((g2.extBut q1.extBut (nn (by omega))).extBut q2.extBut (nn (by omega))).extBut q3.extBut (nn (by omega))) (((t2.extBut q1.extBut (nn (by omega))).extBut q2.extBut (nn (by omega))).extBut q3.extBut (nn (by omega))) hy fun h₄ n2 q4=>wpAny_pure ?_)
 have o4:bP h₄ (n+4) x b c:=q4.extBut _ _ (nn (by omega)) o3
 refine wpAny_bind (wpAny_seqItems o4 rfl (wpAny_bind (ng o4 fun h₅ o5 q5=>?_)))
 replace o5:bP h₅ (n+4) x y c:=o5
 refine wpAny_bind (wpAny_letGo (wpAny_pure ?_));refine wpAny_bind (wpAny_bind (wpAny_onRaise ?_));show wpAny _ _ (Builtin.SmallTypes.nextOf (.ref (n+2)) >>= _) _ _ _
 refine wpAny_bind (Zt.nx (((((g3.extBut q1.extBut (nn (by omega))).extBut q2.extBut (nn (by omega))).extBut q3.extBut (nn (by omega))).extBut q4.extBut (nn (by omega))).extBut q5.extBut (nn (by omega))) (((((t3.extBut q1.extBut (nn (by omega))).extBut q2.extBut (nn (by omega))).extBut q3.extBut (nn (by omega))).extBut q4.extBut (nn (by omega))).extBut q5.extBut (nn (by omega))) hz fun h₆ n3 q6=>wpAny_pure ?_)
 have o6:bP h₆ (n+4) x y c:=q6.extBut _ _ (nn (by omega)) o5
 refine wpAny_bind (wpAny_seqItems o6 rfl (wpAny_bind (ng o6 fun h₇ o7 q7=>?_)))
 replace o7:bP h₇ (n+4) x y z:=o7
 refine wpAny_bind (wpAny_letGo (wpAny_pure (wpAny_pure ?_)));refine wpAny_bind (wpAny_seqItems o7 rfl (wpAny_bind (wpAny_newTuple ?_)))
 have sz:h₇.objs.size=s.heap.objs.size:=by rw[q7.1,q6.1,q5.1,q4.1,q3.1,q2.1,q1.1]
 have kk:∀c o,c≠n+5→c≠n+4→c≠n→c≠n+1→c≠n+2→s.heap.get? c=some o→h₇.get? c=some o:=fun c o c1 c2 c3 c4 c5 e=>q7.extBut _ _ c2 (q6.extBut _ _ c5 (q5.extBut _ _ c2 (q4.extBut _ _ c4 (q3.extBut _ _ c2 (q2.extBut _ _ c3 (q1.extBut _ _ c1 e))))))
 have z7:IsZip h₇ (n+5) (n+3) (n+4) .ellipsis:=q7.extBut _ _ (nn (by omega)) (q6.extBut _ _ (nn (by omega)) (q5.extBut _ _ (nn (by omega)) (q4.extBut _ _ (nn (by omega)) (q3.extBut _ _ (nn (by omega)) (q2.extBut _ _ (nn (by omega)) z1)))))
 have m1:h₇.IsTupleIter n l1 (i+1):=((((n1.extBut q3.extBut (nn (by omega))).extBut q4.extBut (nn (by omega))).extBut q5.extBut (nn (by omega))).extBut q6.extBut (nn (by omega))).extBut q7.extBut (nn (by omega))
 have m2:h₇.IsTupleIter (n+1) l2 (i+1):=((n2.extBut q5.extBut (nn (by omega))).extBut q6.extBut (nn (by omega))).extBut q7.extBut (nn (by omega))
 have m3:h₇.IsTupleIter (n+2) l3 (i+1):=n3.extBut q7.extBut (nn (by omega))
 have zl:n+5 < h₇.objs.size:=Heap.lt_size z7
 show wpAny _ _ (Builtin.SmallTypes.ownedTupleHandOut (.ref (n+5)) (.ref h₇.objs.size) >>= _) _ _ _;refine wpAny_bind ?_;unfold Builtin.SmallTypes.ownedTupleHandOut
 have z8:IsZip (h₇.push { cls:=.type "tuple",data:=.seq #[x,y,z] }) (n+5) (n+3) (n+4) .ellipsis:=Heap.get?_push_of_some _ z7
 refine wpAny_bind (wpAny_setField_rec z8 (by simp) fun h₉ z9 q9=>?_)
 replace z9:IsZip h₉ (n+5) (n+3) (n+4) (rawInt h₇.objs.size):=z9
 refine wpAny_setField_rec z9 (by simp) fun g za qa=>?_
 replace za:IsZip g (n+5) (n+3) (n+4) (rawInt h₇.objs.size):=za
 have up:∀c o,c≠n+5→h₇.get? c=some o→g.get? c=some o:=fun c o c1 e=>qa.extBut _ _ c1 (q9.extBut _ _ c1 (Heap.get?_push_of_some _ e))
 have T8:bP g h₇.objs.size x y z:=qa.extBut _ _ (Nat.ne_of_gt zl) (q9.extBut _ _ (Nat.ne_of_gt zl) (Heap.get?_push_size _ rfl))
 rw[sz]at za T8
 refine wpAny_pure ⟨_,rfl,?_⟩
 show Q (.ref h₇.objs.size) _
 rw[sz]
 exact k g za (up _ _ (nn (by omega)) o7) (m1.at fun o e=>up _ o (nn (by omega)) e) (m2.at fun o e=>up _ o (nn (by omega)) e) (m3.at fun o e=>up _ o (nn (by omega)) e) T8 fun c o c1 c2 c3 c4 c5 e=>up c o c1 (kk c o c1 c2 c3 c4 c5 e)
theorem p_{Q:Fin→Shared→Prop}(hh:A.handled=none)(d1:l1 < n)(gz:IsZip s.heap (n+5) (n+3) (n+4) .none)(gI:bP s.heap (n+3) (.ref n) (.ref (n+1)) (.ref (n+2)))
  (g1:s.heap.IsTupleIter n l1 i) (t1:s.heap.IsTuple l1 xs) (hx:xs[i]?=none)
  (k:∀(g:Heap) (e:Addr),(∀c o,c≠n+5→c≠n+4→c≠n→c≠n+1→c≠n+2→s.heap.get? c=some o→g.get? c=some o)→(∃o,g.get? e=some o∧o.cls = .type "StopIteration")→E (.ref e) { s with heap:=g }) :
  wpAny (model prog w) A (Builtin.«zip.__next__» ⟨[.ref (n+5)],[]⟩) Q E s:=by
 show wpAny _ _ (field (.ref (n+5)) 2 >>= _) _ _ _;refine wpAny_bind (wpAny_field gz rfl (x:=.bool false) rfl ?_)
 show wpAny _ _ (field (.ref (n+5)) 3 >>= _) _ _ _;refine wpAny_bind (wpAny_field gz rfl (x:=.ref (n+3)) rfl (wpAny_bind (wpAny_seqItems gI rfl ?_)))
 show wpAny _ _ (Builtin.SmallTypes.ownedTupleIsFree (.ref (n+5)) >>= _) _ _ _;refine wpAny_bind ?_;unfold Builtin.SmallTypes.ownedTupleIsFree
 refine wpAny_bind (wpAny_field gz rfl (x:=.none) rfl (wpAny_pure ?_));simp only[if_true]
 refine wpAny_bind (wpAny_rule (wpAny_bind (wpAny_field gz rfl (x:=.ref (n+4)) rfl (wpAny_bind (wpAny_setField_rec gz (by simp) fun h₁ z1 q1=>?_)))))
 replace z1:IsZip h₁ (n+5) (n+3) (n+4) .ellipsis:=z1
 refine wpAny_bind ?_;simp only[List.zipIdx_cons,List.zipIdx_nil,List.forIn_cons,List.forIn_nil]
 refine wpAny_bind (wpAny_bind (wpAny_onRaise ?_));show wpAny _ _ (Builtin.SmallTypes.nextOf (.ref n) >>= _) _ _ _
 refine wpAny_bind (Zt.DW hh (g1.extBut q1.extBut (nn (by omega))) (t1.extBut q1.extBut (nn (by omega))) hx fun h₂ e q2 ⟨oe,ge,ce⟩=>?_)
 have z2:IsZip h₂ (n+5) (n+3) (n+4) .ellipsis:=q2 _ _ (nn (by omega)) z1
 have ez:e≠n+5:=fun u=>by subst u;rw[z2]at ge;cases ge;simp at ce
 exact wpAny_setField_rec z2 (by simp) fun h₃ _ q3=>k h₃ e (fun c o c1 _ c3 _ _ u=>q3.extBut _ _ c1 (q2 _ _ c3 (q1.extBut _ _ c1 u))) ⟨oe,q3.extBut _ _ ez ge,ce⟩
theorem iS{Q:Option Value→Shared→Prop}(d1:l1 < n)(d2:l2 < n)(d3:l3 < n)(gz:IsZip s.heap (n+5) (n+3) (n+4) .none)(gI:bP s.heap (n+3) (.ref n) (.ref (n+1)) (.ref (n+2)))(gO:bP s.heap (n+4) a b c)
  (g1:s.heap.IsTupleIter n l1 i) (g2:s.heap.IsTupleIter (n+1) l2 i) (g3:s.heap.IsTupleIter (n+2) l3 i) (t1:s.heap.IsTuple l1 xs) (t2:s.heap.IsTuple l2 ys) (t3:s.heap.IsTuple l3 zs) (hx:xs[i]?=some x) (hy:ys[i]?=some y) (hz:zs[i]?=some z)
  (k:∀g,IsZip g (n+5) (n+3) (n+4) (rawInt s.heap.objs.size)→bP g (n+4) x y z→g.IsTupleIter n l1 (i+1)→g.IsTupleIter (n+1) l2 (i+1)→g.IsTupleIter (n+2) l3 (i+1)→bP g s.heap.objs.size x y z→
   (∀c o,c≠n+5→c≠n+4→c≠n→c≠n+1→c≠n+2→s.heap.get? c=some o→g.get? c=some o)→Q (some (.ref s.heap.objs.size)) { s with heap:=g }):wpAny (model prog w) A (pyNext (.ref (n+5))) Q E s:=by
 have ty:s.TypeIs (.ref (n+5)) "zip":=⟨_,gz,rfl⟩
 unfold pyNext
 exact wpAny_bind (wpAny_attempt (wpAny_callSpecial?_slot (name:=Str.ofString "__next__") ty F.slot_zip_next (wpAny_call_entry F.slot_zip_next ty F.entry_zip_next
  (mM d1 d2 d3 gz gI gO g1 g2 g3 t1 t2 t3 hx hy hz fun g a1 a2 a3 a4 a5 a6 a7=>wpAny_pure (k g a1 a2 a3 a4 a5 a6 a7)) (F.args_zip_next_1 _))))
theorem ko{Q:Option Value→Shared→Prop}(hh:A.handled=none)(d1:l1 < n)(gz:IsZip s.heap (n+5) (n+3) (n+4) .none)(gI:bP s.heap (n+3) (.ref n) (.ref (n+1)) (.ref (n+2)))
  (g1:s.heap.IsTupleIter n l1 i) (t1:s.heap.IsTuple l1 xs) (hx:xs[i]?=none)
  (k:∀g:Heap,(∀c o,c≠n+5→c≠n+4→c≠n→c≠n+1→c≠n+2→s.heap.get? c=some o→g.get? c=some o)→Q none { s with heap:=g }):wpAny (model prog w) A (pyNext (.ref (n+5))) Q E s:=by
 have ty:s.TypeIs (.ref (n+5)) "zip":=⟨_,gz,rfl⟩
 unfold pyNext
 refine wpAny_bind (wpAny_attempt (wpAny_callSpecial?_slot (name:=Str.ofString "__next__") ty F.slot_zip_next (wpAny_call_entry F.slot_zip_next ty F.entry_zip_next (p_ hh d1 gz gI g1 t1 hx fun g e kk ⟨o,ho,hc⟩=>?_) (F.args_zip_next_1 _))))
 exact wpAny_bind (wpAny_isInstance (T:="StopIteration") (b:=true) ⟨o,ho,hc⟩ isSubtype_stop (wpAny_pure (k _ kk)))
end
theorem Fb(a b c:Value):checkTypeCall "zip" ⟨[a,b,c],[]⟩=pure ():=by kernel_rfl
theorem Fc(a b c:Value):checkBuiltinCall "zip.__new__" ⟨[.type "zip",a,b,c],[]⟩=pure ():=by kernel_rfl
theorem Fd(a b c d:Value):argsOk "object.__init__" ⟨[a,b,c,d],[]⟩:=by
 unfold argsOk;rw[signature?_of (id:="object.__init__") (n:="__init__".toList.reverse) (o:="object".toList.reverse) (by kernel_rfl) F.owner_object];kernel_rfl
noncomputable abbrev it(l:Addr):Obj:={ cls:=.type "tuple_iterator",data:=.fields #[.ref l,.int 0 0] }
noncomputable abbrev K3(h:Heap)(l1 l2 l3:Addr):Heap:=((h.push (it l1)).push (it l2)).push (it l3)
noncomputable abbrev K4(h:Heap)(l1 l2 l3:Addr):Heap:=(K3 h l1 l2 l3).push { cls:=.type "tuple",data:=.seq #[.ref h.objs.size,.ref (h.push (it l1)).objs.size,.ref ((h.push (it l1)).push (it l2)).objs.size] }
noncomputable abbrev K5(h:Heap)(l1 l2 l3:Addr):Heap:=(K4 h l1 l2 l3).push { cls:=.type "tuple",data:=.seq #[.none,.none,.none] }
noncomputable abbrev K6(h:Heap)(l1 l2 l3:Addr):Heap:=(K5 h l1 l2 l3).push { cls:=.type "zip",data:=.fields #[.none,.bool false,.bool false,.ref (K3 h l1 l2 l3).objs.size,.ref (K4 h l1 l2 l3).objs.size] }
theorem iT(l1 l2 l3:Addr)(xs ys zs:Array Value) :
  Meets (Builtin.«zip.__new__» ⟨[.type "zip",.ref l1,.ref l2,.ref l3],[]⟩) (fun _ R s=>s.heap.IsTuple l1 xs∧s.heap.IsTuple l2 ys∧s.heap.IsTuple l3 zs∧R (.ok (.ret (.ref (K5 s.heap l1 l2 l3).objs.size))) { s with heap:=K6 s.heap l1 l2 l3 }):=
 .of_wp fun prog w A R s h=>by
  obtain⟨hp,g,d,tk,os⟩:=s;obtain⟨e1,e2,e3,h⟩:=h
  have hsub:=sub_zip
  have L1:Heap.IsTuple (Shared.heap ⟨hp,g,d,tk,os⟩) l1 xs:=e1
  have L2:Heap.IsTuple (Shared.heap ⟨hp.push { cls:=.type "tuple_iterator",data:=.fields #[.ref l1,.int 0 0] },g,d,tk,os⟩) l2 ys:=Heap.IsTuple.push e2 _
  have L3:Heap.IsTuple (Shared.heap ⟨(hp.push { cls:=.type "tuple_iterator",data:=.fields #[.ref l1,.int 0 0] }).push { cls:=.type "tuple_iterator",data:=.fields #[.ref l2,.int 0 0] },g,d,tk,os⟩) l3 zs:=Heap.IsTuple.push (Heap.IsTuple.push e3 _) _
  wp_walk using wpAny_pyIter_tuple L1,wpAny_pyIter_tuple L2,wpAny_pyIter_tuple L3
  exact⟨_,rfl,h⟩
section
variable {prog:Program} {w:World} {A:Around} {E:Value→Shared→Prop} {s:Shared}
theorem kq{l1 l2 l3:Addr}{xs ys zs:Array Value}{Q:Value→Shared→Prop}(e1:s.heap.IsTuple l1 xs)(e2:s.heap.IsTuple l2 ys)(e3:s.heap.IsTuple l3 zs)
  (k:∀g,IsZip g (s.heap.objs.size+5) (s.heap.objs.size+3) (s.heap.objs.size+4) .none→bP g (s.heap.objs.size+3) (.ref s.heap.objs.size) (.ref (s.heap.objs.size+1)) (.ref (s.heap.objs.size+2))→
   bP g (s.heap.objs.size+4) .none .none .none→g.IsTupleIter s.heap.objs.size l1 0→g.IsTupleIter (s.heap.objs.size+1) l2 0→g.IsTupleIter (s.heap.objs.size+2) l3 0→
   (∀c o,s.heap.get? c=some o→g.get? c=some o)→Q (.ref (s.heap.objs.size+5)) { s with heap:=g }) :
  wpAny (model prog w) A (call (.type "zip") [.ref l1,.ref l2,.ref l3]) Q E s:=by
 refine callType_new F.called_zip (by decide) (Fb _ _ _) (Fc _ _ _) (fun obj=>Fd obj _ _ _) F.entry_zip_new (iT l1 l2 l3 xs ys zs) ⟨e1,e2,e3,?_⟩
 have z1:(s.heap.push (it l1)).objs.size=s.heap.objs.size+1:=Heap.size_push ..
 have z2:((s.heap.push (it l1)).push (it l2)).objs.size=s.heap.objs.size+2:=by rw[Heap.size_push,z1]
 have z3:(K3 s.heap l1 l2 l3).objs.size=s.heap.objs.size+3:=by rw[Heap.size_push,z2]
 have z4:(K4 s.heap l1 l2 l3).objs.size=s.heap.objs.size+4:=by rw[Heap.size_push,z3]
 have z5:(K5 s.heap l1 l2 l3).objs.size=s.heap.objs.size+5:=by rw[Heap.size_push,z4]
 have p:∀{h:Heap} {b:Addr} {o o':Obj},h.get? b=some o→(h.push o').get? b=some o:=fun e=>Heap.get?_push_of_some _ e
 have g6:(K6 s.heap l1 l2 l3).get? (K5 s.heap l1 l2 l3).objs.size=some _:=Heap.get?_push_size _ rfl
 have g5:(K6 s.heap l1 l2 l3).get? (K4 s.heap l1 l2 l3).objs.size=some _:=p (Heap.get?_push_size _ rfl)
 have g4:(K6 s.heap l1 l2 l3).get? (K3 s.heap l1 l2 l3).objs.size=some _:=p (p (Heap.get?_push_size _ rfl))
 have g3:(K6 s.heap l1 l2 l3).get? ((s.heap.push (it l1)).push (it l2)).objs.size=some _:=p (p (p (Heap.get?_push_size _ rfl)))
 have g2:(K6 s.heap l1 l2 l3).get? (s.heap.push (it l1)).objs.size=some _:=p (p (p (p (Heap.get?_push_size _ rfl))))
 have g1:(K6 s.heap l1 l2 l3).get? s.heap.objs.size=some _:=p (p (p (p (p (Heap.get?_push_size _ rfl)))))
 show _∧_
 rw[z3,z4,z5]at g6
 rw[z4]at g5
 rw[z1,z2,z3]at g4
 rw[z2]at g3
 rw[z1]at g2
 rw[z5]
 exact⟨⟨_,g6,rfl⟩,k _ g6 g4 g5 ⟨_,g1,rfl,rfl⟩ ⟨_,g2,rfl,rfl⟩ ⟨_,g3,rfl,rfl⟩ fun c o x=>p (p (p (p (p (p x)))))⟩
end
end Zu
namespace L2
open PySem PySem.Spec PyProof.Rows
noncomputable def Ef(K:PySem.W.Frag)(a b c:Addr):It:=
  ⟨fun i H=>∃xs ys zs x y z,F3 K H a xs∧F3 K H b ys∧F3 K H c zs∧xs[i]?=some x∧ys[i]?=some y∧zs[i]?=some z,
   fun i H v H'=>∃p x y z,v = .ref p∧H p=none∧H'=upd H p (.tup [x,y,z])∧∀xs ys zs,F3 K H a xs→F3 K H b ys→F3 K H c zs→xs[i]?=some x∧ys[i]?=some y∧zs[i]?=some z,
   fun i H=>∃xs,F3 K H a xs∧xs.length≤i⟩
theorem vf{P:Program}{w:World}{K:PySem.W.Frag}{elts:List Expr}{k0:Nat}{Ix:Pos}{n a b c:Nat}(d1:a < n)(d2:b < n)(d3:c < n) :
  nY P w K (.Tuple elts k0 Ix) (Ef K a b c) [n+5,n+3,n+4,n,n+1,n+2] (n+5) (fun i h=>IsZip h (n+5) (n+3) (n+4) .none∧Zu.bP h (n+3) (.ref n) (.ref (n+1)) (.ref (n+2))∧(∃x y z,Zu.bP h (n+4) x y z)∧h.IsTupleIter n a i∧h.IsTupleIter (n+1) b i∧h.IsTupleIter (n+2) c i) where
 mem:=by simp
 obj:=fun i h st c hc=>by
  obtain⟨gz,gI,⟨x,y,z,gO⟩,⟨o1,e1,_,f1⟩,⟨o2,e2,_,f2⟩,⟨o3,e3,_,f3⟩⟩:=st
  simp only[List.mem_cons,List.not_mem_nil,or_false]at hc
  rcases hc with rfl|rfl|rfl|rfl|rfl|rfl
  ·exact⟨_,gz,fun v q=>by cases q⟩
  ·exact⟨_,gI,fun v q=>by cases q⟩
  ·exact⟨_,gO,fun v q=>by cases q⟩
  ·exact⟨_,e1,fun v q=>by rw[f1]at q;cases q⟩
  ·exact⟨_,e2,fun v q=>by rw[f2]at q;cases q⟩
  ·exact⟨_,e3,fun v q=>by rw[f3]at q;cases q⟩
 keep:=fun i h h' st k=>by
  obtain⟨gz,gI,⟨x,y,z,gO⟩,g1,g2,g3⟩:=st
  exact⟨k _ (by simp) _ gz,k _ (by simp) _ gI,⟨x,y,z,k _ (by simp) _ gO⟩,g1.at fun o e=>k _ (by simp) o e,g2.at fun o e=>k _ (by simp) o e,g3.at fun o e=>k _ (by simp) o e⟩
 item:=by
  intro X hP hw hK hc i pins s σ H E I hf st hg
  subst hP hw hK
  obtain⟨gz,gI,⟨ta,tb,tc,gO⟩,g1,g2,g3⟩:=st
  obtain⟨xs,ys,zs,x,y,z,KE,Lg,NR,hx,hy,hz⟩:=hg
  obtain⟨ia,ra,pa,za⟩:=I.tuple KE
  obtain⟨ib,rb,pb,zb⟩:=I.tuple Lg
  obtain⟨ic,rc,pc,zc⟩:=I.tuple NR
  obtain⟨u,hu,ru⟩:=ra.get hx
  obtain⟨v,hv,rv⟩:=rb.get hy
  obtain⟨t,ht,rt⟩:=rc.get hz
  refine Zu.iS d1 d2 d3 gz gI gO g1 g2 g3 (show s.heap.IsTuple a ia.toArray from pa) (show s.heap.IsTuple b ib.toArray from pb) (show s.heap.IsTuple c ic.toArray from pc) (x:=u) (y:=v) (z:=t) (by simpa using hu) (by simpa using hv) (by simpa using ht) fun g a1 a2 a3 a4 a5 a6 a7=>?_
  refine⟨_,rfl,wpAny_letOwnedTupleGo_zip (s:={ s with heap:=g }) a1 fun g' z' q'=>?_⟩
  have kk:∀c o,c ∉ ([n+5,n+3,n+4,n,n+1,n+2]:List Addr)→s.heap.get? c=some o→g'.get? c=some o:=fun c o hc e=>by
   simp only[List.mem_cons,List.not_mem_nil,or_false,not_or]at hc
   exact q'.extBut _ _ hc.1 (a7 c o hc.1 hc.2.2.1 hc.2.2.2.1 hc.2.2.2.2.1 hc.2.2.2.2.2 e)
  have I1:Inv X pins σ H { s with heap:=g' }:=I.Is (t':=s.toks) kk hf
  have f0:Gk X pins H s.heap.objs.size:=I.HB (Nat.le_refl _) (I.hok.fresh (Nat.le_refl _))
  have eT:Go g' s.heap.objs.size [u,v,t].toArray:=⟨_,q'.extBut _ _ (Nat.ne_of_gt (Heap.lt_size gz)) a6,rfl,rfl,_,rfl⟩
  have I2:=I1.Kh f0 eT (.cons ru (.cons rv (.cons rt .nil))) (by show 3≤sizeLine;decide)
  refine⟨.ref s.heap.objs.size,_,I2,rfl,⟨s.heap.objs.size,x,y,z,rfl,f0.1,rfl,fun xs' ys' zs' h1 h2 h3=>by rw[I.Gw h1 KE,I.Gw h2 Lg,I.Gw h3 NR];exact⟨hx,hy,hz⟩⟩,
   ⟨z',q'.extBut _ _ (Zu.nn (by omega)) (a7 _ _ (Zu.nn (by omega)) (Zu.nn (by omega)) (Zu.nn (by omega)) (Zu.nn (by omega)) (Zu.nn (by omega)) gI),⟨_,_,_,q'.extBut _ _ (Zu.nn (by omega)) a2⟩,a3.extBut q'.extBut (Zu.nn (by omega)),a4.extBut q'.extBut (Zu.nn (by omega)),a5.extBut q'.extBut (Zu.nn (by omega))⟩,fun c hc=>?_⟩
  have hlt:c < s.heap.objs.size:=by
   obtain⟨o1,e1,_⟩:=g1
   obtain⟨o2,e2,_⟩:=g2
   obtain⟨o3,e3,_⟩:=g3
   simp only[List.mem_cons,List.not_mem_nil,or_false]at hc
   rcases hc with rfl|rfl|rfl|rfl|rfl|rfl
   ·exact Heap.lt_size gz
   ·exact Heap.lt_size gI
   ·exact Heap.lt_size gO
   ·exact Heap.lt_size e1
   ·exact Heap.lt_size e2
   ·exact Heap.lt_size e3
  rw[ao (Nat.ne_of_lt hlt)]
  exact(hf c hc).1
 done:=by
  intro X hP hw hK hc i pins s σ H E I hf st hg
  subst hP hw hK
  obtain⟨gz,gI,⟨ta,tb,tc,gO⟩,g1,g2,g3⟩:=st
  obtain⟨xs,KE,hl⟩:=hg
  obtain⟨ia,ra,pa,za⟩:=I.tuple KE
  have la:=ra.length
  refine Zu.ko (I.ok.hd hc) d1 gz gI g1 (show s.heap.IsTuple a ia.toArray from pa) (by simp;omega) fun g kk=>⟨rfl,I.Is (t':=s.toks) (fun c o hc e=>?_) hf⟩
  simp only[List.mem_cons,List.not_mem_nil,or_false,not_or]at hc
  exact kk c o hc.1 hc.2.2.1 hc.2.2.2.1 hc.2.2.2.2.1 hc.2.2.2.2.2 e
 self:=fun _ _ _ _ _ st h=>wpAny_pyIter_zip st.1 h
section
variable {X:Cx}
def Eg(K:PySem.W.Frag)(ta:TA):TI:=fun σ H R=>ta σ H fun vs H1=>∃a b c,vs=[.ref a,.ref b,.ref c]∧(∃xs,F3 K H1 a xs)∧(∃ys,F3 K H1 b ys)∧(∃zs,F3 K H1 c zs)∧R (Ef K a b c) H1
theorem Ar{elts:List Expr}{k0:Nat}{Ix:Pos}{a b c:Expr}{ta:TA}{p pos:Pos}(hg:Gl X "zip")(hm:X.mg "zip" = none)(hv:bootBuiltins "zip" = some (.type "zip"))(ha:PA X [a,b,c] ta)
  (hs:starEach [a,b,c] X.env=[(false,eval a X.env),(false,eval b X.env),(false,eval c X.env)]) (hs2:starEach [b,c] X.env=[(false,eval b X.env),(false,eval c X.env)]):PI X (.Tuple elts k0 Ix) (.Call (.Name "zip" p) [a,b,c] [] pos) (Eg X.K ta):=by
 intro pins s σ H R I h
 refine Call_ (gH I hg hm hv (PyProof.Rows.callWith_type1 (FI (ha pos pins s σ H _ I h) fun us s1 ⟨vs,H1,I1,r1,q1⟩=>?_) (by rw[hs,hs2]) (by rw[hs2];rfl)))
 obtain⟨a,b,c,e,⟨xs,qa⟩,⟨ys,qb⟩,⟨zs,qc⟩,q⟩:=q1
 subst e
 obtain⟨u,us,rfl⟩:∃u us',us=u::us':=by cases r1;exact⟨_,_,rfl⟩
 cases r1 with
 |cons ru r1=>
 obtain⟨v,t,rfl,rv,rt⟩:=t_ r1
 cases ru
 cases rv
 cases rt
 obtain⟨ia,ra,pa,za⟩:=I1.tuple qa
 obtain⟨ib,rb,pb,zb⟩:=I1.tuple qb
 obtain⟨ic,rc,pc,zc⟩:=I1.tuple qc
 have la:a < s1.heap.objs.size:=by obtain⟨o,e,_⟩:=pa;exact Heap.lt_size e
 have lb:b < s1.heap.objs.size:=by obtain⟨o,e,_⟩:=pb;exact Heap.lt_size e
 have lc:c < s1.heap.objs.size:=by obtain⟨o,e,_⟩:=pc;exact Heap.lt_size e
 refine Zu.kq (show s1.heap.IsTuple a ia.toArray from pa) (show s1.heap.IsTuple b ib.toArray from pb) (show s1.heap.IsTuple c ic.toArray from pc) fun g gz gI gO g1 g2 g3 kk=>?_
 refine wpAny_pyIter_zip (s:={ s1 with heap:=g }) gz ?_
 refine⟨_,[s1.heap.objs.size+5,s1.heap.objs.size+3,s1.heap.objs.size+4,s1.heap.objs.size,s1.heap.objs.size+1,s1.heap.objs.size+2],_,_,H1,rfl,I1.kept (t':=s1.toks) kk,vf la lb lc,⟨gz,gI,⟨_,_,_,gO⟩,g1,g2,g3⟩,fun c hc=>?_,q⟩
 have hle:s1.heap.objs.size≤c:=by
  simp only[List.mem_cons,List.not_mem_nil,or_false]at hc
  rcases hc with rfl|rfl|rfl|rfl|rfl|rfl
  ·exact Nat.le_add_right _ _
  ·exact Nat.le_add_right _ _
  ·exact Nat.le_add_right _ _
  ·exact Nat.le_refl _
  ·exact Nat.le_add_right _ _
  ·exact Nat.le_add_right _ _
 exact I1.HB hle (I1.hok.fresh hle)
end
end L2
namespace L3
open PySem L2
section
variable {X:Cx} {a b c:Expr} {ta tb tc:aJ} {p pos:Pos}
noncomputable def Cv(z:PV×PV×PV):PV:=.tup [z.1,z.2.1,z.2.2]
noncomputable def eF(xs ys zs:List PV):List PV:=(xs.zip (ys.zip zs)).map Cv
theorem vg{K:PySem.W.Frag}{H0:Hp}{a b c:Addr}{vs us ws:List V}{xs ys zs:List PV}(h1:F3 K H0 a vs)(h2:F3 K H0 b us)(h3:F3 K H0 c ws)(r1:Reps K H0 vs xs)(r2:Reps K H0 us ys)(r3:Reps K H0 ws zs)(l12:xs.length≤ys.length)(l13:xs.length≤zs.length):jP K H0 (Ef K a b c) ⟨eF xs ys zs,fun _=>True⟩:=by
 intro i S H g rS _
 have hv:=g.t _ _ h1
 have hu:=g.t _ _ h2
 have hw:=g.t _ _ h3
 have l1:=r1.length
 refine⟨fun p hp=>?_,fun hi=>⟨vs,hv,?_⟩⟩
 ·unfold eF at hp
  rw[List.getElem?_map]at hp
  cases hz:(xs.zip (ys.zip zs))[i]? with
  |none=>rw[hz]at hp;cases hp
  |some z=>
   rw[hz]at hp
   cases hp
   obtain⟨e1,OV⟩:=List.getElem?_zip_eq_some.mp hz
   obtain⟨e2,e3⟩:=List.getElem?_zip_eq_some.mp OV
   obtain⟨v,hx',rv⟩:=r1.get e1
   obtain⟨u,hy',ru⟩:=r2.get e2
   obtain⟨t,hz',rt⟩:=r3.get e3
   refine⟨⟨vs,us,ws,v,u,t,hv,hu,hw,hx',hy',hz'⟩,fun x H' ⟨q,x2,y2,z2,e3,hq,e4,h⟩=>?_⟩
   subst e3 e4
   obtain⟨k1,k2,k3⟩:=h vs us ws hv hu hw
   rw[hx']at k1
   rw[hy']at k2
   rw[hz']at k3
   cases k1;cases k2;cases k3
   exact⟨.tup (F3.of aq) (.cons ((rv.mono g).mono (.new hq)) (.cons ((ru.mono g).mono (.new hq)) (.cons ((rt.mono g).mono (.new hq)) .nil))),rS.other hq,.new hq⟩
 ·have e:(eF xs ys zs).length=min xs.length (min ys.length zs.length):=by simp[eF]
  rw[e]at hi
  omega
def vh(ta tb tc:aJ):s9:=fun σ S R E=>ta σ S (fun v S1=>tb σ S1 (fun w S2=>tc σ S2 (fun x S3=>match v,w,x with
 | .tup xs,.tup ys,.tup zs=>xs.length≤ys.length∧xs.length≤zs.length∧R ⟨eF xs ys zs,fun _=>True⟩ S3
 |_,_,_=>False) E) E) E
theorem As{elts:List Expr}{k0:Nat}{Ix:Pos}(hs:starEach [a,b,c] X.env=[(false,eval a X.env),(false,eval b X.env),(false,eval c X.env)])(hs2:starEach [b,c] X.env=[(false,eval b X.env),(false,eval c X.env)])(hg:Gl X "zip")(hm:X.mg "zip" = none)(hv:bootBuiltins "zip" = some (.type "zip"))(ha:iK X [a,b,c] [ta,tb,tc]) :
  xK X (.Tuple elts k0 Ix) (.Call (.Name "zip" p) [a,b,c] [] pos) (vh ta tb tc):=
 ⟨m4 (Ar hg hm hv ha.ok hs hs2) fun σ H R ⟨σ3,S,R3,E3,rσ,rS,h,xo,k⟩=>⟨σ3,S,_,E3,rσ,rS,h,xo,fun v S1 v' H1 h1 rv FR g1=>⟨σ3,S1,_,E3,rσ.mono g1,FR,h1,xo.mono g1,fun w S2 w' H2 h2 rw' Hv g2=>⟨σ3,S2,_,E3,(rσ.mono g1).mono g2,Hv,h2,(xo.mono g1).mono g2,fun x S3 x' H3 h3 M6 KF g3=>by
  dsimp only at h3
  split at h3
  ·cases rv with
   |tup hq rs=>
    cases rw' with
    |tup hq2 M0=>
     cases M6 with
     |tup NS OW=>exact⟨_,_,_,rfl,⟨_,g3.t _ _ (g2.t _ _ hq)⟩,⟨_,g3.t _ _ hq2⟩,⟨_,NS⟩,k _ S3 _ H3 h3.2.2 (vg (g3.t _ _ (g2.t _ _ hq)) (g3.t _ _ hq2) NS ((rs.mono g2).mono g3) (M0.mono g3) OW h3.1 h3.2.1) KF ((g1.trans g2).trans g3)⟩
  ·exact h3.elim⟩⟩⟩⟩
end
end L3
namespace L2
open PySem PySem.Spec PyProof.Rows
theorem i_:fillsNumberSlot (.type "tuple") "mul" = pure false:=
 PySem.fillsNumberSlot_seq (id:="tuple.__mul__") (r:=some (.builtin "tuple.__rmul__")) F.slot_tuple_mul.lookup (by decide +kernel) F.slot_tuple_rmul.lookup (by decide +kernel)
theorem nh:seqRepeat? (.type "tuple")=pure (some (.builtin "tuple.__mul__")):=by
 unfold seqRepeat?
 rw[PySem.seqSlot_of (T:="tuple") (name:="__mul__") (id:="tuple.__mul__") F.slot_tuple_mul.lookup (by decide +kernel),PySem.seqSlot_of (T:="tuple") (name:="__rmul__") (id:="tuple.__rmul__") F.slot_tuple_rmul.lookup (by decide +kernel)]
 rfl
theorem kJ(a:Int)(t:Tok)(l:Addr)(its:Array Value)(n:Nat)(dd:Option Addr)(sl:Array (Option Value)) :
  Meets (Builtin.«int.__rmul__» ⟨[.int a t,.ref l],[]⟩) (fun _ R s=>s.heap.get? l=some { cls:=.type "tuple",dict:=dd,data:=.seq its n,slots:=sl }∧R (.ok (.ret Value.notImplemented)) s):=
 .of_wp fun prog w A R s h=>by obtain⟨hp,g,d,tk,os⟩:=s;obtain⟨hl,h⟩:=h;wp_walk;exact⟨_,rfl,h⟩
theorem Cw(l:Addr)(x:Value)(n:Nat)(dd:Option Addr)(sl:Array (Option Value))(t:Tok) :
  Meets (Builtin.«tuple.__mul__» ⟨[.ref l,.int 1 t],[]⟩) (fun _ R s=>s.heap.get? l=some { cls:=.type "tuple",dict:=dd,data:=.seq #[x] n,slots:=sl }∧R (.ok (.ret (.ref l))) s):=
 .of_wp fun prog w A R s h=>by
  obtain⟨hp,g,d,tk,os⟩:=s;obtain⟨hl,h⟩:=h
  have t1:=AutoSeq1.idx_int
  wp_walk using wpAny_loadPart' hl
  exact⟨_,rfl,h⟩
theorem Cy(l:Addr)(x:Value)(n:Nat)(dd:Option Addr)(sl:Array (Option Value))(t:Tok) :
  Meets (Builtin.«tuple.__mul__» ⟨[.ref l,.int 0 t],[]⟩) (fun _ R s=>s.heap.get? l=some { cls:=.type "tuple",dict:=dd,data:=.seq #[x] n,slots:=sl }∧R (.ok (.ret (.ref s.heap.objs.size))) { s with heap:=s.heap.push { cls:=.type "tuple",data:=.seq #[] } }):=
 .of_wp fun prog w A R s h=>by
  obtain⟨hp,g,d,tk,os⟩:=s;obtain⟨hl,h⟩:=h
  have t1:=AutoSeq1.idx_int
  wp_walk using wpAny_loadPart' hl
  exact⟨_,rfl,h⟩
theorem rJ(x:Value)(m:Nat):(List.replicate m (#[x]:Array Value)).foldl (·++·) #[]=(List.replicate m x).toArray:=by
 have:=iP [x] m []
 rw[List.nil_append]at this
 refine this.trans ?_
 rw[List.flatten_replicate_singleton]
theorem Cz(l:Addr)(x:Value)(n:Nat)(dd:Option Addr)(sl:Array (Option Value))(k:Int)(t:Tok)(h2:2≤k)(hk:k≤2 ^ 20) :
  Meets (Builtin.«tuple.__mul__» ⟨[.ref l,.int k t],[]⟩) (fun _ R s=>s.heap.get? l=some { cls:=.type "tuple",dict:=dd,data:=.seq #[x] n,slots:=sl }∧R (.ok (.ret (.ref s.heap.objs.size))) { s with heap:=s.heap.push { cls:=.type "tuple",data:=.seq ((List.replicate k.toNat #[x]).foldl (·++·) #[]) } }):=
 .of_wp fun prog w A R s h=>by
  obtain⟨hp,g,d,tk,os⟩:=s;obtain⟨hl,h⟩:=h
  have t1:=AutoSeq1.idx_int
  have c1:¬((decide (k < -(2 ^ 63)) || decide (k≥2 ^ 63))=true):=by rw[Bool.or_eq_true,decide_eq_true_eq,decide_eq_true_eq];omega
  have c2:¬(((#[x]:Array Value).isEmpty || k == 1)=true):=by
   have:(k == 1)=false:=by rw[beq_eq_false_iff_ne];omega
   rw[this];simp
  have c3:¬((decide (k≤0) || (#[x]:Array Value).isEmpty)=true):=by
   have:decide (k≤0)=false:=decide_eq_false (by omega)
   rw[this];simp
  have c4:¬(((#[x]:Array Value).size:Int) * k > (2 ^ 63 - 1) / 8):=by show ¬((1:Int) * k > _);omega
  have sl:(2:Int) ^ 20≤(sizeLine:Int):=by decide
  have c5:¬(Builtin.Tuple.tupleTooMany (((#[x]:Array Value).size:Int) * k)=true):=by show ¬(decide ((1:Int) * k > (sizeLine:Int))=true);rw[decide_eq_true_eq];omega
  wp_walk using wpAny_loadPart' hl
  rw[if_neg c1]
  wp_walk using wpAny_loadPart' hl
  rw[if_neg c2]
  wp_walk using wpAny_loadPart' hl
  rw[if_neg c3]
  wp_walk using wpAny_loadPart' hl
  rw[if_neg c4]
  wp_walk using wpAny_loadPart' hl
  rw[if_neg c5]
  wp_walk using wpAny_loadPart' hl
  have c6:¬((List.replicate k.toNat (#[x]:Array Value)).foldl (·++·) #[]).size > sizeLine:=by
   rw[rJ,List.size_toArray,List.length_replicate];have:=Int.toNat_of_nonneg (show 0≤k by omega);omega
  rw[if_neg c6]
  wp_walk using wpAny_loadPart' hl
  exact⟨_,rfl,h⟩
section
variable {X:Cx}
def CA(H H':Hp):Prop:=∀c o,H c=some o→H' c=some o
def CB(K:PySem.W.Frag):R2:=fun x y H Q=>∃l k x0,x = .ref l∧y = .int k∧F3 K H l [x0]∧0≤k∧k≤2 ^ 20∧∀r H',CA H H'→F3 K H' r (List.replicate k.toNat x0)→Q (.ref r) H'
theorem xP:iJ X (binaryOp .Mult) (CB X.K):=by
 intro pins s σ H x y v u Q I rx ry h
 obtain⟨l,k,x0,rfl,rfl,hH,h1,h2,q⟩:=h
 cases rx
 obtain⟨t,rfl⟩:=ry
 obtain⟨its,r1,p1,_⟩:=I.tuple hH
 obtain⟨w,rfl,OX⟩:=r1.one
 obtain⟨⟨cls,dd,data,sl⟩,ho,hc,n,hd⟩:=id p1
 simp only at hc hd
 subst hc hd
 have new:∀(ys:List V) (us:List Value),Vals ys us→ys.length≤sizeLine→ys=List.replicate k.toNat x0→∃v H1,Inv X pins σ H1 { s with heap:=s.heap.push { cls:=.type "tuple",data:=.seq us.toArray } }∧RelV v (.ref s.heap.objs.size)∧Q v H1:=fun ys us r hz e=>
  ⟨.ref s.heap.objs.size,_,I.laid (t':=s.toks) (o:=.tup ys) (fun b ob q=>Heap.get?_push_of_some _ q) (Nat.le_refl _) ⟨hz,_,r,Go.new _ _⟩,rfl,
   q _ _ (fun c o z=>by rw[ao (aV z (I.hok.fresh (Nat.le_refl _)))];exact z) (by rw[←e];exact F3.of aq)⟩
 refine wpAny_binaryOp_repeat_ref (T:="tuple") (U:="int") (by decide) ⟨_,ho,rfl⟩ (fun s'=>typeIs_int s' k t) i_ F.fills_int_mul F.slot_int_rmul nh F.slot_int_index.lookup
  (call_meets F.slot_int_rmul (typeIs_int s k t) F.entry_int_rmul (F.args_int_rmul_2 _ _) (kJ k t l _ n dd sl) ⟨ho,rfl,⟨_,ho,rfl⟩,?_⟩)
 by_cases k0:k=0
 ·subst k0
  exact call_meets F.slot_tuple_mul ⟨_,ho,rfl⟩ F.entry_tuple_mul (F.args_tuple_mul_2 _ _) (Cy l w n dd sl t) ⟨ho,new [] [] .nil (Nat.zero_le _) rfl⟩
 by_cases k1:k=1
 ·subst k1
  exact call_meets F.slot_tuple_mul ⟨_,ho,rfl⟩ F.entry_tuple_mul (F.args_tuple_mul_2 _ _) (Cw l w n dd sl t) ⟨ho,⟨.ref l,H,I,rfl,q l H (fun _ _ e=>e) hH⟩⟩
 ·refine call_meets F.slot_tuple_mul ⟨_,ho,rfl⟩ F.entry_tuple_mul (F.args_tuple_mul_2 _ _) (Cz l w n dd sl k t (by omega) h2) ⟨ho,?_⟩
  rw[rJ]
  have hz:(2:Nat) ^ 20≤sizeLine:=by decide
  have e:∀m:Nat,Vals (List.replicate m x0) (List.replicate m w):=fun m=>by
   induction m with
   |zero=>exact .nil
   |succ m ih=>rw[List.replicate_succ,List.replicate_succ];exact .cons OX ih
  exact new _ _ (e k.toNat) (by rw[List.length_replicate];omega) rfl
end
end L2
namespace L3
open PySem L2
section
variable {X:Cx}
def oG:R3:=fun x y S Q=>match x,y with
 | .tup [v],.int k=>0≤k∧k≤2 ^ 20∧Q (.tup (List.replicate k.toNat v)) S
 |_,_=>False
theorem rK:iV X (binaryOp .Mult) oG:=⟨fun pins s σ H x y v u Q I rx ry ⟨px,py,S,Q3,r1,r2,rS,q,k⟩=>by
 unfold oG at q
 split at q
 ·cases r2
  cases r1 with
  |tup hq rs=>
   cases rs with
   |cons r0 rn=>
    cases rn
    refine xP pins s σ H _ _ v u Q I rx ry ⟨_,_,_,rfl,rfl,hq,q.1,q.2.1,fun r H' hh hr=>k _ S _ H' q.2.2 (.tup hr ?_) (rS.grow hh) (.same hh)⟩
    have e:∀m:Nat,Reps X.K H (List.replicate m _) (List.replicate m _):=fun m=>by
     induction m with
     |zero=>exact .nil
     |succ m ih=>rw[List.replicate_succ,List.replicate_succ];exact .cons r0 ih
    exact(e _).mono (.same hh)
 ·exact q.elim⟩
end
end L3
namespace C
open PySem L2 L3
def gR:bh:=(aF (aI [(aI [(c3 (.int 0)),(c3 (.int 1))]),(ah oG (aI [(c3 (.int 0))]) (aA dB [(v3 0)])),(ah oG (aI [(c3 (.int 0))]) (aA dB [(v3 0)]))]))
def kK(I_ JE:aw):bh:=(ai (aC 2 (bz (vh (ah af (v3 0) (c3 (.int 1))) (ah af (v3 0) (c3 (.int 2))) (ah af (v3 1) (c3 (.int 2)))) (.tp (.cons (.n 0) (.cons (.n 1) (.cons (.n 2) .nil)))) di (aA ig [(v3 1),(ah bY (v3 2) (v3 0))]) 3 []))
  (aF (aI [(ae JE [(ah af (v3 0) (c3 (.int 0))),(ah af (v3 1) (c3 (.int 0)))]),(ae I_ [(ah af (v3 0) (c3 (.int 1))),(ah af (v3 1) (c3 (.int 1)))]),(aA a_ [(v3 2)])])))
def bN(HE HL KI s0 s1:aw):bh:=(ai (aC 3 (ae HE [(v3 0)]))
  (ai (dh (bO (v3 2)) (.n 4) (aC 3 (ae HL [(v3 3),(ae KI [(ae s1 [(v3 0),(ah af (v3 1) (c3 (.int 1))),(ah af (v3 4) (c3 (.int 1)))]),(ah af (v3 4) (c3 (.int 0)))])])))
  (aF (v3 3))))
def eG(HE F8 HL Iy Im s0 s1:aw):bh:=(ai (aC 3 (ah af (v3 1) (c3 (.int 0))))
  (ai (aC 4 (ae HE [(v3 0)]))
  (ai (bA (aO (ah (bt false) (v3 3) (c3 (.str "pay")))) (aF (aI [(ah af (v3 1) (c3 (.int 1))),(ah af (v3 4) (c3 (.int 1))),(ah af (v3 4) (c3 (.int 2)))])) aW)
  (ai (bA (aO (ah (bt false) (v3 3) (c3 (.str "put")))) (aF (aI [(ah af (v3 4) (c3 (.int 0))),(ae F8 [(v3 0),(ah af (v3 1) (c3 (.int 1))),(ah af (v3 1) (c3 (.int 2)))]),(ah af (v3 4) (c3 (.int 2)))])) aW)
  (ai (bA (aO (ah (bt false) (v3 3) (c3 (.str "then")))) (aF (ae HL [(ae s1 [(v3 0),(ah af (v3 1) (c3 (.int 1))),(ah af (v3 2) (c3 (.int 0)))]),(ae s1 [(v3 0),(ah af (v3 1) (c3 (.int 2))),(ah af (v3 2) (c3 (.int 1)))])])) aW)
  (ai (bA (aO (ah (bt false) (v3 3) (c3 (.str "often")))) (aF (ae s0 [(v3 0),(v3 1),(v3 2)])) aW)
  (ai (bA (aO (ah (pJ true) (v3 3) (aI [(c3 (.str "either")),(c3 (.str "take"))]))) (aF (v3 4)) aW)
  (ai (aC 5 (ae s1 [(v3 0),(ae Iy [(v3 1),(v3 2)]),(ah af (v3 2) (c3 (.int 1)))]))
  (ai (bA (jW (aO (ah (bt false) (v3 3) (c3 (.str "take")))) (aO (ah (bt false) (ah af (v3 2) (c3 (.int 0))) (c3 (.int 0))))) (aF (ae HL [(ae Im [(v3 0),(v3 1)]),(v3 5)])) aW)
  (aF (v3 5)))))))))))
def ni(JF:aw):bh:=(aF (ae JF [(ah af (v3 0) (c3 (.int 0))),(ah af (ah af (ah af (v3 0) (c3 (.int 1))) (v3 1)) (c3 (.int 1))),(v3 2)]))
def cj(FD Ja G_ Hj:aw):bh:=(ai (bA (aO (ah (bt false) (ae FD [(v3 0),(c3 (.int 2))]) (c3 (.int 0)))) (aF (ae Ja [(v3 0),(c3 (.int 4)),(c3 (.int 4)),(c3 (.int 20))])) aW)
  (ai (aC 1 (ae G_ [(v3 0),(c3 (.int 8))]))
  (ai (aC 2 (aA a_ [(bv (v3 1) nT (l5 (ae FD [(v3 0),(c3 (.int 5))])))]))
  (ai (aC 3 (ah aS (c3 (.int 1)) (ae FD [(v3 0),(c3 (.int 4))])))
  (aF (aI [(v3 2),(aA a_ [(bz (fk (v3 3)) (.n 0) di (aI [(ah af (v3 3) (ah aS (c3 (.int 4)) (v3 0))),(ae Hj [(v3 1),(v3 2),(c_ [(c3 (.int 19))]),(c3 (.int 5))])]) 1 [0,2,1])])]))))))
end C
namespace Zv
open PySem
open Sem (wp)
abbrev Fe(h:Heap)(n:Nat)(f0 f1:Value):Prop:=h.get? (n+4:Nat)=some { cls:=.type "zip",dict:=none,data:=.fields #[f0,f1,.bool false,.ref (n+2:Nat),.ref (n+3:Nat)],slots:=#[] }
section
variable {prog:Program} {w:World} {A:Around} {E:Value→Shared→Prop} {s:Shared} {n l1 l2:Nat} {i:Nat} {xs ys:Array Value} {x y:Value} {T:Nat} {oT:Obj} {f1:Value}
end
noncomputable def CC(n i:Nat):List Value:=(List.range i).map fun j=>Value.ref (n+6+j:Nat)
structure St (h:Heap) (n l1 l2:Nat) (xs ys:Array Value) (i:Nat):Prop where
 sz:h.objs.size=n+6+i
 I:IsPair h (n+2:Nat) (.ref n) (.ref (n+1:Nat))
 z:∃f1,(f1 = .bool false∨f1 = .bool true)∧Fe h n (rawInt (n+6:Nat)) f1
 g1:h.IsListIter n l1 i
 g2:h.IsListIter (n+1:Nat) l2 i
 t1:h.IsList l1 xs
 t2:h.IsList l2 ys
 S:∃c,h.get? (n+5:Nat)=some { cls:=.type "list",dict:=none,data:=.seq (CC n i).toArray c,slots:=#[] }
 its:∀j x y,j < i→xs[j]?=some x→ys[j]?=some y→IsPair h (n+6+j:Nat) x y
structure Fz (h:Heap) (n:Nat) (xs ys:Array Value):Prop where
 sz:n+6+xs.size≤h.objs.size
 S:∃c,h.get? (n+5:Nat)=some { cls:=.type "list",dict:=none,data:=.seq (CC n xs.size).toArray c,slots:=#[] }
 its:∀j x y,xs[j]?=some x→ys[j]?=some y→IsPair h (n+6+j:Nat) x y
section
variable {prog:Program} {w:World} {A:Around} {R:Result→Shared→Prop} {n l1 l2:Nat} {xs ys:Array Value}
end
section
variable {prog:Program} {w:World} {A:Around} {E:Value→Shared→Prop} {s:Shared} {n l1 l2:Nat} {xs ys:Array Value}
end
end Zv
namespace L2
open PySem PySem.Spec PyProof.Rows
structure Lj (K:PySem.W.Frag) (x:Str) (st:Stmt) (T:Addr) (f:Addr) (fd:FuncData):Prop where
 ex:∃(oc:Value) (od:Option Addr) (kV doc pm:Value) (an:Option Addr) (cdv ct:Value) (osl:Array (Option Value)),
  fd=PySem.W.fnOf x x (bZ st) (aR st) (au st) (.ref T) kV doc pm an cdv ct∧K.lookup f=some ⟨oc,od,.func fd,osl⟩∧PySem.W.codeIn K cdv x=true
 kp:PySem.W.keepIn K (.ref f)=true
section
variable {P:Program} {w:World} {K:PySem.W.Frag} {mg:Str→Option Value} {base:Heap}
theorem Lj.ok{x:Str}{st:Stmt}{T f:Addr}{fd:FuncData}{N ps:List Str}{k:Nat}{sp:Sp}(F:Lj K x st T f fd)(S:bL N ps (au st))(len:∀vs H Q E,sp vs H Q E→vs.length=ps.length)
  (hbody:∀(cdv:Value) (A:Around) (outer:List Env) (s:Shared) (H:Hp) (vs:List V) (Q:VK) (E:XK),Room k (A.deeper (envOfC x (au st) s.heap.objs.size f cdv))→sp vs H Q E→
   ∃t,IN (gr pI P w K mg base N x (au st) f cdv A outer s H E).JY (aR st) t∧t { nx:=fun _ H'=>Q .non H',rt:=Q } (fe N vs) H):dP P w K mg base pI (k+1) f fd ps sp:=by
 obtain⟨oc,od,kV,doc,pm,an,cdv,ct,osl,rfl,lk,hcd⟩:=F.ex
 refine uf lk hcd S len fun A outer s H vs Q E hr Kw=>?_
 obtain⟨t,h,q⟩:=hbody cdv A outer s H vs Q E hr Kw
 exact⟨t,h.JY,q⟩
end
section
variable {X:Cx}
end
end L2
namespace L3
open PySem L2
section
variable {P:Program} {w:World} {K:PySem.W.Frag} {mg:Str→Option Value} {base:Heap}
structure Eh (K:PySem.W.Frag) (mg:Str→Option Value) (x:Str) (st:Stmt) (ps:List Str) (T:Addr) (f:Addr) (fd:FuncData):Prop where
 F:Lj K x st T f fd
 b:Binds K fd ps []
 d:Binds K fd ps [.bool true]
 k:PySem.W.keepIn K (.ref f)=true
 m:mg x=some (.ref f)
end
section
variable {X:Cx} {e o:Expr} {es:List Expr} {te to:aJ} {ts:List aJ} {x:Str} {p pos apos cpos:Pos} {k:Nat} {f:Addr} {fd:FuncData} {ps:List Str} {sp:aw}
end
section
variable {X:Cx} {a b:Expr} {ta tb:aJ}
end
end L3
namespace L2
open PySem PySem.Spec PyProof.Rows
noncomputable def ij(its:Array Value)(z:Str)(u:Tok)(i:Nat)(_:Option Fin×Unit):Sem (ForInStep (Option Fin×Unit)):=
 match its[i]? with
 |some y=>do
  let __do_lift ←eqBool y (Value.str z u)
  if __do_lift=true then do
   let __do_lift ←retInt (i:Int)
   pure (ForInStep.done (some __do_lift,()))
  else pure (ForInStep.yield (none,()))
 |_=>pure (ForInStep.yield (none,()))
theorem oH{prog:Program}{w:World}{A:Around}{E:Value→Shared→Prop}{z:Str}{u:Tok}{its:Array Value}{k:Nat}{Q:Option Fin×Unit→Shared→Prop}(hk:∃t,its[k]?=some (.str z t)) :
  ∀(m i:Nat) (s:Shared),i+m=its.size→i≤k→(∀j v,i≤j→j < k→its[j]?=some v→∃a t,v = .str a t∧a≠z)→(∀tk,Q (some (.done (.ret (.int k tk))),()) { s with toks:=s.toks+1 })→
  wpAny (model prog w) A (forIn (List.range' i m 1) ((none,()):Option Fin×Unit) (ij its z u)) Q E s
 |0,i,s,hm,hi,h,q=>by
  obtain⟨t,hk⟩:=hk
  have:=(Array.getElem?_eq_some_iff.mp hk).1
  omega
 |m+1,i,s,hm,hi,h,q=>by
  rw[List.range'_succ,List.forIn_cons]
  have hlt:i < its.size:=by omega
  by_cases e:i=k
  ·subst e
   obtain⟨t,hk⟩:=hk
   refine wpAny_bind ?_
   unfold ij
   rw[hk]
   refine wpAny_bind (wpAny_eqBool_str ?_)
   rw[decide_eq_true rfl,if_pos rfl]
   exact wpAny_bind (wpAny_bind (wpAny_mkInt (wpAny_pure (wpAny_pure (wpAny_pure (q _))))))
  ·have hv:=Array.getElem?_eq_getElem hlt
   obtain⟨a,t,ea,ne⟩:=h i _ (Nat.le_refl _) (by omega) hv
   refine wpAny_bind ?_
   have eb:ij its z u i (none,())=(do let __do_lift ←eqBool (Value.str a t) (Value.str z u);if __do_lift=true then do { let __do_lift ←retInt (i:Int);pure (ForInStep.done (some __do_lift,())) } else pure (ForInStep.yield (none,()))):=by
    unfold ij
    rw[hv,ea]
   rw[eb]
   refine wpAny_bind (wpAny_eqBool_str ?_)
   rw[decide_eq_false ne,if_neg (by decide)]
   exact wpAny_pure (oH hk m (i+1) s (by omega) (by omega) (fun j v h1 h2=>h j v (by omega) h2) q)
theorem At(l:Addr)(its:Array Value)(n:Nat)(dd:Option Addr)(sl:Array (Option Value))(z:Str)(u:Tok)(k:Nat)(hk:∃t,its[k]?=some (.str z t))(h:∀j v,j < k→its[j]?=some v→∃a t,v = .str a t∧a≠z) :
  Meets (Builtin.«tuple.index» ⟨[.ref l,.str z u],[]⟩) (fun _ R s=>s.heap.get? l=some { cls:=.type "tuple",dict:=dd,data:=.seq its n,slots:=sl }∧∀tk,R (.ok (.ret (.int k tk))) { s with toks:=s.toks+1 }):=
 .of_wp fun prog w A R s hh=>by
  obtain⟨hp,g,d,tk,os⟩:=s;obtain⟨hl,q⟩:=hh
  wp_walk using wpAny_loadPart' hl
  show wpAny _ _ (forIn (⟨0,min its.size its.size,1,Nat.one_pos⟩:Std.Legacy.Range) ((none,()):Option Fin×Unit) (ij its z u)) _ _ _
  rw[Std.Legacy.Range.forIn_eq_forIn_range']
  have e:Std.Legacy.Range.size ⟨0,min its.size its.size,1,Nat.one_pos⟩=its.size:=by unfold Std.Legacy.Range.size;simp
  rw[e]
  exact oH hk its.size 0 _ (by omega) (Nat.zero_le _) (fun j v _ hj hv=>h j v hj hv) fun tk'=>wpAny_pure ⟨_,rfl,q tk'⟩
section
variable {X:Cx}
noncomputable def xQ(K:PySem.W.Frag):V→List V→Hp→VK→Prop:=fun x vs H Q=>∃(l:Addr) (zs:List Str) (z:Str) (k:Nat),x = .ref l∧vs=[.str z]∧F3 K H l (zs.map V.str)∧zs[k]?=some z∧(∀j:Nat,j < k→zs[j]?≠some z)∧Q (.int k) H
theorem tq:zA X "tuple.index" (xQ X.K):=by
 intro pins s σ H x vs v us Q I rx rv h
 obtain⟨l,zs,z,k,rfl,rfl,hT,hk,hf,q⟩:=h
 cases rx
 obtain⟨w,rfl,u,rfl⟩:=fo rv
 obtain⟨its,r1,p1,_⟩:=I.tuple hT
 obtain⟨⟨cls,dd,data,sl⟩,ho,hc,n,hd⟩:=id p1
 simp only at hc hd
 subst hc hd
 refine call_meets PySem.F.slot_tuple_index ⟨_,ho,rfl⟩ PySem.F.entry_tuple_index (PySem.F.args_tuple_index_2 _ _) (At l its.toArray n dd sl z u k ?_ ?_) ⟨ho,fun tk=>⟨.int k,H,I.tok _,⟨_,rfl⟩,q⟩⟩
 ·obtain⟨v,hv,t,rfl⟩:=r1.get (i:=k) (x:=.str z) (by rw[List.getElem?_map,hk];rfl)
  exact⟨t,by simpa using hv⟩
 ·intro j v hj hv
  have hjl:j < its.length:=by simpa using(Array.getElem?_eq_some_iff.mp hv).1
  have hl:=r1.length
  rw[List.length_map]at hl
  obtain⟨v',hv',t,rfl⟩:=r1.get (i:=j) (x:=.str (zs[j]'(by omega))) (by rw[List.getElem?_map,List.getElem?_eq_getElem (by omega)];rfl)
  have e:v = .str (zs[j]'(by omega)) t:=by
   have h1:its[j]?=some v:=by simpa using hv
   rw[hv']at h1;cases h1;rfl
  exact⟨_,t,e,fun h=>hf j hj (by rw[List.getElem?_eq_getElem (by omega),h])⟩
theorem xR{pins:List (Addr×Obj)}{σ:St}{H:Hp}{s:Shared}{a:Addr}{xs:List V}(I:Inv X pins σ H s)(h:F3 X.K H a xs):s.TypeIs (.ref a) "tuple"∧∀b,Value.ref a = .ref b→∃ob,s.heap.get? b=some ob∧ob.dict=none:=by
 rcases h with h|⟨o,its,n,hk,hc,hd,_⟩
 ·obtain⟨z,its,r,o,e,hd,hc,_⟩:=h.ok I.hok
  exact⟨⟨o,e,hc⟩,fun b q=>by cases q;exact⟨o,e,hd⟩⟩
 ·exact⟨⟨o,I.Ik a o hk,hc⟩,fun b q=>by cases q;exact⟨o,I.Ik _ o hk,hd⟩⟩
variable {o e:Expr} {es:List Expr} {to:TE} {t:TA} {name:Str} {apos cpos:Pos} {id:String} {r:V→List V→Hp→VK→Prop}
def Ei(K:PySem.W.Frag)(r:V→List V→Hp→VK→Prop)(to:TE)(t:TA):TE:=fun σ H Q=>to σ H fun x H1=>(∃a xs,x = .ref a∧F3 K H1 a xs)∧t σ H1 fun xs H2=>r x xs H2 Q
theorem Au(pa:PlainAttrs "tuple")(slot:Slot "tuple" name id)(hty:typeOf (.builtin id)=pure (.type "method_descriptor"))(hm:zA X id r)(ho:PE X o to)(ha:PA X (e::es) t)
  (hbase:attributeBase o name X.env (eval o X.env)=eval o X.env:=by rfl)
  (hfew:((backTo cpos (starEach (e::es) X.env)).all (fun x=>!x.1)&&(backToKw cpos (keywordEach [] X.env)).all (fun x=>x.1.isSome)
   && decide ((e::es).length+([]:List Keyword).length+(if ([]:List Keyword).isEmpty then 0 else 1) < 30))=true:=by rfl)
  (hline:(apos.endLine == cpos.line)=true:=by rfl) (hs:starEach (e::es) X.env=(false,eval e X.env)::starEach es X.env:=by rfl) (hplain:(backTo cpos (starEach es X.env)).any (·.1)=false:=by rfl) :
  PE X (.Call (.Attribute o name apos) (e::es) [] cpos) (Ei X.K r to t):=by
 intro pins s σ H Q I h
 refine wpAny_Call_method_late hbase hfew hline rfl (FI (ho pins s σ H _ I h) fun v s1 ⟨x,H1,I1,r1,⟨a,xs,ex,hT⟩,q1⟩=>?_)
 subst ex
 have r1':=r1
 cases r1
 obtain⟨h1,h2⟩:=xR I1 hT
 refine⟨"tuple",id,pa,slot,hty,h1,h2,?_⟩
 have hA:=ha cpos pins s1 σ H1 _ I1 q1
 rw[hs]at hA ⊢
 refine Calls.callWith_builtin (by show(false || (backTo cpos (starEach es X.env)).any (·.1))=false;rw[hplain]<;>rfl) (Calls.evalArgs_plain ?_)
 exact FI hA fun us s2 ⟨vs,H2,I2,r2,q2⟩=>hm pins s2 σ H2 _ vs _ us Q I2 r1' r2 q2
end
end L2
namespace L3
open PySem L2
section
variable {X:Cx}
noncomputable def eI:List PV→Option (List Str)
 |[]=>some []
 | .str z::r=>(eI r).map (z::·)
 |_::_=>none
theorem eJ:∀zs:List Str,eI (zs.map PV.str)=some zs
 |[]=>rfl
 |z::r=>by show(eI (r.map PV.str)).map (z::·)=_;rw[eJ r];rfl
theorem mj:∀{ps:List PV} {zs:List Str},eI ps=some zs→ps=zs.map PV.str
 |[],zs,h=>by cases h;rfl
 | .str z::r,zs,h=>by
  unfold eI at h
  cases e:eI r with
  |none=>rw[e]at h;cases h
  |some ws=>rw[e]at h;cases h;rw[mj e];rfl
def ik:rG:=fun x ps S Q=>match x,ps with
 | .tup xs,[.str z]=>(match eI xs with|some zs=>∃k:Nat,zs[k]?=some z∧(∀j:Nat,j < k→zs[j]?≠some z)∧Q (.int k) S|none=>False)
 |_,_=>False
theorem ml{K:PySem.W.Frag}{H:Hp}:∀{vs:List V} {zs:List Str},Reps K H vs (zs.map PV.str)→vs=zs.map V.str
 |[],[],_=>rfl
 |v::vs,z::zs,.cons a r=>by cases a;rw[ml r];rfl
theorem vi:u8 X "tuple.index" ik:=⟨fun pins s σ H x xs v us Q I rx rs ⟨px,ps,S,Q3,r1,rp,rS,q,k⟩=>by
 unfold ik at q
 split at q
 ·split at q
  ·rename_i e
   obtain⟨j,hk,hf,q⟩:=q
   cases r1 with
   |tup hq rs'=>
    rw[mj e]at rs'
    have ev:=ml rs'
    subst ev
    cases rp with
    |cons b rr=>
     cases rr;cases b
     exact tq pins s σ H _ _ v us Q I rx rs ⟨_,_,_,j,rfl,rfl,hq,hk,hf,k _ S _ H q (.int _) rS .refl⟩
  ·exact q.elim
 ·exact q.elim⟩
variable {o e:Expr} {es:List Expr} {to:aJ} {ts:List aJ} {name:Str} {apos cpos:Pos} {id:String}
def Av(r:rG)(to:aJ)(ts:List aJ):aJ:=fun σ S Q E=>to σ S (fun x S1=>match x with | .tup _=>ap ts σ S1 (fun ps S2=>r x ps S2 Q) E|_=>False) E
theorem CD{r:rG}(pa:PlainAttrs "tuple")(slot:Slot "tuple" name id)(hty:typeOf (.builtin id)=pure (.type "method_descriptor"))(hm:u8 X id r)(hs:starEach (e::es) X.env=(false,eval e X.env)::starEach es X.env)(ho:ba X o to)(ha:iK X (e::es) ts)
  (hbase:attributeBase o name X.env (eval o X.env)=eval o X.env:=by rfl)
  (hfew:((backTo cpos (starEach (e::es) X.env)).all (fun x=>!x.1)&&(backToKw cpos (keywordEach [] X.env)).all (fun x=>x.1.isSome)
   && decide ((e::es).length+([]:List Keyword).length+(if ([]:List Keyword).isEmpty then 0 else 1) < 30))=true:=by rfl)
  (hline:(apos.endLine == cpos.line)=true:=by rfl) (hplain:(backTo cpos (starEach es X.env)).any (·.1)=false:=by rfl):ba X (.Call (.Attribute o name apos) (e::es) [] cpos) (Av r to ts):=
 ⟨aL (Au pa slot hty hm.ok ho.ok ha.ok hbase hfew hline hs hplain) fun σ H Q ⟨σ3,S,Q3,E3,rσ,rS,h,xo,k⟩=>⟨σ3,S,_,E3,rσ,rS,h,xo,fun x S1 v H1 h1 rx FR g1=>by
  dsimp only at h1
  split at h1
  ·have M6:=rx
   cases rx with
   |tup hq rs=>exact⟨⟨_,_,rfl,hq⟩,bi (rσ.mono g1) FR h1 (xo.mono g1) fun ps S2 vs H2 hl q rv Hv g2=>⟨_,ps,S2,Q3,M6.mono g2,rv,Hv,q,k.mono (g1.trans g2)⟩⟩
  ·exact h1.elim⟩⟩
end
end L3
namespace L2
open PySem PySem.Spec PyProof.Rows
section
variable {X:Cx}
end
end L2
namespace L3
open PySem L2
section
variable {X:Cx} {a b:Expr} {ta tb:aJ} {p pos:Pos}
end
end L3
namespace C
open PySem L2 L3
end C
namespace L3
open PySem L2 Xc
def Ej(K:PySem.W.Frag)(H:Hp)(E3:bH)(E:XK):Prop:=∀(c:Str) (ks:List Str) (ps:List PV) (S':ar) (H':Hp) (C dx:Addr) (od:Obj) (vs:List V),E3 (.exc c ks ps) [] S'→Gh K c C→vs.length=ks.length→
 H' dx=some (.frz od (.ext (XD dx (ks.zip vs))))→Reps K H' vs ps→FJ K H' S'→Grow K H H'→E (.ref C) (some dx) H'
noncomputable def Ek(K:PySem.W.Frag)(n:Nat)(sp:aw):Sp:=fun vs H Q E=>vs.length=n∧∃ps S Q3 E3,Reps K H vs ps∧FJ K H S∧sp ps S Q3 E3∧J4 K H Q3 Q∧Ej K H E3 E
structure J6 (P:Program) (w:World) (K:PySem.W.Frag) (mg:Str→Option Value) (base:Heap) (k:Nat) (f:Addr) (fd:FuncData) (ps:List Str) (sp:aw):Prop where
 ok:dP P w K mg base (uR P w) k f fd ps (Ek K ps.length sp)
theorem J6.zero{P:Program}{w:World}{K:PySem.W.Frag}{mg:Str→Option Value}{base:Heap}{k:Nat}{f:Addr}{fd:FuncData}{ps:List Str}{sp:aw}(h:sp=fun _ _ _ _=>False):J6 P w K mg base k f fd ps sp:=by
 subst h
 exact⟨⟨fun vs H Q E q=>q.1,fun A outer s H args us vs Q E _ _ _ _ ⟨_,_,_,_,_,_,_,q,_⟩=>q.elim⟩⟩
def aG(sp:aw)(ts:List aJ):aJ:=fun σ S Q E=>ap ts σ S (fun ps S1=>sp ps S1 Q (fun p _ S'=>E p σ S')) E
def dj(n:Nat)(t:bh):aw:=fun args S Q E=>t { nx:=fun _ S'=>Q .non S',rt:=Q,ex:=fun p _ S'=>E p [] S' } (av n args) S
section
variable {X:Cx} {e o:Expr} {es:List Expr} {te to:aJ} {ts:List aJ} {x:Str} {p pos apos cpos:Pos} {k:Nat} {f:Addr} {fd:FuncData} {ps:List Str} {sp:aw}
theorem xS(F:J6 X.prog X.w X.K X.mg X.base k f fd ps sp)(hr:Room k X.A)(hg:Gl X x)(hm:X.mg x=some (.ref f))(hk:PySem.W.keepIn X.K (.ref f)=true)(hb:Binds X.K fd ps [])(he:starEach (e::es) X.env=(false,eval e X.env)::starEach es X.env)(ha:iK X (e::es) ts)
    (hl:ts.length=ps.length:=by rfl) (hdb:(x == ("__debug__":Str))=false:=by decide) (hpl:(backTo pos (starEach es X.env)).any (·.1)=false:=by rfl):ba X (.Call (.Name x p) (e::es) [] pos) (aG sp ts):=
  ⟨aL (uS F.ok hr hg hm hk hb ha.ok hdb he hpl) fun σ H Q ⟨σ3,S,Q3,E3,rσ,rS,h,xo,k⟩=>bi rσ rS h xo fun ps' S' vs H' hl' q rv G4 g=>
    ⟨fun c d H2=>∃(cn:Str) (ks:List Str) (ps2:List PV) (S2:ar) (C dx:Addr) (od:Obj) (IR:List V),c = .ref C∧d=some dx∧E3 (.exc cn ks ps2) σ3 S2∧Gh X.K cn C∧IR.length=ks.length∧H2 dx=some (.frz od (.ext (XD dx (ks.zip IR))))∧Reps X.K H2 IR ps2∧FJ X.K H2 S2∧Grow X.K H' H2,
     ⟨by rw[rv.length,hl',hl],ps',S',Q3,_,rv,G4,q,k.mono g,fun cn ks ps2 S2 H2 C dx od IR h1 h2 h3 h4 h5 h6 h7=>⟨cn,ks,ps2,S2,C,dx,od,IR,rfl,rfl,h1,h2,h3,h4,h5,h6,h7⟩⟩,
     fun pins c d H2 ⟨cn,ks,ps2,S2,C,dx,od,IR,e1,e2,h1,h2,h3,h4,h5,h6,h7⟩ s' a C' NT e3 e4 I xa=>by
      subst e1 e2;cases e3;cases e4
      exact xo cn ks ps2 σ3 S2 H2 pins σ s' a _ _ od IR h1 h2 h3 h4 h5 h6 (rσ.mono (g.trans h7)) (g.trans h7) I xa⟩⟩
end
section
variable {P:Program} {w:World} {K:PySem.W.Frag} {mg:Str→Option Value} {base:Heap}
noncomputable abbrev oI(P:Program)(w:World)(K:PySem.W.Frag)(mg:Str→Option Value)(base:Heap)(N:List Str)(qual:Str)(st:Stmt)(f:Addr)(cdv:Value)(A:Around)(outer:List Env)(s:Shared)(H:Hp)(E:XK):Cx:=gr (uR P w) P w K mg base N qual (au st) f cdv A outer s H E
theorem CF{x qual:Str}{st:Stmt}{f:Addr}{fd:FuncData}{N ps:List Str}{k:Nat}{t:bh}(F:Kd K x qual st f fd)(S:bL N ps (au st))
  (hbody:∀(cdv:Value) (A:Around) (outer:List Env) (s:Shared) (H:Hp) (E:XK),Room k (A.deeper (PyProof.Rows.envOfC qual (au st) s.heap.objs.size f cdv))→ft (oI P w K mg base N qual st f cdv A outer s H E) (aR st) t) :
  J6 P w K mg base (k+1) f fd ps (dj N.length t):=by
 obtain⟨oc,od,kV,doc,pm,an,cdv,ct,osl,rfl,lk,hcd⟩:=F.ex
 refine⟨uf lk hcd S (fun vs H Q E h=>h.1) fun A outer s H vs Q E hr ⟨hl,ps',S',Q3,E3,rv,rS,q,kk,kx⟩=>⟨_,(hbody cdv A outer s H E hr).ok,av N.length ps',S',_,ma rv,rS,q,?_,fun σ3 S2 σ2 H2 h2 _ Hv g2=>kk _ S2 _ H2 h2 .non Hv g2,kk,fun _ _ _ _ h2=>h2.elim,fun _ _ _ _ h2=>h2.elim⟩⟩
 exact fun c ks ps2 σ3 S2 H2 pins σ s' a C dx od IR h1 h2 h3 h4 h5 h6 h7 h8 I xa=>sV I xa (kx c ks ps2 S2 H2 C dx od IR h1 h2 h3 h4 h5 h6 h8)
end
structure Aw (K:PySem.W.Frag) (mg:Str→Option Value) (x qual:Str) (st:Stmt) (ps ks:List Str) (C f:Addr) (fd:FuncData):Prop where
 F:Kd K "__init__" qual st f fd
 b:Binds K fd ps []
 cn:Gh K x C
 m:mg x=some (.ref C)
 ek:ExcK K C
 en:∀k∈ks,NoAttr K C k
 hi:PySem.W.findIn K (.ref C) "__init__" = some (some (.ref f))
 hf:PySem.W.isFn K (.ref f)=true
 kp:PySem.W.keepIn K (.ref C)=true
def eL(c:Str)(ks:List Str)(ts:List aJ):bh:=fun D σ S=>ap ts σ S (fun ps S1=>D.ex (.exc c ks ps) σ S1) D.ex
section
variable {X:Cx} {e:Expr} {es:List Expr} {ts:List aJ} {x qual:Str} {st:Stmt} {p pos cpos:Pos} {f C:Addr} {fd:FuncData} {ps ks:List Str}
theorem xT(T:Aw X.K X.mg x qual st ps ks C f fd)(F:dP X.prog X.w X.K X.mg X.base pI 1 f fd ps (mP X.K C ks))(hps:ps.length=ks.length+1)(hr:Room 2 X.A)(Jq:X.calm=true)(hg:Gl X x)(he:starEach (e::es) X.env=(false,eval e X.env)::starEach es X.env)(ha:iK X (e::es) ts)
  (hl:ts.length=ks.length:=by rfl) (hks:ks.length≤1000:=by exact Nat.le_of_ble_eq_true rfl) (hdb:(x == ("__debug__":Str))=false:=by decide) (hpl:(backTo cpos (starEach es X.env)).any (·.1)=false:=by rfl) :
  mQ X (.Raise (some (.Call (.Name x p) (e::es) [] cpos)) none pos) (eL x ks ts):=
 ⟨b5 (uU F hps hks T.ek T.en T.hi T.hf T.kp hr Jq hg T.m T.b ha.ok hdb he hpl) fun D σ H ⟨σ3,S,D3,rσ,rS,h,xo,n,r,bk,ct⟩=>bi rσ rS h xo fun ps' S' vs H' hl' q rv G4 g=>
  ⟨by rw[rv.length,hl',hl],fun pins dx od hdx s' a C' NT e3 e4 I xa=>by
   cases e3;cases e4
   exact xo x ks ps' σ3 S' _ pins σ s' a C dx od vs q T.cn (by rw[rv.length,hl',hl]) aq (rv.mono (.new hdx)) (G4.other hdx) (rσ.mono (g.trans (.new hdx))) (g.trans (.new hdx)) I xa⟩⟩
end
noncomputable def XMro(K:PySem.W.Frag)(Dc:Addr):List Str→Prop
 |[]=>True
 |c::r=>(∃C,Gh K c C∧PySem.W.mroIn K C (.ref Dc)=some true)∧XMro K Dc r
theorem Gh.inj{K:PySem.W.Frag}{c:Str}{C D:Addr}(h1:Gh K c C)(h2:Gh K c D):C=D:=by
 have e:=(show PySem.W.nsIn K mainGlobals c=some (some (.ref C))from h1).symm.trans h2
 injection e with e;injection e with e;injection e
theorem XMro.at_{K:PySem.W.Frag}{Dc:Addr}:∀{cs:List Str} {c:Str} {C:Addr},XMro K Dc cs→cs.contains c=true→Gh K c C→PySem.W.mroIn K C (.ref Dc)=some true
 |[],_,_,_,h,_=>by simp at h
 |d::r,c,C,⟨⟨D,h1,h2⟩,h3⟩,h,hc=>by
  rw[List.contains_cons,Bool.or_eq_true]at h
  rcases h with h|h
  ·cases beq_iff_eq.mp h;rw[hc.inj h1];exact h2
  ·exact XMro.at_ h3 h hc
section
variable {X:Cx} {body suite:List Stmt} {b₀:Stmt} {n x:Str} {i:Nat} {np hpos pos:Pos} {tb th:bh} {Dc:Addr} {cs:List Str}
end
noncomputable def XAttr(K:PySem.W.Frag):List (Str×Str)→Prop
 |[]=>True
 |(c,f)::r=>(∃C,Gh K c C∧ExcK K C∧NoAttr K C f)∧XAttr K r
theorem XAttr.at_{K:PySem.W.Frag}:∀{l:List (Str×Str)} {c f:Str} {C:Addr},XAttr K l→l.contains (c,f)=true→Gh K c C→ExcK K C∧NoAttr K C f
 |[],_,_,_,_,h,_=>by simp at h
 |(d,g)::r,c,f,C,⟨⟨D,h1,h2,h3⟩,h4⟩,h,hc=>by
  rw[List.contains_cons,Bool.or_eq_true]at h
  rcases h with h|h
  ·cases beq_iff_eq.mp h;rw[hc.inj h1];exact⟨h2,h3⟩
  ·exact XAttr.at_ h4 h hc
def vj(l:List (Str×Str))(f:Str)(te:aJ):aJ:=fun σ S Q E=>te σ S (fun p S1=>match p with | .exc c ks ps=>l.contains (c,f)=true∧(match (ks.zip ps).lookup f with|some v=>Q v S1|none=>False)|_=>False) E
section
variable {X:Cx} {e:Expr} {te:aJ} {f:Str} {pos:Pos} {l:List (Str×Str)}
end
noncomputable def XTab(K:PySem.W.Frag):List (Str×Str×Bool)→Prop
 |[]=>True
 |(c,d,b)::r=>(∃C D,Gh K c C∧Gh K d D∧ExcK K C∧PySem.W.kitOne K (.ref C) (.ref D)=some b∧PySem.W.kitOne K (.ref C) (.type "ValueError")=some true)∧XTab K r
noncomputable def vk(c d:Str):List (Str×Str×Bool)→Option Bool
 |[]=>none
 |(c',d',b)::r=>if c=c'∧d=d' then some b else vk c d r
theorem XTab.at_{K:PySem.W.Frag}:∀{l:List (Str×Str×Bool)} {c d:Str} {b:Bool} {C D:Addr},XTab K l→vk c d l=some b→Gh K c C→Gh K d D→ExcK K C∧PySem.W.kitOne K (.ref C) (.ref D)=some b
 |[],_,_,_,_,_,_,h,_,_=>by cases h
 |(c',d',b')::r,c,d,b,C,D,⟨⟨C',D',h1,h2,h3,h4,h5⟩,h6⟩,h,hc,hd=>by
  unfold vk at h
  split at h
  ·rename_i e
   obtain⟨rfl,rfl⟩:=e
   cases h
   rw[hc.inj h1,hd.inj h2]
   exact⟨h3,h4⟩
  ·exact XTab.at_ h6 h hc hd
noncomputable def xU(s:Stmt):List Stmt:=match s with
 | .ClassDef _ _ _ body _ _ _ _ _ _ _=>body
 |_=>[]
section
variable {P:Program} {w:World} {K:PySem.W.Frag} {mg:Str→Option Value} {base:Heap} {N:List Str} {qual:Str} {st:Stmt} {f:Addr} {cdv:Value} {A:Around} {outer:List Env} {s:Shared} {H:Hp} {E:XK}
theorem El:PassesOwn (model (oI P w K mg base N qual st f cdv A outer s H E).prog (oI P w K mg base N qual st f cdv A outer s H E).w) (oI P w K mg base N qual st f cdv A outer s H E).A (oI P w K mg base N qual st f cdv A outer s H E).env (oI P w K mg base N qual st f cdv A outer s H E).xe:=PassesOwn.leaving
end
end L3
namespace L3
open PySem L2
end L3
namespace CX
open PySem L2 L3
noncomputable abbrev M7:List (Str×Str):=[("NoHouse","word"),("NoHouse","name")]
def cP(JG IP:aw):bh:=(ai (aC 1 (ae JG [(v3 0),(c3 .non)]))
  (ai (aC 2 (ae IP [(v3 0)]))
  (ai (bA (aO (ah (Bj false) (v3 1) (c3 .non))) (aF (ah (Bj false) (ah af (v3 2) (c3 (.int 0))) (c3 (.bl true)))) aW)
  (aF (ky (ah (Bj true) (ah af (v3 2) (c3 (.int 1))) (c3 .non)) (ah (bt false) (ah af (v3 2) (c3 (.int 1))) (aI [(ah af (v3 1) (c3 (.int 0))),(ah af (v3 1) (c3 (.int 1))),(c3 (.bl true))])))))))
end CX
namespace L2
open PySem PySem.Spec PyProof.Rows Xc
section
variable {X:Cx} {k:Nat} {f C:Addr} {fd:FuncData} {ps:List Str} {sp:Sp} {m:Str} {pos apos:Pos} {e o:Expr} {es:List Expr} {ta:TE} {t:TA}
def Ax(X:Cx)(C:Addr)(m:Str)(sp:Sp)(ta:TE)(t:TA):TE:=fun σ H Q=>ta σ H fun x H1=>∃a dx fs,x = .ref a∧H1 a=some (.ins C dx fs)∧fs.lookup m=none∧
 t σ H1 fun vs H2=>∃E,sp (x::vs) H2 Q E∧∀pins c d H',E c d H'→EX X pins σ c d H'
theorem vm{pl:Sem Bool}(he:PE X o ta)(c:Cls X.K C)(hm:sE X.K C m f)(F:dP X.prog X.w X.K X.mg X.base (uR X.prog X.w) k f fd ps sp)(hr:Room k X.A)(hb:Binds X.K fd ps [])(ha:PA X (e::es) t)
  (hst:starEach (e::es) X.env=(false,eval e X.env)::starEach es X.env) (hpl:(backTo pos (starEach es X.env)).any (·.1)=false)
  (ht:eval (.Call (.Attribute o m apos) (e::es) [] pos) X.env=(do
   let ov ←eval o X.env
   standAt apos.atName
   let (f,first) ←holding [ov] (getMethod ov m pl)
   callWith pos f first (backTo pos (starEach (e::es) X.env)) (backToKw pos (keywordEach [] X.env)))) :
  PE X (.Call (.Attribute o m apos) (e::es) [] pos) (Ax X C m sp ta t):=by
 intro pins s σ H Q I h
 refine PySem.W.methodCall_KW (pl:=pl) (FI (he pins s σ H _ I h) fun u s1 ⟨x,H1,I1,rx,a,dx,fs,ex,ea,l,q⟩=>?_) ht
 subst ex
 obtain rfl:u=Value.ref a:=rx
 refine kf I1 ea c hm l ?_
 refine PySem.W.callWith_K (first:=[.ref a]) (h₀:=X.base) I.ok.mod.KN hm.kp (FI (ha pos pins s1 σ H1 _ I1 q) fun us s2 ⟨vs,H2,I2,r,E,q2,hE⟩=>⟨I2.Ik,?_⟩) hst hpl
 exact rA (us:=.ref a::us) (vs:=.ref a::vs) F hr hb (hE pins) I2 (.cons rfl r) q2
end
end L2
namespace L3
open PySem L2 Xc
section
variable {P:Program} {w:World} {K:PySem.W.Frag} {mg:Str→Option Value} {base:Heap}
structure bf (K:PySem.W.Frag) (mg:Str→Option Value) (x:Str) (st:Stmt) (ps:List Str):Prop where
 ex:∃f fd,Dp K mg x st ps f fd
structure oJ (K:PySem.W.Frag) (c m q:Str) (st:Stmt) (ps:List Str):Prop where
 ex:∃C f fd,Gh K c C∧Cls K C∧sE K C m f∧Kd K m q st f fd∧Binds K fd ps []
structure Bn (K:PySem.W.Frag) (mg:Str→Option Value) (c:Str) (fl:List Str):Prop where
 ex:∃C,Gh K c C∧mg c=some (.ref C)∧Cls K C∧PySem.W.makesIn K C=true∧PySem.W.keepIn K (.ref C)=true∧∀f∈fl,NoAttr K C f
structure Gu (P:Program) (w:World) (K:PySem.W.Frag) (mg:Str→Option Value) (base:Heap) (k:Nat) (x:Str) (n:Nat) (sp:aw):Prop where
 ex:∃f fd ps,ps.length=n∧KG P w K mg base k f fd ps sp∧mg x=some (.ref f)∧PySem.W.keepIn K (.ref f)=true∧Binds K fd ps []
structure Iz (P:Program) (w:World) (K:PySem.W.Frag) (mg:Str→Option Value) (base:Heap) (k:Nat) (x:Str) (n:Nat) (sp:aw):Prop where
 ex:∃f fd ps,ps.length=n∧J6 P w K mg base k f fd ps sp∧mg x=some (.ref f)∧PySem.W.keepIn K (.ref f)=true∧Binds K fd ps []
structure Bo (P:Program) (w:World) (K:PySem.W.Frag) (mg:Str→Option Value) (base:Heap) (k:Nat) (c m:Str) (n:Nat) (sp:aw):Prop where
 ex:∃C f fd ps,ps.length=n∧KG P w K mg base k f fd ps sp∧Gh K c C∧Cls K C∧sE K C m f∧Binds K fd ps []
structure xV (P:Program) (w:World) (K:PySem.W.Frag) (mg:Str→Option Value) (base:Heap) (k:Nat) (c m:Str) (n:Nat) (sp:aw):Prop where
 ex:∃C f fd ps,ps.length=n∧J6 P w K mg base k f fd ps sp∧Gh K c C∧Cls K C∧sE K C m f∧Binds K fd ps []
theorem fF{x:Str}{st:Stmt}{ps:List Str}{k n:Nat}{t:bh}{sp:aw}(N:List Str)(O:bf K mg x st ps)
  (hbody:∀(f:Addr) (cdv:Value) (A:Around) (outer:List Env) (s:Shared) (H:Hp) (E:XK),Room k (A.deeper (PyProof.Rows.envOfC x (au st) s.heap.objs.size f cdv))→N.Nodup→ft (Dn P w K mg base N x st f cdv A outer s H E) (aR st) t) (e:sp=bn N.length t)
  (hn:ps.length=n:=by rfl) (S:bL N ps (au st):=by exact⟨rfl,rfl,rfl,by decide +kernel,rfl,by decide +kernel,by decide +kernel⟩):Gu P w K mg base (k+1) x n sp:=by
 subst e
 obtain⟨f,fd,o⟩:=O.ex
 exact⟨f,fd,ps,hn,Ec o.F S fun cdv A outer s H E hr=>hbody f cdv A outer s H E hr S.nd,o.m,o.k,o.b⟩
theorem Bp{x:Str}{st:Stmt}{ps:List Str}{k n:Nat}{t:bh}{sp:aw}(N:List Str)(O:bf K mg x st ps)
  (hbody:∀(f:Addr) (cdv:Value) (A:Around) (outer:List Env) (s:Shared) (H:Hp) (E:XK),Room k (A.deeper (PyProof.Rows.envOfC x (au st) s.heap.objs.size f cdv))→N.Nodup→ft (oI P w K mg base N x st f cdv A outer s H E) (aR st) t) (e:sp=dj N.length t)
  (hn:ps.length=n:=by rfl) (S:bL N ps (au st):=by exact⟨rfl,rfl,rfl,by decide +kernel,rfl,by decide +kernel,by decide +kernel⟩):Iz P w K mg base (k+1) x n sp:=by
 subst e
 obtain⟨f,fd,o⟩:=O.ex
 exact⟨f,fd,ps,hn,CF o.F S fun cdv A outer s H E hr=>hbody f cdv A outer s H E hr S.nd,o.m,o.k,o.b⟩
theorem Em{c m q:Str}{st:Stmt}{ps:List Str}{k n:Nat}{t:bh}{sp:aw}(N:List Str)(O:oJ K c m q st ps)
  (hbody:∀(f:Addr) (cdv:Value) (A:Around) (outer:List Env) (s:Shared) (H:Hp) (E:XK),Room k (A.deeper (PyProof.Rows.envOfC q (au st) s.heap.objs.size f cdv))→N.Nodup→ft (Dn P w K mg base N q st f cdv A outer s H E) (aR st) t) (e:sp=bn N.length t)
  (hn:ps.length=n:=by rfl) (S:bL N ps (au st):=by exact⟨rfl,rfl,rfl,by decide +kernel,rfl,by decide +kernel,by decide +kernel⟩):Bo P w K mg base (k+1) c m n sp:=by
 subst e
 obtain⟨C,f,fd,o1,o2,o3,o4,o5⟩:=O.ex
 exact⟨C,f,fd,ps,hn,Ec o4 S fun cdv A outer s H E hr=>hbody f cdv A outer s H E hr S.nd,o1,o2,o3,o5⟩
theorem CG{c m q:Str}{st:Stmt}{ps:List Str}{k n:Nat}{t:bh}{sp:aw}(N:List Str)(O:oJ K c m q st ps)
  (hbody:∀(f:Addr) (cdv:Value) (A:Around) (outer:List Env) (s:Shared) (H:Hp) (E:XK),Room k (A.deeper (PyProof.Rows.envOfC q (au st) s.heap.objs.size f cdv))→N.Nodup→ft (oI P w K mg base N q st f cdv A outer s H E) (aR st) t) (e:sp=dj N.length t)
  (hn:ps.length=n:=by rfl) (S:bL N ps (au st):=by exact⟨rfl,rfl,rfl,by decide +kernel,rfl,by decide +kernel,by decide +kernel⟩):xV P w K mg base (k+1) c m n sp:=by
 subst e
 obtain⟨C,f,fd,o1,o2,o3,o4,o5⟩:=O.ex
 exact⟨C,f,fd,ps,hn,CF o4 S fun cdv A outer s H E hr=>hbody f cdv A outer s H E hr S.nd,o1,o2,o3,o5⟩
theorem Ff{x:Str}{st:Stmt}{ps:List Str}{k:Nat}{t:bh}{sp:aw}{f:Addr}{fd:FuncData}(N:List Str)(o:Dp K mg x st ps f fd)
  (hbody:∀(f:Addr) (cdv:Value) (A:Around) (outer:List Env) (s:Shared) (H:Hp) (E:XK),Room k (A.deeper (PyProof.Rows.envOfC x (au st) s.heap.objs.size f cdv))→N.Nodup→ft (Dn P w K mg base N x st f cdv A outer s H E) (aR st) t) (e:sp=bn N.length t)
  (S:bL N ps (au st):=by exact⟨rfl,rfl,rfl,by decide +kernel,rfl,by decide +kernel,by decide +kernel⟩):KG P w K mg base (k+1) f fd ps sp:=by
 subst e
 exact Ec o.F S fun cdv A outer s H E hr=>hbody f cdv A outer s H E hr S.nd
def rL:aw:=fun _ _ _ _=>False
theorem Gu.zero{x:Str}{st:Stmt}{ps:List Str}{k n:Nat}(O:bf K mg x st ps)(hn:ps.length=n:=by rfl):Gu P w K mg base k x n rL:=by
 obtain⟨f,fd,o⟩:=O.ex
 exact⟨f,fd,ps,hn,.zero rfl,o.m,o.k,o.b⟩
theorem Iz.zero{x:Str}{st:Stmt}{ps:List Str}{k n:Nat}(O:bf K mg x st ps)(hn:ps.length=n:=by rfl):Iz P w K mg base k x n rL:=by
 obtain⟨f,fd,o⟩:=O.ex
 exact⟨f,fd,ps,hn,.zero rfl,o.m,o.k,o.b⟩
theorem qu{b n:Nat}{x:Str}{st:Stmt}{ps:List Str}{r:Nat→aw}(O:bf K mg x st ps)(h:∀j,Gu P w K mg base (b+j) x n (r j)→Gu P w K mg base (b+j+1) x n (r (j+1)))(h0:r 0=rL)(hn:ps.length=n:=by rfl):∀j,Gu P w K mg base (b+j) x n (r j)
 |0=>by rw[h0];exact .zero O hn
 |j+1=>h j (qu O h h0 hn j)
end
section
variable {X:Cx} {a b e o:Expr} {es:List Expr} {ta tb te to:aJ} {ts:List aJ} {x c m f:Str} {p pos apos cpos:Pos} {j k n:Nat} {sp:aw}
theorem c4(O:Gu X.prog X.w X.K X.mg X.base k x n sp)(hr:Room j X.A)(ha:iK X (e::es) ts)(hj:k≤j:=by omega)(hl:ts.length=n:=by rfl)(hg:Gl X x:=by rfl)(he:starEach (e::es) X.env=(false,eval e X.env)::starEach es X.env:=by rfl)(hdb:(x == ("__debug__":Str))=false:=by decide)(hpl:(backTo pos (starEach es X.env)).any (·.1)=false:=by rfl) :
  ba X (.Call (.Name x p) (e::es) [] pos) (ae sp ts):=by
 obtain⟨f,fd,ps,hn,F,h1,h2,h3⟩:=O.ex
 exact Aj F (hr.mono hj) hg h1 h2 h3 he ha (hl.trans hn.symm) hdb hpl
theorem cX(O:Iz X.prog X.w X.K X.mg X.base k x n sp)(hr:Room j X.A)(ha:iK X (e::es) ts)(hj:k≤j:=by omega)(hl:ts.length=n:=by rfl)(hg:Gl X x:=by rfl)(he:starEach (e::es) X.env=(false,eval e X.env)::starEach es X.env:=by rfl)(hdb:(x == ("__debug__":Str))=false:=by decide)(hpl:(backTo pos (starEach es X.env)).any (·.1)=false:=by rfl) :
  ba X (.Call (.Name x p) (e::es) [] pos) (aG sp ts):=by
 obtain⟨f,fd,ps,hn,F,h1,h2,h3⟩:=O.ex
 exact xS F (hr.mono hj) hg h1 h2 h3 he ha (hl.trans hn.symm) hdb hpl
theorem cB{id:String}{r:pK}(hc:gA X (.builtin id) r)(hm:X.mg x=none)(ha:iK X (e::es) ts)(hg:Gl X x:=by rfl)(hv:bootBuiltins x=some (.builtin id):=by decide +kernel)(he:starEach (e::es) X.env=(false,eval e X.env)::starEach es X.env:=by rfl)
  (hnn:x ≠ "__name__":=by decide) (hdb:(x == ("__debug__":Str))=false:=by decide) (hpl:(backTo pos (starEach es X.env)).any (·.1)=false:=by rfl):ba X (.Call (.Name x p) (e::es) [] pos) (aA r ts):=xF hc hg hm hv he ha hnn hdb hpl
theorem cT{id:String}{r:pK}(hc:gA X (.type id) r)(hm:X.mg x=none)(ha:iK X (e::es) ts)(hg:Gl X x:=by rfl)(hv:bootBuiltins x=some (.type id):=by decide +kernel)(he:starEach (e::es) X.env=(false,eval e X.env)::starEach es X.env:=by rfl)
  (hnn:x ≠ "__name__":=by decide) (hdb:(x == ("__debug__":Str))=false:=by decide) (hpl:(backTo pos (starEach es X.env)).any (·.1)=false:=by rfl):ba X (.Call (.Name x p) (e::es) [] pos) (aA r ts):=xG hc hg hm hv he ha hnn hdb hpl
theorem lc{r:List Expr}(ha:ba X a ta)(hr:iK X r ts)(hs:starEach (a::r) X.env=(false,eval a X.env)::starEach r X.env:=by rfl):iK X (a::r) (ta::ts):=uX hs ha hr
theorem l1(ha:ba X a ta)(hs:starEach [a] X.env=(false,eval a X.env)::starEach [] X.env:=by rfl):iK X [a] [ta]:=uX hs ha on
theorem aU{i:Int}{q:Nat}{p2:Pos}(hr:Room j X.A)(ha:ba X a ta)(hs:jY (.Constant (.int i) q p2):=by exact fun _ _=>rfl):ba X (.Subscript a (.Constant (.int i) q p2) pos) (ah af ta (c3 (.int i))):=Cm (ER (xO hr)) ha ac hs
theorem fG(hr:Room j X.A)(ha:ba X a ta)(hb:ba X b tb)(hs:jY b:=by exact fun _ _=>rfl):ba X (.Subscript a b pos) (ah af ta tb):=Cm (ER (xO hr)) ha hb hs
theorem gu(hr:Room j X.A)(ha:ba X a ta)(hb:ba X b tb):qh X (.Compare a [.Eq] [b] pos) (aO (ah (bt false) ta tb)):=bD (ot (mf hr)) ha hb (bb _)
theorem CH(hr:Room j X.A)(ha:ba X a ta)(hb:ba X b tb):qh X (.Compare a [.NotEq] [b] pos) (aO (ah (bt true) ta tb)):=bD (Ck (mf hr)) ha hb (bb _)
theorem s4(i:Nat){pos':Pos}(nd:X.N.Nodup)(he:ba X e te)(hi:X.N[i]?=some x:=by rfl)(hx:yz X.env.scope x:=by first|exact Or.inl rfl|exact Or.inr rfl)(hs:swapsWith e (some (.Name x pos')) pos.line X.env=pure false:=by rfl)
  (hf:X.fn x=true∨X.env.scope.names.lookup x=some .local:=by first|exact .inl rfl|exact .inr rfl|assumption):mQ X (.Assign [.Name x pos'] e pos) (aC i te):=Cr nd hi hx he hs hf
theorem gn(i:Nat)(nd:X.N.Nodup)(hi:X.N[i]?=some x:=by rfl)(hx:yz X.env.scope x:=by first|exact Or.inl rfl|exact Or.inr rfl)(hf:X.fn x=true∨X.env.scope.names.lookup x=some .local:=by first|exact .inl rfl|exact .inr rfl|assumption):wj X (.Name x pos) (.n i):=Fa i nd hi hx hf
theorem Fg{px:Pos}{kvs:List (bg×Int)}{g:Expr}{tg:aJ}(hr:Room j X.A)(hD:∃a,X.mg x=some (.ref a)∧KD X.prog X.w X.K a (kvs.map fun kv=>(kv.1,V.int kv.2)))(he:ba X e te)(hf:ba X g tg)(hg:Gl X x:=by rfl)(m:M2 X (.Name x px) "get" apos e g cpos:=by exact⟨rfl,rfl,rfl,rfl⟩)
  (hd:(x == ("__debug__":Str))=false:=by decide):ba X (.Call (.Attribute (.Name x px) "get" apos) [e,g] [] cpos) (rH kvs te tg):=let ⟨_,h1,h2⟩:=hD;An (xO hr) hg h1 h2 he hf m hd
end
structure Ay (T:String) (name:Str) (id:String):Prop where
 pa:PlainAttrs T
 slot:Slot T name id
 ty:typeOf (.builtin id)=pure (.type "method_descriptor")
section
variable {X:Cx} {e o:Expr} {es:List Expr} {to:aJ} {ts:List aJ} {name:Str} {T id:String} {p pos apos cpos:Pos} {r:rG}
theorem ja:Ay "list" "append" "list.append":=⟨PySem.F.plainAttrs_list,PySem.F.slot_list_append,PySem.F.type_list_append⟩
theorem mn:Ay "list" "extend" "list.extend":=⟨PySem.F.plainAttrs_list,PySem.F.slot_list_extend,PySem.F.type_list_extend⟩
theorem Az:Ay "list" "pop" "list.pop":=⟨PySem.F.plainAttrs_list,PySem.F.slot_list_pop,PySem.F.type_list_pop⟩
theorem rM:Ay "str" "join" "str.join":=⟨PySem.F.plainAttrs_str,PySem.F.slot_str_join,PySem.F.type_str_join⟩
theorem vn:Ay "str" "index" "str.index":=⟨PySem.F.plainAttrs_str,PySem.F.slot_str_index,PySem.F.type_str_index⟩
theorem yL(k:Ay T name id)(hm:u8 X id r)(ho:ba X o to)(ha:iK X (e::es) ts)(hs:starEach (e::es) X.env=(false,eval e X.env)::starEach es X.env:=by rfl)
  (hbase:attributeBase o name X.env (eval o X.env)=eval o X.env:=by rfl)
  (hfew:((backTo cpos (starEach (e::es) X.env)).all (fun x=>!x.1)&&(backToKw cpos (keywordEach [] X.env)).all (fun x=>x.1.isSome)
   && decide ((e::es).length+([]:List Keyword).length+(if ([]:List Keyword).isEmpty then 0 else 1) < 30))=true:=by rfl)
  (hline:(apos.endLine == cpos.line)=true:=by rfl) (hplain:(backTo cpos (starEach es X.env)).any (·.1)=false:=by rfl):ba X (.Call (.Attribute o name apos) (e::es) [] cpos) (l7 T r to ts):=D9 k.pa k.slot k.ty hm hs ho ha hbase hfew hline hplain
theorem En(k:Ay T name id)(hm:u8 X id r)(ho:ba X o to)
  (hbase:attributeBase o name X.env (eval o X.env)=eval o X.env:=by rfl) (hline:(apos.endLine == cpos.line)=true:=by rfl):ba X (.Call (.Attribute o name apos) [] [] cpos) (l7 T r to []):=Cp k.pa k.slot k.ty hm ho hbase hline
end
section
variable {X:Cx} {tg iter elt:Expr} {ifs:List Expr} {scope:Scope} {pos:Pos} {ti:s9} {g:Tg} {tc:jM} {te:aJ}
theorem wm(fs:List Str)(own:Nat)(fr:List Nat)(N:List Str)(hi:xK X tg iter ti)(hg:∀B,wj (X.Hu N scope fs B) tg g)(hf:∀B,Bm (X.Hu N scope fs B) ifs tc)(he:∀B,ba (X.Hu N scope fs B) elt te)
  (Kj:g.under own=true:=by rfl) (hc:X.calm=true:=by rfl) (hclos:closureFor scope X.env=pure (cb X.env fs):=by rfl) (hcell:∀y∈scope.names,y.2 ≠ .cell:=by decide +kernel) (hkind:scope.kind = .function:=by rfl)
  (hnames:∀x∈scope.names,x.2 = .local→scope.names.lookup x.1=some .local:=by decide +kernel) (hcl:b4 X.env fs:=by repeat' first|exact trivial|exact⟨_,rfl⟩|constructor) (hhas:hasB (relabel scope X.env).names (cb X.env fs)=true:=by rfl)
  (hlen:N.length=own+fr.length:=by rfl) (hN:(N.drop own).map some=fr.map (fun j=>X.N[j]?):=by rfl) (hF:Gq X.env scope (cb X.env fs) (N.drop own):=by repeat' first|exact trivial|exact .inl rfl|exact .inr rfl|exact rfl|apply And.intro)
  (hs:∀x,foldedSetIterable iter X.env x=pure x:=by intro _;rfl):ba X (.ListComp elt [⟨tg,iter,ifs,0⟩] scope pos) (bz ti g tc te own fr):=Ah fs own fr N Kj hc hclos hcell hkind hnames hcl hhas hlen hN hF hi hg hf he hs
theorem CI(fs:List Str)(own:Nat)(fr:List Nat)(N:List Str)(i:Nat){y:Str}{py spos:Pos}(hX:X.N.Nodup)(hi:xK X tg iter ti)(hg:∀B,wj (X.Hu N scope fs B) tg g)(hf:∀B,Bm (X.Hu N scope fs B) ifs tc)(he:∀B,ba (X.Hu N scope fs B) elt te)
  (hix:X.N[i]?=some y:=by rfl) (hy:X.env.scope.names.lookup y=some .local:=by rfl) (hsw:swapsWith (.ListComp elt [⟨tg,iter,ifs,0⟩] scope pos) (some (.Name y py)) spos.line X.env=pure true:=by rfl)
  (Kj:g.under own=true:=by rfl) (hc:X.calm=true:=by rfl) (hclos:closureFor scope X.env=pure (cb X.env fs):=by rfl) (hcell:∀y∈scope.names,y.2 ≠ .cell:=by decide +kernel) (hkind:scope.kind = .function:=by rfl)
  (hnames:∀x∈scope.names,x.2 = .local→scope.names.lookup x.1=some .local:=by decide +kernel) (hcl:b4 X.env fs:=by repeat' first|exact trivial|exact⟨_,rfl⟩|constructor) (hhas:hasB (relabel scope X.env).names (cb X.env fs)=true:=by rfl)
  (hlen:N.length=own+fr.length:=by rfl) (hN:(N.drop own).map some=fr.map (fun j=>X.N[j]?):=by rfl) (hF:Gq X.env scope (cb X.env fs) (N.drop own):=by repeat' first|exact trivial|exact .inl rfl|exact .inr rfl|exact rfl|apply And.intro)
  (hs:∀x,foldedSetIterable iter X.env x=pure x:=by intro _;rfl):mQ X (.Assign [.Name y py] (.ListComp elt [⟨tg,iter,ifs,0⟩] scope pos) spos) (aC i (bz ti g tc te own fr)):=Ai fs own fr N hX hix hy hsw Kj hc hclos hcell hkind hnames hcl hhas hlen hN hF hi hg hf he hs
end
noncomputable def dG(f:Str)(v:PV):List (Str×PV)→List (Str×PV)
 |[]=>[(f,v)]
 |(g,x)::r=>if g=f then (g,v)::r else (g,x)::dG f v r
theorem FQ.look{K:PySem.W.Frag}{H:Hp}{f:Str}{p:PV}:∀{vs:List (Str×V)} {ps:List (Str×PV)},FQ K H vs ps→ps.lookup f=some p→∃v,vs.lookup f=some v∧Rep K H v p
 |_,_,.nil,e=>by simp at e
 |_,_,.cons a r,e=>by
  rw[List.lookup_cons]at e ⊢
  split at e
  ·cases e;exact⟨_,rfl,a⟩
  ·exact FQ.look r e
theorem FQ.Kl{K:PySem.W.Frag}{H:Hp}{f:Str}:∀{vs:List (Str×V)} {ps:List (Str×PV)},FQ K H vs ps→ps.lookup f=none→vs.lookup f=none
 |_,_,.nil,_=>rfl
 |_,_,.cons a r,e=>by
  rw[List.lookup_cons]at e ⊢
  split at e
  ·cases e
  ·exact FQ.Kl r e
theorem FQ.putF{K:PySem.W.Frag}{H:Hp}{f:Str}{v:V}{p:PV}(q:Rep K H v p):∀{vs:List (Str×V)} {ps:List (Str×PV)},FQ K H vs ps→FQ K H (L2.putF f v vs) (dG f p ps)
 |_,_,.nil=>.cons q .nil
 |_,_,.cons (k:=k) a r=>by
  unfold L2.putF dG
  split
  ·exact .cons q r
  ·exact .cons a (FQ.putF q r)
def jb(c:Str)(S:ar)(x:PV)(k:Addr→List (Str×PV)→Prop):Prop:=match x with
 | .ref a=>(match S a with|some (.ins c' fs)=>c'=c∧k a fs|_=>False)
 |_=>False
theorem j3{K:PySem.W.Frag}{H:Hp}{S:ar}{c:Str}{C:Addr}{x:PV}{v:V}{k:Addr→List (Str×PV)→Prop}(hC:Gh K c C)(rS:FJ K H S)(r:Rep K H v x)(h:jb c S x k):∃a dx fs f',x = .ref a∧v = .ref a∧S a=some (.ins c fs)∧H a=some (.ins C dx f')∧FQ K H f' fs∧k a fs:=by
 unfold jb at h
 split at h
 ·rename_i a
  split at h
  ·rename_i c' fs e
   obtain⟨rfl,h⟩:=h
   obtain⟨C',dx,f',n,q,rf⟩:=(show IY K H a (.ins c' fs)from rS a _ e)
   cases hC.inj n
   cases r
   exact⟨a,dx,fs,f',rfl,rfl,e,q,rf,h⟩
  ·exact h.elim
 ·exact h.elim
def d6(c f:Str)(te:aJ):aJ:=fun σ S Q E=>te σ S (fun x S1=>jb c S1 x fun _ fs=>match fs.lookup f with|some v=>Q v S1|none=>False) E
def dk(c f:Str)(te to:aJ):bh:=fun D σ S=>te σ S (fun v S1=>to σ S1 (fun x S2=>jb c S2 x fun a fs=>fs.length < 1000∧D.nx σ (FF S2 a (.ins c (dG f v fs)))) D.ex) D.ex
def kL(c m:Str)(sp:aw)(to:aJ)(ts:List aJ):aJ:=fun σ S Q E=>to σ S (fun x S1=>jb c S1 x fun _ fs=>fs.lookup m=none∧ap ts σ S1 (fun ps S2=>sp (x::ps) S2 Q E) E) E
def ck(c m:Str)(sp:aw)(to:aJ)(ts:List aJ):aJ:=fun σ S Q E=>to σ S (fun x S1=>jb c S1 x fun _ fs=>fs.lookup m=none∧ap ts σ S1 (fun ps S2=>sp (x::ps) S2 Q (fun p _ S'=>E p σ S')) E) E
def vo(c:Str)(sp:aw)(ts:List aJ):aJ:=fun σ S Q E=>ap ts σ S (fun ps S1=>∀x,S1 x=none→sp (.ref x::ps) (FF S1 x (.ins c [])) (fun v S2=>v = .non∧Q (.ref x) S2) gD) E
section
variable {X:Cx} {e o value:Expr} {es:List Expr} {te to:aJ} {ts:List aJ} {x c m f:Str} {fl:List Str} {p pos pos' apos:Pos} {j k n:Nat} {sp:aw}
theorem tR(hC:Bn X.K X.mg c fl)(he:ba X e te)(hf:f∈fl:=by decide)(hb:attributeBase e f X.env (eval e X.env)=eval e X.env:=by rfl):ba X (.Attribute e f pos) (d6 c f te):=by
 obtain⟨C,hn,hm,hc,M8,hkp,na⟩:=hC.ex
 refine⟨aL (zt he.ok hb) fun σ H Q ⟨σ3,S,Q3,E3,rσ,rS,h,xo,k⟩=>⟨σ3,S,_,E3,rσ,rS,h,xo,fun p S1 v H1 h1 rv FR g1=>?_⟩⟩
 obtain⟨a,dx,fs,f',rfl,rfl,e1,e2,rf,h2⟩:=j3 hn FR rv h1
 split at h2
 ·rename_i p' hp'
  obtain⟨v',hv',Lk⟩:=rf.look hp'
  exact⟨a,C,dx,f',v',rfl,e2,hc,na _ hf,hv',k _ S1 _ H1 h2 Lk FR g1⟩
 ·exact h2.elim
theorem AA(hC:Bn X.K X.mg c fl)(he:ba X value te)(ho:ba X o to)(hf:f∈fl:=by decide)(hs:swapsWith value (some (.Attribute o f pos')) pos.line X.env=pure false:=by rfl):mQ X (.Assign [.Attribute o f pos'] value pos) (dk c f te to):=by
 obtain⟨C,hn,hm,hc,M8,hkp,na⟩:=hC.ex
 refine⟨b5 (zu ho.ok he.ok hs) fun D σ H ⟨σ3,S,D3,rσ,rS,h,xo,nx,r,bk,ct⟩=>⟨σ3,S,_,D3.ex,rσ,rS,h,xo,fun v S1 v' H1 h1 rv FR g1=>⟨σ3,S1,_,D3.ex,rσ.mono g1,FR,h1,xo.mono g1,fun x S2 x' H2 h2 rx Hv g2=>?_⟩⟩⟩
 obtain⟨a,dx,fs,f',rfl,rfl,e1,e2,rf,h3,h4⟩:=j3 hn Hv rx h2
 have gm:Grow X.K H2 (upd H2 a (.ins C dx (putF f v' f'))):=.mut e2 trivial
 refine⟨a,C,dx,f',rfl,e2,hc,na _ hf,by rw[rf.length];exact h3,nx _ _ _ _ h4 (rσ.mono (g1.trans (g2.trans gm))) (Hv.put e2 trivial ⟨C,dx,_,hn,aq,((rf.mono gm).putF ((rv.mono g2).mono gm))⟩) (g1.trans (g2.trans gm))⟩
theorem Eo{pl:Sem Bool}(O:Bo X.prog X.w X.K X.mg X.base k c m n sp)(hr:Room j X.A)(ho:ba X o to)(ha:iK X (e::es) ts)(hj:k≤j:=by omega)(hl:ts.length+1=n:=by rfl)
  (hst:starEach (e::es) X.env=(false,eval e X.env)::starEach es X.env:=by rfl) (hpl:(backTo pos (starEach es X.env)).any (·.1)=false:=by rfl)
  (ht:eval (.Call (.Attribute o m apos) (e::es) [] pos) X.env=(do
   let ov ←eval o X.env
   standAt apos.atName
   let (f,first) ←holding [ov] (getMethod ov m pl)
   callWith pos f first (backTo pos (starEach (e::es) X.env)) (backToKw pos (keywordEach [] X.env))):=by rfl):ba X (.Call (.Attribute o m apos) (e::es) [] pos) (kL c m sp to ts):=by
 obtain⟨C,f,fd,ps,hn,F,h1,h2,h3,h4⟩:=O.ex
 refine⟨aL (wN ho.ok h2 h3 F.ok (hr.mono hj) h4 .nil ux ha.ok hst hpl ht) fun σ H Q ⟨σ3,S,Q3,E3,rσ,rS,h,xo,k⟩=>⟨σ3,S,_,E3,rσ,rS,h,xo,fun p S1 v H1 q1 rv FR g1=>?_⟩⟩
 obtain⟨a,dx,fs,f',rfl,rfl,e1,e2,rf,q2,q3⟩:=j3 h1 FR rv q1
 refine⟨a,dx,f',rfl,e2,rf.Kl q2,bi (rσ.mono g1) FR q3 (xo.mono g1) fun ps' S' vs H' hl' q Lk G4 g=>?_⟩
 rw[List.append_nil]
 exact⟨by rw[List.length_cons,Lk.length,hl',hl,hn],.ref a::ps',S',Q3,E3,.cons (.ref a) Lk,G4,q,k.mono (g1.trans g)⟩
theorem Bq{pl:Sem Bool}(O:xV X.prog X.w X.K X.mg X.base k c m n sp)(hr:Room j X.A)(ho:ba X o to)(ha:iK X (e::es) ts)(hj:k≤j:=by omega)(hl:ts.length+1=n:=by rfl)
    (hst:starEach (e::es) X.env=(false,eval e X.env)::starEach es X.env:=by rfl) (hpl:(backTo pos (starEach es X.env)).any (·.1)=false:=by rfl)
    (ht:eval (.Call (.Attribute o m apos) (e::es) [] pos) X.env=(do
      let ov ←eval o X.env
      standAt apos.atName
      let (f,first) ←holding [ov] (getMethod ov m pl)
      callWith pos f first (backTo pos (starEach (e::es) X.env)) (backToKw pos (keywordEach [] X.env))):=by rfl):ba X (.Call (.Attribute o m apos) (e::es) [] pos) (ck c m sp to ts):=by
  obtain⟨C,f,fd,ps,hn,F,h1,h2,h3,h4⟩:=O.ex
  refine⟨aL (vm ho.ok h2 h3 F.ok (hr.mono hj) h4 ha.ok hst hpl ht) fun σ H Q ⟨σ3,S,Q3,E3,rσ,rS,h,xo,k⟩=>⟨σ3,S,_,E3,rσ,rS,h,xo,fun p S1 v H1 q1 rv FR g1=>?_⟩⟩
  obtain⟨a,dx,fs,f',rfl,rfl,e1,e2,rf,q2,q3⟩:=j3 h1 FR rv q1
  refine⟨a,dx,f',rfl,e2,rf.Kl q2,bi (rσ.mono g1) FR q3 (xo.mono g1) fun ps' S' vs H' hl' q Lk G4 g=>?_⟩
  refine⟨fun c d H2=>∃(cn:Str) (ks:List Str) (ps2:List PV) (S2:ar) (C dx:Addr) (od:Obj) (IR:List V),c = .ref C∧d=some dx∧E3 (.exc cn ks ps2) σ3 S2∧Gh X.K cn C∧IR.length=ks.length∧H2 dx=some (.frz od (.ext (XD dx (ks.zip IR))))∧Reps X.K H2 IR ps2∧FJ X.K H2 S2∧Grow X.K H' H2,
     ⟨by rw[List.length_cons,Lk.length,hl',hl,hn],.ref a::ps',S',Q3,_,.cons (.ref a) Lk,G4,q,k.mono (g1.trans g),fun cn ks ps2 S2 H2 C dx od IR h1 h2 h3 h4 h5 h6 h7=>⟨cn,ks,ps2,S2,C,dx,od,IR,rfl,rfl,h1,h2,h3,h4,h5,h6,h7⟩⟩,
     fun pins c d H2 ⟨cn,ks,ps2,S2,C,dx,od,IR,e1,e2,h1,h2,h3,h4,h5,h6,h7⟩ s' a C' NT e3 e4 I xa=>?_⟩
  subst e1 e2;cases e3;cases e4
  exact xo cn ks ps2 σ3 S2 H2 pins σ s' a _ _ od IR h1 h2 h3 h4 h5 h6 (rσ.mono ((g1.trans g).trans h7)) ((g1.trans g).trans h7) I xa
theorem Fh(hC:Bn X.K X.mg c fl)(O:Bo X.prog X.w X.K X.mg X.base k c "__init__" n sp)(hr:Room j X.A)(ha:iK X (e::es) ts)(hj:k+1≤j:=by omega)(hl:ts.length+1=n:=by rfl)(hg:Gl X c:=by rfl)(he:starEach (e::es) X.env=(false,eval e X.env)::starEach es X.env:=by rfl)(hdb:(c == ("__debug__":Str))=false:=by decide)(hpl:(backTo pos (starEach es X.env)).any (·.1)=false:=by rfl) :
  ba X (.Call (.Name c p) (e::es) [] pos) (vo c sp ts):=by
 obtain⟨C,hn,hm,hc,M8,hkp,na⟩:=hC.ex
 obtain⟨C',f,fd,ps,hps,F,h1,h2,h3,h4⟩:=O.ex
 cases hn.inj h1
 refine⟨aL (wO ⟨M8,h3.at_,h3.fn,hkp⟩ F.ok (hr.mono hj) hg hm h4 .nil ux ha.ok hdb he hpl) fun σ H Q ⟨σ3,S,Q3,E3,rσ,rS,h,xo,k⟩=>bi rσ rS h xo fun ps' S' vs H' hl' q rv G4 g x dx hx hdx hne=>?_⟩
 rw[List.append_nil]
 have g1:Grow X.K H' (upd H' dx (.own x)):=.new hdx
 have KU:upd H' dx (.own x) x=none:=by rw[ao (Ne.symm hne)];exact hx
 have g2:Grow X.K (upd H' dx (.own x)) (upd (upd H' dx (.own x)) x (.ins C dx [])):=.new KU
 refine⟨by rw[List.length_cons,rv.length,hl',hl,hps],.ref x::ps',FF S' x (.ins c []),_,_,.cons (.ref x) (rv.mono (g1.trans g2)),(G4.other hdx).new KU ⟨C,dx,[],hn,aq,.nil⟩,q x (G4.free hx),fun p S2 v H2 hq M5 Hv gg=>?_⟩
 obtain⟨rfl,q2⟩:=hq
 cases M5
 exact⟨rfl,k _ S2 _ H2 q2 (.ref x) Hv (g.trans ((g1.trans g2).trans gg))⟩
end
structure Dq (P:Program) (w:World) (K:PySem.W.Frag) (mg:Str→Option Value) (base:Heap) (x:Str) (ks:List Str):Prop where
 ex:∃qual st ps C f fd,Aw K mg x qual st ps ks C f fd∧dP P w K mg base pI 1 f fd ps (mP K C ks)∧ps.length=ks.length+1
structure Dr (K:PySem.W.Frag) (mg:Str→Option Value) (x q:Str) (st:Stmt) (ps ks:List Str):Prop where
 ex:∃C f fd,Aw K mg x q st ps ks C f fd
structure Ep (K:PySem.W.Frag) (mg:Str→Option Value) (x:Str) (cs:List Str):Prop where
 ex:∃D,mg x=some (.ref D)∧Cc K D∧XMro K D cs
structure Er (K:PySem.W.Frag) (mg:Str→Option Value) (x:Str):Prop where
 ex:∃C,mg x=some (.ref C)∧Gh K x C
section
variable {P:Program} {w:World} {K:PySem.W.Frag} {mg:Str→Option Value} {base:Heap}
theorem ES{x q k1:Str}{st:Stmt}{ps:List Str}(N:List Str)(h:Dr K mg x q st ps [k1])(hp:ps.length=2)
  (hb:∀(f:Addr) (cdv:Value) (A:Around) (outer:List Env) (s:Shared) (H:Hp) (E:XK),IN (gr pI P w K mg base N q (au st) f cdv A outer s H E).JY (aR st) (zT K (sv 0) (sv 1) k1))
  (S:bL N ps (au st):=by exact⟨rfl,rfl,rfl,by decide +kernel,rfl,by decide +kernel,by decide +kernel⟩):Dq P w K mg base x [k1]:=by
 obtain⟨C,f,fd,T⟩:=h.ex
 exact⟨q,st,ps,C,f,fd,T,Cb T.F S hp (hb f),hp⟩
end
section
variable {X:Cx} {e:Expr} {es:List Expr} {ts:List aJ} {x:Str} {p pos cpos:Pos} {ks:List Str} {j:Nat}
theorem EU(T:Dq X.prog X.w X.K X.mg X.base x ks)(hr:Room j X.A)(ha:iK X (e::es) ts)(hj:2≤j:=by omega)(Jq:X.calm=true:=by rfl)(hg:Gl X x:=by rfl)(he:starEach (e::es) X.env=(false,eval e X.env)::starEach es X.env:=by rfl)
  (hl:ts.length=ks.length:=by rfl) (hks:ks.length≤1000:=by exact Nat.le_of_ble_eq_true rfl) (hdb:(x == ("__debug__":Str))=false:=by decide) (hpl:(backTo cpos (starEach es X.env)).any (·.1)=false:=by rfl) :
  mQ X (.Raise (some (.Call (.Name x p) (e::es) [] cpos)) none pos) (eL x ks ts):=by
 obtain⟨qual,st,ps,C,f,fd,T,F,hp⟩:=T.ex
 exact xT T F hp (hr.mono hj) Jq hg he ha hl hks hdb hpl
end
section
variable {X:Cx} {body suite:List Stmt} {b₀:Stmt} {n x:Str} {np hpos pos:Pos} {tb th:bh} {cs:List Str}
end
section
variable {P:Program} {w:World} {K:PySem.W.Frag} {mg:Str→Option Value} {base:Heap}
structure EV (K:PySem.W.Frag) (mg:Str→Option Value) (x:Str) (st:Stmt) (ps:List Str):Prop where
 ex:∃T f fd,Eh K mg x st ps T f fd
structure FA (P:Program) (w:World) (K:PySem.W.Frag) (mg:Str→Option Value) (base:Heap) (k:Nat) (x:Str) (n:Nat) (sp:aw):Prop where
 ex:∃f fd ps,ps.length=n∧KG P w K mg base k f fd ps sp∧mg x=some (.ref f)∧PySem.W.keepIn K (.ref f)=true∧Binds K fd ps []∧Binds K fd ps [.bool true]
end
section
variable {X:Cx} {e:Expr} {es:List Expr} {ts:List aJ} {x:Str} {p pos:Pos} {j k n:Nat} {sp:aw}
end
end L3
namespace L2
open PySem PySem.Spec PyProof.Rows Xc
section
variable {X:Cx} {pins pins':List (Addr×Obj)} {σ:St} {H:Hp} {s':Shared} {E:Value→Shared→Prop} {a C dx Dc:Addr} {x:Str} {np hpos:Pos} {b₀:Stmt} {suite:List Stmt} {th:Addr→TS} {D:ka}
theorem AB(hst:X.stack=X.env::X.outer)(Ll:X.env.frame=some X.env.locals)(hg:Gl X x)(hm:X.mg x=some (.ref Dc))(hD:Cc X.K Dc)
  (hs:∀a,IN (X.JZ a) (b₀::suite) (th a)) (I:Inv (X.tr E pins) pins' σ H s') (xa:Bi (X.tr E pins) pins' H s'.heap a C dx) (hb:PySem.W.mroIn X.K C (.ref Dc)=some true)
  (q:th a D σ H) (hdb:(x == ("__debug__":Str))=false:=by decide) :
  wpAny (model X.prog X.w) X.A (noteFrame (.ref a) X.env) (fun _ s₂=>wpAny (model X.prog X.w) X.A (setFlight (.ref a) none) (fun _ s₃=>wpAny (model X.prog X.w) X.A (handleBy (.ref a) X.env [.ExceptHandler (some (.Name x np)) none (b₀::suite) hpos]) (SP X pins D) X.xe s₃) X.xe s₂) X.xe s':=by
 have I0:Inv X pins σ H s':=I.Il
 obtain⟨oe,vs,lx,hc,hd,fa,fT⟩:=xa
 have hfr:X.A.frames=some (X.env::X.outer):=by rw[←hst];exact I0.ok.frames
 refine rq (base:=X.base) hfr (by rw[←hst];exact I0.stack) Ll lx fun h' nt=>?_
 obtain⟨I2,NO,IR,LB,hc2,hd2,MW,Mp⟩:=I0.noted (h':=h') (by rw[hst];exact nt) lx hc hd fa.Il fun T z=>(fT T z).Il
 refine PySem.wpAny_handleBy_cons (codeAny_handlers_test ?_) (by intro q;cases q)
 have IH:=I2.JZ (a:=a)
 refine fY (X:=X.JZ a) IH hg hm ?_ hdb
 refine ol IH.Ik LB.at_ hc2 hb hD.ty hD.cl hD.be ?_
 refine codeAny_handlers_suite ?_
 have flight:∀{Q:Unit→Shared→Prop} {E:Value→Shared→Prop},(∀h3,Inv (X.JZ a) pins σ H { s' with heap:=h3 }→Q () { s' with heap:=h3 })→wpAny (model X.prog X.w) (X.JZ a).A (setFlight (.ref a) none) Q E { s' with heap:=h' }:=by
  intro Q E hQ
  rcases LB.tb with t1|⟨T,oT,ts,t1,t2,t3,t4,t5⟩
  ·unfold setFlight
   refine wpAny_bind (wpAny_field LB.at_ LB.dat t1 ?_)
   rw[if_neg (by decide)]
   exact wpAny_pure (hQ _ IH)
  ·have LZ:=Mp T t1
   refine wpAny_setFlight_none LB.at_ LB.dat t1 t3 t4 (Array.getElem?_eq_some_iff.mp t5).1 (hQ _ ?_)
   exact Inv.turned (s:={ s' with heap:=h' }) IH (t':=s'.toks) (it:=T) (fun b o hb e=>(Heap.get?_update_other _ _ (Ne.symm hb)).trans e) LZ.1 LZ.2.1 LZ.2.2.2.1 LZ.2.2.2.2.1 LZ.2.2.2.2.2
 refine flight fun h3 I3=>?_
 refine wpAny_mono (hs a pins _ _ _ D I3 q) (fun f s6 hf=>?_) fun _ _ z=>False.elim z
 cases f with
 |next=>obtain⟨σ6,H6,I6,q6⟩:=hf;exact⟨_,_,I6.J3 I0.ok.hd,q6⟩
 |brk=>obtain⟨σ6,H6,I6,q6⟩:=hf;exact⟨_,_,I6.J3 I0.ok.hd,q6⟩
 |cont=>obtain⟨σ6,H6,I6,q6⟩:=hf;exact⟨_,_,I6.J3 I0.ok.hd,q6⟩
 |ret u=>obtain⟨v6,σ6,H6,I6,r6,q6⟩:=hf;exact⟨_,_,_,I6.J3 I0.ok.hd,r6,q6⟩
end
end L2
namespace L3
open PySem L2 Xc
def vp(cs:List Str)(tb th:bh):bh:=fun D σ S=>tb { D with ex:=fun p σ' S'=>match p with | .exc c _ _=>cs.contains c=true∧th { D with ex:=gD } σ' S'|_=>False } σ S
section
variable {X:Cx} {body suite:List Stmt} {b₀:Stmt} {x:Str} {np hpos pos:Pos} {tb th:bh} {cs:List Str}
theorem Es(T:Ep X.K X.mg x cs)(hb:∀E pins,PassesOwn (model X.prog X.w) X.A X.env E→ft (X.tr E pins) body tb)(hs:∀a,ft (X.JZ a) (b₀::suite) th)
  (hst:X.stack=X.env::X.outer:=by rfl) (Ll:X.env.frame=some X.env.locals:=by rfl) (hg:Gl X x:=by rfl) (hdb:(x == ("__debug__":Str))=false:=by decide) :
  mQ X (.Try body [.ExceptHandler (some (.Name x np)) none (b₀::suite) hpos] [] [] pos) (vp cs tb th):=by
 obtain⟨Dc,hm,hD,hcs⟩:=T.ex
 exact⟨b5 (zV (tb:=fun E pins=>LS (X.tr E pins) tb) fun E pins hp=>(hb E pins hp).ok) fun D σ H ⟨σ3,S,D3,rσ,rS,h,xo,nx,rt,bk,ct⟩ pins=>
  ⟨σ3,S,_,rσ,rS,h,fun c ks ps OY S' H' pins' σ' s' a C dx od vs h1 h2 h3 h4 h5 h6 h7 h8 I xa=>by
   refine AB hst Ll hg hm hD (fun a=>(hs a).ok) I xa (hcs.at_ h1.1 h2) ?_ hdb
   exact⟨OY,S',{ D3 with ex:=gD },h7,h6,h1.2,.no,nx.mono h8,rt.mono h8,bk.mono h8,ct.mono h8⟩,nx,rt,bk,ct⟩⟩
end
end L3
namespace L2
open PySem PySem.Spec PyProof.Rows
section
variable {X:Cx}
end
end L2
namespace L3
open PySem L2
section
variable {X:Cx}
end
end L3
namespace L2
open PySem PySem.Spec PyProof.Rows
theorem qv{prog:Program}{w:World}{A:Around}{E:Value→Shared→Prop}{s:Shared}{l:Addr}{xs:Array (Int×Tok)}{Q:Value→Shared→Prop}(hh:A.handled=none)(hl:s.heap.IsTuple l (intItems xs))(hne:0 < xs.size)
  (h:∀v h' tk,(intItems xs)[argBest (fun i j=>decide (numAt xs i < numAt xs j)) (xs.size - 1)]?=some v→(∀b o,s.heap.get? b=some o→h'.get? b=some o)→Q v { s with heap:=h',toks:=tk }) :
  wpAny (model prog w) A (call (.builtin "min") [.ref l]) Q E s:=by
 have hlt:l < s.heap.objs.size:=by obtain⟨_,e,_⟩:=hl;exact Heap.lt_size e
 refine call_min_walk (wpAny_pyIter_tuple hl ?_)
 refine⟨_,_,_,_,_,_,_,rfl,Walks.tuple (A:=A.in1) hh _ l (Nat.ne_of_lt hlt) (intItems xs),⟨⟨_,Heap.get?_push_size _ rfl,rfl,rfl⟩,hl.push _⟩,(fun b hb=>?_),by simpa [intItems]using hne,CmpOf.ints_lt (numAt xs) (fun _ _=>intItems_at),fun v h' tk hP hk=>?_⟩
 ·show b < (s.heap.push _).objs.size
  rw[Heap.size_push]
  rcases List.mem_cons.mp hb with rfl|hb
  ·exact Nat.lt_succ_self _
  ·rcases List.mem_cons.mp hb with rfl|hb
   ·exact Nat.lt_succ_of_lt hlt
   ·cases hb
 ·refine h v h' tk (by simpa [intItems]using hP) fun b o e=>hk b o (fun hm=>?_) (Heap.get?_push_of_some _ e)
  rcases List.mem_cons.mp hm with e1|hm
  ·exact absurd (e1▸Heap.lt_size e) (Nat.lt_irrefl _)
  ·cases hm
section
variable {X:Cx}
theorem tt(hc:X.calm=true):fm X (.builtin "min") (fun xs H Q=>∃(p:Addr) (ns:List Int),xs=[.ref p]∧F3 X.K H p (ns.map V.int)∧0 < ns.length∧∀M,M∈ns→(∀a∈ns,M≤a)→Q (.int M) H):=by
 intro pins s σ H xs us Q I r h
 obtain⟨p,ns,rfl,hp,hn,q⟩:=h
 obtain⟨u,rfl,rx⟩:=fo r
 cases rx
 obtain⟨its,rv,pl,hz⟩:=I.tuple hp
 have hi:IntsAre its ns:=pY rv
 obtain⟨xs,e⟩:=hi.allInts.items
 have hns:ns=xs.toList.map (·.1):=by rw[←hi.numsOf,←nums_intItems,←e]
 have hsz:0 < xs.size:=by have h3:=hn;rw[hns,List.length_map,Array.length_toList]at h3;exact h3
 have hl:s.heap.IsTuple p its.toArray:=by
  obtain⟨o,ho,hc,n,hd⟩:=id pl
  exact⟨o,ho,hc,n,hd⟩
 rw[e]at hl
 refine qv (I.ok.hd hc) hl hsz fun v h' tk hv hk=>?_
 obtain⟨t,rfl⟩:=intItems_at hv
 obtain⟨h1,h2⟩:=argBest_lt (numAt xs) (xs.size - 1)
 refine⟨.int _,H,(I.kept (t':=tk) (h':=h') hk),⟨_,rfl⟩,q _ ?_ fun a ha=>?_⟩
 ·rw[hns,numAt_eq];exact getD_mem (by rw[List.length_map,Array.length_toList];omega)
 ·rw[hns]at ha
  obtain⟨j,hj,rfl⟩:=mem_getD ha
  rw[List.length_map,Array.length_toList]at hj
  rw[←numAt_eq];exact h2 j (by omega)
end
end L2
namespace L3
open PySem L2
section
variable {X:Cx}
def nj:pK:=fun ps S Q=>match ps with
 |[.tup xs]=>(match gL xs with|some ns=>0 < ns.length∧∀M,M∈ns→(∀a∈ns,M≤a)→Q (.int M) S|none=>False)
 |_=>False
theorem xW(hc:X.calm=true):gA X (.builtin "min") nj:=⟨fun pins s σ H xs us Q I r ⟨ps,S,Q3,rp,rS,q,k⟩=>by
 unfold nj at q
 split at q
 ·cases rp with
  |cons a rr=>
   cases rr
   cases a with
   |tup hv rs=>
    split at q
    ·rename_i eb
     have e2:=mi rs eb
     subst e2
     exact tt hc pins s σ H _ us Q I r ⟨_,_,rfl,hv,q.1,fun M h1 h2=>k _ S _ H (q.2 M h1 h2) (.int _) rS .refl⟩
    ·exact q.elim
 ·exact q.elim⟩
end
end L3
namespace CY
open PySem L2 L3
def cq:bh:=(ai (dk "Doing" "names" (v3 1) (v3 0))
  (ai (dk "Doing" "jars" (v3 2) (v3 0))
  (ai (dk "Doing" "most" (v3 3) (v3 0))
  (ai (dk "Doing" "cost" (aI [(c3 (.int 0)),(c3 (.int 1))]) (v3 0))
  (dk "Doing" "seen" (c_ []) (v3 0))))))
def cK:bh:=(ai (bA (aO (ah Ap (aA dB [(d6 "Doing" "seen" (v3 0))]) (d6 "Doing" "most" (v3 0)))) (eL "TooLong" ["most"] [(d6 "Doing" "most" (v3 0))]) aW)
  (aD (l7 "list" cC (d6 "Doing" "seen" (v3 0)) [(aI [(v3 1),(d6 "Doing" "jars" (v3 0)),(d6 "Doing" "cost" (v3 0))])])))
def fH(JE:aw):bh:=(dk "Doing" "cost" (ae JE [(d6 "Doing" "cost" (v3 0)),(v3 1)]) (v3 0))
def dS(I_ F8:aw):bh:=(dk "Doing" "jars" (ae I_ [(d6 "Doing" "jars" (v3 0)),(ae F8 [(d6 "Doing" "names" (v3 0)),(v3 1),(v3 2)])]) (v3 0))
def eM(GP:aw):bh:=(ai (bA (aO (ah pL (ah af (d6 "Doing" "jars" (v3 0)) (Av ik (d6 "Doing" "names" (v3 0)) [(v3 1)])) (v3 2))) (eL "Stuck" ["row"] [(v3 3)]) aW)
  (aD (kL "Doing" "bring" GP (v3 0) [(v3 1),(lZ dY (v3 2))])))
def jd(FK Jt GP:aw):bh:=(ai (aD (ck "Doing" "come_to" FK (v3 0) [(v3 2)]))
  (ai (bA (aO (ah (bt false) (ah af (v3 1) (c3 (.int 0))) (c3 (.str "pay")))) (aD (kL "Doing" "pay" Jt (v3 0) [(ah af (v3 1) (c3 (.int 1)))])) aW)
  (bA (aO (ah (bt false) (ah af (v3 1) (c3 (.int 0))) (c3 (.str "put")))) (aD (kL "Doing" "bring" GP (v3 0) [(ah af (v3 1) (c3 (.int 1))),(ah af (v3 1) (c3 (.int 2)))])) aW)))
def eN(FK s0 s1 s2:aw):bh:=(ai (aD (ck "Doing" "come_to" FK (v3 0) [(v3 3)]))
  (dh (bO (v3 2)) (.n 4) (dh (fk (ah af (v3 4) (c3 (.int 0)))) (.n 5) (ai (aD (aG s2 [(v3 0),(ah af (v3 1) (c3 (.int 1))),(ah af (v3 4) (c3 (.int 1))),(ah aS (v3 3) (c3 (.int 1)))]))
  (aD (ck "Doing" "come_to" FK (v3 0) [(v3 3)]))))))
def dH(FK Jb G5 Iy s0 s1 s2:aw):bh:=(ai (aD (ck "Doing" "come_to" FK (v3 0) [(v3 3)]))
  (ai (bA (jW (aO (ah (bt false) (ah af (v3 1) (c3 (.int 0))) (c3 (.str "take")))) (aO (ah (bt false) (ah af (v3 2) (c3 (.int 0))) (c3 (.int 0))))) (aD (ck "Doing" "take" Jb (v3 0) [(ah af (v3 1) (c3 (.int 1))),(ah af (v3 1) (c3 (.int 2))),(v3 3)])) aW)
  (ai (aC 4 (lz (aO (ah (bt false) (ah af (v3 2) (c3 (.int 0))) (c3 (.int 0)))) (ah aS (v3 3) (c3 (.int 1))) (ah aS (ah aS (v3 3) (c3 (.int 1))) (ae G5 [(ah af (v3 1) (lZ dY (c3 (.int 2))))]))))
  (aD (aG s2 [(v3 0),(ae Iy [(v3 1),(v3 2)]),(ah af (v3 2) (c3 (.int 1))),(v3 4)])))))
def xX(G5 J7 s0 s1 s2:aw):bh:=(ai (aC 4 (ah af (v3 1) (c3 (.int 0))))
  (bA (aO (ah (bt false) (v3 4) (c3 (.str "then")))) (ai (aD (aG s2 [(v3 0),(ah af (v3 1) (c3 (.int 1))),(ah af (v3 2) (c3 (.int 0))),(v3 3)]))
  (aD (aG s2 [(v3 0),(ah af (v3 1) (c3 (.int 2))),(ah af (v3 2) (c3 (.int 1))),(ah aS (v3 3) (ae G5 [(ah af (v3 1) (c3 (.int 1)))]))]))) (bA (aO (ah (bt false) (v3 4) (c3 (.str "often")))) (aD (aG s0 [(v3 0),(v3 1),(v3 2),(v3 3)])) (bA (aO (ah (pJ false) (v3 4) (aI [(c3 (.str "either")),(c3 (.str "take"))]))) (aD (aG s1 [(v3 0),(v3 1),(v3 2),(v3 3)])) (bA (aO (ah (bt true) (v3 4) (c3 (.str "rest")))) (aD (aG J7 [(v3 0),(v3 1),(v3 3)])) aW)))))
def qw(HW x_go FK G5:aw):bh:=(ai (aC 5 (ah af (ah af (ah af (v3 0) (c3 (.int 1))) (v3 2)) (c3 (.int 1))))
  (ai (aC 6 (vo "Doing" HW [(ah af (v3 0) (c3 (.int 0))),(v3 1),(v3 4)]))
  (ai (aD (aG x_go [(v3 6),(v3 5),(v3 3),(c3 (.int 0))]))
  (ai (aD (ck "Doing" "come_to" FK (v3 6) [(ae G5 [(v3 5)])]))
  (aF (d6 "Doing" "seen" (v3 6)))))))
end CY
namespace L3
open PySem L2
theorem oK:∀{a b:List Char},a.map Char.toNat=b.map Char.toNat→a=b
 |[],[],_=>rfl
 |[],_::_,h=>by simp at h
 |_::_,[],h=>by simp at h
 |x::a,y::b,h=>by
  simp only[List.map_cons,List.cons.injEq]at h
  rw[oK h.2,Char.toNat_inj.mp h.1]
theorem am{a b:String}:(Str.ofString a=Str.ofString b)↔a=b:=by
 refine⟨fun h=>?_,fun h=>by rw[h]⟩
 rw[Str.ofString_eq_toList,Str.ofString_eq_toList]at h
 have h':a.toList.map Char.toNat=b.toList.map Char.toNat:=by
  have:=congrArg (fun s:Str=>s.cps.toList) h
  simpa using this
 exact String.toList_inj.mp (oK h')
theorem sS{a b:String}:((Sum.inr (Str.ofString a):bg)=Sum.inr (Str.ofString b))↔a=b:=by
 rw[Sum.inr.injEq,am]
theorem vq{i j:Int}(h1:-(2 ^ 64) < i)(h2:i < 2 ^ 64):IntMulOk i j:=(show Kz i j from .inl ⟨h1,h2⟩).ok
theorem nk{i j:Int}(h1:-(2 ^ 64) < j)(h2:j < 2 ^ 64):IntMulOk i j:=(show Kz i j from .inr ⟨h1,h2⟩).ok
theorem gF{i j:Int}(h:0≤j):i.fmod j=i % j:=Int.fmod_eq_emod_of_nonneg i h
theorem CJ{i j:Int}(h:0≤j):i.fdiv j=i / j:=Int.fdiv_eq_ediv_of_nonneg i h
theorem CK{i j:Int}(h:0 < j)(h2:j < 2 ^ 64):l4 i j:=⟨by omega,Nat.lt_trans (show j.natAbs < 2 ^ 64 by omega) (Nat.pow_lt_pow_right (by decide) (by decide))⟩
def Gm(d l:Addr)(S S':ar):Prop:=∀a o,S a=some o→a≠d→a≠l→S' a=some o
theorem Gm.refl{d l:Addr}{S:ar}:Gm d l S S:=fun _ _ h _ _=>h
theorem Gm.trans{d l:Addr}{S S1 S2:ar}(a:Gm d l S S1)(b:Gm d l S1 S2):Gm d l S S2:=fun x o h h1 h2=>b x o (a x o h h1 h2) h1 h2
theorem Gm.upd{d l:Addr}{S:ar}{o:SO}:Gm d l S (FF S d o):=fun x u h h1 h2=>by rw[al h1];exact h
theorem Gm.OZ{d l:Addr}{S:ar}{o:SO}:Gm d l S (FF S l o):=fun x u h h1 h2=>by rw[al h2];exact h
theorem Gm.new{d l p:Addr}{S:ar}{o:SO}(h:S p=none):Gm d l S (FF S p o):=fun x u hx h1 h2=>by rw[al (fun e=>by rw[e,h]at hx;cases hx)];exact hx
end L3
local macro_rules | `(tactic| walk_at "x")=>`(tactic| ((try dsimp only [L3.ai,L3.aC,L3.aF,L3.aD,L3.bA,L3.aW,L3.ah,L3.v3,L3.c3,L3.lk,L3.ap,L3.aA,L3.ae,L3.l7,L3.aO,L3.jW,L3.oq,L3.mR,L3.ky,L3.zX,L3.u4,L3.lz,L3.lB,L3.sY,L3.kD,L3.aI,L3.c_,L3.lZ,L3.dY,L3.af,L3.mW,L3.bv,L3.nT,L3.l5,L3.mX,L3.dA,L3.fu,L3.bY,L3.fx,L3.gE,L3.qq,L3.pL,L3.Ed,L3.tj,L3.Ap,L3.bt,L3.Bj,L3.aS,L3.df,L3.dB,L3.sW,L3.ig,L3.u7,L3.kA,L3.a_,L3.qm,L3.ou,List.set_cons_zero,List.set_cons_succ,List.set_nil,L3.yH,L3.iX,L3.sX,L3.bz,L3.bO,L3.gB,L3.dh,L3.kF,L3.Tg.put,L3.Tg.GO,L3.sZ,L3.oC,L3.iZ,L3.oE,L3.fk,L3.Ag,L3.vc,L3.qo,L3.cC,L3.dD,L3.Aq,List.reduceReplicate,List.map_cons,List.map_nil,List.cons_append,List.nil_append,L3.aG,L3.eL,L3.vj]); (try simp only [L3.ai,L3.aC,L3.aF,L3.aD,L3.bA,L3.aW,L3.ah,L3.v3,L3.c3,L3.lk,L3.ap,L3.aA,L3.ae,L3.l7,L3.aO,L3.jW,L3.oq,L3.mR,L3.ky,L3.zX,L3.u4,L3.lz,L3.lB,L3.sY,L3.kD,L3.aI,L3.c_,L3.lZ,L3.dY,L3.af,L3.mW,L3.bv,L3.nT,L3.l5,L3.mX,L3.dA,L3.fu,L3.bY,L3.fx,L3.gE,L3.qq,L3.pL,L3.Ed,L3.tj,L3.Ap,L3.bt,L3.Bj,L3.aS,L3.df,L3.dB,L3.sW,L3.ig,L3.u7,L3.kA,L3.a_,L3.qm,L3.ou,List.set_cons_zero,List.set_cons_succ,List.set_nil,L3.yH,L3.iX,L3.sX,L3.bz,L3.bO,L3.gB,L3.dh,L3.kF,L3.Tg.put,L3.Tg.GO,L3.sZ,L3.oC,L3.iZ,L3.oE,L3.fk,L3.Ag,L3.vc,L3.qo,L3.cC,L3.dD,L3.Aq,List.reduceReplicate,List.map_cons,List.map_nil,List.cons_append,List.nil_append,L3.aG,L3.eL,L3.vj])))
namespace C
open PySem L2 L3
noncomputable def bQ(seed number:Int)(l:Addr):List (bg×PV):=[(Sum.inr "seed",.int seed),(Sum.inr "number",.int number),(Sum.inr "left",.ref l)]
structure HX (S:ar) (d l:Addr) (seed number:Int) (left:List Int):Prop where
 d:S d=some (.dct (bQ seed number l))
 l:S l=some (.lst (left.map PV.int))
 s0:0≤seed
 s1:seed < 2147483647
 nm:0≤number
 lf:∀x∈left,0≤x
 ln:left.length≤100
def FN(S:ar)(d l:Addr):Prop:=∃seed number left,HX S d l seed number left
theorem HX.ne{S:ar}{d l:Addr}{seed number:Int}{left:List Int}(D:HX S d l seed number left):d≠l:=fun e=>by
 have h:=D.d
 rw[e,D.l]at h
 cases h
theorem FN.ne{S:ar}{d l:Addr}(D:FN S d l):d≠l:=let ⟨_,_,_,D⟩:=D;D.ne
theorem FN.new{S:ar}{d l p:Addr}{o:SO}(D:FN S d l)(h:S p=none):FN (FF S p o) d l:=by
 obtain⟨s,n,f,D⟩:=D
 refine⟨s,n,f,?_,?_,D.s0,D.s1,D.nm,D.lf,D.ln⟩
 ·rw[al (fun e=>by have:=D.d;rw[e,h]at this;cases this)];exact D.d
 ·rw[al (fun e=>by have:=D.l;rw[e,h]at this;cases this)];exact D.l
theorem FN.upd{S:ar}{d l p:Addr}{o:SO}(D:FN S d l)(h1:p≠d)(h2:p≠l):FN (FF S p o) d l:=by
 obtain⟨s,n,f,D⟩:=D
 exact⟨s,n,f,by rw[al h1.symm];exact D.d,by rw[al h2.symm];exact D.l,D.s0,D.s1,D.nm,D.lf,D.ln⟩
theorem FN.free{S:ar}{d l p:Addr}(D:FN S d l)(h:S p=none):p≠d∧p≠l:=by
 obtain⟨s,n,f,D⟩:=D
 exact⟨(fun e=>by have:=D.d;rw[←e,h]at this;cases this),(fun e=>by have:=D.l;rw[←e,h]at this;cases this)⟩
theorem kM(s n m:Int)(l:Addr):mZ (bQ s n l) (Sum.inr "number") (.int m)=bQ s m l:=by
 simp[mZ,bQ,sS,am]
theorem vt(s n m:Int)(l:Addr):mZ (bQ s n l) (Sum.inr "seed") (.int m)=bQ m n l:=by
 simp[mZ,bQ,sS,am]
theorem AC(s n:Int)(l:Addr):lA (bQ s n l) (Sum.inr "seed")=some (.int s):=by simp[lA,bQ,sS,am]
theorem vv(s n:Int)(l:Addr):lA (bQ s n l) (Sum.inr "number")=some (.int n):=by simp[lA,bQ,sS,am]
theorem AD(s n:Int)(l:Addr):lA (bQ s n l) (Sum.inr "left")=some (.ref l):=by simp[lA,bQ,sS,am]
abbrev bJ(w:aw):Prop:=∀{S:ar} {d l:Addr} {m:Int} {Q:bB} {E:bH},FN S d l→0 < m→m < 2 ^ 62→(∀r S',0≤r→r < m→FN S' d l→Gm d l S S'→Q (.int r) S')→w [.ref d,.int m] S Q E
theorem FE:bJ (bn 5 fz):=by
  intro S d l m Q E D h0 h1 k
  obtain⟨seed,number,left,D⟩:=D
  have hne:=D.ne
  have hsz:∀a b,(bQ a b l).length < sizeLine:=fun _ _=>cY (by show 3≤1000;decide)
  have fin:∀num JS S1,HX S1 d l seed num JS→Gm d l S S1→¬(num=0∧0 < JS.length)→
      (if 0 < num then l4 num m∧(bQ seed num l).length < sizeLine∧m≠0∧Q (PV.int (num.fmod m)) (FF S1 d (SO.dct (bQ seed (num.fdiv m) l)))
       else IntMulOk seed 48271∧(2147483647:Int)≠0∧IntMulOk ((seed * 48271+7919).fmod 2147483647) 40692∧(2147483399:Int)≠0∧(bQ seed num l).length < sizeLine∧
        IntMulOk (((seed * 48271+7919).fmod 2147483647 * 40692+104729).fmod 2147483399) (((seed * 48271+7919).fmod 2147483647 * 40692+104729).fmod 2147483399)∧(2147483563:Int)≠0∧
        IntMulOk ((seed * 48271+7919).fmod 2147483647) ((seed * 48271+7919).fmod 2147483647)∧(2147483629:Int)≠0∧
        IntMulOk (((seed * 48271+7919).fmod 2147483647 * (seed * 48271+7919).fmod 2147483647).fmod 2147483629) 2147483563∧m≠0∧
        Q (PV.int ((((seed * 48271+7919).fmod 2147483647 * (seed * 48271+7919).fmod 2147483647).fmod 2147483629 * 2147483563+((((seed * 48271+7919).fmod 2147483647 * 40692+104729).fmod 2147483399) * (((seed * 48271+7919).fmod 2147483647 * 40692+104729).fmod 2147483399)).fmod 2147483563).fmod m))
          (FF S1 d (SO.dct (bQ (((seed * 48271+7919).fmod 2147483647 * 40692+104729).fmod 2147483399) num l)))):=by
    intro num JS S1 D1 O1 hz
    split
    · rename_i hp
      rw[gF (Int.le_of_lt h0),CJ (Int.le_of_lt h0)]
      refine⟨CK h0 (by omega),hsz _ _,by omega,k _ _ (Int.emod_nonneg _ (by omega)) (Int.emod_lt_of_pos _ h0) ⟨seed,num / m,JS,FC,by rw[al hne.symm];exact D1.l,D1.s0,D1.s1,Int.ediv_nonneg D1.nm (Int.le_of_lt h0),D1.lf,D1.ln⟩ (O1.trans .upd)⟩
    · have e1:∀x:Int,x.fmod 2147483647=x % 2147483647:=fun x=>gF (by decide)
      have e2:∀x:Int,x.fmod 2147483399=x % 2147483399:=fun x=>gF (by decide)
      simp only[e1,e2,gF (Int.le_of_lt h0)]
      have p1:=D1.s0
      have p2:=D1.s1
      refine⟨nk (by decide) (by decide),by decide,nk (by decide) (by decide),by decide,hsz _ _,vq (by omega) (by omega),by decide,vq (by omega) (by omega),by decide,nk (by decide) (by decide),by omega,
        k _ _ (Int.emod_nonneg _ (by omega)) (Int.emod_lt_of_pos _ h0) ⟨_,num,JS,FC,by rw[al hne.symm];exact D1.l,by omega,by omega,D1.nm,D1.lf,D1.ln⟩ (O1.trans .upd)⟩
  unfold bn fz
  rw[show av 5 [PV.ref d,PV.int m]=[some (.ref d),some (.int m),none,none,none] from rfl]
  simp only[ai]
  refine⟨fun n σ S'=>σ=[some (.ref d),some (.int m),none,none,none]∧∃number left,HX S' d l seed number left∧left.length=n∧Gm d l S S',⟨_,rfl,number,left,D,rfl,.refl⟩,?_⟩
  rintro n σ S1 ⟨rfl,num,JS,D1,hn,O1⟩
  walk_at "x"
  simp only[D1.d,D1.l,vv,AD,AC,vt,kM,FC,Bool.false_bne,decide_eq_true_eq]
  have hlen:(List.map PV.int JS).length=JS.length:=List.length_map ..
  rw[hlen]
  split
  · rename_i hz
    subst hz
    split
    · rename_i hl
      refine⟨fun σ S'=>σ=[some (.ref d),some (.int m),none,none,none]∧∃number left,HX S' d l seed number left∧left.length < n∧Gm d l S S',?_,?_⟩
      · rintro σ' S' ⟨rfl,a,b,h2,h3,h4⟩
        exact⟨_,h3,rfl,a,b,h2,rfl,h4⟩
      · have hl':0 < JS.length:=by omega
        obtain⟨pre,x,rfl⟩:∃pre x,JS=pre++[x]:=by
          refine⟨JS.dropLast,JS.getLast (by intro e;rw[e]at hl';simp at hl'),(List.dropLast_concat_getLast _).symm⟩
        refine⟨trivial,?_⟩
        rw[show(List.map PV.int (pre++[x]))[(pre++[x]).length - 1]?=some (.int x) by simp,show(List.map PV.int (pre++[x])).dropLast=pre.map PV.int by simp]
        simp only[al hne,D1.d,kM]
        refine⟨hsz _ _,trivial,x,pre,⟨FC,by rw[al hne.symm,FC],D1.s0,D1.s1,D1.lf x (by simp),fun y hy=>D1.lf y (by simp[hy]),by have:=D1.ln;simp at this;omega⟩,?_,O1.trans (Gm.OZ.trans .upd)⟩
        rw[←hn];simp
    · rename_i hl
      exact fin 0 JS S1 D1 O1 (fun z=>hl (by omega))
  · rename_i hz
    rw[if_neg (by decide)]
    exact fin num JS S1 D1 O1 (fun z=>hz z.1)
end C
namespace L3
open PySem L2
def Ext(S S':ar):Prop:=∀a o,S a=some o→S' a=some o
theorem Ext.refl{S:ar}:Ext S S:=fun _ _ h=>h
theorem Ext.trans{S S1 S2:ar}(a:Ext S S1)(b:Ext S1 S2):Ext S S2:=fun x o h=>b x o (a x o h)
theorem Ext.new{S:ar}{p:Addr}{o:SO}(h:S p=none):Ext S (FF S p o):=fun x u hx=>by rw[al (fun e=>by rw[e,h]at hx;cases hx)];exact hx
theorem Ext.free{S S':ar}(e:Ext S S'){p:Addr}(h:S' p=none):S p=none:=by
 cases q:S p with
 |none=>rfl
 |some o=>rw[e p o q]at h;cases h
theorem eO{g:Tg}{tc:jM}{te:aJ}{σ':b_}{keep:ar→Prop}{fin:List PV→ar→Prop}{S:ar}(f:PV→PV)(c:PV→Bool)(hk:keep S):∀(items ys:List PV),
  (∀x∈items,∃σ2,g.put x σ'=some σ2∧(∀Q:Bool→ar→Prop,Q (c x) S→tc σ2 S Q gD)∧(c x=true→∀Q:bB,Q (f x) S→te σ2 S Q gD))→ys.length+items.length≤sizeLine→fin (ys++(items.filter c).map f) S→d4 g tc te σ' keep fin items ys S
 |[],ys,_,hl,hf=>⟨hk,by simpa using hl,by simpa using hf⟩
 |x::r,ys,h,hl,hf=>by
  obtain⟨σ2,e,h1,h2⟩:=h x (by simp)
  refine⟨hk,by simp at hl;omega,?_⟩
  rw[e]
  refine h1 _ ?_
  cases hc:c x with
  |true=>
   rw[if_pos rfl]
   refine h2 hc _ (eO f c hk r (ys++[f x]) (fun y hy=>h y (by simp[hy])) (by simp at hl ⊢;omega) ?_)
   rw[List.filter_cons,hc,if_pos rfl]at hf
   simpa using hf
  |false=>
   rw[if_neg (by decide)]
   refine eO f c hk r ys (fun y hy=>h y (by simp[hy])) (by simp at hl ⊢;omega) ?_
   rw[List.filter_cons,hc,if_neg (by decide)]at hf
   exact hf
theorem tw{g:Tg}{te:aJ}{σ':b_}{keep:ar→Prop}{fin:List PV→ar→Prop}{S:ar}(f:PV→PV){items:List PV}(hk:keep S)
  (h:∀x∈items,∃σ2,g.put x σ'=some σ2∧∀Q:bB,Q (f x) S→te σ2 S Q gD) (hl:items.length≤sizeLine) (hf:fin (items.map f) S):d4 g di te σ' keep fin items [] S:=by
 refine eO f (fun _=>true) hk items [] (fun x hx=>?_) (by simpa using hl) (by rw[List.filter_eq_self.mpr (fun _ _=>rfl)];exact hf)
 obtain⟨σ2,e,k⟩:=h x hx
 exact⟨σ2,e,fun Q q=>q,fun _=>k⟩
theorem mo{g:Tg}{tc:jM}{te:aJ}{σ':b_}{keep:ar→Prop}{fin:List PV→ar→Prop}{items:List PV}(Iv:List PV→List PV→ar→Prop)(hk:∀done ys S,Iv done ys S→keep S∧ys.length≤sizeLine)
  (step:∀done x rest ys S (K:List PV→ar→Prop),items=done++x::rest→Iv done ys S→(∀ys' S',Iv (done++[x]) ys' S'→K ys' S')→match g.put x σ' with
   |some σ2=>tc σ2 S (fun b S3=>if b=true then te σ2 S3 (fun y S4=>K (ys++[y]) S4) gD else K ys S3) gD
   |none=>False)
  (hf:∀ys S,Iv items ys S→fin ys S):∀(rest done ys:List PV) (S:ar),items=done++rest→Iv done ys S→d4 g tc te σ' keep fin rest ys S
 |[],done,ys,S,e,h=>by
  rw[List.append_nil]at e
  exact⟨(hk _ _ _ h).1,(hk _ _ _ h).2,hf ys S (e▸h)⟩
 |x::rest,done,ys,S,e,h=>by
  refine⟨(hk _ _ _ h).1,(hk _ _ _ h).2,?_⟩
  exact step done x rest ys S (fun ys' S'=>d4 g tc te σ' keep fin rest ys' S') e h fun ys' S' h'=>mo Iv hk step hf rest (done++[x]) ys' S' (by rw[e];simp) h'
theorem oM{g:Tg}{tb:bh}{D:ku}{keep:ar→Prop}{items:List PV}(Iv:List PV→b_→ar→Prop)(hk:∀done σ S,Iv done σ S→keep S)
  (step:∀done x rest σ S (K:b_→ar→Prop),items=done++x::rest→Iv done σ S→(∀σ' S',Iv (done++[x]) σ' S'→K σ' S')→match g.put x σ with
   |some σ'=>tb { D with nx:=K,ct:=K,bk:=D.nx } σ' S
   |none=>False)
  (hd:∀σ S,Iv items σ S→D.nx σ S):∀(rest done:List PV) (σ:b_) (S:ar),items=done++rest→Iv done σ S→oA g tb D keep rest σ S
 |[],done,σ,S,e,h=>by
  rw[List.append_nil]at e
  exact⟨hk _ _ _ h,hd σ S (e▸h)⟩
 |x::rest,done,σ,S,e,h=>
  ⟨hk _ _ _ h,step done x rest σ S (oA g tb D keep rest) e h fun σ' S' h'=>oM Iv hk step hd rest (done++[x]) σ' S' (by rw[e];simp) h'⟩
theorem cD{g:Tg}{tb:bh}{D:ku}{keep:ar→Prop}{items:List PV}{σ:b_}{S:ar}(Iv:List PV→b_→ar→Prop)(h0:Iv [] σ S)(hk:∀done σ S,Iv done σ S→keep S)
  (step:∀done x rest σ S (K:b_→ar→Prop),items=done++x::rest→Iv done σ S→(∀σ' S',Iv (done++[x]) σ' S'→K σ' S')→match g.put x σ with
   |some σ'=>tb { D with nx:=K,ct:=K,bk:=D.nx } σ' S
   |none=>False)
  (hd:∀σ S,Iv items σ S→D.nx σ S):oA g tb D keep items σ S:=oM Iv hk step hd items [] σ S rfl h0
theorem d8{g:Tg}{tc:jM}{te:aJ}{σ':b_}{keep:ar→Prop}{fin:List PV→ar→Prop}{items:List PV}{S:ar}(Iv:List PV→List PV→ar→Prop)(h0:Iv [] [] S)(hk:∀done ys S,Iv done ys S→keep S∧ys.length≤sizeLine)
  (step:∀done x rest ys S (K:List PV→ar→Prop),items=done++x::rest→Iv done ys S→(∀ys' S',Iv (done++[x]) ys' S'→K ys' S')→match g.put x σ' with
   |some σ2=>tc σ2 S (fun b S3=>if b=true then te σ2 S3 (fun y S4=>K (ys++[y]) S4) gD else K ys S3) gD
   |none=>False)
  (hf:∀ys S,Iv items ys S→fin ys S):d4 g tc te σ' keep fin items [] S:=mo Iv hk step hf items [] [] S rfl h0
theorem az{t u:bh}{D:ku}{σ:b_}{S:ar}(h:∀N:b_→ar→Prop,(∀σ S,u D σ S→N σ S)→t { D with nx:=N } σ S):ai t u D σ S:=h (u D) fun _ _ q=>q
theorem fI{n:Nat}{b:bh}{args:List PV}{S:ar}{Q:bB}{E:bH}(h:b { nx:=fun _ S'=>Q .non S',rt:=Q,ex:=gD } (av n args) S):bn n b args S Q E:=h
theorem vx{α β:Type}(f:α→β)(xs:List α)(lo hi:Option Int):dZ (xs.map f) lo hi=(dZ xs lo hi).map f:=by
 unfold dZ
 rw[List.length_map,List.map_take,List.map_drop]
theorem vy{α:Type}(xs:List α)(lo hi:Option Int):(dZ xs lo hi).length≤xs.length:=by
 unfold dZ
 rw[List.length_take,List.length_drop]
 omega
theorem bT{n:Nat}(h:n≤1000):n≤sizeLine:=Nat.le_of_lt (cY h)
section
variable {α:Type} {a b c d e:α} {l:List α}
theorem eP:Gp (a::l) 0=some a:=by simp[Gp,pZ]
theorem fJ:Gp (a::b::l) 1=some b:=bC (j:=1) rfl
theorem vz:Gp (a::b::c::l) 2=some c:=bC (j:=2) rfl
theorem Fi:Gp (a::b::c::d::l) 3=some d:=bC (j:=3) rfl
theorem Fj:Gp (a::b::c::d::e::l) 4=some e:=bC (j:=4) rfl
theorem AE:Gp [a] (-1)=some a:=rfl
theorem AF:Gp [a,b] (-1)=some b:=rfl
theorem vA:Gp [a,b,c] (-1)=some c:=rfl
theorem AG:Gp [a,b,c,d] (-1)=some d:=rfl
theorem vB:Gp [a,b,c,d,e] (-1)=some e:=rfl
theorem AH:Gp [a,b] (-2)=some a:=rfl
theorem qx:Gp [a,b,c] (-2)=some b:=rfl
theorem AI:Gp [a,b,c,d] (-2)=some c:=rfl
theorem qy:Gp [a,b,c,d,e] (-2)=some d:=rfl
end
theorem cF(lo:Int)(n:Nat):(bx lo n).length=n:=by simp[bx]
end L3
namespace C
open PySem L2 L3
abbrev oN(w:aw):Prop:=∀{S:ar} {ns:List Int} {b:Int} {Q:bB} {E:bH},ns.length≤63→0≤b→b < 1000→(∀d l S',S d=none→S l=none→FN S' d l→Ext S S'→Q (.ref d) S')→w [.cl (ns.map PV.int),.int b] S Q E
theorem Jc:oN (bn 5 fy):=by
 intro S ns b Q E hn h0 h1 k
 unfold bn fy
 rw[show av 5 [PV.cl (ns.map PV.int),PV.int b]=[some (.cl (ns.map PV.int)),some (.int b),none,none,none] from rfl]
 walk_at "x"
 intro p hp
 rw[FC]
 dsimp only
 rw[vx]
 have hx:(dZ ns (some b) (some 63)).length≤63:=Nat.le_trans (vy _ _ _) hn
 generalize dZ ns (some b) (some 63)=xs at hx
 refine tw (fun v=>match v with | .int i=>.int (if 0 - i > i then 0 - i else i)|v=>v) FC (fun x hx=>?_) (bT (by rw[List.length_map];omega)) ?_
 ·obtain⟨i,hi,rfl⟩:=List.mem_map.mp hx
  refine⟨[some (.int i)],rfl,fun Q q=>?_⟩
  walk_at "x"
  exact q
 intro p2 hp2
 rw[FC]
 dsimp only
 rw[List.map_map]
 have e0:(xs.map ((fun v=>match v with | .int i=>.int (if 0 - i > i then 0 - i else i)|v=>v) ∘ PV.int))=(xs.map fun i=>if 0 - i > i then 0 - i else i).map PV.int:=by
  rw[List.map_map];rfl
 rw[e0]
 have hy:((xs.map fun i=>if 0 - i > i then 0 - i else i)).length≤63:=by rw[List.length_map];exact hx
 have LD:∀y∈xs.map (fun i:Int=>if 0 - i > i then 0 - i else i),0≤y:=by
  intro y hy
  obtain⟨i,_,rfl⟩:=List.mem_map.mp hy
  split<;>omega
 generalize (xs.map fun i=>if 0 - i > i then 0 - i else i)=ys at hy LD
 have h2:p2≠p:=fun e=>by rw[e,FC]at hp2;cases hp2
 have hp2':S p2=none:=by rw[←hp2,al h2]
 refine cD (fun done σ S'=>S'=FF (FF S p (.lst (xs.map PV.int))) p2 (.lst (ys.map PV.int))∧∃v2 n,0≤n∧n < 2147483647∧σ=[some (.cl (ns.map PV.int)),some (.int b),v2,some (.ref p2),some (.int n)]) ⟨rfl,none,7919+b,by omega,by omega,rfl⟩ (fun done σ S' h=>by rw[h.1];exact FC) ?_ ?_
 ·rintro done x rest σ S' K e ⟨rfl,v2,n,n0,n1,rfl⟩ hK
  obtain⟨i,hi,rfl⟩:∃i,i∈ys∧x = .int i:=by
   have:x∈ys.map PV.int:=by rw[e];simp
   obtain⟨i,hi,rfl⟩:=List.mem_map.mp this
   exact⟨i,hi,rfl⟩
  walk_at "x"
  refine⟨nk (by decide) (by decide),by decide,by decide,hK _ _ ⟨rfl,_,_,?_,?_,rfl⟩⟩
  ·rw[gF (by decide)];omega
  ·rw[gF (i:=(n * 48271+_)) (by decide)];omega
 ·rintro σ S' ⟨rfl,v2,n,n0,n1,rfl⟩
  walk_at "x"
  intro d hd
  have hd2:d≠p2:=fun e=>by rw[e,FC]at hd;cases hd
  rw[al hd2]at hd
  have hd1:d≠p:=fun e=>by rw[e,FC]at hd;cases hd
  rw[al hd1]at hd
  rw[al hd2.symm,FC]
  dsimp only
  refine eO (fun v=>v) (fun v=>match v with | .int i=>decide (10 ^ 18≤i)|_=>false) (by rw[al hd2.symm,FC]) _ [] (fun x hx=>?_) (by rw[List.length_map];exact bT (by simp;omega)) ?_
  ·obtain⟨i,hi,rfl⟩:=List.mem_map.mp hx
   refine⟨[some (.int i)],rfl,fun Q q=>?_,fun _ Q q=>?_⟩
   ·walk_at "x"
    exact⟨⟨by decide,by decide,by decide⟩,q⟩
   ·walk_at "x"
    exact q
  intro p3 hp3
  rw[FC]
  intro l hl
  have e3:([]++List.map (fun v:PV=>v) (List.filter (fun v=>match v with | .int i=>decide (10 ^ 18≤i)|_=>false) (List.map PV.int ys)))=(ys.filter fun i=>decide (10 ^ 18≤i)).map PV.int:=by
   rw[List.nil_append,List.map_id',List.filter_map]
   rfl
  rw[e3]at hl ⊢
  rw[←List.map_reverse]
  generalize NU:FF (FF (FF (FF S p (SO.lst (List.map PV.int xs))) p2 (SO.lst (List.map PV.int ys))) d (SO.dct [])) p3 (SO.lst (List.map PV.int (List.filter (fun i=>decide (10 ^ 18≤i)) ys)))=S3 at hl ⊢
  have NV:S3 d=some (.dct []):=by rw[←NU,al (fun e=>by rw[←e,FC]at hp3;cases hp3),FC]
  have NW:l≠d:=fun e=>by rw[e,NV]at hl;cases hl
  have M9:Ext S S3:=by
   rw[←NU]
   refine(Ext.new hp).trans ((Ext.new hp2).trans ((Ext.new ?_).trans (.new hp3)))
   rw[al hd2,al hd1];exact hd
  refine⟨by rw[al NW.symm];exact NV,?_⟩
  have e4:oB [(PV.str "seed",PV.int n),(PV.str "number",PV.int 0),(PV.str "left",PV.ref l)]=some (bQ n 0 l):=rfl
  rw[e4]
  have e5:m5 [] (bQ n 0 l)=bQ n 0 l:=by simp[m5,bQ,mZ,sS,am]
  dsimp only
  rw[e5]
  refine k d l _ hd (M9.free hl) ⟨n,0,_,FC,by rw[al NW,FC],n0,n1,Int.le_refl _,fun y hy=>?_,?_⟩ ?_
  ·exact LD y (List.mem_filter.mp (List.mem_reverse.mp hy)).1
  ·rw[List.length_reverse]
   exact Nat.le_trans (List.length_filter_le _ _) (by omega)
  ·intro a o ha
   have had:a≠d:=fun e=>by rw[e,hd]at ha;cases ha
   rw[al had,al (fun e=>by rw[e,M9.free hl]at ha;cases ha)]
   exact M9 a o ha
end C
namespace L3
open PySem L2
theorem kN(S:ar):∀zs:List Str,G9 S (zs.map PV.str) (zs.map PyData.str)
 |[]=>.nil
 |z::r=>.cons (.str z) (kN S r)
theorem fK:∀{zs:List Str},(∀z∈zs,PyData.strOk z=true)→PyData.canLayAll0 (zs.map PyData.str)=true
 |[],_=>rfl
 |z::r,h=>by
  show(PyData.canLay0 (.str z)&&PyData.canLayAll0 (r.map PyData.str))=true
  rw[fK fun y hy=>h y (by simp[hy])]
  have:PyData.canLay0 (.str z)=true:=h z (by simp)
  rw[this];rfl
theorem kO(z:Str)(zs:List Str):jO (.str z) (zs.map PyData.str)=decide (z∈zs):=by
 unfold jO
 rw[List.any_map,Bool.eq_iff_iff,List.any_eq_true,decide_eq_true_iff]
 constructor
 ·rintro⟨y,hy,e⟩
  have e':(y == z)=true:=e
  exact(eq_of_beq e')▸hy
 ·intro h
  exact⟨z,h,beq_self_eq_true z⟩
theorem rN{neg:Bool}{z:Str}{zs:List Str}{a:Addr}{S:ar}{Q:bB}(hS:S a=some (.lst (zs.map PV.str)))(hz:PyData.strOk z=true)(hzs:∀y∈zs,PyData.strOk y=true)(q:Q (.bl (neg != decide (z∈zs))) S):pJ neg (.str z) (.ref a) S Q:=by
 unfold pJ
 simp only[hS]
 exact⟨_,_,.str z,kN S zs,hz,fK hzs,by show 0≤150;decide,by rw[kO];exact q⟩
theorem bK{neg:Bool}{z:Str}{zs:List Str}{S:ar}{Q:bB}(hz:PyData.strOk z=true)(hzs:∀y∈zs,PyData.strOk y=true)(q:Q (.bl (neg != decide (z∈zs))) S):pJ neg (.str z) (.tup (zs.map PV.str)) S Q:=by
 unfold pJ
 exact⟨_,_,.str z,kN S zs,hz,fK hzs,by show 0≤150;decide,by rw[kO];exact q⟩
end L3
namespace C
open PySem L2 L3 Wd
abbrev nl(w:aw):Prop:=∀{S:ar} {t b:Int} {Q:bB} {E:bH},0 < b→b.natAbs < 2 ^ 8000→Q (.tup [.int (M3.bu t b),.int (M3.aZ t b)]) S→w [.int t,.int b] S Q E
theorem JH:nl (bn 4 gM):=by
 intro S t b Q E hb hs k
 unfold bn gM
 rw[show av 4 [PV.int t,PV.int b]=[some (.int t),some (.int b),none,none] from rfl]
 simp only[ai]
 walk_at "x"
 refine⟨fun n σ S'=>S'=S∧∃x y:Int,σ=[some (.int t),some (.int b),some (.int x),some (.int y)]∧0≤x∧0≤y∧Int.gcd x y=Int.gcd t b∧y.toNat=n,⟨_,rfl,_,b,rfl,by split<;>omega,by omega,?_,rfl⟩,?_⟩
 ·split
  ·rw[show(0 - t) = -t by omega,Int.neg_gcd]
  ·rfl
 rintro n σ S' ⟨rfl,x,y,rfl,hx,hy,hg,rfl⟩
 walk_at "x"
 simp only[decide_eq_true_eq]
 split
 ·rename_i hp
  refine⟨fun σ' Km=>Km=S'∧∃x' y':Int,σ'=[some (.int t),some (.int b),some (.int x'),some (.int y')]∧0≤x'∧0≤y'∧Int.gcd x' y'=Int.gcd t b∧y'.toNat < y.toNat,?_,?_⟩
  ·rintro σ' Km ⟨rfl,x',y',rfl,h1,h2,h3,h4⟩
   exact⟨_,h4,rfl,x',y',rfl,h1,h2,h3,rfl⟩
  ·walk_at "x"
   have e:x.fmod y=x % y:=gF hy
   have l1:=Int.emod_nonneg x (b:=y) (by omega)
   have l2:=Int.emod_lt_of_pos x hp
   refine⟨by omega,trivial,y,x.fmod y,rfl,hy,by omega,?_,by omega⟩
   rw[M3.oi];exact hg
 ·rename_i hp
  have LD:y=0:=by omega
  subst LD
  have M_:x=(Int.gcd t b:Int):=by
   rw[←hg]
   rw[Int.gcd_zero_right]
   omega
  subst M_
  have gp:(0:Int) < (Int.gcd t b:Int):=Int.natCast_pos.mpr (M3.f9 (by omega))
  have gl:=M3.uK (t:=t) (b:=b) (by omega)
  have cd:∀z,l4 z (Int.gcd t b:Int):=fun z=>⟨by omega,Nat.lt_of_le_of_lt (by omega) hs⟩
  refine⟨cd _,cd _,?_⟩
  have d1:=(M3.oh (t:=t) (b:=b) (by omega))
  rw[if_neg (by omega)]at d1
  rw[d1.1,d1.2]
  exact k
structure oO (x y:Int):Prop where
 low:M3.Di x y
 x0:0≤x
 x1:x≤999
 y1:y≤9
theorem je{n:Nat}(h:n < 2 ^ 64):n < 2 ^ 8000:=Nat.lt_trans h (Nat.pow_lt_pow_right (by decide) (by decide))
abbrev kP(w:aw):Prop:=∀{S:ar} {d l:Addr} {Q:bB} {E:bH},FN S d l→(∀x y S',oO x y→FN S' d l→Gm d l S S'→Q (.tup [.int x,.int y]) S')→w [.ref d] S Q E
theorem Jd{wd wl:aw}(FE:bJ wd)(JH:nl wl):kP (bn 2 (fA wd wl)):=by
 intro S d l Q E D k
 unfold bn fA
 rw[show av 2 [PV.ref d]=[some (.ref d),none] from rfl]
 walk_at "x"
 refine FE D (by decide) (by decide) fun r S1 r0 r1 D1 O1=>?_
 simp only[Bool.false_bne,decide_eq_true_eq]
 split
 ·exact k 0 1 S1 ⟨⟨by decide,by decide⟩,by decide,by decide,by decide⟩ D1 O1
 ·split
  ·refine FE D1 (by decide) (by decide) fun r2 S2 a0 a1 D2 O2=>?_
   exact k _ 1 S2 ⟨⟨by decide,Int.gcd_one_right _⟩,by omega,by omega,by decide⟩ D2 (O1.trans O2)
  ·refine FE D1 (by decide) (by decide) fun r2 S2 a0 a1 D2 O2=>FE D2 (by decide) (by decide) fun r3 S3 b0 b1 D3 O3=>?_
   refine JH (by omega) (je (by omega)) ?_
   have z:=M3.uM (t:=r2) (b:=1+r3) (T:=999) (B:=9) (by omega) (by omega) (by omega) (by omega) (by omega) (by decide) (by decide)
   refine k _ _ S3 ⟨M3.mO (by omega),?_,z.2.1,z.2.2.2⟩ D3 (O1.trans (O2.trans O3))
   unfold M3.bu
   rw[if_neg (by omega)]
   exact Int.ediv_nonneg a0 (by omega)
theorem tD{r:Int}(h0:0≤r)(h1:r < 26):∃c,Gp abc.cps.toList r=some c∧97≤c∧c≤122:=by
 obtain⟨n,rfl⟩:=Int.eq_ofNat_of_zero_le h0
 have q:=mN n
 rw[Nat.mod_eq_of_lt (by omega)]at q
 exact⟨_,q,by omega,by omega⟩
theorem nq{z:Str}(h:IsW z):PyData.strOk z=true:=by
 unfold PyData.strOk
 rw[Array.all_eq_true']
 intro c hc
 have:=h.sm c (by simpa using hc)
 simp;omega
theorem xY:∀z∈GA,PyData.strOk z=true:=by decide +kernel
theorem jf:∀zs:List Str,texts (zs.map PV.str)=some zs
 |[]=>rfl
 |z::r=>by show(texts (r.map PV.str)).map (z::·)=_;rw[jf r];rfl
theorem tE:("":Str).length=0:=by decide +kernel
theorem mq{cs:List Nat}(h:cs.length≤1000):((cs.map lV).map (·.length)).sum+(cs.map lV).length * ("":Str).length≤1000000:=by
 rw[xv,tE]
 omega
theorem kQ{w__law_draw:aw}(FE:bJ w__law_draw){S:ar}{d l:Addr}{σ:b_}{n:Int}{fin:List PV→ar→Prop}(D:FN S d l)(hn:n.toNat≤100)(h1:lk σ 1=some (.ref d))(h2:lk σ 2=some (.str abc))(hσ:∃x,σ=[x,some (.ref d),some (.str abc)])
  (k:∀(cs:List Nat) S',cs.length=n.toNat→(∀c∈cs,97≤c∧c≤122)→FN S' d l→Gm d l S S'→fin ((cs.map lV).map PV.str) S') :
  d4 (Tg.n 0) di (ah af (v3 2) (ae w__law_draw [v3 1,c3 (.int 26)])) σ (fun _=>True) fin (bx 0 n.toNat) [] S:=by
 obtain⟨x0,rfl⟩:=hσ
 refine d8 (fun done ys S'=>∃cs:List Nat,ys=(cs.map lV).map PV.str∧cs.length=done.length∧done.length≤n.toNat∧(∀c∈cs,97≤c∧c≤122)∧FN S' d l∧Gm d l S S') ⟨[],rfl,rfl,Nat.zero_le _,by simp,D,.refl⟩ ?_ ?_ ?_
 ·rintro done ys S' ⟨cs,rfl,e,hd,_⟩
  exact⟨trivial,bT (by rw[List.length_map,List.length_map,e];omega)⟩
 ·rintro done x rest ys S' K e ⟨cs,rfl,e2,hd,hc,D',O'⟩ hK
  have hlen:done.length+1≤n.toNat:=by
   have:=congrArg List.length e
   rw[cF,List.length_append,List.length_cons]at this
   omega
  walk_at "x"
  simp only[di,if_true]
  refine FE D' (by decide) (by decide) fun r S2 r0 r1 D2 O2=>⟨jZ.1,?_⟩
  obtain⟨c,ec,c0,c1⟩:=tD r0 r1
  rw[ec]
  refine hK _ _ ⟨cs++[c],by simp,by simp[e2],by simpa using hlen,fun y hy=>?_,D2,O'.trans O2⟩
  rcases List.mem_append.mp hy with hy|hy
  ·exact hc y hy
  ·rw[List.mem_singleton.mp hy];exact⟨c0,c1⟩
 ·rintro ys S' ⟨cs,rfl,e,hd,hc,D',O'⟩
  exact k cs S' (by rw[e,cF]) hc D' O'
theorem oP{f:Str→List Nat}(r:List Nat):∀xs:List Str,(xs.map f).Nodup→(xs.filter fun z=>f z == r).length≤1
 |[],_=>Nat.zero_le _
 |x::xs,h=>by
  rw[List.map_cons,List.nodup_cons]at h
  rw[List.filter_cons]
  by_cases e:(f x == r)=true
  ·rw[if_pos e]
   have no:(xs.filter fun z=>f z == r)=[]:=by
    refine List.filter_eq_nil_iff.mpr fun z hz q=>h.1 ?_
    rw[eq_of_beq e,←eq_of_beq q]
    exact List.mem_map.mpr ⟨z,hz,rfl⟩
   rw[no]
   exact Nat.le_refl _
  ·rw[if_neg e]
   exact oP r xs h.2
theorem vC(r:List Nat):(GA.filter fun z=>z.cps.toList.tail == r).length≤1:=oP (f:=fun z=>z.cps.toList.tail) r GA (by decide +kernel)
theorem qz(r:List Nat)(c:Nat)(ns:List Str)(h:ns.length < 17):∃j,j < 26∧cand r (c+j) ∉ GA++ns:=by
 obtain⟨j,hj,free⟩:=sR r c ((GA.filter fun z=>z.cps.toList.tail == r)++ns) (by rw[List.length_append];have:=vC r;omega)
 refine⟨j,hj,fun hm=>free ?_⟩
 rcases List.mem_append.mp hm with q|q
 ·exact List.mem_append_left _ (List.mem_filter.mpr ⟨q,by simp[cand]⟩)
 ·exact List.mem_append_right _ q
abbrev f_(w:aw):Prop:=∀{S:ar} {d l:Addr} {m:Int} {Q:bB} {E:bH},FN S d l→0≤m→m≤17→(∀p (ns:List Str) S',ns.length=m.toNat→ns.Nodup→(∀z∈ns,IsW z∧z ∉ GA)→S p=none→p≠d→p≠l→S' p=some (.lst (ns.map PV.str))→FN S' d l→Gm d l S S'→Q (.ref p) S')→w [.ref d,.int m] S Q E
theorem Hk{wd:aw}(FE:bJ wd):f_ (bn 11 (eA wd)):=by
 intro S d l m Q E D h0 h1 k
 unfold eA
 refine fI ?_
 rw[show av 11 [PV.ref d,PV.int m]=[some (.ref d),some (.int m),none,none,none,none,none,none,none,none,none] from rfl]
 refine az fun N hN=>?_
 walk_at "x"
 refine hN _ _ (az fun N hN=>?_)
 walk_at "x"
 intro pT hT
 have dT:=D.free hT
 have D0:FN (FF S pT (.lst (GA.map PV.str))) d l:=D.new hT
 have NX:(FF S pT (.lst (GA.map PV.str))) pT=some (.lst (GA.map PV.str)):=FC
 have O0:Gm d l S (FF S pT (.lst (GA.map PV.str))):=.new hT
 have eK:[PV.str "jars",PV.str "deed",PV.str "rest",PV.str "pay",PV.str "put",PV.str "then",PV.str "either",PV.str "take",PV.str "often",PV.str "use"]=GA.map PV.str:=rfl
 rw[eK]
 generalize FF S pT (.lst (GA.map PV.str))=S0 at D0 NX O0 ⊢
 refine hN _ _ (az fun N hN=>?_)
 walk_at "x"
 refine⟨trivial,FE D0 (by decide) (by decide) fun n S1 n0 n1 D1 O1=>⟨by omega,by omega,?_⟩⟩
 refine kQ FE D1 (by omega) rfl rfl ⟨_,rfl⟩ fun cs S2 hl hc D2 O2 pj hj=>?_
 simp only[l8,FC,jf]
 refine⟨mq (by omega),?_⟩
 rw[show Txt.join (Str.ofString "") (cs.map lV)=⟨cs.toArray⟩from kr cs]
 refine hN _ _ (az fun N hN=>?_)
 walk_at "x"
 have hcl:cs.length≤5:=by omega
 have lc:(⟨cs.toArray⟩:Str).length=cs.length:=List.size_toArray
 refine⟨by rw[lc];exact bT (by omega),FE (D2.new hj) (by rw[lc];omega) (by rw[lc];omega) fun at' S3 a0 a1 D3 O3=>FE D3 (by decide) (by decide) fun tu S4 t0 t1 D4 O4=>FE D4 (by decide) (by decide) fun nr S5 r0 r1 D5 O5=>?_⟩
 rw[lc]at a1
 obtain⟨an,rfl⟩:=Int.eq_ofNat_of_zero_le a0
 obtain⟨tn,rfl⟩:=Int.eq_ofNat_of_zero_le t0
 refine hN _ _ (az fun N hN=>?_)
 walk_at "x"
 intro q hq
 have dq:=D5.free hq
 have OA:Gm d l S0 S5:=O1.trans (O2.trans ((Gm.new hj).trans (O3.trans (O4.trans O5))))
 have Na:=OA _ _ NX dT.1 dT.2
 have NY:pT≠q:=fun e=>by rw[e,hq]at Na;cases Na
 have NZ:S q=none:=by
  cases e:S q with
  |none=>rfl
  |some o=>rw[OA _ _ (O0 _ _ e dq.1 dq.2) dq.1 dq.2]at hq;cases hq
 refine hN _ _ (az fun N hN=>?_)
 simp only[dh,fk,v3,lk]
 refine⟨by omega,by omega,?_⟩
 refine cD (fun done σ S'=>∃(ns:List Str) (v4 v10:Option PV) (near:Bool),σ=[some (.ref d),some (.int m),some (.str abc),some (.ref pT),v4,some (.str ⟨cs.toArray⟩),some (.int an),some (.int tn),some (.bl near),some (.ref q),v10]∧ns.length=done.length∧ns.Nodup∧(∀z∈ns,IsW z∧z ∉ GA)∧S' q=some (.lst (ns.map PV.str))∧S' pT=some (.lst (GA.map PV.str))∧FN S' d l∧Gm d l S S')
  ⟨[],_,_,_,rfl,rfl,List.nodup_nil,(fun z hz=>nomatch hz),FC,by rw[al NY];exact Na,D5.new hq,O0.trans (OA.trans (.new hq))⟩ (fun _ _ _ _=>trivial) ?_ ?_
 ·rintro done x rest σ S6 K e ⟨ns,v4,v10,near,rfl,Nb,Nc,w6,Ms,Nd,D6,O6⟩ hK
  have hlen:done.length < m.toNat:=by
   have:=congrArg List.length e
   rw[cF,List.length_append,List.length_cons]at this
   omega
  have hx:x = .int (0+(done.length:Nat)):=by
   have h2:=congrArg (fun l=>l[done.length]?) e
   simp only[List.getElem?_append_right (Nat.le_refl _),Nat.sub_self,List.getElem?_cons_zero]at h2
   unfold bx at h2
   rw[List.getElem?_map,List.getElem?_range hlen]at h2
   simpa using h2.symm
  subst hx
  -- the tail: a word is changed O9 it is new,then laid down
  have ql:∀(z:Str) (v4:Option PV) (S7:ar),IsW z→S7 q=some (.lst (ns.map PV.str))→S7 pT=some (.lst (GA.map PV.str))→FN S7 d l→Gm d l S S7→
    ai (iY (oq (aO (ah (pJ false) (v3 10) (v3 3))) (aO (ah (pJ false) (v3 10) (v3 9)))) (aC 10 (ah aS (ah af (v3 2) (ah fx (ah aS (l7 "str" iW (v3 2) [(ah af (v3 10) (c3 (.int 0)))]) (c3 (.int 1))) (c3 (.int 26)))) (bv (v3 10) (l5 (c3 (.int 1))) nT))))
     (aD (l7 "list" cC (v3 9) [(v3 10)])) { nx:=K,rt:=Q,ex:=gD,bk:=N,ct:=K } [some (.ref d),some (.int m),some (.str abc),some (.ref pT),v4,some (.str ⟨cs.toArray⟩),some (.int an),some (.int tn),some (.bl near),some (.ref q),some (.str z)] S7:=by
   intro z v4 S7 hz N0 N1 D7 O7
   obtain⟨i,r,rfl,hi,Nf,hrs⟩:=hz.cand
   obtain⟨j,hj,free⟩:=qz r i ns (by omega)
   refine⟨fun mm σ S'=>∃t,σ=[some (.ref d),some (.int m),some (.str abc),some (.ref pT),v4,some (.str ⟨cs.toArray⟩),some (.int an),some (.int tn),some (.bl near),some (.ref q),some (.str (cand r (i+t)))]∧S'=S7∧t≤j∧mm=j - t,⟨j,0,rfl,rfl,Nat.zero_le _,rfl⟩,?_⟩
   rintro mm σ S' ⟨t,rfl,rfl,ht,rfl⟩
   have hw:=uJ Nf hrs (i+t)
   have Ng:∀y∈ns,PyData.strOk y=true:=fun y hy=>nq (w6 y hy).1
   have go:t < j→∃N:b_→ar→Prop,(∀σ' Km,N σ' Km→∃m',m' < j - t∧∃t',σ'=[some (.ref d),some (.int m),some (.str abc),some (.ref pT),v4,some (.str ⟨cs.toArray⟩),some (.int an),some (.int tn),some (.bl near),some (.ref q),some (.str (cand r (i+t')))]∧Km=S'∧t'≤j∧m'=j - t')∧
     N ([some (.ref d),some (.int m),some (.str abc),some (.ref pT),v4,some (.str ⟨cs.toArray⟩),some (.int an),some (.int tn),some (.bl near),some (.ref q),some (.str (cand r (i+(t+1))))]) S':=fun lt=>
    ⟨fun σ' Km=>σ'=[some (.ref d),some (.int m),some (.str abc),some (.ref pT),v4,some (.str ⟨cs.toArray⟩),some (.int an),some (.int tn),some (.bl near),some (.ref q),some (.str (cand r (i+(t+1))))]∧Km=S',fun σ' Km ⟨e1,e2⟩=>⟨j - (t+1),by omega,t+1,e1,e2,by omega,rfl⟩,rfl,rfl⟩
   have Mt:((((i+t) % 26:Nat):Int)+1).fmod 26=(((i+t+1) % 26:Nat):Int):=by rw[gF (by decide)];omega
   walk_at "x"
   refine rN N1 (nq hw) xY ?_
   simp only[Bool.false_bne,decide_eq_true_eq]
   split
   ·rename_i g
    have lt:t < j:=Nat.lt_of_le_of_ne ht fun e=>by subst e;exact free (List.mem_append_left _ g)
    obtain⟨N,hN,hn⟩:=go lt
    rw[if_pos trivial]
    refine⟨N,hN,trivial,hw.line,?_⟩
    rw[lW]
    simp only[iW,uH _ (Nat.mod_lt _ (by decide))]
    refine⟨by decide,jZ.1,?_⟩
    rw[Mt,mN (i+t+1)]
    refine⟨hw.line,?_,?_⟩
    ·rw[fZ]
     exact bT (show 1+r.toArray.size≤1000 by rw[List.size_toArray];omega)
    ·rw[fZ,lX]
     exact hn
   ·rename_i g
    refine rN N0 (nq hw) Ng ?_
    simp only[Bool.false_bne,decide_eq_true_eq]
    split
    ·rename_i g2
     have lt:t < j:=Nat.lt_of_le_of_ne ht fun e=>by subst e;exact free (List.mem_append_right _ g2)
     obtain⟨N,hN,hn⟩:=go lt
     refine⟨N,hN,trivial,hw.line,?_⟩
     rw[lW]
     simp only[iW,uH _ (Nat.mod_lt _ (by decide))]
     refine⟨by decide,jZ.1,?_⟩
     rw[Mt,mN (i+t+1)]
     refine⟨hw.line,?_,?_⟩
     ·rw[fZ]
      exact bT (show 1+r.toArray.size≤1000 by rw[List.size_toArray];omega)
     ·rw[fZ,lX]
      exact hn
    ·rename_i g2
     simp only[N0]
     refine⟨trivial,by rw[List.length_map];exact cY (by omega),hK _ _ ⟨ns++[cand r (i+t)],_,_,_,rfl,by simp[Nb],List.nodup_append.mpr ⟨Nc,by simp,fun a ha b hb e=>?_⟩,fun z hz=>?_,by rw[List.map_append];exact FC,by rw[al NY];exact N1,D7.upd dq.1 dq.2,fun a o ha h1 h2=>?_⟩⟩
     ·rw[List.mem_singleton.mp hb]at e
      exact g2 (e▸ha)
     ·rcases List.mem_append.mp hz with hz|hz
      ·exact w6 z hz
      ·rw[List.mem_singleton.mp hz]
       exact⟨hw,g⟩
     ·rw[al (fun e=>by rw[e,NZ]at ha;cases ha)]
      exact O7 a o ha h1 h2
  obtain⟨pw,O_,pl2⟩:=xx hcl hc (a:=an) (i:=(tn+done.length) % 26) (by omega) (Nat.mod_lt _ (by decide))
  have Mt:((tn:Int)+(0+(done.length:Int))).fmod 26=(((tn+done.length) % 26:Nat):Int):=by rw[gF (by decide)];omega
  have N4:(⟨cs.toArray⟩:Str).length≤sizeLine:=by rw[lc];exact bT (by omega)
  simp only[Tg.put]
  refine az fun N2 Je=>?_
  walk_at "x"
  refine⟨N4,by decide,jZ.1,?_⟩
  rw[Mt,mN (tn+done.length)]
  refine⟨Nat.le_trans (Nat.add_le_add O_ (Nat.le_refl 1)) (by decide),N4,Nat.le_trans (Nat.le_of_eq (Array.size_append).symm) (Nat.le_trans pw.len (by decide)),?_⟩
  refine Je _ _ (az fun N3 N5=>?_)
  walk_at "x"
  split
  ·refine⟨trivial,FE D6 (by decide) (by decide) fun n2 Sa m0 m1 Da Oa=>⟨by omega,by omega,?_⟩⟩
   refine kQ FE Da (by omega) rfl rfl ⟨_,rfl⟩ fun Lm Sb hl2 hc2 Db Ob Pa hj2=>?_
   simp only[l8,FC,jf]
   refine⟨mq (by omega),?_⟩
   rw[show Txt.join (Str.ofString "") (Lm.map lV)=⟨Lm.toArray⟩from kr Lm]
   refine N5 _ _ ?_
   have wz:IsW (⟨Lm.toArray⟩:Str):=⟨fun e=>by have e':Lm=[]:=e;rw[e']at hl2;simp at hl2;omega,by show Lm.length≤6;omega,hc2⟩
   have OB:Gm d l S6 (FF Sb Pa (.lst ((Lm.map lV).map PV.str))):=Oa.trans (Ob.trans (.new hj2))
   exact ql _ _ _ wz (OB _ _ Ms dq.1 dq.2) (OB _ _ Nd dT.1 dT.2) (Db.new hj2) (O6.trans OB)
  ·exact N5 _ _ (ql _ _ S6 pw Ms Nd D6 O6)
 ·rintro σ S6 ⟨ns,v4,v10,near,rfl,Nb,Nc,w6,Ms,Nd,D6,O6⟩
  refine hN _ _ ?_
  walk_at "x"
  exact k q ns S6 (by rw[Nb,cF]) Nc w6 NZ dq.1 dq.2 Ms D6 O6
inductive Bd where
 |rest|pay (x y:Int)|put (z:Str) (m:Int)|use (z:Str)|Gn (a:Bd)|FI (a b:Bd)|Gx (a b:Bd)|GJ (z:Str) (m:Int) (a b:Bd)
noncomputable def Bd.pv:Bd→PV
 | .rest=>.tup [.str "rest"]
 | .pay x y=>.tup [.str "pay",.tup [.int x,.int y]]
 | .put z m=>.tup [.str "put",.str z,.int m]
 | .use z=>.tup [.str "use",.str z]
 | .Gn a=>.tup [.str "often",a.pv]
 | .FI a b=>.tup [.str "then",a.pv,b.pv]
 | .Gx a b=>.tup [.str "either",a.pv,b.pv]
 | .GJ z m a b=>.tup [.str "take",.str z,.int m,a.pv,b.pv]
noncomputable def Bd.dep:Bd→Nat
 | .Gn a=>a.dep+1
 | .FI a b=>max a.dep b.dep+1
 | .Gx a b=>max a.dep b.dep+1
 | .GJ _ _ a b=>max a.dep b.dep+1
 |_=>1
noncomputable def Bd.size:Bd→Nat
 | .Gn a=>a.size+1
 | .FI a b=>a.size+b.size+1
 | .Gx a b=>a.size+b.size+1
 | .GJ _ _ a b=>a.size+b.size+1
 |_=>1
noncomputable def Bd.good(js us:List Str):Bd→Prop
 | .rest=>True
 | .pay x y=>oO x y
 | .put z m=>z∈js∧1≤m∧m≤9
 | .use z=>z∈us
 | .Gn a=>a.good js us
 | .FI a b=>a.good js us∧b.good js us
 | .Gx a b=>a.good js us∧b.good js us
 | .GJ z m a b=>z∈js∧1≤m∧m≤9∧a.good js us∧b.good js us
theorem Bd.Gj(t:Bd):1≤t.dep:=by cases t<;>simp[Bd.dep]
theorem gc{α:Type}{xs:List α}{r:Int}(h0:0≤r)(h1:r < xs.length):∃v,Gp xs r=some v∧v∈xs:=by
 obtain⟨n,rfl⟩:=Int.eq_ofNat_of_zero_le h0
 have hn:n < xs.length:=by omega
 exact⟨xs[n],bC (by simp[hn]),List.getElem_mem hn⟩
noncomputable def Bd.leaf:Bd→Prop
 | .rest=>True
 | .pay _ _=>True
 | .put _ _=>True
 |_=>False
theorem Bd.HM{t:Bd}(h:t.leaf):t.dep=1∧t.size=1:=by cases t<;>first|exact⟨rfl,rfl⟩|exact h.elim
abbrev il(w:aw):Prop:=∀{S:ar} {d l:Addr} {js:List Str} {Q:bB} {E:bH},FN S d l→js.length < 2 ^ 61→(∀(t:Bd) S',t.leaf→t.good js []→FN S' d l→Gm d l S S'→Q t.pv S')→w [.ref d,.tup (js.map PV.str)] S Q E
theorem Hw{wd wc:aw}(FE:bJ wd)(Jd:kP wc):il (bn 4 (fB wd wc)):=by
 intro S d l js Q E D hj k
 unfold fB
 refine fI ?_
 rw[show av 4 [PV.ref d,PV.tup (js.map PV.str)]=[some (.ref d),some (.tup (js.map PV.str)),none,none] from rfl]
 refine az fun N hN=>?_
 walk_at "x"
 refine FE D (by decide) (by decide) fun r S1 r0 r1 D1 O1=>?_
 refine hN _ _ (az fun N hN=>?_)
 walk_at "x"
 simp only[Bool.false_bne,decide_eq_true_eq]
 split
 ·exact k .rest S1 trivial trivial D1 O1
 refine hN _ _ (az fun N hN=>?_)
 walk_at "x"
 simp only[Bool.false_bne,decide_eq_true_eq,List.length_map]
 have pay:wc [.ref d] S1 (fun x S=>Q (.tup [.str "pay",x]) S) gD:=Jd D1 fun x y S2 c D2 O2=>k (.pay x y) S2 trivial c D2 (O1.trans O2)
 split
 ·rw[if_pos trivial];exact pay
 split
 ·exact pay
 rename_i hr hz
 refine hN _ _ (az fun N hN=>?_)
 walk_at "x"
 refine FE D1 (by decide) (by decide) fun r2 S2 a0 a1 D2 O2 p hp=>FE (D2.new hp) (by decide) (by decide) fun r3 S3 b0 b1 D3 O3=>?_
 have dp:=D2.free hp
 have hp3:=O3 _ _ (FC (S:=S2) (o:=.lst [.int 1,.int 2,.int (1+r2)])) dp.1 dp.2
 simp only[hp3]
 obtain⟨v,hv,hm⟩:=gc (xs:=[PV.int 1,.int 2,.int (1+r2)]) b0 (by simpa using b1)
 rw[hv]
 obtain⟨m,rfl,m0,m1⟩:∃m,v = .int m∧1≤m∧m≤9:=by
  simp only[List.mem_cons,List.not_mem_nil,or_false]at hm
  rcases hm with rfl|rfl|rfl
  ·exact⟨1,rfl,by omega,by omega⟩
  ·exact⟨2,rfl,by omega,by omega⟩
  ·exact⟨1+r2,rfl,by omega,by omega⟩
 refine hN _ _ ?_
 walk_at "x"
 simp only[List.length_map]
 refine FE D3 (by omega) (by omega) fun r4 S4 c0 c1 D4 O4=>?_
 obtain⟨w,hw,Nh⟩:=gc (xs:=js.map PV.str) c0 (by rw[List.length_map];exact c1)
 dsimp only
 rw[hw]
 obtain⟨z,hz,rfl⟩:=List.mem_map.mp Nh
 exact k (.put z m) S4 trivial ⟨hz,m0,m1⟩ D4 (O1.trans (O2.trans ((Gm.new hp).trans (O3.trans O4))))
def HF(d l x:Addr)(S S':ar):Prop:=∀a o,S a=some o→a≠d→a≠l→a≠x→S' a=some o
theorem _root_.L3.Gm.x{d l x:Addr}{S S':ar}(h:Gm d l S S'):HF d l x S S':=fun a o e h1 h2 _=>h a o e h1 h2
theorem HF.trans{d l x:Addr}{S S1 S2:ar}(a:HF d l x S S1)(b:HF d l x S1 S2):HF d l x S S2:=fun y o h h1 h2 h3=>b y o (a y o h h1 h2 h3) h1 h2 h3
theorem HF.upd{d l x:Addr}{S:ar}{o:SO}:HF d l x S (FF S x o):=fun y u h h1 h2 h3=>by rw[al h3];exact h
abbrev fL(n:Nat)(w:aw):Prop:=∀{S:ar} {d l x:Addr} {js:List Str} {left down:Int} {Q:bB} {E:bH},FN S d l→S x=some (.lst [.int left])→x≠d→x≠l→js.length < 2 ^ 61→0≤left→left < 2 ^ 61→0≤down→down < n→
  (∀(t:Bd) S' left',t.good js []→(t.dep:Int)≤down+1→0≤left'→(t.size:Int)+left'≤left+1→FN S' d l→S' x=some (.lst [.int left'])→HF d l x S S'→Q t.pv S')→w [.ref d,.tup (js.map PV.str),.ref x,.int down] S Q E
theorem HN{wd wl rb:aw}(FE:bJ wd)(Hw:il wl)(n:Nat)(ih:fL n rb):fL (n+1) (bn 8 (fD wd wl rb)):=by
 intro S d l x js left down Q E D hx hxd Jf hj h0 h1 h2 h3 k
 unfold fD
 refine fI ?_
 rw[show av 8 [PV.ref d,PV.tup (js.map PV.str),PV.ref x,PV.int down]=[some (.ref d),some (.tup (js.map PV.str)),some (.ref x),some (.int down),none,none,none,none] from rfl]
 refine az fun N hN=>?_
 walk_at "x"
 refine FE D (by decide) (by decide) fun r S1 r0 r1 D1 O1=>?_
 have KU:=O1 _ _ hx hxd Jf
 refine hN _ _ (az fun N hN=>?_)
 walk_at "x"
 have a0:Gp [PV.int left] 0=some (.int left):=rfl
 simp only[Bool.false_bne,decide_eq_true_eq,KU,a0]
 have lf:wl [.ref d,.tup (js.map PV.str)] S1 Q gD:=Hw D1 hj fun t S2 hl hg D2 O2=>k t S2 left hg (by rw[(Bd.HM hl).1];omega) h0 (by rw[(Bd.HM hl).2];omega) D2 (O2 _ _ KU hxd Jf) (O1.x.trans O2.x)
 split
 ·rw[if_pos trivial];exact lf
 split
 ·rw[if_pos trivial];exact lf
 split
 ·exact lf
 rename_i hd hl hf
 refine hN _ _ (az fun N hN=>?_)
 simp only[bA,aO,ah,v3,c3,lk,pL,dA,decide_eq_true_eq]
 have N6:pZ [PV.int left].length 0=some 0:=rfl
 split
 ·refine az fun N2 Je=>?_
  walk_at "x"
  simp only[KU,a0,N6]
  refine Je _ _ ?_
  walk_at "x"
  refine ih (left:=left - 1) (D1.upd hxd Jf) FC hxd Jf hj (by omega) (by omega) (by omega) (by omega) fun t S2 l2 hg hdp q0 q1 D2 Ni O2=>?_
  exact k (.Gn t) S2 l2 hg (by simp only[Bd.dep];omega) q0 (by simp only[Bd.size];omega) D2 Ni (O1.x.trans (HF.upd.trans O2))
 ·refine hN _ _ (az fun N hN=>?_)
  walk_at "x"
  simp only[KU,a0,N6]
  refine hN _ _ (az fun N hN=>?_)
  walk_at "x"
  refine ih (left:=left - 2) (D1.upd hxd Jf) FC hxd Jf hj (by omega) (by omega) (by omega) (by omega) fun ta S2 l2 ga da q0 q1 D2 Ni O2=>?_
  refine hN _ _ (az fun N hN=>?_)
  walk_at "x"
  refine ih (left:=l2) D2 Ni hxd Jf hj q0 (by omega) (by omega) (by omega) fun tb S3 l3 gb db p0 p1 D3 Nj O3=>?_
  have OA:HF d l x S S3:=O1.x.trans (HF.upd.trans (O2.trans O3))
  refine hN _ _ (az fun N hN=>?_)
  walk_at "x"
  simp only[decide_eq_true_eq]
  split
  ·exact k (.FI ta tb) S3 l3 ⟨ga,gb⟩ (by simp only[Bd.dep];omega) p0 (by simp only[Bd.size];omega) D3 Nj OA
  refine hN _ _ (az fun N hN=>?_)
  walk_at "x"
  simp only[Bool.false_bne,decide_eq_true_eq,List.length_map]
  have ei:Q (Bd.Gx ta tb).pv S3:=k (.Gx ta tb) S3 l3 ⟨ga,gb⟩ (by simp only[Bd.dep];omega) p0 (by simp only[Bd.size];omega) D3 Nj OA
  split
  ·rw[if_pos trivial];exact ei
  split
  ·exact ei
  rename_i hz8 hz
  refine hN _ _ (az fun N hN=>?_)
  walk_at "x"
  refine FE D3 (by decide) (by decide) fun r2 S4 e0 e1 D4 O4 p hp=>FE (D4.new hp) (by decide) (by decide) fun r3 S5 b0 b1 D5 O5=>?_
  have dp:=D4.free hp
  have hp3:=O5 _ _ (FC (S:=S4) (o:=.lst [.int 1,.int 1,.int 2,.int (1+r2)])) dp.1 dp.2
  simp only[hp3]
  obtain⟨v,hv,hm⟩:=gc (xs:=[PV.int 1,.int 1,.int 2,.int (1+r2)]) b0 (by simpa using b1)
  rw[hv]
  obtain⟨m,rfl,m0,m1⟩:∃m,v = .int m∧1≤m∧m≤9:=by
   simp only[List.mem_cons,List.not_mem_nil,or_false]at hm
   rcases hm with rfl|rfl|rfl|rfl
   ·exact⟨1,rfl,by omega,by omega⟩
   ·exact⟨1,rfl,by omega,by omega⟩
   ·exact⟨2,rfl,by omega,by omega⟩
   ·exact⟨1+r2,rfl,by omega,by omega⟩
  refine hN _ _ ?_
  walk_at "x"
  simp only[List.length_map]
  refine FE D5 (by omega) (by omega) fun r4 S6 c0 c1 D6 O6=>?_
  obtain⟨w,hw,Nh⟩:=gc (xs:=js.map PV.str) c0 (by rw[List.length_map];exact c1)
  dsimp only
  rw[hw]
  obtain⟨z,hz,rfl⟩:=List.mem_map.mp Nh
  have Nk:=O4 _ _ Nj hxd Jf
  have Pb:x≠p:=fun e=>by rw[e,hp]at Nk;cases Nk
  have Pc:=O6 _ _ (O5 _ _ (show FF S4 p _ x=some (.lst [.int l3]) by rw[al Pb];exact Nk) hxd Jf) hxd Jf
  exact k (.GJ z m ta tb) S6 l3 ⟨hz,m0,m1,ga,gb⟩ (by simp only[Bd.dep];omega) p0 (by simp only[Bd.size];omega) D6 Pc (OA.trans (O4.x.trans ((Gm.new hp).x.trans (O5.x.trans O6.x))))
end C
local macro_rules | `(tactic| walk_at "w")=>`(tactic| simp only [L3.ai,L3.aC,L3.aF,L3.aD,L3.bA,L3.aW,L3.ah,L3.v3,L3.c3,L3.lk,L3.ap,L3.aA,L3.ae,L3.l7,L3.aO,L3.jW,L3.oq,L3.mR,L3.ky,L3.zX,L3.u4,L3.lz,L3.lB,L3.sY,L3.kD,L3.aI,L3.c_,L3.lZ,L3.dY,L3.af,L3.mW,L3.bv,L3.nT,L3.l5,L3.mX,L3.dA,L3.fu,L3.bY,L3.fx,L3.gE,L3.qq,L3.pL,L3.Ed,L3.tj,L3.Ap,L3.bt,L3.Bj,L3.aS,L3.df,L3.dB,L3.sW,L3.ig,L3.u7,L3.kA,L3.a_,L3.qm,L3.ou,List.set_cons_zero,List.set_cons_succ,List.set_nil,L3.yH,L3.iX,L3.sX,L3.bz,L3.bO,L3.gB,L3.dh,L3.kF,L3.Tg.put,L3.Tg.GO,L3.sZ,L3.oC,L3.iZ,L3.oE,L3.fk,L3.Ag,L3.vc,L3.qo,L3.cC,L3.dD,L3.Aq,List.reduceReplicate,List.map_cons,List.map_nil,List.cons_append,List.nil_append,L3.eP,L3.fJ,L3.vz,L3.Fi,L3.Fj,L3.AE,L3.AF,L3.vA,L3.AG,L3.vB,L3.AH,L3.qx,L3.AI,L3.qy,L3.am,String.reduceEq,decide_true,decide_false,Bool.false_bne,Bool.true_bne,Bool.not_true,Bool.not_false,if_true,if_false,Bool.false_eq_true,reduceIte,ite_true,ite_false,L3.aG,L3.eL,L3.vj])
local macro_rules | `(tactic| walk_at "y")=>`(tactic| ((try walk_at "x"); (try walk_at "w")))
namespace C
open PySem L2 L3 Wd
noncomputable def Bd.FL:Bd→Nat
 | .FI a b=>a.FL * b.FL
 | .Gx a b=>a.FL+b.FL
 | .GJ _ _ a b=>a.FL+b.FL
 |_=>1
noncomputable def Bd.FU:Bd→Nat
 | .Gn a=>a.FL+a.FU
 | .FI a b=>a.FU+b.FU
 | .Gx a b=>a.FU+b.FU
 | .GJ _ _ a b=>a.FU+b.FU
 |_=>0
theorem Bd.Gi:∀t:Bd,t.FL≤2 ^ t.size
 | .rest=>by simp[Bd.FL,Bd.size]
 | .pay _ _=>by simp[Bd.FL,Bd.size]
 | .put _ _=>by simp[Bd.FL,Bd.size]
 | .use _=>by simp[Bd.FL,Bd.size]
 | .Gn a=>by simp only[Bd.FL,Bd.size];exact Nat.one_le_two_pow
 | .FI a b=>by
  simp only[Bd.FL,Bd.size]
  refine Nat.le_trans (Nat.mul_le_mul a.Gi b.Gi) ?_
  rw[←Nat.pow_add]
  exact Nat.pow_le_pow_right (by decide) (by omega)
 | .Gx a b=>by
  simp only[Bd.FL,Bd.size]
  have h1:2 ^ a.size≤2 ^ (a.size+b.size):=Nat.pow_le_pow_right (by decide) (by omega)
  have h2:2 ^ b.size≤2 ^ (a.size+b.size):=Nat.pow_le_pow_right (by decide) (by omega)
  have:=a.Gi
  have:=b.Gi
  rw[Nat.pow_succ]
  omega
 | .GJ _ _ a b=>by
  simp only[Bd.FL,Bd.size]
  have h1:2 ^ a.size≤2 ^ (a.size+b.size):=Nat.pow_le_pow_right (by decide) (by omega)
  have h2:2 ^ b.size≤2 ^ (a.size+b.size):=Nat.pow_le_pow_right (by decide) (by omega)
  have:=a.Gi
  have:=b.Gi
  rw[Nat.pow_succ]
  omega
theorem Bd.J8{t:Bd}(h:t.size≤60):(t.FL:Int) < 2 ^ 64:=by
 have h1:=t.Gi
 have h2:2 ^ t.size≤2 ^ 60:=Nat.pow_le_pow_right (by decide) h
 omega
abbrev cr(n:Nat)(w:aw):Prop:=∀{S:ar} {t:Bd} {Q:bB} {E:bH},t.dep≤n→t.size≤60→Q (.int t.FL) S→w [t.pv] S Q E
theorem tF{s0:aw}(n:Nat)(ih:cr n s0):cr (n+1) (bn 1 (b8 s0)):=by
 intro S t Q E hd hs k
 unfold b8
 refine fI ?_
 rw[show av 1 [t.pv]=[some t.pv] from rfl]
 cases t with
 |FI a b=>
  simp only[Bd.dep,Bd.size]at hd hs
  simp only[Bd.pv]
  walk_at "w"
  refine ih (by omega) (by omega) (ih (by omega) (by omega) ⟨vq (by omega) (Bd.J8 (by omega)),?_⟩)
  simpa [Bd.FL]using k
 |Gx a b=>
  simp only[Bd.dep,Bd.size]at hd hs
  simp only[Bd.pv]
  walk_at "w"
  refine ih (by omega) (by omega) (ih (by omega) (by omega) ?_)
  simpa [Bd.FL]using k
 |GJ z m a b=>
  simp only[Bd.dep,Bd.size]at hd hs
  simp only[Bd.pv]
  walk_at "w"
  refine ih (by omega) (by omega) (ih (by omega) (by omega) ?_)
  simpa [Bd.FL]using k
 |_=>
  simp only[Bd.pv]
  walk_at "w"
  exact k
abbrev eQ(n:Nat)(w:aw):Prop:=∀{S:ar} {t:Bd} {Q:bB} {E:bH},t.dep≤n→t.size≤60→Q (.int t.FU) S→w [t.pv] S Q E
theorem im:∀y∈(["then","either","take"]:List Str),PyData.strOk y=true:=by decide +kernel
theorem io:∀y∈(["rest","pay","put","use","often","then","either","take"]:List Str),PyData.strOk y=true:=by decide +kernel
theorem tG{x0 s0:aw}(n m:Nat)(hp:cr m x0)(ih:eQ n s0)(hnm:n≤m):eQ (n+1) (bn 1 (bW x0 s0)):=by
 intro S t Q E hd hs k
 unfold bW
 refine fI ?_
 rw[show av 1 [t.pv]=[some t.pv] from rfl]
 have e3:[PV.str "then",PV.str "either",PV.str "take"]=(["then","either","take"]:List Str).map PV.str:=rfl
 cases t with
 |Gn a=>
  simp only[Bd.dep,Bd.size]at hd hs
  simp only[Bd.pv]
  walk_at "y"
  refine hp (by omega) (by omega) (ih (by omega) (by omega) ?_)
  simpa [Bd.FU]using k
 |FI a b=>
  simp only[Bd.dep,Bd.size]at hd hs
  simp only[Bd.pv]
  walk_at "y"
  rw[e3]
  refine bK (io _ (by simp)) im ?_
  simp[am]
  refine ih (by omega) (by omega) (ih (by omega) (by omega) ?_)
  simpa [Bd.FU]using k
 |Gx a b=>
  simp only[Bd.dep,Bd.size]at hd hs
  simp only[Bd.pv]
  walk_at "y"
  rw[e3]
  refine bK (io _ (by simp)) im ?_
  simp[am]
  refine ih (by omega) (by omega) (ih (by omega) (by omega) ?_)
  simpa [Bd.FU]using k
 |GJ z m a b=>
  simp only[Bd.dep,Bd.size]at hd hs
  simp only[Bd.pv]
  walk_at "y"
  rw[e3]
  refine bK (io _ (by simp)) im ?_
  simp[am]
  refine ih (by omega) (by omega) (ih (by omega) (by omega) ?_)
  simpa [Bd.FU]using k
 |_=>
  simp only[Bd.pv]
  walk_at "y"
  rw[e3]
  refine bK (io _ (by simp)) im ?_
  simp[am]
  simpa [Bd.FU]using k
abbrev eR(w:aw):Prop:=∀{S:ar} {d l:Addr} {js:List Str} {size bound:Int} {Q:bB} {E:bH},FN S d l→js.length < 2 ^ 61→1≤size→size≤60→
  (∀(t:Bd) S',t.good js []→t.dep≤6→t.size≤60→(t.size:Int)≤max size 4→((t.FL:Int)+t.FU≤bound∨(t.FL:Int)+t.FU≤2)→FN S' d l→Gm d l S S'→Q t.pv S')→w [.ref d,.tup (js.map PV.str),.int size,.int bound] S Q E
theorem nu{x0 x1 x2 x3:aw}(n:Nat)(hn:6≤n)(HN:fL n x0)(L0:cr n x1)(L4:eQ n x2)(Hw:il x3):eR (bn 5 (ci x0 x1 x2 x3)):=by
 intro S d l js size bound Q E D hj h1 h2 k
 unfold ci
 refine fI ?_
 rw[show av 5 [PV.ref d,PV.tup (js.map PV.str),PV.int size,PV.int bound]=[some (.ref d),some (.tup (js.map PV.str)),some (.int size),some (.int bound),none] from rfl]
 refine az fun N hN=>?_
 walk_at "x"
 intro p hp
 have dp:=D.free hp
 refine HN (D.new hp) FC dp.1 dp.2 hj (by omega) (by omega) (by decide) (by omega) fun t S1 l1 hg hd q0 q1 D1 KU O1=>?_
 have N7:Gm d l S S1:=fun a o ha h1 h2=>O1 a o (by rw[al (fun e=>by rw[e,hp]at ha;cases ha)];exact ha) h1 h2 (fun e=>by rw[e,hp]at ha;cases ha)
 refine hN _ _ (az fun N hN=>?_)
 simp only[bA,aO,ah,ae,ap,v3,lk,List.set_cons_zero,List.set_cons_succ,tj,aS,dA]
 refine L0 (by omega) (by omega) (L4 (by omega) (by omega) ?_)
 simp only[decide_eq_true_eq]
 split
 ·walk_at "x"
  refine Hw D1 hj fun t2 S2 hl2 LV D2 O2=>Hw D2 hj fun t3 S3 hl3 Pd D3 O3=>?_
  refine hN _ _ ?_
  walk_at "x"
  have e2:=Bd.HM hl2
  have e3:=Bd.HM hl3
  refine k (.FI (.Gn t2) t3) S3 ⟨LV,Pd⟩ (by simp only[Bd.dep];omega) (by simp only[Bd.size];omega) (by simp only[Bd.size];omega) (.inr ?_) D3 (N7.trans (O2.trans O3))
  have c2:t2.FL=1∧t2.FU=0:=by cases t2<;>first|exact⟨rfl,rfl⟩|exact hl2.elim
  have c3:t3.FL=1∧t3.FU=0:=by cases t3<;>first|exact⟨rfl,rfl⟩|exact hl3.elim
  simp only[Bd.FL,Bd.FU,c2,c3]
  decide
 ·rename_i hb
  walk_at "x"
  refine hN _ _ ?_
  walk_at "x"
  exact k t S1 hg (by omega) (by omega) (by omega) (.inl (by omega)) D1 N7
structure Sh (S:ar) (v:PV) (d:PyData) (n k:Nat):Prop where
 dat:Dat S v d
 lay:d.canLay0=true
 Ln:d.showable=true
 dep:d.depth≤k
 len:d.shown.length≤n
structure Ju (S:ar) (vs:List PV) (ds:List PyData) (n k:Nat):Prop where
 dat:G9 S vs ds
 lay:PyData.canLayAll0 ds=true
 Ln:PyData.showableAll ds=true
 dep:PyData.depthAll ds≤k
 len:piled (PyData.shownAll ds)≤n
theorem Sh.le{S:ar}{v:PV}{d:PyData}{n k m j:Nat}(h:Sh S v d n k)(a:n≤m)(b:k≤j):Sh S v d m j:=⟨h.dat,h.lay,h.Ln,Nat.le_trans h.dep b,Nat.le_trans h.len a⟩
theorem Ju.le{S:ar}{v:List PV}{d:List PyData}{n k m j:Nat}(h:Ju S v d n k)(a:n≤m)(b:k≤j):Ju S v d m j:=⟨h.dat,h.lay,h.Ln,Nat.le_trans h.dep b,Nat.le_trans h.len a⟩
theorem Sh.int{S:ar}{i:Int}(h:i.natAbs.log2 < 1920):Sh S (.int i) (.int i) 1921 0:=
 ⟨.int i,by simp[PyData.canLay0],by simpa [PyData.showable]using h,by simp[PyData.depth],by rw[PyData.shown_int];exact PyProof.Rows.int_text_len_1921 h⟩
theorem Sh.str{S:ar}{z:Str}(h:PyData.strOk z=true):Sh S (.str z) (.str z) (10 * z.length+2) 0:=
 ⟨.str z,by simpa [PyData.canLay0]using h,by simp[PyData.showable],by simp[PyData.depth],by
  rw[PyData.shown_str]
  refine StrLaws.reprText_len z fun c hc=>?_
  have h3:=Array.all_eq_true_iff_forall_mem.mp h c (Array.mem_toList_iff.mp hc)
  have h4:c < 0x110000:=by simpa using h3
  have e:(16:Nat) ^ 8=4294967296:=by decide
  omega⟩
theorem Ju.nil{S:ar}:Ju S [] [] 0 0:=⟨.nil,by simp[PyData.canLayAll0],by simp[PyData.showableAll],by simp[PyData.depthAll],by simp[PyData.shownAll,piled]⟩
theorem Sh.cons{S:ar}{v:PV}{d:PyData}{n k:Nat}{vs:List PV}{ds:List PyData}{m:Nat}(a:Sh S v d n k)(b:Ju S vs ds m k):Ju S (v::vs) (d::ds) (n+2+m) k:=
 ⟨.cons a.dat b.dat,by simp[PyData.canLayAll0,a.lay,b.lay],by simp[PyData.showableAll,a.Ln,b.Ln],by simp only[PyData.depthAll];exact Nat.max_le.mpr ⟨a.dep,b.dep⟩,by
  rw[PyData.shownAll_cons,piled_cons]
  have:=a.len
  have:=b.len
  omega⟩
theorem Sh.tup{S:ar}{n k:Nat}{vs:List PV}{ds:List PyData}(a:Ju S vs ds n k):Sh S (.tup vs) (.tuple ds) (n+3) (k+1):=
 ⟨.tup a.dat,by simp[PyData.canLay0,a.lay],by simp[PyData.showable,a.Ln],by simp only[PyData.depth];exact Nat.succ_le_succ a.dep,by
  rw[PyData.shown_tuple,strLen_append,strLen_append]
  have e1:((("(":String):Str)).length=1:=rfl
  have e3:(((if ds.length == 1 then ",)" else ")":String):Str)).length≤2:=by split<;>decide
  have q:=a.len
  rcases ds with _|⟨d,ds⟩
  ·have:(Str.join ", " (PyData.shownAll [])).length=0:=by simp[PyData.shownAll];rfl
   omega
  ·have:=join_length_add (PyData.shownAll (d::ds)) (by simp[PyData.shownAll])
   omega⟩
theorem Ju.map{α:Type}{S:ar}{n k:Nat}(f:α→PV)(g:α→PyData):∀{xs:List α},(∀x∈xs,Sh S (f x) (g x) n k)→Ju S (xs.map f) (xs.map g) (xs.length * (n+2)) k
 |[],_=>Ju.nil.le (Nat.zero_le _) (Nat.zero_le _)
 |x::r,h=>((h x (by simp)).cons (Ju.map f g fun y hy=>h y (by simp[hy]))).le (by rw[List.length_cons,Nat.succ_mul];omega) (Nat.le_refl _)
theorem Sh.dict{S:ar}{v:PV}{d:PyData}{n k:Nat}(h:Sh S v d n k):d.hasDict=false:=PyData.hasDict_of_canLay d h.lay
theorem mr{i:Int}(h:i.natAbs < 2 ^ 64):i.natAbs.log2 < 1920:=by
 by_cases h0:i.natAbs=0
 ·rw[h0];decide
 ·exact(Nat.log2_lt h0).mpr (Nat.lt_trans h (Nat.pow_lt_pow_right (by decide) (by decide)))
theorem Sh.w{S:ar}{z:Str}(h:IsW z):Sh S (.str z) (.str z) 62 0:=(Sh.str (nq h)).le (by have:=h.len;omega) (Nat.le_refl _)
theorem Sh.s{S:ar}(z:String)(k:Nat)(h:PyData.strOk (z:Str)=true)(hl:(z:Str).length≤6):Sh S (.str z) (.str z) 62 k:=(Sh.str h).le (by omega) (Nat.zero_le _)
theorem Ju.L5{S:ar}(k:Nat):Ju S [] [] 0 k:=.le .nil (Nat.le_refl _) (Nat.zero_le _)
theorem Sh.i{S:ar}{i:Int}(h:i.natAbs < 2 ^ 64):Sh S (.int i) (.int i) 1921 0:=Sh.int (mr h)
noncomputable def oQ(p:Str×Bd):PV:=.tup [.str p.1,p.2.pv]
noncomputable def nv(js:List Str)(ds:List (Str×Bd)):PV:=.tup [.tup (js.map PV.str),.tup (ds.map oQ)]
structure CL (js:List Str) (us:List Str) (ds:List (Str×Bd)):Prop where
 jl:js.length≤16
 dl:ds.length≤16
 jw:∀z∈js,IsW z
 uw:∀z∈us,IsW z
 dw:∀p∈ds,IsW p.1
 gd:∀p∈ds,p.2.good js us
 dp:∀p∈ds,p.2.dep≤60
 sz:∀p∈ds,p.2.size≤60
theorem FN.ext{S S':ar}{d l:Addr}(D:FN S d l)(e:Ext S S'):FN S' d l:=by
 obtain⟨s,n,f,D⟩:=D
 exact⟨s,n,f,e _ _ D.d,e _ _ D.l,D.s0,D.s1,D.nm,D.lf,D.ln⟩
theorem _root_.L3.Gm.free{d l p:Addr}{S S':ar}(O:Gm d l S S')(h:S' p=none)(h1:p≠d)(h2:p≠l):S p=none:=by
 cases e:S p with
 |none=>rfl
 |some o=>rw[O p o e h1 h2]at h;cases h
theorem _root_.L3.Gm.put{d l p:Addr}{S S':ar}{o:SO}(O:Gm d l S S')(h:S p=none):Gm d l S (FF S' p o):=fun x u hx h1 h2=>by rw[al (fun e=>by rw[e,h]at hx;cases hx)];exact O x u hx h1 h2
theorem _root_.L3.Ext.put{p:Addr}{S S':ar}{o:SO}(O:Ext S S')(h:S p=none):Ext S (FF S' p o):=fun x u hx=>by rw[al (fun e=>by rw[e,h]at hx;cases hx)];exact O x u hx
theorem qA{α:Type}{xs:List α}{n:Nat}(h:n≤xs.length):dZ xs none (some (n:Int))=xs.take n:=by
 unfold dZ
 rw[HT.n5,HT.qY,List.drop_zero,Nat.min_eq_left h]
 rfl
theorem AJ{α:Type}{xs:List α}{n:Nat}(h:n≤xs.length):dZ xs (some (n:Int)) none=xs.drop n:=by
 unfold dZ
 rw[HT.n5,HT.qY,Nat.min_eq_left h,List.take_of_length_le]
 rw[List.length_drop]
 exact Nat.le_refl _
theorem ip{x:PV}{n:Nat}{a b:List PV}(e:bx 0 n=a++x::b):x = .int a.length∧a.length < n:=by
 have h1:(bx 0 n)[a.length]?=some x:=by rw[e];simp
 unfold bx at h1
 rw[List.getElem?_map]at h1
 have hl:a.length < n:=by
  have:=congrArg List.length e
  rw[cF,List.length_append,List.length_cons]at this
  omega
 rw[List.getElem?_range hl]at h1
 simp at h1
 exact⟨h1.symm,hl⟩
theorem vD{α:Type}{xs:List α}{n:Nat}{v:α}(h:xs[n]?=some v):Gp xs (n:Int)=some v:=bC h
noncomputable def Bd.sides:Bd→List Bd
 | .Gn a=>[a]
 | .FI a b=>[a,b]
 | .Gx a b=>[a,b]
 | .GJ _ _ a b=>[a,b]
 |_=>[]
noncomputable def Bd.parts:Bd→List Bd
 | .Gn a=>.Gn a::a.parts
 | .FI a b=>.FI a b::(a.parts++b.parts)
 | .Gx a b=>.Gx a b::(a.parts++b.parts)
 | .GJ z m a b=>.GJ z m a b::(a.parts++b.parts)
 |t=>[t]
theorem Bd.Jv(t:Bd):t.parts=t::t.sides.flatMap Bd.parts:=by cases t<;>simp[Bd.parts,Bd.sides]
theorem Bd.FS:∀t:Bd,t.parts.length=t.size
 | .rest=>rfl
 | .pay _ _=>rfl
 | .put _ _=>rfl
 | .use _=>rfl
 | .Gn a=>by simp only[Bd.parts,Bd.size,List.length_cons,a.FS]
 | .FI a b=>by simp only[Bd.parts,Bd.size,List.length_cons,List.length_append,a.FS,b.FS]
 | .Gx a b=>by simp only[Bd.parts,Bd.size,List.length_cons,List.length_append,a.FS,b.FS]
 | .GJ _ _ a b=>by simp only[Bd.parts,Bd.size,List.length_cons,List.length_append,a.FS,b.FS]
theorem Bd.Kn{t u:Bd}(h:u∈t.sides):u.dep < t.dep∧u.size < t.size:=by
 cases t<;>simp[Bd.sides]at h
 ·subst h;simp[Bd.dep,Bd.size]
 all_goals (rcases h with rfl|rfl<;>simp only[Bd.dep,Bd.size]<;>omega)
abbrev jg(w:aw):Prop:=∀{S:ar} {t:Bd} {Q:bB} {E:bH},Q (.tup (t.sides.map Bd.pv)) S→w [t.pv] S Q E
theorem IA:jg (bn 1 gN):=by
 intro S t Q E k
 unfold gN
 refine fI ?_
 rw[show av 1 [t.pv]=[some t.pv] from rfl]
 cases t<;>(unfold Bd.pv;walk_at "y"; simp only[rH,ah,v3,lk,c3,af,eP,mW,aA,ap,dB,k_SIDES_FROM,List.find?,sS,String.reduceEq,decide_true,decide_false,Option.map,Option.getD];exact k)
abbrev dI(n:Nat)(w:aw):Prop:=∀{S:ar} {t:Bd} {Q:bB} {E:bH},t.dep≤n→t.size≤900→(∀p S',S p=none→Ext S S'→S' p=some (.lst (t.parts.map Bd.pv))→Q (.ref p) S')→w [t.pv] S Q E
theorem IB{xs s0:aw}(IA:jg xs)(n:Nat)(ih:dI n s0):dI (n+1) (bn 3 (gP xs s0)):=by
 intro S t Q E hd hs k
 unfold gP
 refine fI ?_
 rw[show av 3 [t.pv]=[some t.pv,none,none] from rfl]
 refine az fun N hN=>?_
 walk_at "x"
 intro p hp
 have X0:Ext S (FF S p (.lst [t.pv])):=.new hp
 have hp0:(FF S p (.lst [t.pv])) p=some (.lst [t.pv]):=FC
 generalize FF S p (.lst [t.pv])=S0 at X0 hp0
 refine hN _ _ (az fun N hN=>?_)
 simp only[dh,bO,ae,ap,v3,lk]
 refine IA ?_
 simp only[gB]
 refine cD (fun done σ S'=>∃(ts:List Bd) (x:Option PV) (rs:List Bd),done=ts.map Bd.pv∧t.sides=ts++rs∧σ=[some t.pv,some (.ref p),x]∧Ext S S'∧S' p=some (.lst ((t::ts.flatMap Bd.parts).map Bd.pv))) ⟨[],_,t.sides,rfl,rfl,rfl,X0,hp0⟩ (fun _ _ _ _=>trivial) ?_ ?_
 ·rintro done x rest σ S1 K e ⟨ts,y,rs,rfl,es,rfl,X1,h1⟩ hK
  rw[es,List.map_append]at e
  have e2:=List.append_cancel_left e
  rcases rs with _|⟨r,rs⟩
  ·cases e2
  rw[List.map_cons,List.cons.injEq]at e2
  obtain⟨rfl,e3⟩:=e2
  have hr:r∈t.sides:=by rw[es];simp
  have hrd:=Bd.Kn hr
  walk_at "x"
  refine⟨by rw[h1];trivial,ih (t:=r) (by omega) (by omega) fun q S2 hq X2 h2=>?_⟩
  simp only[X2 _ _ h1,h2]
  have hlen:(t::ts.flatMap Bd.parts).length+r.parts.length≤t.size:=by
   rw[←Bd.FS t,Bd.Jv t,es,List.flatMap_append,List.flatMap_cons]
   simp only[List.length_cons,List.length_append]
   omega
  refine⟨bT (by simp only[List.length_map]at *;omega),?_⟩
  refine hK _ _ ⟨ts++[r],_,rs,by simp,by rw[es];simp,rfl,(X1.trans X2).put hp,?_⟩
  rw[FC,List.flatMap_append]
  simp
 ·rintro σ S1 ⟨ts,y,rs,e,es,rfl,X1,h1⟩
  refine hN _ _ ?_
  walk_at "x"
  have ez:rs=[]:=by
   have:=congrArg List.length e
   rw[es]at this
   simp at this
   exact this
  subst ez
  rw[List.append_nil]at es
  rw[←es,←Bd.Jv]at h1
  exact k p S1 hp X1 h1
noncomputable def heads:List Str:=["rest","pay","put","use","often","then","either","take"]
theorem tH:∀z∈heads,PyData.strOk z=true:=by decide +kernel
structure Br (w:aw):Prop where
 t:∀{S:ar} {z:Str} {zs:List Str} {Q:bB} {E:bH},PyData.strOk z=true→(∀y∈zs,PyData.strOk y=true)→z ∉ zs→Q .non S→w [.str z,.tup (zs.map PV.str)] S Q E
 l:∀{S:ar} {a:Addr} {z:Str} {zs:List Str} {Q:bB} {E:bH},S a=some (.lst (zs.map PV.str))→PyData.strOk z=true→(∀y∈zs,PyData.strOk y=true)→z ∉ zs→Q .non S→w [.str z,.ref a] S Q E
inductive vE (S:ar) (us:List Str):PV→Prop
 |no:us=[]→vE S us .non
 |lst {a:Addr}:S a=some (.lst (us.map PV.str))→(∀y∈us,PyData.strOk y=true)→vE S us (.ref a)
structure G8 (n:Nat) (js us:List Str) (ds:List (Str×Bd)):Prop extends CL js us ds where
 jn:js.Nodup
 dn:(ds.map Prod.fst).Nodup
 dq:∀p∈ds,p.2.dep≤n
inductive rO (S:ar) (d l:Addr) (us:List Str):PV→Prop
 |ref {a:Addr}:S a=some (.lst (us.map PV.str))→a≠d→a≠l→rO S d l us (.ref a)
 |tup:rO S d l us (.tup (us.map PV.str))
inductive KJ (L:Nat):Nat→PV→Prop
 |int {n:Nat} (i:Int):KJ L n (.int i)
 |tup {n:Nat} {xs:List PV}:xs.length≤L→(∀x∈xs,KJ L n x)→KJ L (n+1) (.tup xs)
theorem nw{S:ar}:∀{xs:List PV},(∀x∈xs,∃d,Dat S x d∧d.canLay0=true)→∃ds,G9 S xs ds∧PyData.canLayAll0 ds=true∧ds.length=xs.length
 |[],_=>⟨[],.nil,by simp[PyData.canLayAll0],rfl⟩
 |x::r,h=>by
  obtain⟨d,hd,hc⟩:=h x (by simp)
  obtain⟨ds,hds,hcs,hl⟩:=nw fun y hy=>h y (List.mem_cons_of_mem _ hy)
  exact⟨d::ds,.cons hd hds,by simp[PyData.canLayAll0,hc,hcs],by simp[hl]⟩
theorem KJ.dat{L n:Nat}{v:PV}{S:ar}(h:KJ L n v):∃d,Dat S v d∧d.canLay0=true:=by
 induction h with
 |int i=>exact⟨_,.int i,by simp[PyData.canLay0]⟩
 |tup _ _ ih=>
  obtain⟨ds,hds,hcs,_⟩:=nw ih
  exact⟨_,.tup hds,by simpa [PyData.canLay0]using hcs⟩
inductive Lo (L:Nat):Nat→PV→Prop
 |int {n:Nat} (i:Int):Lo L n (.int i)
 |str {n:Nat} {z:Str}:PyData.strOk z=true→Lo L n (.str z)
 |tup {n:Nat} {xs:List PV}:xs.length≤L→(∀x∈xs,Lo L n x)→Lo L (n+1) (.tup xs)
theorem KJ.x{L n:Nat}{v:PV}(h:KJ L n v):Lo L n v:=by
 induction h with
 |int i=>exact .int i
 |tup hl _ ih=>exact .tup hl ih
theorem Lo.dat{L n:Nat}{v:PV}{S:ar}(h:Lo L n v):∃d,Dat S v d∧d.canLay0=true:=by
 induction h with
 |int i=>exact⟨_,.int i,by simp[PyData.canLay0]⟩
 |str h=>exact⟨_,.str _,by simpa [PyData.canLay0]using h⟩
 |tup _ _ ih=>
  obtain⟨ds,hds,hcs,_⟩:=nw ih
  exact⟨_,.tup hds,by simpa [PyData.canLay0]using hcs⟩
noncomputable def aN:Bd→PV→Bool
 | .Gn a,.tup gs=>gs.all fun g=>match g with | .tup [.int m,tr]=>decide (1≤m)&&aN a tr|_=>false
 | .FI a b,.tup [x,y]=>aN a x&&aN b y
 | .Gx a b,.tup [.int i,y]=>if i=0 then aN a y else if i=1 then aN b y else false
 | .GJ _ _ a b,.tup [.int i,y]=>if i=0 then aN a y else if i=1 then aN b y else false
 | .rest,.tup []=>true
 | .pay _ _,.tup []=>true
 | .put _ _,.tup []=>true
 | .use _,.tup []=>true
 |_,_=>false
noncomputable def qB(a:Bd):PV→Bool
 | .tup [.int m,tr]=>decide (1≤m)&&aN a tr
 |_=>false
theorem kR(a b:Bd)(x y:PV):aN (.FI a b) (.tup [x,y])=(aN a x&&aN b y):=rfl
theorem vF(a b:Bd)(i:Int)(y:PV):aN (.Gx a b) (.tup [.int i,y])=if i=0 then aN a y else if i=1 then aN b y else false:=rfl
theorem vG(z:Str)(m:Int)(a b:Bd)(i:Int)(y:PV):aN (.GJ z m a b) (.tup [.int i,y])=if i=0 then aN a y else if i=1 then aN b y else false:=rfl
theorem kS(a:Bd)(gs:List PV):aN (.Gn a) (.tup gs)=gs.all (qB a):=rfl
section
variable {S:ar} {Q:bB} {i:Int} {xs:List PV} {b:Bool}
end
noncomputable def isInt:PV→Bool | .int _=>true|_=>false
abbrev gS(w:aw):Prop:=∀{S:ar} {a b:Bd} {hd:List PV} {i:Int} {y:PV} {Q:bB} {E:bH},(i=0∨i=1)→hd.length≤3→Q (if i=0 then a.pv else b.pv) S→w [.tup (hd++[a.pv,b.pv]),.tup [.int i,y]] S Q E
theorem FX:gS (bn 2 kI):=by
 intro S a b hd i y Q E hi hl k
 unfold kI
 refine fI ?_
 rw[show av 2 [PV.tup (hd++[a.pv,b.pv]),PV.tup [.int i,y]]=[some (.tup (hd++[a.pv,b.pv])),some (.tup [.int i,y])] from rfl]
 walk_at "y"
 have e:Gp (hd++[a.pv,b.pv]) (-2+i)=some (if i=0 then a.pv else b.pv):=by
  unfold Gp pZ
  rcases hi with rfl|rfl
  ·rw[if_neg (by omega),if_pos (by simp;omega)]
   have:(-2+0+((hd++[a.pv,b.pv]).length:Int)).toNat=hd.length:=by simp;omega
   rw[this,if_pos rfl]
   show(hd++[a.pv,b.pv])[hd.length]?=some a.pv
   simp
  ·rw[if_neg (by omega),if_pos (by simp;omega)]
   have:(-2+1+((hd++[a.pv,b.pv]).length:Int)).toNat=hd.length+1:=by simp;omega
   rw[this,if_neg (by decide)]
   show(hd++[a.pv,b.pv])[hd.length+1]?=some b.pv
   simp
 rw[e]
 exact k
theorem qC{xs:List PV}(h:xs.length=2):∃x y,xs=[x,y]:=by
 match xs,h with
 |[x,y],_=>exact⟨x,y,rfl⟩
theorem ny{a b:Bd}{xs:List PV}(h:xs.length≠2):aN (.FI a b) (.tup xs)=false:=by
 match xs,h with
 |[],_=>rfl
 |[_],_=>rfl
 |[_,_],h=>exact absurd rfl h
 |_::_::_::_,_=>rfl
theorem nz{a b:Bd}{xs:List PV}(h:xs.length≠2):aN (.Gx a b) (.tup xs)=false:=by
 match xs,h with
 |[],_=>rfl
 |[x],_=>cases x<;>rfl
 |[_,_],h=>exact absurd rfl h
 |x::_::_::_,_=>cases x<;>rfl
theorem nA{z:Str}{m:Int}{a b:Bd}{xs:List PV}(h:xs.length≠2):aN (.GJ z m a b) (.tup xs)=false:=by
 match xs,h with
 |[],_=>rfl
 |[x],_=>cases x<;>rfl
 |[_,_],h=>exact absurd rfl h
 |x::_::_::_,_=>cases x<;>rfl
theorem iq(t:Bd)(z:Str):aN t (.str z)=false:=by cases t<;>rfl
theorem ir(t:Bd)(i:Int):aN t (.int i)=false:=by cases t<;>rfl
noncomputable def Bd.plain:Bd→Bool
 | .rest=>true
 | .pay _ _=>true
 | .put _ _=>true
 | .use _=>true
 |_=>false
theorem qD{t:Bd}(h:t.plain=true)(xs:List PV):aN t (.tup xs)=decide (xs=[]):=by
 cases t<;>simp[Bd.plain]at h<;>(cases xs with
  |nil=>show true=_;simp
  |cons=>show false=_;simp)
noncomputable def Bd.hd:Bd→Str
 | .rest=>"rest" | .pay _ _=>"pay" | .put _ _=>"put" | .use _=>"use" | .Gn _=>"often" | .FI _ _=>"then" | .Gx _ _=>"either" | .GJ _ _ _ _=>"take"
noncomputable def Bd.tl:Bd→List PV
 | .rest=>[] | .pay x y=>[.tup [.int x,.int y]] | .put z m=>[.str z,.int m] | .use z=>[.str z] | .Gn a=>[a.pv] | .FI a b=>[a.pv,b.pv] | .Gx a b=>[a.pv,b.pv] | .GJ z m a b=>[.str z,.int m,a.pv,b.pv]
theorem Bd.Jw(t:Bd):t.pv = .tup (.str t.hd::t.tl):=by cases t<;>rfl
theorem Bd.IC(t:Bd):PyData.strOk t.hd=true:=by cases t<;>exact tH _ (by simp[heads,Bd.hd])
theorem Bd.Ko(t:Bd):t.hd=("then":Str)↔∃a b,t = .FI a b:=by cases t<;>simp[Bd.hd,am]
theorem Bd.Kp(t:Bd):t.hd=("often":Str)↔∃a,t = .Gn a:=by cases t<;>simp[Bd.hd,am]
theorem xZ{a b:PV}{hd:List PV}{i:Int}(hi:i=0∨i=1):Gp (hd++[a,b]) (i - 2)=some (if i=0 then a else b):=by
 unfold Gp pZ
 rcases hi with rfl|rfl
 ·rw[if_neg (by omega),if_pos (by simp;omega)]
  have:(0 - 2+((hd++[a,b]).length:Int)).toNat=hd.length:=by simp;omega
  rw[this,if_pos rfl]
  show(hd++[a,b])[hd.length]?=some a
  simp
 ·rw[if_neg (by omega),if_pos (by simp;omega)]
  have:(1 - 2+((hd++[a,b]).length:Int)).toNat=hd.length+1:=by simp;omega
  rw[this,if_neg (by decide)]
  show(hd++[a,b])[hd.length+1]?=some b
  simp
theorem KJ.nil{L n:Nat}:KJ L (n+1) (.tup []):=.tup (Nat.zero_le _) (by simp)
abbrev gT(w:aw):Prop:=∀{S:ar} {d l:Addr} {most many size:Nat} {Q:bB} {E:bH},FN S d l→most≤8→1≤many→many≤4→1≤size→size≤60→
  (∀js ds S',G8 6 js [] ds→1≤ds.length→ds.length≤many→js.length≤8→FN S' d l→Gm d l S S'→Q (nv js ds) S')→w [.ref d,.int most,.int many,.int size] S Q E
theorem tI{xw xd xb:aw}(Hk:f_ xw)(FE:bJ xd)(L6:eR xb):gT (bn 9 (eB xw xd xb)):=by
 intro S0 d l most many size Q E D0 hmo hm1 hm4 hs1 hs2 k
 unfold eB
 refine fI ?_
 rw[show av 9 [PV.ref d,PV.int most,PV.int many,PV.int size]=[some (.ref d),some (.int most),some (.int many),some (.int size),none,none,none,none,none] from rfl]
 refine az fun N hN=>?_
 walk_at "x"
 refine Hk D0 (by decide) (by decide) fun p ns S hl hnd hw0 _ Kq hpl hp D O0=>?_
 have hl8':ns.length=8:=hl
 have Pe:8≤ns.length:=by omega
 have L7:ns.length≤100:=by omega
 have hw:∀z∈ns,IsW z:=fun z hz=>(hw0 z hz).1
 refine hN _ _ ?_
 refine az fun N hN=>?_
 walk_at "x"
 refine FE (m:=most+1) D (by omega) (by omega) fun r S1 r0 r1 D1 O1=>?_
 obtain⟨j,rfl⟩:∃j:Nat,r=(j:Int):=⟨r.toNat,by omega⟩
 have hp1:=O1 _ _ hp Kq hpl
 rw[hp1]
 dsimp only
 rw[qA (by rw[List.length_map];omega),←List.map_take]
 intro p2 hp2
 rw[FC]
 dsimp only
 have D2:FN (FF S1 p2 (.lst ((ns.take j).map PV.str))) d l:=D1.new hp2
 have O2:Gm d l S (FF S1 p2 (.lst ((ns.take j).map PV.str))):=O1.trans (.new hp2)
 have hp2':=Gm.new (o:=.lst ((ns.take j).map PV.str)) hp2 _ _ hp1 Kq hpl
 generalize FF S1 p2 (.lst ((ns.take j).map PV.str))=S2 at D2 O2 hp2'
 refine hN _ _ (az fun N hN=>?_)
 walk_at "x"
 intro p3 hp3
 have N8:=D2.free hp3
 refine FE (D2.new hp3) (by decide) (by decide) fun f S3 f0 f1 D3 O3=>?_
 have e3:=O3 _ _ (FC (S:=S2) (o:=.lst [.int 0,.int 4])) N8.1 N8.2
 have Nl:=O3 _ _ (Gm.new hp3 _ _ hp2' Kq hpl) Kq hpl
 have Pf:Gm d l S S3:=O2.trans ((Gm.new hp3).trans O3)
 simp only[e3]
 obtain⟨v,hv,N9⟩:=gc (xs:=[PV.int 0,.int 4]) f0 (by simpa using f1)
 rw[hv]
 obtain⟨g,rfl,hg⟩:∃g:Nat,v = .int g∧g≤4:=by
  simp only[List.mem_cons,List.not_mem_nil,or_false]at N9
  rcases N9 with rfl|rfl
  ·exact⟨0,rfl,by omega⟩
  ·exact⟨4,rfl,by omega⟩
 refine hN _ _ (az fun N hN=>?_)
 walk_at "x"
 refine FE (m:=many) D3 (by omega) (by omega) fun r4 S4 a0 a1 D4 O4=>?_
 obtain⟨mm,em⟩:∃mm:Nat,1+r4=(mm:Int):=⟨(1+r4).toNat,by omega⟩
 dsimp only
 rw[em]
 have Mv:=O4 _ _ Nl Kq hpl
 refine hN _ _ (az fun N hN=>?_)
 walk_at "x"
 refine⟨by omega,by omega,?_⟩
 rw[Int.toNat_natCast]
 have hjl:(ns.take j).length≤8:=by rw[List.length_take];omega
 refine d8 (fun done ys S'=>∃ds:List (Str×Bd),ys=ds.map oQ∧ds.length=done.length∧ds.map Prod.fst=(ns.drop g).take done.length∧done.length≤mm∧(∀q∈ds,q.2.good (ns.take j) []∧q.2.dep≤6∧q.2.size≤60)∧FN S' d l∧Gm d l S4 S') ⟨[],rfl,rfl,rfl,Nat.zero_le _,by simp,D4,.refl⟩ ?_ ?_ ?_
 ·rintro done ys S' ⟨ds,rfl,e,_,hd,_⟩
  exact⟨trivial,bT (by rw[List.length_map,e];omega)⟩
 ·rintro done x rest ys S' K e ⟨ds,rfl,e2,e3,hd,hc,D',O'⟩ hK
  obtain⟨rfl,hi⟩:=ip e
  walk_at "x"
  try simp only[di,if_true]
  have hp':=O' _ _ Mv Kq hpl
  simp only[hp']
  have hlt:g+done.length < ns.length:=by omega
  have hat:Gp (ns.map PV.str) ((g:Int)+(done.length:Int))=some (.str ns[g+done.length]):=by
   have:((g:Int)+(done.length:Int))=((g+done.length:Nat):Int):=by omega
   rw[this]
   exact vD (by rw[List.getElem?_map,List.getElem?_eq_getElem hlt];rfl)
  rw[hat]
  dsimp only
  refine⟨CK (by omega) (by omega),L6 D' (by omega) (by omega) (by omega) fun t S5 tg td tz tz2 _ D5 Nm=>?_⟩
  refine hK _ _ ⟨ds++[(ns[g+done.length],t)],by simp[oQ],by simp[e2],?_,by rw[List.length_append];exact hi,fun y hy=>?_,D5,O'.trans Nm⟩
  ·rw[List.map_append,e3,List.length_append,List.length_singleton,List.take_succ,List.getElem?_drop,List.getElem?_eq_getElem hlt]
   rfl
  ·rcases List.mem_append.mp hy with hy|hy
   ·exact hc y hy
   ·rw[List.mem_singleton.mp hy];exact⟨tg,td,tz⟩
 rintro ys S5 ⟨ds,rfl,e,ef,_,hds,D5,O5⟩
 rw[cF]at e ef
 intro p6 L8
 refine hN _ _ ?_
 walk_at "x"
 rw[FC]
 dsimp only
 have sub:∀q∈ds,q.1∈ns:=fun q hq=>by
  have:q.1∈ds.map Prod.fst:=List.mem_map.mpr ⟨q,hq,rfl⟩
  rw[ef]at this
  exact List.mem_of_mem_drop (List.mem_of_mem_take this)
 refine k (ns.take j) ds _ ⟨⟨by omega,by omega,fun z hz=>hw z (List.mem_of_mem_take hz),by simp,fun q hq=>hw _ (sub q hq),fun q hq=>(hds q hq).1,fun q hq=>by have:=(hds q hq).2.1;omega,fun q hq=>(hds q hq).2.2⟩,hnd.sublist (List.take_sublist _ _),by rw[ef];exact hnd.sublist ((List.take_sublist _ _).trans (List.drop_sublist _ _)),fun q hq=>(hds q hq).2.1⟩ (by omega) (by omega) hjl (D5.new L8) (O0.trans (Pf.trans (O4.trans (O5.trans (.new L8)))))
noncomputable def Bd.GQ:Bd→Bool
 | .rest=>false
 | .FI _ _=>false
 |_=>true
noncomputable def Bd.rows:Bd→Nat
 | .rest=>0
 | .Gn a=>a.rows+1
 | .FI a b=>a.rows+b.rows
 | .Gx a b=>a.rows+b.rows+1
 | .GJ _ _ a b=>a.rows+b.rows+1
 |_=>1
theorem Bd.FP:∀t:Bd,(t.parts.filter Bd.GQ).length=t.rows
 | .rest=>rfl
 | .pay _ _=>rfl
 | .put _ _=>rfl
 | .use _=>rfl
 | .Gn a=>by simp only[Bd.parts,Bd.rows];rw[List.filter_cons_of_pos rfl,List.length_cons,a.FP]
 | .FI a b=>by simp only[Bd.parts,Bd.rows];rw[List.filter_cons_of_neg (by simp[Bd.GQ]),List.filter_append,List.length_append,a.FP,b.FP]
 | .Gx a b=>by simp only[Bd.parts,Bd.rows];rw[List.filter_cons_of_pos rfl,List.length_cons,List.filter_append,List.length_append,a.FP,b.FP]
 | .GJ _ _ a b=>by simp only[Bd.parts,Bd.rows];rw[List.filter_cons_of_pos rfl,List.length_cons,List.filter_append,List.length_append,a.FP,b.FP]
theorem Bd.HY(t:Bd):t.rows≤t.size:=by
 rw[←t.FP,←t.FS];exact List.length_filter_le _ _
abbrev kT(w:aw):Prop:=∀{S:ar} {t:Bd} {Q:bB} {E:bH},Q (.bl t.GQ) S→w [t.pv] S Q E
theorem CM:∀z∈(["rest","then"]:List Str),PyData.strOk z=true:=by decide +kernel
theorem ms:∀z∈(["either","take"]:List Str),PyData.strOk z=true:=by decide +kernel
theorem Bd.J9(t:Bd):(true != decide (t.hd∈(["rest","then"]:List Str)))=t.GQ:=by cases t<;>simp[Bd.hd,am,Bd.GQ]
theorem HZ:kT (bn 1 i8):=by
 intro S t Q E k
 unfold i8
 refine fI ?_
 rw[show av 1 [t.pv]=[some t.pv] from rfl,Bd.Jw]
 simp only[aF,ah,v3,lk,c3,af,eP,aI,ap]
 rw[show([PV.str "rest",PV.str "then"]:List PV)=(["rest","then"]:List Str).map PV.str from rfl]
 refine bK (Bd.IC t) CM ?_
 rw[Bd.J9]
 exact k
abbrev dr(n:Nat)(w:aw):Prop:=∀{S:ar} {t:Bd} {Q:bB} {E:bH},t.dep≤n→t.size≤900→(∀S',Ext S S'→Q (.int t.rows) S')→w [t.pv] S Q E
theorem tJ{xp xh:aw}(n:Nat)(IB:dI n xp)(HZ:kT xh):dr n (bn 1 (i9 xp xh)):=by
 intro S t Q E hd hs k
 unfold i9
 refine fI ?_
 rw[show av 1 [t.pv]=[some t.pv] from rfl]
 walk_at "x"
 refine IB hd hs fun p S1 hp X1 h1=>?_
 simp only[h1]
 refine d8 (fun done ys S'=>∃(ts rs:List Bd),done=ts.map Bd.pv∧t.parts=ts++rs∧ys=(ts.filter Bd.GQ).map Bd.pv∧Ext S S'∧S' p=some (.lst (t.parts.map Bd.pv))) ⟨[],t.parts,rfl,rfl,rfl,X1,h1⟩ ?_ ?_ ?_
 ·rintro done ys S' ⟨ts,rs,rfl,e,rfl,X,h⟩
  refine⟨h,bT ?_⟩
  rw[List.length_map]
  have a:=List.length_filter_le Bd.GQ ts
  have b:=congrArg List.length e
  rw[t.FS,List.length_append]at b
  omega
 ·rintro done x rest ys S' K e ⟨ts,rs,rfl,es,rfl,X,h⟩ hK
  rw[es,List.map_append]at e
  have e2:=List.append_cancel_left e
  rcases rs with _|⟨r,rs⟩
  ·cases e2
  rw[List.map_cons,List.cons.injEq]at e2
  obtain⟨rfl,e3⟩:=e2
  walk_at "x"
  refine HZ ?_
  cases hr:r.GQ with
  |true=>
   simp only[if_true]
   exact hK _ _ ⟨ts++[r],rs,by simp,by rw[es];simp,by rw[List.filter_append,List.filter_cons_of_pos hr];simp,X,h⟩
  |false=>
   simp only[Bool.false_eq_true,if_false]
   exact hK _ _ ⟨ts++[r],rs,by simp,by rw[es];simp,by rw[List.filter_append,List.filter_cons_of_neg (by rw[hr];decide)];simp,X,h⟩
 rintro ys S' ⟨ts,rs,e,es,rfl,X,h⟩
 intro q hq
 rw[FC]
 have ez:rs=[]:=by
  have:=congrArg List.length e
  rw[es]at this
  simp at this
  exact this
 subst ez
 rw[List.append_nil]at es
 dsimp only
 rw[←es,List.length_map,t.FP]
 exact k _ (X.trans (.new hq))
mutual
/-- no great whole number within -/
noncomputable def bS(b:Nat):PV→Bool
 | .int i=>decide (i.natAbs≤b)
 | .tup xs=>intBs b xs
 |_=>true
noncomputable def intBs(b:Nat):List PV→Bool
 |[]=>true
 |x::r=>bS b x&&intBs b r
end
theorem intBs_iff{b:Nat}:∀{xs:List PV},intBs b xs=true↔∀x∈xs,bS b x=true
 |[]=>by simp[intBs]
 |x::r=>by simp[intBs,intBs_iff (xs:=r)]
theorem oR{b:Nat}{i:Int}(h:i.natAbs≤b):bS b (.int i)=true:=by simp[bS,h]
theorem oS{b:Nat}{xs:List PV}(h:∀x∈xs,bS b x=true):bS b (.tup xs)=true:=by simp only[bS];exact intBs_iff.mpr h
theorem aT{b:Nat}{xs:List PV}(h:bS b (.tup xs)=true):∀x∈xs,bS b x=true:=by simp only[bS]at h;exact intBs_iff.mp h
theorem b9{b:Nat}{x y:PV}(hx:bS b x=true)(hy:bS b y=true):bS b (.tup [x,y])=true:=by simp[bS,intBs,hx,hy]
abbrev nB(w:aw):Prop:=∀{S:ar} {d l:Addr} {Q:bB} {E:bH},FN S d l→(∀js ds S',G8 6 js [] ds→1≤ds.length→ds.length≤4→js.length≤8→FN S' d l→Gm d l S S'→Q (nv js ds) S')→w [.ref d] S Q E
theorem JI{xd xh xw xb:aw}(FE:bJ xd)(L9:gT xh)(Hk:f_ xw)(n:Nat)(N_:6≤n)(HN:fL n xb):nB (bn 4 (cj xd xh xw xb)):=by
 intro Sa d l Q E Da k
 unfold cj
 refine fI ?_
 rw[show av 4 [PV.ref d]=[some (.ref d),none,none,none] from rfl]
 refine az fun N hN=>?_
 walk_at "x"
 refine FE Da (by decide) (by decide) fun r9 S0 _ _ D0 Oa=>?_
 simp only[Bool.false_bne,decide_eq_true_eq]
 split
 ·exact L9 (most:=4) (many:=4) (size:=20) D0 (by decide) (by decide) (by decide) (by decide) (by decide) fun js ds S' a b c e f g=>k js ds S' a b c e f (Oa.trans g)
 refine hN _ _ (az fun N hN=>?_)
 walk_at "x"
 refine Hk D0 (by decide) (by decide) fun p ns S hl hnd hw0 _ Kq hpl hp D O0=>?_
 have hl8':ns.length=8:=hl
 have Pe:8≤ns.length:=by omega
 have L7:ns.length≤100:=by omega
 have hw:∀z∈ns,IsW z:=fun z hz=>(hw0 z hz).1
 refine hN _ _ ?_
 refine az fun N hN=>?_
 walk_at "x"
 refine FE (m:=5) D (by omega) (by omega) fun r S1 r0 r1 D1 O1=>?_
 obtain⟨j,rfl⟩:∃j:Nat,r=(j:Int):=⟨r.toNat,by omega⟩
 have hp1:=O1 _ _ hp Kq hpl
 rw[hp1]
 dsimp only
 rw[qA (by rw[List.length_map];omega),←List.map_take]
 intro p2 hp2
 rw[FC]
 dsimp only
 have D2:FN (FF S1 p2 (.lst ((ns.take j).map PV.str))) d l:=D1.new hp2
 have O2:Gm d l S (FF S1 p2 (.lst ((ns.take j).map PV.str))):=O1.trans (.new hp2)
 have hp2':=Gm.new (o:=.lst ((ns.take j).map PV.str)) hp2 _ _ hp1 Kq hpl
 generalize FF S1 p2 (.lst ((ns.take j).map PV.str))=S2 at D2 O2 hp2'
 refine hN _ _ (az fun N hN=>?_)
 walk_at "x"
 refine FE (m:=4) D2 (by omega) (by omega) fun r4 S4 a0 a1 D4 O4=>?_
 obtain⟨mm,em⟩:∃mm:Nat,1+r4=(mm:Int):=⟨(1+r4).toNat,by omega⟩
 dsimp only
 rw[em]
 have Mv:=O4 _ _ hp2' Kq hpl
 have hg:(4:Nat)≤4:=Nat.le_refl _
 refine hN _ _ ?_
 walk_at "x"
 refine⟨by omega,by omega,?_⟩
 rw[Int.toNat_natCast]
 have hjl:(ns.take j).length≤8:=by rw[List.length_take];omega
 refine d8 (fun done ys S'=>∃ds:List (Str×Bd),ys=ds.map oQ∧ds.length=done.length∧ds.map Prod.fst=(ns.drop 4).take done.length∧done.length≤mm∧(∀q∈ds,q.2.good (ns.take j) []∧q.2.dep≤6∧q.2.size≤60)∧FN S' d l∧Gm d l S4 S') ⟨[],rfl,rfl,rfl,Nat.zero_le _,by simp,D4,.refl⟩ ?_ ?_ ?_
 ·rintro done ys S' ⟨ds,rfl,e,_,hd,_⟩
  exact⟨trivial,bT (by rw[List.length_map,e];omega)⟩
 ·rintro done x rest ys S' K e ⟨ds,rfl,e2,e3,hd,hc,D',O'⟩ hK
  obtain⟨rfl,hi⟩:=ip e
  walk_at "x"
  try simp only[di,if_true]
  have hp':=O' _ _ Mv Kq hpl
  simp only[hp']
  have hlt:4+done.length < ns.length:=by omega
  have hat:Gp (ns.map PV.str) (4+(done.length:Int))=some (.str ns[4+done.length]):=by
   have:(4+(done.length:Int))=((4+done.length:Nat):Int):=by omega
   rw[this]
   exact vD (by rw[List.getElem?_map,List.getElem?_eq_getElem hlt];rfl)
  rw[hat]
  dsimp only
  intro px hx
  have dx:=D'.free hx
  refine HN (D'.new hx) FC dx.1 dx.2 (by omega) (by omega) (by omega) (by decide) (by omega) fun t S5 l1 tg td q0 q1 D5 hx5 O5=>?_
  have Nm:Gm d l S' S5:=fun a o ha h1 h2=>O5 a o (by rw[al (fun e=>by rw[e,hx]at ha;cases ha)];exact ha) h1 h2 (fun e=>by rw[e,hx]at ha;cases ha)
  refine hK _ _ ⟨ds++[(ns[4+done.length],t)],by simp[oQ],by simp[e2],?_,by rw[List.length_append];exact hi,fun y hy=>?_,D5,O'.trans Nm⟩
  ·rw[List.map_append,e3,List.length_append,List.length_singleton,List.take_succ,List.getElem?_drop,List.getElem?_eq_getElem hlt]
   rfl
  ·rcases List.mem_append.mp hy with hy|hy
   ·exact hc y hy
   ·rw[List.mem_singleton.mp hy];exact⟨tg,show t.dep≤6 by omega,show t.size≤60 by omega⟩
 rintro ys S5 ⟨ds,rfl,e,ef,_,hds,D5,O5⟩
 rw[cF]at e ef
 intro p6 L8
 rw[FC]
 dsimp only
 have sub:∀q∈ds,q.1∈ns:=fun q hq=>by
  have:q.1∈ds.map Prod.fst:=List.mem_map.mpr ⟨q,hq,rfl⟩
  rw[ef]at this
  exact List.mem_of_mem_drop (List.mem_of_mem_take this)
 refine k (ns.take j) ds _ ⟨⟨by omega,by omega,fun z hz=>hw z (List.mem_of_mem_take hz),by simp,fun q hq=>hw _ (sub q hq),fun q hq=>(hds q hq).1,fun q hq=>by have:=(hds q hq).2.1;omega,fun q hq=>(hds q hq).2.2⟩,hnd.sublist (List.take_sublist _ _),by rw[ef];exact hnd.sublist ((List.take_sublist _ _).trans (List.drop_sublist _ _)),fun q hq=>(hds q hq).2.1⟩ (by omega) (by omega) hjl (D5.new L8) (Oa.trans (O0.trans (O2.trans (O4.trans (O5.trans (.new L8))))))
noncomputable def cf(n:Int):PV:=.tup [.int (M3.bu n 2520),.int (M3.aZ n 2520)]
theorem j4:(.tup [.int 0,.int 1]:PV)=cf 0:=by
 have h1:M3.bu 0 2520=0:=by decide +kernel
 have h2:M3.aZ 0 2520=1:=by decide +kernel
 unfold cf
 rw[h1,h2]
theorem qE(n:Int):M3.Di (M3.bu n 2520) (M3.aZ n 2520):=M3.mO (by decide)
theorem fM(n:Int):M3.bu n 2520 * 2520=n * M3.aZ n 2520:=M3.sT (by decide)
theorem dU(n:Int):0 < M3.aZ n 2520∧M3.aZ n 2520≤2520:=by
 refine⟨(qE n).pos,?_⟩
 unfold M3.aZ
 rw[if_neg (by decide)]
 exact Int.ediv_le_self _ (by decide)
theorem gf{n:Int}(h:0≤n):0≤M3.bu n 2520:=by
 unfold M3.bu
 rw[if_neg (by decide)]
 exact Int.ediv_nonneg h (Int.natCast_nonneg _)
theorem CN{n B:Int}(h0:0≤n)(h:n≤B):M3.bu n 2520≤B:=by
 unfold M3.bu
 rw[if_neg (by decide)]
 exact Int.le_trans (Int.ediv_le_self _ h0) h
theorem rP{x y:Int}(h:oO x y):(.tup [.int x,.int y]:PV)=cf (x * (2520 / y)):=by
 have hy:y=1∨y=2∨y=3∨y=4∨y=5∨y=6∨y=7∨y=8∨y=9:=by have:=h.low.pos;have:=h.y1;omega
 have e:2520 / y * y=2520:=by rcases hy with rfl|rfl|rfl|rfl|rfl|rfl|rfl|rfl|rfl<;>decide
 have u:=M3.gK h.low (x:=x * (2520 / y)) (y:=2520) (by decide) (by rw[Int.mul_assoc,e])
 unfold cf
 rw[u.1,u.2]
theorem x_(n m:Int):(.tup [.int (M3.bu (M3.bu n 2520 * M3.aZ m 2520+M3.bu m 2520 * M3.aZ n 2520) (M3.aZ n 2520 * M3.aZ m 2520)),.int (M3.aZ (M3.bu n 2520 * M3.aZ m 2520+M3.bu m 2520 * M3.aZ n 2520) (M3.aZ n 2520 * M3.aZ m 2520))]:PV)=cf (n+m):=by
 have u:=M3.gK (qE (n+m)) (x:=M3.bu n 2520 * M3.aZ m 2520+M3.bu m 2520 * M3.aZ n 2520) (y:=M3.aZ n 2520 * M3.aZ m 2520) (Int.mul_pos (dU n).1 (dU m).1) (by
  have h1:=fM n;have h2:=fM m;have h3:=fM (n+m)
  generalize M3.bu n 2520=a at *;generalize M3.aZ n 2520=b at *;generalize M3.bu m 2520=c at *;generalize M3.aZ m 2520=d at *
  generalize M3.bu (n+m) 2520=L at *;generalize M3.aZ (n+m) 2520=B at *
  grind)
 unfold cf
 rw[u.1,u.2]
theorem vH(n m:Int):(.tup [.int (M3.bu (M3.bu n 2520 * m) (M3.aZ n 2520 * 1)),.int (M3.aZ (M3.bu n 2520 * m) (M3.aZ n 2520 * 1))]:PV)=cf (n * m):=by
 have u:=M3.gK (qE (n * m)) (x:=M3.bu n 2520 * m) (y:=M3.aZ n 2520 * 1) (by rw[Int.mul_one];exact(dU n).1) (by
  have h1:=fM n;have h3:=fM (n * m)
  generalize M3.bu n 2520=a at *;generalize M3.aZ n 2520=b at *
  generalize M3.bu (n * m) 2520=L at *;generalize M3.aZ (n * m) 2520=B at *
  grind)
 unfold cf
 rw[u.1,u.2]
abbrev Ty:=Int×List (Int×Int)
noncomputable def jn(p q:Int×Int):Int×Int:=(p.1+q.1,if q.2 - p.1 > p.2 then q.2 - p.1 else p.2)
noncomputable def Ty.join(t u:Ty):Ty:=(t.1+u.1,List.zipWith jn t.2 u.2)
noncomputable def ag(m:Int)(p:Int×Int):Int×Int:=(p.1 * m,p.2+(if -p.1 * (m - 1) > 0 then -p.1 * (m - 1) else 0))
noncomputable def Ty.again(m:Int)(t:Ty):Ty:=(t.1 * m,t.2.map (ag m))
noncomputable def zl(js:List Str):List (Int×Int):=js.map fun _=>(0,0)
noncomputable def z0(js:List Str):Ty:=(0,zl js)
theorem kU(e m:Int)(hm:1≤m):-e * (m - 1)=e - e * m∧(0≤e→e≤e * m)∧(e < 0→e * m≤e):=by
 refine⟨by grind,fun h=>?_,fun h=>?_⟩
 ·have:=Int.mul_le_mul_of_nonneg_left hm h;omega
 ·have:=Int.mul_le_mul_of_nonneg_left hm (show 0 ≤ -e by omega);rw[Int.neg_mul,Int.neg_mul]at this;omega
theorem ya{a b:Int}(p:Int×Int)(ha:1≤a)(hb:1≤b):jn (ag a p) (ag b p)=ag (a+b) p:=by
 obtain⟨e,d⟩:=p
 obtain⟨a1,a2,a3⟩:=kU e a ha
 obtain⟨b1,b2,b3⟩:=kU e b hb
 obtain⟨c1,c2,c3⟩:=kU e (a+b) (by omega)
 have c4:e * (a+b)=e * a+e * b:=Int.mul_add _ _ _
 simp only[jn,ag,a1,b1,c1,c4]
 generalize e * a=x at *
 generalize e * b=y at *
 refine Prod.ext rfl ?_
 dsimp only
 by_cases he:0≤e
 ·have:=a2 he;have:=b2 he
  rw[if_neg (show ¬(e - y > 0) by omega),if_neg (show ¬(e - x > 0) by omega),if_neg (show ¬(e - (x+y) > 0) by omega)]
  split<;>omega
 ·have:=a3 (by omega);have:=b3 (by omega)
  rw[if_pos (show e - (x+y) > 0 by omega)]
  by_cases h1:e - y > 0
  ·rw[if_pos h1]
   by_cases h2:e - x > 0
   ·rw[if_pos h2];split<;>omega
   ·rw[if_neg h2];split<;>omega
  ·rw[if_neg h1]
   by_cases h2:e - x > 0
   ·rw[if_pos h2];split<;>omega
   ·rw[if_neg h2];split<;>omega
theorem mv{m:Int}{p:Int×Int}(h:0≤p.2):0≤(ag m p).2:=by
 simp only[ag]
 split<;>omega
noncomputable def pw(m:Int)(p:Int×Int):Int×Int:=if m=0 then (0,0) else ag m p
theorem Jg{a b:Int}{p:Int×Int}(ha:0≤a)(hb:1≤b)(h:0≤p.2):jn (pw a p) (pw b p)=pw (a+b) p:=by
 unfold pw
 rw[if_neg (show ¬b=0 by omega),if_neg (show ¬a+b=0 by omega)]
 by_cases h0:a=0
 ·subst h0
  rw[if_pos rfl,Int.zero_add]
  have:=mv (m:=b) h
  simp only[jn]
  refine Prod.ext (Int.zero_add _) ?_
  dsimp only
  split<;>omega
 ·rw[if_neg h0]
  exact ya p (by omega) hb
noncomputable def Ty.pw(m:Int)(t:Ty):Ty:=(t.1 * m,t.2.map (C.pw m))
def Ty.Ok(js:List Str)(t:Ty):Prop:=t.2.length=js.length∧0≤t.1∧∀p∈t.2,0≤p.2
theorem kW{α β:Type}(f:α→α→β):∀l:List α,List.zipWith f l l=l.map fun x=>f x x
 |[]=>rfl
 |x::r=>by rw[List.zipWith_cons_cons,kW f r];rfl
theorem Ty.Jg{a b:Int}{js:List Str}{t:Ty}(ha:0≤a)(hb:1≤b)(h:t.Ok js):(t.pw a).join (t.pw b)=t.pw (a+b):=by
 unfold Ty.pw Ty.join
 refine Prod.ext ?_ ?_
 ·exact(Int.mul_add _ _ _).symm
 ·dsimp only
  rw[List.zipWith_map,kW]
  exact List.map_congr_left fun p hp=>C.Jg ha hb (h.2.2 p hp)
theorem Ty.Kr{t:Ty}{js:List Str}(h:t.Ok js):t.pw 1=t:=by
 unfold Ty.pw
 refine Prod.ext (Int.mul_one _) ?_
 dsimp only
 refine(List.map_congr_left fun p hp=>?_).trans (List.map_id _)
 unfold C.pw ag
 rw[if_neg (by decide)]
 refine Prod.ext (Int.mul_one _) ?_
 dsimp only
 rw[if_neg (by simp)]
 exact Int.add_zero _
theorem Ty.ID{t:Ty}{m:Int}(hm:1≤m):t.pw m=t.again m:=by
 unfold Ty.pw Ty.again
 refine Prod.ext rfl (List.map_congr_left fun p hp=>?_)
 unfold C.pw
 rw[if_neg (by omega)]
theorem iu{α β γ:Type}{f:α→β→γ}:∀{xs:List α} {ys:List β} {z:γ},z∈List.zipWith f xs ys→∃x∈xs,∃y∈ys,z=f x y
 |[],_,z,h=>by simp at h
 |_::_,[],z,h=>by simp at h
 |x::r,y::s,z,h=>by
  rw[List.zipWith_cons_cons,List.mem_cons]at h
  rcases h with rfl|h
  ·exact⟨x,by simp,y,by simp,rfl⟩
  ·obtain⟨a,ha,b,hb,e⟩:=iu h
   exact⟨a,by simp[ha],b,by simp[hb],e⟩
theorem Ty.Ok.join{js:List Str}{t u:Ty}(h:t.Ok js)(g:u.Ok js):(t.join u).Ok js:=by
 refine⟨?_,?_,fun p hp=>?_⟩
 ·show(List.zipWith jn t.2 u.2).length=_
  rw[List.length_zipWith,h.1,g.1,Nat.min_self]
 ·exact Int.add_nonneg h.2.1 g.2.1
 ·obtain⟨x,hx,y,hy,rfl⟩:=iu hp
  have:=h.2.2 x hx
  simp only[jn]
  split<;>omega
theorem Ty.Ok.again{js:List Str}{t:Ty}{m:Int}(h:t.Ok js)(hm:1≤m):(t.again m).Ok js:=by
 refine⟨?_,Int.mul_nonneg h.2.1 (by omega),fun p hp=>?_⟩
 ·show(t.2.map (ag m)).length=_
  rw[List.length_map,h.1]
 ·obtain⟨x,hx,rfl⟩:=List.mem_map.mp hp
  exact mv (h.2.2 x hx)
theorem iw(js:List Str):(z0 js).Ok js:=⟨List.length_map _,Int.le_refl _,fun p hp=>by obtain⟨x,hx,rfl⟩:=List.mem_map.mp hp;exact Int.le_refl _⟩
def Ty.Jo(B:Int)(t:Ty):Prop:=t.1≤B∧∀p∈t.2,-B≤p.1∧p.1≤B∧p.2≤B
theorem Ty.Jo.mono{B D:Int}{t:Ty}(h:t.Jo B)(g:B≤D):t.Jo D:=⟨Int.le_trans h.1 g,fun p hp=>by have:=h.2 p hp;omega⟩
theorem Ty.Jo.join{B D:Int}{t u:Ty}(h:t.Jo B)(g:u.Jo D)(hB:0≤B)(hD:0≤D):(t.join u).Jo (B+D):=by
 refine⟨Int.add_le_add h.1 g.1,fun p hp=>?_⟩
 obtain⟨x,hx,y,hy,rfl⟩:=iu hp
 have:=h.2 x hx
 have:=g.2 y hy
 simp only[jn]
 split<;>omega
theorem Ty.Jo.again{B m:Int}{t:Ty}(h:t.Jo B)(hB:0≤B)(hm:1≤m):(t.again m).Jo (B * m):=by
 refine⟨Int.mul_le_mul_of_nonneg_right h.1 (by omega),fun p hp=>?_⟩
 obtain⟨⟨e,d⟩,hx,rfl⟩:=List.mem_map.mp hp
 obtain⟨h1,h2,h3⟩:=h.2 _ hx
 dsimp only at h1 h2 h3
 have m1:=Int.mul_le_mul_of_nonneg_right h1 (show 0≤m by omega)
 have m2:=Int.mul_le_mul_of_nonneg_right h2 (show 0≤m by omega)
 have m3:=Int.mul_le_mul_of_nonneg_right h1 (show 0≤m - 1 by omega)
 rw[Int.neg_mul]at m1 m3
 have e1:B * (m - 1)=B * m - B:=by rw[Int.mul_sub,Int.mul_one]
 have e2:-e * (m - 1) = -(e * (m - 1)):=Int.neg_mul _ _
 simp only[ag]
 refine⟨m1,m2,?_⟩
 rw[e2]
 have:B≤B * m:=by have:=Int.mul_le_mul_of_nonneg_left hm hB;omega
 split<;>omega
theorem cu{α:Type}{g:Tg}{te:aJ}{σ':b_}{keep:ar→Prop}{fin:List PV→ar→Prop}{S:ar}(enc f:α→PV)(hk:keep S):∀(xs:List α) (ys:List PV),
  (∀x∈xs,∃σ2,g.put (enc x) σ'=some σ2∧∀Q:bB,Q (f x) S→te σ2 S Q gD)→ys.length+xs.length≤sizeLine→fin (ys++xs.map f) S→d4 g di te σ' keep fin (xs.map enc) ys S
 |[],ys,_,hl,hf=>⟨hk,by simpa using hl,by simpa using hf⟩
 |x::r,ys,h,hl,hf=>by
  obtain⟨σ2,e,h1⟩:=h x (by simp)
  refine⟨hk,by simp at hl;omega,?_⟩
  rw[e]
  show te σ2 S (fun y S4=>d4 g di te σ' keep fin (r.map enc) (ys++[y]) S4) gD
  exact h1 _ (cu enc f hk r (ys++[f x]) (fun y hy=>h y (by simp[hy])) (by simp at hl ⊢;omega) (by simpa using hf))
theorem ix{n:Nat}(h:n≤1000):n≤sizeLine:=Nat.le_trans h (by decide)
abbrev kX(w:aw):Prop:=∀{S:ar} {a b:Int} {Q:bB} {E:bH},0≤a→0≤b→Q (.int (Int.gcd a b)) S→w [.int a,.int b] S Q E
theorem Hx:kX (bn 3 kH):=by
 intro S a b Q E ha hb k
 unfold kH
 refine fI ?_
 rw[show av 3 [PV.int a,PV.int b]=[some (.int a),some (.int b),none] from rfl]
 refine az fun N hN=>?_
 refine⟨fun n σ S'=>S'=S∧∃(x y:Int) (z:Option PV),σ=[some (.int x),some (.int y),z]∧0≤x∧0≤y∧Int.gcd x y=Int.gcd a b∧y.toNat=n,⟨_,rfl,a,b,none,rfl,ha,hb,rfl,rfl⟩,?_⟩
 rintro n σ S' ⟨rfl,x,y,z,rfl,hx,hy,hg,rfl⟩
 walk_at "x"
 simp only[Bool.true_bne,Bool.not_eq_true',decide_eq_false_iff_not]
 split
 ·rename_i hp
  refine⟨fun σ' Km=>Km=S'∧∃(x' y':Int) (z':Option PV),σ'=[some (.int x'),some (.int y'),z']∧0≤x'∧0≤y'∧Int.gcd x' y'=Int.gcd a b∧y'.toNat < y.toNat,?_,?_⟩
  ·rintro σ' Km ⟨rfl,x',y',z',rfl,h1,h2,h3,h4⟩
   exact⟨_,h4,rfl,x',y',z',rfl,h1,h2,h3,rfl⟩
  ·have e:x.fmod y=x % y:=gF hy
   have l1:=Int.emod_nonneg x (b:=y) hp
   have l2:=Int.emod_lt_of_pos x (show 0 < y by omega)
   refine⟨hp,rfl,y,x.fmod y,_,rfl,hy,by omega,?_,by omega⟩
   rw[M3.oi];exact hg
 ·rename_i hp
  have LD:y=0:=by omega
  subst LD
  refine hN _ _ ?_
  walk_at "x"
  rw[if_neg (by omega)]
  have M_:x=(Int.gcd a b:Int):=by
   rw[←hg]
   rw[Int.gcd_zero_right]
   omega
  rw[M_]
  exact k
abbrev kY(w:aw):Prop:=∀{S:ar} {t b:Int} {Q:bB} {E:bH},0≤t→0 < b→b.natAbs < 2 ^ 8000→Q (.tup [.int (M3.bu t b),.int (M3.aZ t b)]) S→w [.int t,.int b] S Q E
theorem Hy{xc:aw}(Hx:kX xc):kY (bn 3 (gQ xc)):=by
 intro S t b Q E ht hb hs k
 unfold gQ
 refine fI ?_
 rw[show av 3 [PV.int t,PV.int b]=[some (.int t),some (.int b),none] from rfl]
 refine az fun N hN=>?_
 walk_at "x"
 refine Hx ht (by omega) (hN _ _ (az fun N hN=>?_))
 walk_at "x"
 rw[if_neg (by rw[decide_eq_true_eq];omega)]
 refine hN _ _ ?_
 walk_at "x"
 have gp:(0:Int) < (Int.gcd t b:Int):=Int.natCast_pos.mpr (M3.f9 (by omega))
 have gl:=M3.uK (t:=t) (b:=b) (by omega)
 have cd:∀z,l4 z (Int.gcd t b:Int):=fun z=>⟨by omega,Nat.lt_of_le_of_lt (by omega) hs⟩
 refine⟨cd _,cd _,?_⟩
 have d1:=(M3.oh (t:=t) (b:=b) (by omega))
 rw[if_neg (by omega)]at d1
 rw[d1.1,d1.2]
 exact k
theorem Eu(n m:Int):0 < M3.aZ n 2520 * M3.aZ m 2520∧(M3.aZ n 2520 * M3.aZ m 2520).natAbs < 2 ^ 8000:=by
 obtain⟨a,b⟩:=dU n
 obtain⟨c,d⟩:=dU m
 have p:=Int.mul_pos a c
 have q:M3.aZ n 2520 * M3.aZ m 2520≤2520 * 2520:=Int.mul_le_mul b d (by omega) (by decide)
 exact⟨p,je (by omega)⟩
theorem AK(i n:Int):IntMulOk i (M3.aZ n 2520):=by have:=dU n;exact nk (by omega) (by omega)
abbrev iy(w:aw):Prop:=∀{S:ar} {n m:Int} {Q:bB} {E:bH},0≤n→0≤m→Q (cf (n+m)) S→w [cf n,cf m] S Q E
theorem HP{xf:aw}(Hy:kY xf):iy (bn 2 (qr xf)):=by
 intro S n m Q E hn hm k
 unfold qr
 refine fI ?_
 rw[show av 2 [cf n,cf m]=[some (cf n),some (cf m)] from rfl]
 simp only[cf]
 walk_at "x"
 simp only[eP,fJ]
 refine⟨AK _ _,AK _ _,AK _ _,?_⟩
 have b:=Eu n m
 refine Hy (Int.add_nonneg (Int.mul_nonneg (gf hn) (Int.le_of_lt (dU m).1)) (Int.mul_nonneg (gf hm) (Int.le_of_lt (dU n).1))) b.1 b.2 ?_
 rw[x_]
 exact k
abbrev jh(w:aw):Prop:=∀{S:ar} {n m:Int} {Q:bB} {E:bH},0≤n→0≤m→m < 2 ^ 62→Q (cf (n * m)) S→w [cf n,.tup [.int m,.int 1]] S Q E
theorem IE{xf:aw}(Hy:kY xf):jh (bn 2 (m8 xf)):=by
 intro S n m Q E hn hm hm2 k
 unfold m8
 refine fI ?_
 rw[show av 2 [cf n,.tup [.int m,.int 1]]=[some (cf n),some (.tup [.int m,.int 1])] from rfl]
 simp only[cf]
 walk_at "x"
 simp only[eP,fJ]
 refine⟨nk (by omega) (by omega),nk (by decide) (by decide),?_⟩
 have b:=dU n
 refine Hy (Int.mul_nonneg (gf hn) hm) (by omega) (je (by omega)) ?_
 rw[vH]
 exact k
noncomputable def Ty.es(t:Ty):List PV:=t.2.map fun p=>.int p.1
noncomputable def Ty.dm(t:Ty):List PV:=t.2.map fun p=>.int p.2
noncomputable def Ty.pv(t:Ty):PV:=.tup [cf t.1,.tup t.es,.tup t.dm]
noncomputable def fN(js:List Str):PV:=.tup (js.map PV.str)
noncomputable def jX(js:List Str)(z:Str)(e d:Int):List (Int×Int):=js.map fun j=>if j=z then (e,d) else (0,0)
abbrev kZ(w:aw):Prop:=∀{S:ar} {js:List Str} {Q:bB} {E:bH},js.length≤1000→Q (z0 js).pv S→w [fN js] S Q E
theorem vI(js:List Str):List.replicate js.length (PV.int 0)=(z0 js).es:=by
 unfold Ty.es z0 zl
 rw[List.map_map]
 induction js with
 |nil=>rfl
 |cons j js ih=>rw[List.length_cons,List.replicate_succ,ih];rfl
theorem AL(js:List Str):List.replicate js.length (PV.int 0)=(z0 js).dm:=by rw[vI];unfold Ty.es Ty.dm z0 zl;rw[List.map_map,List.map_map];rfl
theorem Hz:kZ (bn 1 gR):=by
 intro S js Q E hj k
 unfold gR
 refine fI ?_
 rw[show av 1 [fN js]=[some (fN js)] from rfl]
 unfold fN
 walk_at "x"
 simp only[oG,List.length_map,Int.toNat_natCast]
 refine⟨by omega,by omega,by omega,by omega,?_⟩
 rw[j4]
 have e:(PV.tup [cf 0,.tup (List.replicate js.length (.int 0)),.tup (List.replicate js.length (.int 0))])=(z0 js).pv:=by
  unfold Ty.pv
  rw[←vI,←AL]
  rfl
 rw[e]
 exact k
abbrev eS(w:aw):Prop:=∀{S:ar} {js:List Str} {z:Str} {m:Int} {Q:bB} {E:bH},js.length≤1000→(∀S',Ext S S'→Q (.tup (js.map fun j=>.int (if j=z then m else 0))) S')→w [fN js,.str z,.int m] S Q E
theorem FT:eS (bn 3 fE):=by
 intro S js z m Q E hj k
 unfold fE
 refine fI ?_
 rw[show av 3 [fN js,.str z,.int m]=[some (fN js),some (.str z),some (.int m)] from rfl]
 unfold fN
 walk_at "x"
 refine cu PV.str (fun j=>.int (if j=z then m else 0)) trivial js [] (fun j hj=>⟨_,rfl,fun Q q=>?_⟩) (by simpa using ix hj) fun p hp=>?_
 ·walk_at "x"
  simp only[Bool.false_bne,decide_eq_true_eq]
  split
  ·rename_i h;rw[if_pos h]at q;exact q
  ·rename_i h;rw[if_neg h]at q;exact q
 ·simp only[List.nil_append,FC]
  exact k _ (.new hp)
theorem qF{α β γ δ:Type}(f:α→β→γ)(g:γ→δ)(xs:List α)(ys:List β):(xs.zip ys).map (fun z=>g (f z.1 z.2))=(List.zipWith f xs ys).map g:=by
 rw[List.zip,List.map_zipWith,List.map_zipWith]
theorem AM(t u:Ty):dg t.es u.es=(t.2.zip u.2).map fun z=>.tup [.int z.1.1,.int z.2.1]:=by
 unfold dg Ty.es
 rw[List.zip_map,List.map_map]
 rfl
theorem AN(t:Ty):dg t.es t.dm=t.2.map fun z=>.tup [.int z.1,.int z.2]:=by
 unfold dg Ty.es Ty.dm
 rw[List.zip_map,List.map_map]
 rw[show t.2.zip t.2=t.2.map fun x=>(x,x)from kW _ _,List.map_map]
 rfl
theorem tK(t u:Ty):eF t.es t.dm u.dm=(t.2.zip u.2).map fun z=>.tup [.int z.1.1,.int z.1.2,.int z.2.2]:=by
 unfold eF Ty.es Ty.dm
 have:∀(l m:List (Int×Int)),((l.map fun p=>PV.int p.1).zip ((l.map fun p=>PV.int p.2).zip (m.map fun p=>PV.int p.2))).map Cv=(l.zip m).map fun z=>.tup [.int z.1.1,.int z.1.2,.int z.2.2]:=fun l=>by
  induction l with
  |nil=>intro m;rfl
  |cons p r ih=>
   intro m
   cases m with
   |nil=>rfl
   |cons q s=>simp only[List.map_cons,List.zip_cons_cons];rw[ih s];rfl
 exact this t.2 u.2
theorem yb(t u:Ty):(t.2.zip u.2).map (fun z=>PV.int (z.1.1+z.2.1))=(t.join u).es:=qF jn (fun p=>PV.int p.1) t.2 u.2
theorem yc(t u:Ty):(t.2.zip u.2).map (fun z=>PV.int (jn z.1 z.2).2)=(t.join u).dm:=qF jn (fun p=>PV.int p.2) t.2 u.2
abbrev ji(w:aw):Prop:=∀{S:ar} {t u:Ty} {Q:bB} {E:bH},t.2.length≤1000→(∀S',Ext S S'→Q (.tup (t.join u).es) S')→w [.tup t.es,.tup u.es] S Q E
theorem G6:ji (bn 2 m9):=by
 intro S t u Q E hj k
 unfold m9
 refine fI ?_
 rw[show av 2 [.tup t.es,.tup u.es]=[some (.tup t.es),some (.tup u.es)] from rfl]
 walk_at "x"
 rw[AM]
 refine cu _ (fun z=>PV.int (z.1.1+z.2.1)) trivial _ [] (fun z hz=>⟨_,rfl,fun Q q=>?_⟩) ?_ fun p hp=>?_
 ·walk_at "x"
  exact q
 ·rw[List.length_nil,Nat.zero_add,List.length_zip]
  exact ix (by omega)
 ·simp only[List.nil_append,FC]
  rw[yb]
  exact k _ (.new hp)
abbrev oU(w:aw):Prop:=∀{S:ar} {t:Ty} {m:Int} {Q:bB} {E:bH},t.2.length≤1000→0≤m→m < 2 ^ 62→(∀S',Ext S S'→Q (.tup (t.again m).es) S')→w [.tup t.es,.int m] S Q E
theorem vJ(t:Ty)(m:Int):t.2.map (fun p=>PV.int (p.1 * m))=(t.again m).es:=by
 unfold Ty.again Ty.es
 rw[List.map_map]
 rfl
theorem vK(t:Ty)(m:Int):t.2.map (fun p=>PV.int (ag m p).2)=(t.again m).dm:=by
 unfold Ty.again Ty.dm
 rw[List.map_map]
 rfl
theorem Jh:oU (bn 2 eC):=by
 intro S t m Q E hj h0 h1 k
 unfold eC
 refine fI ?_
 rw[show av 2 [.tup t.es,.int m]=[some (.tup t.es),some (.int m)] from rfl]
 walk_at "x"
 refine cu (fun p:Int×Int=>PV.int p.1) (fun p=>PV.int (p.1 * m)) trivial t.2 [] (fun z hz=>⟨_,rfl,fun Q q=>?_⟩) (by simpa using ix hj) fun p hp=>?_
 ·walk_at "x"
  exact⟨nk (by omega) (by omega),q⟩
 ·simp only[List.nil_append,FC]
  rw[vJ]
  exact k _ (.new hp)
abbrev eU(w:aw):Prop:=∀{S:ar} {js:List Str} {t u:Ty} {Q:bB} {E:bH},js.length≤1000→t.Ok js→u.Ok js→(∀S',Ext S S'→Q (t.join u).pv S')→w [t.pv,u.pv] S Q E
theorem Gy{xa xp:aw}(G6:ji xa)(HP:iy xp):eU (bn 3 (kK xa xp)):=by
 intro S js t u Q E hj ht hu k
 unfold kK
 refine fI ?_
 rw[show av 3 [t.pv,u.pv]=[some t.pv,some u.pv,none] from rfl]
 unfold Ty.pv
 refine az fun N hN=>?_
 walk_at "x"
 simp only[vh,ah,v3,lk,c3,af,fJ,vz]
 have lt:=ht.1
 have lu:=hu.1
 refine⟨by unfold Ty.es Ty.dm;rw[List.length_map,List.length_map];omega,by unfold Ty.es Ty.dm;rw[List.length_map,List.length_map];omega,?_⟩
 rw[tK]
 refine cu _ (fun z=>PV.int (jn z.1 z.2).2) trivial _ [] (fun z hz=>⟨_,rfl,fun Q q=>?_⟩) ?_ fun p hp=>?_
 ·walk_at "x"
  exact q
 ·rw[List.length_nil,Nat.zero_add,List.length_zip]
  exact ix (by omega)
 ·rw[List.nil_append,yc]
  refine hN _ _ ?_
  walk_at "x"
  simp only[eP,fJ]
  refine HP ht.2.1 hu.2.1 ?_
  refine G6 (t:=t) (u:=u) (by omega) fun S2 X2=>?_
  simp only[X2 _ _ FC]
  exact k S2 ((Ext.new hp).trans X2)
abbrev jk(w:aw):Prop:=∀{S:ar} {js:List Str} {t:Ty} {m:Int} {Q:bB} {E:bH},js.length≤1000→t.Ok js→1≤m→m < 2 ^ 62→(∀S',Ext S S'→Q (t.again m).pv S')→w [t.pv,.int m] S Q E
theorem IF{xm xt:aw}(Jh:oU xm)(IE:jh xt):jk (bn 3 (m_ xm xt)):=by
 intro S js t m Q E hj ht h1 h2 k
 unfold m_
 refine fI ?_
 rw[show av 3 [t.pv,.int m]=[some t.pv,some (.int m),none] from rfl]
 unfold Ty.pv
 refine az fun N hN=>?_
 walk_at "x"
 simp only[fJ,vz]
 have lt:=ht.1
 rw[AN]
 refine cu _ (fun p:Int×Int=>PV.int (ag m p).2) trivial t.2 [] (fun z hz=>⟨_,rfl,fun Q q=>?_⟩) (by simpa using ix (by omega)) fun p hp=>?_
 ·walk_at "x"
  exact⟨nk (by omega) (by omega),q⟩
 ·rw[List.nil_append,vK]
  refine hN _ _ ?_
  walk_at "x"
  simp only[eP,fJ]
  refine IE ht.2.1 (by omega) h2 ?_
  refine Jh (t:=t) (by omega) (by omega) h2 fun S2 X2=>?_
  simp only[X2 _ _ FC]
  exact k S2 ((Ext.new hp).trans X2)
abbrev gU(w:aw):Prop:=∀{S:ar} {js:List Str} {z:Str} {m:Int} {a b:Bd} {Q:bB} {E:bH},js.length≤1000→(∀S',Ext S S'→Q (Ty.pv (0,jX js z (-m) m)) S')→w [fN js,(Bd.GJ z m a b).pv] S Q E
theorem qG(js:List Str)(z:Str)(e d:Int):js.map (fun j=>PV.int (if j=z then e else 0))=Ty.es (0,jX js z e d):=by
 unfold Ty.es jX
 rw[List.map_map]
 exact List.map_congr_left fun j _=>by dsimp only [Function.comp];split<;>rfl
theorem AO(js:List Str)(z:Str)(e d:Int):js.map (fun j=>PV.int (if j=z then d else 0))=Ty.dm (0,jX js z e d):=by
 unfold Ty.dm jX
 rw[List.map_map]
 exact List.map_congr_left fun j _=>by dsimp only [Function.comp];split<;>rfl
theorem H_{xt:aw}(FT:eS xt):gU (bn 2 (cJ xt)):=by
 intro S js z m a b Q E hj k
 unfold cJ
 refine fI ?_
 rw[show av 2 [fN js,(Bd.GJ z m a b).pv]=[some (fN js),some (.tup [.str "take",.str z,.int m,a.pv,b.pv])] from rfl]
 walk_at "x"
 simp only[fJ,vz]
 rw[j4]
 refine FT hj fun S1 X1=>FT hj fun S2 X2=>?_
 rw[qG js z (-m) m,AO js z (-m) m]
 exact k S2 (X1.trans X2)
abbrev Dd:=List PV×Nat
noncomputable def Fk(i:Nat):PV:=.int (i:Int)
noncomputable def AQ(h:Str):Nat:=if h∈(["either","take","often"]:List Str) then 2 else 1
def Fl(ws:List PV):Prop:=∃ds:List PyData,(∀S,G9 S ws ds)∧PyData.canLayAll0 ds=true∧PyData.depthAll ds≤100∧PyData.eqvAll ds ds=true
def Ev(R:List PV)(a:Nat)(d:Dd)(b:Nat):Prop:=∃(h:Str) (r:List PV) (ts:List Nat),d.1 = .str h::r∧PyData.strOk h=true∧Fl d.1∧R[a]?=some (.tup (d.1++ts.map Fk))∧ts.length=AQ h∧ts[d.2]?=some b∧b < R.length
inductive Wk (R:List PV):Nat→List Dd→Nat→List Nat→Prop
 |nil {a:Nat}:Wk R a [] a []
 |cons {a b c:Nat} {d:Dd} {ds:List Dd} {vis:List Nat}:Ev R a d b→Wk R b ds c vis→Wk R a (d::ds) c (b::vis)
theorem Wk.len{R:List PV}{a b:Nat}{xs:List Dd}{u:List Nat}(h:Wk R a xs b u):u.length=xs.length:=by
 induction h with
 |nil=>rfl
 |cons _ _ ih=>simp[ih]
def Seg(R:List PV)(f:Nat)(rs:List PV):Prop:=∀i x,rs[i]?=some x→R[f+i]?=some x
theorem Seg.cons{R:List PV}{f:Nat}{x:PV}{rs:List PV}(h:Seg R f (x::rs)):R[f]?=some x∧Seg R (f+1) rs:=
 ⟨by simpa using h 0 x rfl,fun i y hy=>by have:=h (i+1) y (by simpa using hy);rw[show f+1+i=f+(i+1) by omega];exact this⟩
theorem jm{a b:Bd}{v:PV}(h:aN (.FI a b) v=true):∃x y,v = .tup [x,y]∧aN a x=true∧aN b y=true:=by
 cases v with
 |tup xs=>
  by_cases h2:xs.length=2
  ·obtain⟨x,y,rfl⟩:=qC h2
   rw[kR,Bool.and_eq_true]at h
   exact⟨x,y,rfl,h⟩
  ·rw[ny h2]at h;cases h
 |int i=>rw[ir]at h;cases h
 |str z=>rw[iq]at h;cases h
 |_=>cases h
theorem jo{a b:Bd}{v:PV}(h:aN (.Gx a b) v=true):∃i y,v = .tup [.int i,y]∧((i=0∧aN a y=true)∨(i=1∧aN b y=true)):=by
 cases v with
 |tup xs=>
  by_cases h2:xs.length=2
  ·obtain⟨x,y,rfl⟩:=qC h2
   cases x with
   |int i=>
    rw[vF]at h
    refine⟨i,y,rfl,?_⟩
    by_cases h0:i=0
    ·rw[if_pos h0]at h;exact .inl ⟨h0,h⟩
    ·rw[if_neg h0]at h
     by_cases h1:i=1
     ·rw[if_pos h1]at h;exact .inr ⟨h1,h⟩
     ·rw[if_neg h1]at h;cases h
   |_=>cases h
  ·rw[nz h2]at h;cases h
 |int i=>rw[ir]at h;cases h
 |str z=>rw[iq]at h;cases h
 |_=>cases h
theorem jp{z:Str}{m:Int}{a b:Bd}{v:PV}(h:aN (.GJ z m a b) v=true):∃i y,v = .tup [.int i,y]∧((i=0∧aN a y=true)∨(i=1∧aN b y=true)):=by
 cases v with
 |tup xs=>
  by_cases h2:xs.length=2
  ·obtain⟨x,y,rfl⟩:=qC h2
   cases x with
   |int i=>
    rw[vG]at h
    refine⟨i,y,rfl,?_⟩
    by_cases h0:i=0
    ·rw[if_pos h0]at h;exact .inl ⟨h0,h⟩
    ·rw[if_neg h0]at h
     by_cases h1:i=1
     ·rw[if_pos h1]at h;exact .inr ⟨h1,h⟩
     ·rw[if_neg h1]at h;cases h
   |_=>cases h
  ·rw[nA h2]at h;cases h
 |int i=>rw[ir]at h;cases h
 |str z=>rw[iq]at h;cases h
 |_=>cases h
theorem jq{a:Bd}{v:PV}(h:aN (.Gn a) v=true):∃xs,v = .tup xs∧xs.all (qB a)=true:=by
 cases v with
 |tup xs=>rw[kS]at h;exact⟨xs,rfl,h⟩
 |int i=>rw[ir]at h;cases h
 |str z=>rw[iq]at h;cases h
 |_=>cases h
section
variable {js us:List Str} (hj:∀z∈js,IsW z) (hu:∀z∈us,IsW z)
end
noncomputable def yd(js:List Str)(f:PV→Ty):PV→Ty
 | .tup [.int m,y]=>(f y).again m
 |_=>z0 js
noncomputable def Bd.FY(js:List Str):Bd→PV→Ty
 | .Gn a,.tup xs=>(xs.map (yd js fun y=>a.FY js y)).foldl Ty.join (z0 js)
 | .FI a b,.tup [x,y]=>(a.FY js x).join (b.FY js y)
 | .Gx a b,.tup [.int i,y]=>if i=0 then a.FY js y else b.FY js y
 | .GJ z m a b,.tup [.int i,y]=>if i=0 then Ty.join (0,jX js z (-m) m) (a.FY js y) else b.FY js y
 | .pay x y,_=>(x * (2520 / y),zl js)
 | .put z m,_=>(0,jX js z m 0)
 |_,_=>z0 js
theorem ye(js:List Str)(a:Bd)(xs:List PV):(Bd.Gn a).FY js (.tup xs)=(xs.map (yd js fun y=>a.FY js y)).foldl Ty.join (z0 js):=rfl
theorem yf(js:List Str)(a b:Bd)(i:Int)(y:PV):(Bd.Gx a b).FY js (.tup [.int i,y])=if i=0 then a.FY js y else b.FY js y:=rfl
theorem yg(js:List Str)(z:Str)(m:Int)(a b:Bd)(i:Int)(y:PV):(Bd.GJ z m a b).FY js (.tup [.int i,y])=if i=0 then Ty.join (0,jX js z (-m) m) (a.FY js y) else b.FY js y:=rfl
theorem fc{a:Bd}{g:PV}(h:qB a g=true):∃m y,g = .tup [.int m,y]∧1≤m∧aN a y=true:=by
 unfold qB at h
 split at h
 ·rename_i m y
  rw[Bool.and_eq_true,decide_eq_true_eq]at h
  exact⟨m,y,rfl,h.1,h.2⟩
 ·cases h
theorem k7{js:List Str}{z:Str}{e d:Int}(hd:0≤d):Ty.Ok js (0,jX js z e d):=⟨List.length_map _,Int.le_refl _,fun p hp=>by
 obtain⟨j,hj,rfl⟩:=List.mem_map.mp hp
 split
 ·exact hd
 ·exact Int.le_refl _⟩
theorem nC{js:List Str}:∀(ts:List Ty) (t:Ty),(∀u∈ts,u.Ok js)→t.Ok js→(ts.foldl Ty.join t).Ok js
 |[],t,_,h=>h
 |u::r,t,hs,h=>nC r (t.join u) (fun x hx=>hs x (by simp[hx])) (h.join (hs u (by simp)))
theorem bX{js us:List Str}:∀(t:Bd) (v:PV),t.good js us→aN t v=true→(t.FY js v).Ok js
 | .rest,v,_,_=>iw js
 | .use z,v,_,_=>iw js
 | .pay x y,v,hg,_=>⟨(iw js).1,Int.mul_nonneg (show oO x y from hg).x0 (Int.ediv_nonneg (by decide) (Int.le_of_lt (show oO x y from hg).low.pos)),(iw js).2.2⟩
 | .put z m,v,hg,_=>k7 (Int.le_refl _)
 | .FI a b,v,hg,hv=>by
  obtain⟨x,y,rfl,hx,hy⟩:=jm hv
  exact(bX a x hg.1 hx).join (bX b y hg.2 hy)
 | .Gx a b,v,hg,hv=>by
  obtain⟨i,y,rfl,hi⟩:=jo hv
  rw[yf]
  rcases hi with⟨rfl,h⟩|⟨rfl,h⟩
  ·rw[if_pos rfl];exact bX a y hg.1 h
  ·rw[if_neg (by decide)];exact bX b y hg.2 h
 | .GJ z m a b,v,hg,hv=>by
  obtain⟨i,y,rfl,hi⟩:=jp hv
  rw[yg]
  rcases hi with⟨rfl,h⟩|⟨rfl,h⟩
  ·rw[if_pos rfl];exact(k7 (by have:=hg.2.1;omega)).join (bX a y hg.2.2.2.1 h)
  ·rw[if_neg (by decide)];exact bX b y hg.2.2.2.2 h
 | .Gn a,v,hg,hv=>by
  obtain⟨xs,rfl,hx⟩:=jq hv
  rw[ye]
  refine nC _ _ (fun u hu=>?_) (iw js)
  obtain⟨g,Mw,rfl⟩:=List.mem_map.mp hu
  obtain⟨m,y,rfl,hm,hy⟩:=fc (List.all_eq_true.mp hx g Mw)
  exact(bX a y hg hy).again hm
theorem AR{js:List Str}{n B:Int}(h:n≤B)(hB:0≤B):Ty.Jo B (n,zl js):=⟨h,fun p hp=>by
 obtain⟨j,hj,rfl⟩:=List.mem_map.mp hp
 exact⟨by omega,hB,hB⟩⟩
theorem rQ{js:List Str}{z:Str}{e d B:Int}(h1:-B≤e)(h2:e≤B)(h3:d≤B)(hB:0≤B):Ty.Jo B (0,jX js z e d):=⟨hB,fun p hp=>by
 obtain⟨j,hj,rfl⟩:=List.mem_map.mp hp
 split
 ·exact⟨h1,h2,h3⟩
 ·exact⟨by omega,hB,hB⟩⟩
theorem Bd.Lp(t:Bd):t.hd=("pay":Str)↔∃x y,t = .pay x y:=by cases t<;>simp[Bd.hd,am]
theorem Bd.Lq(t:Bd):t.hd=("put":Str)↔∃z m,t = .put z m:=by cases t<;>simp[Bd.hd,am]
abbrev iz(n:Nat)(w:aw):Prop:=∀{S:ar} {js us:List Str} {t:Bd} {v:PV} {Q:bB} {E:bH},js.length≤1000→t.good js us→aN t v=true→bS (2 ^ 60) v=true→t.dep≤n→(∀S',Ext S S'→Q (t.FY js v).pv S')→w [fN js,t.pv,v] S Q E
abbrev k8(n:Nat)(w:aw):Prop:=∀{S:ar} {js us:List Str} {a:Bd} {v:PV} {Q:bB} {E:bH},js.length≤1000→a.good js us→aN (.Gn a) v=true→bS (2 ^ 60) v=true→a.dep≤n→(∀S',Ext S S'→Q ((Bd.Gn a).FY js v).pv S')→w [fN js,(Bd.Gn a).pv,v] S Q E
theorem tL{js:List Str}(f:PV→Ty)(done:List PV)(x:PV):((done++[x]).map f).foldl Ty.join (z0 js)=((done.map f).foldl Ty.join (z0 js)).join (f x):=by
 rw[List.map_append,List.foldl_append];rfl
theorem tM{xn xb xa s0 s1:aw}(Hz:kZ xn)(Gy:eU xb)(IF:jk xa)(n:Nat)(ih:iz n s1):k8 n (bn 5 (bN xn xb xa s0 s1)):=by
 intro S js us a v Q E hj hg hv hb hd k
 obtain⟨xs,rfl,hx⟩:=jq hv
 unfold bN
 refine fI ?_
 rw[show av 5 [fN js,(Bd.Gn a).pv,.tup xs]=[some (fN js),some (.tup [.str "often",a.pv]),some (.tup xs),none,none] from rfl]
 refine az fun N hN=>?_
 walk_at "x"
 refine Hz hj (hN _ _ (az fun N hN=>?_))
 simp only[dh,bO,v3,lk,gB]
 refine cD (fun done σ S'=>∃x4,σ=[some (fN js),some (.tup [.str "often",a.pv]),some (.tup xs),some ((done.map (yd js fun y=>a.FY js y)).foldl Ty.join (z0 js)).pv,x4]∧Ext S S') ⟨_,rfl,.refl⟩ (fun _ _ _ _=>trivial) ?_ ?_
 ·rintro done g rest σ S1 K e ⟨x4,rfl,X1⟩ hK
  have Mw:g∈xs:=by rw[e];simp
  obtain⟨m,y,rfl,hm,hy⟩:=fc (List.all_eq_true.mp hx g Mw)
  have hi:=aT hb _ Mw
  have hm2:=aT hi (.int m) (by simp)
  simp only[bS,decide_eq_true_eq]at hm2
  have ok:((done.map (yd js fun y=>a.FY js y)).foldl Ty.join (z0 js)).Ok js:=nC _ _ (fun u hu=>by
   obtain⟨g',hg',rfl⟩:=List.mem_map.mp hu
   obtain⟨m',y',rfl,hm',hy'⟩:=fc (List.all_eq_true.mp hx g' (by rw[e];simp[hg']))
   exact(bX a y' hg hy').again hm') (iw js)
  simp only[Tg.put,List.set_cons_succ,List.set_cons_zero]
  walk_at "x"
  simp only[eP,fJ]
  refine ih hj hg hy (aT hi y (by simp)) hd fun S2 X2=>?_
  refine IF hj (bX a y hg hy) hm (by omega) fun S3 X3=>?_
  refine Gy hj ok ((bX a y hg hy).again hm) fun S4 X4=>?_
  refine hK _ _ ⟨some (.tup [.int m,y]),?_,X1.trans (X2.trans (X3.trans X4))⟩
  rw[tL]
  rfl
 ·rintro σ S1 ⟨x4,rfl,X1⟩
  refine hN _ _ ?_
  walk_at "x"
  exact k S1 X1
theorem JJ{xn xt xb xc xk s0 s1:aw}(Hz:kZ xn)(FT:eS xt)(Gy:eU xb)(FX:gS xc)(H_:gU xk)(n:Nat)(Pg:k8 n s0)(ih:iz n s1):iz (n+1) (bn 6 (eG xn xt xb xc xk s0 s1)):=by
 intro S js us t v Q E hj hg hv hb hd k
 unfold eG
 refine fI ?_
 rw[Bd.Jw,show av 6 [fN js,.tup (.str t.hd::t.tl),v]=[some (fN js),some (.tup (.str t.hd::t.tl)),some v,none,none,none] from rfl]
 refine az fun N hN=>?_
 walk_at "x"
 simp only[eP]
 refine hN _ _ (az fun N hN=>?_)
 walk_at "x"
 refine Hz hj (hN _ _ (az fun N hN=>?_))
 simp only[bA,aO,ah,v3,lk,c3,bt,Bool.false_bne,decide_eq_true_eq]
 by_cases h1:t.hd=("pay":Str)
 ·rw[if_pos h1]
  obtain⟨x,y,rfl⟩:=(Bd.Lp t).mp h1
  unfold Ty.pv
  walk_at "x"
  simp only[Bd.tl,fJ,vz]
  rw[rP hg]
  exact k S .refl
 rw[if_neg h1]
 refine hN _ _ (az fun N hN=>?_)
 simp only[bA,aO,ah,v3,lk,c3,bt,Bool.false_bne,decide_eq_true_eq]
 by_cases h2:t.hd=("put":Str)
 ·rw[if_pos h2]
  obtain⟨z,m,rfl⟩:=(Bd.Lq t).mp h2
  unfold Ty.pv
  walk_at "x"
  simp only[Bd.tl,eP,fJ,vz]
  refine FT hj fun S1 X1=>?_
  have:=k S1 X1
  rw[qG js z m 0]
  have e:(z0 js).dm=Ty.dm (0,jX js z m 0):=by
   unfold Ty.dm z0 zl jX
   rw[List.map_map,List.map_map]
   exact List.map_congr_left fun j _=>by dsimp only [Function.comp];split<;>rfl
  rw[e]
  exact this
 rw[if_neg h2]
 refine hN _ _ (az fun N hN=>?_)
 simp only[bA,aO,ah,v3,lk,c3,bt,Bool.false_bne,decide_eq_true_eq]
 by_cases h3:t.hd=("then":Str)
 ·rw[if_pos h3]
  obtain⟨a,b,rfl⟩:=(Bd.Ko t).mp h3
  obtain⟨x,y,rfl,hx,hy⟩:=jm hv
  simp only[Bd.dep]at hd
  walk_at "x"
  simp only[Bd.tl,eP,fJ,vz]
  refine ih hj hg.1 hx (aT hb x (by simp)) (by omega) fun S1 X1=>?_
  refine ih hj hg.2 hy (aT hb y (by simp)) (by omega) fun S2 X2=>?_
  refine Gy hj (bX a x hg.1 hx) (bX b y hg.2 hy) fun S3 X3=>?_
  exact k S3 (X1.trans (X2.trans X3))
 rw[if_neg h3]
 refine hN _ _ (az fun N hN=>?_)
 simp only[bA,aO,ah,v3,lk,c3,bt,Bool.false_bne,decide_eq_true_eq]
 by_cases h4:t.hd=("often":Str)
 ·rw[if_pos h4]
  obtain⟨a,rfl⟩:=(Bd.Kp t).mp h4
  simp only[Bd.dep]at hd
  walk_at "x"
  exact Pg hj hg hv hb (by omega) k
 rw[if_neg h4]
 refine hN _ _ (az fun N hN=>?_)
 walk_at "x"
 rw[show([PV.str "either",PV.str "take"]:List PV)=(["either","take"]:List Str).map PV.str from rfl]
 refine bK t.IC ms ?_
 by_cases h5:t.hd∈(["either","take"]:List Str)
 ·simp only[h5,decide_true,Bool.true_bne,Bool.not_true,Bool.false_eq_true,if_false]
  refine hN _ _ (az fun N hN=>?_)
  simp only[List.mem_cons,List.not_mem_nil,or_false]at h5
  have side:∀(hd2:List PV) (a b c:Bd) (i:Int) (y:PV),(.str t.hd::t.tl)=hd2++[a.pv,b.pv]→hd2.length≤3→v = .tup [.int i,y]→(i=0∨i=1)→(if i=0 then a.pv else b.pv)=c.pv→c.good js us→aN c y=true→c.dep≤n→
    (∀S',Ext S S'→N [some (fN js),some (.tup (.str t.hd::t.tl)),some v,some (.str t.hd),some (z0 js).pv,some (c.FY js y).pv] S')→aC 5 (ae s1 [v3 0,ae xc [v3 1,v3 2],ah af (v3 2) (c3 (.int 1))]) { nx:=N,rt:=Q,ex:=gD } [some (fN js),some (.tup (.str t.hd::t.tl)),some v,some (.str t.hd),some (z0 js).pv,none] S:=by
   intro hd2 a b c i y e1 e2 e3 hi e4 g1 g2 g3 kk
   subst e3
   simp only[aC,ae,ap,ah,v3,lk,c3]
   rw[e1]
   refine FX hi e2 ?_
   rw[e4]
   simp only[af,fJ]
   refine ih hj g1 g2 (aT hb y (by simp)) g3 fun S1 X1=>?_
   have:=kk S1 X1
   rw[e1]at this
   exact this
  rcases h5 with h5|h5
  ·cases t with
   |Gx a b=>
    obtain⟨i,y,rfl,hi⟩:=jo hv
    simp only[Bd.dep]at hd
    have fin:∀c:Bd,(Bd.Gx a b).FY js (.tup [.int i,y])=c.FY js y→∀S',Ext S S'→N [some (fN js),some (.tup (.str (Bd.Gx a b).hd::(Bd.Gx a b).tl)),some (.tup [.int i,y]),some (.str (Bd.Gx a b).hd),some (z0 js).pv,some (c.FY js y).pv] S':=fun c e S1 X1=>by
     refine hN _ _ (az fun N hN=>?_)
     simp only[Bd.hd]
     walk_at "y"
     refine hN _ _ ?_
     walk_at "x"
     rw[←e]
     exact k S1 X1
    rcases hi with⟨rfl,h⟩|⟨rfl,h⟩
    ·exact side [.str "either"] a b a 0 y rfl (by decide) rfl (.inl rfl) (if_pos rfl) hg.1 h (by omega) (fin a rfl)
    ·exact side [.str "either"] a b b 1 y rfl (by decide) rfl (.inr rfl) (if_neg (by decide)) hg.2 h (by omega) (fin b rfl)
   |_=>simp[Bd.hd,am]at h5
  ·cases t with
   |GJ z m a b=>
    obtain⟨i,y,rfl,hi⟩:=jp hv
    simp only[Bd.dep]at hd
    rcases hi with⟨rfl,h⟩|⟨rfl,h⟩
    ·refine side [.str "take",.str z,.int m] a b a 0 y rfl (Nat.le_refl 3) rfl (.inl rfl) (if_pos rfl) hg.2.2.2.1 h (by omega) fun S1 X1=>hN _ _ (az fun N hN=>?_)
     simp only[Bd.hd]
     walk_at "y"
     refine H_ (a:=a) (b:=b) hj fun S2 X2=>?_
     refine Gy hj (k7 (by have:=hg.2.1;omega)) (bX a y hg.2.2.2.1 h) fun S3 X3=>?_
     exact k S3 (X1.trans (X2.trans X3))
    ·refine side [.str "take",.str z,.int m] a b b 1 y rfl (Nat.le_refl 3) rfl (.inr rfl) (if_neg (by decide)) hg.2.2.2.2 h (by omega) fun S1 X1=>hN _ _ (az fun N hN=>?_)
     simp only[Bd.hd]
     walk_at "y"
     refine hN _ _ ?_
     walk_at "x"
     exact k S1 X1
   |_=>simp[Bd.hd,am]at h5
 ·simp only[h5,decide_false,Bool.true_bne,Bool.not_false,if_true]
  have e:t.FY js v=z0 js:=by cases t<;>simp_all [Bd.hd,am]<;>rfl
  rw[←e]
  exact k S .refl
abbrev jt(w:aw):Prop:=∀{S:ar} {js us:List Str} {ds:List (Str×Bd)} {i:Nat} {z:Str} {t:Bd} {v:PV} {Q:bB} {E:bH},js.length≤1000→ds[i]?=some (z,t)→t.good js us→aN t v=true→bS (2 ^ 60) v=true→t.dep≤6→(∀S',Ext S S'→Q (t.FY js v).pv S')→w [nv js ds,.int i,v] S Q E
theorem HQ{xt:aw}(JJ:iz 6 xt):jt (bn 3 (ni xt)):=by
 intro S js us ds i z t v Q E hj hi hg hv hb hd k
 unfold ni
 refine fI ?_
 rw[show av 3 [nv js ds,.int i,v]=[some (.tup [fN js,.tup (ds.map oQ)]),some (.int i),some v] from rfl]
 walk_at "x"
 simp only[eP,fJ]
 rw[bC (v:=oQ (z,t)) (by rw[List.getElem?_map,hi];rfl)]
 unfold oQ
 simp only[fJ]
 exact JJ hj hg hv hb hd k
structure Wl where
 FG:List Int
 cost:Int
 rows:List (Int×List Int×Int)
 st:Option Int
 ov:Bool
noncomputable def Wl.run(w:Wl):Bool:=w.st.isNone&&!w.ov
noncomputable def Wl.go(w:Wl)(f:Wl→Wl):Wl:=if w.run=true then f w else w
noncomputable def Wl.come(M:Nat)(r:Int)(w:Wl):Wl:=w.go fun w=>if M≤w.rows.length then { w with ov:=true } else { w with rows:=w.rows++[(r,w.FG,w.cost)] }
noncomputable def Wl.FH(js:List Str)(z:Str)(m:Int)(w:Wl):Wl:={ w with FG:=w.FG.set (js.idxOf z) (w.FG.getD (js.idxOf z) 0+m) }
noncomputable def Wl.pay(n:Int)(w:Wl):Wl:={ w with cost:=w.cost+n }
noncomputable def iter(f:Wl→Wl):Nat→Wl→Wl
 |0,w=>w
 |n+1,w=>iter f n (f w)
noncomputable def cv:PV→PV
 | .tup (x::_)=>x
 |v=>v
noncomputable def bE:PV→PV
 | .tup [_,y]=>y
 |v=>v
noncomputable def nm:PV→Int
 | .int i=>i
 |_=>0
noncomputable def Bs:PV→List PV
 | .tup xs=>xs
 |_=>[]
noncomputable def wk(M:Nat)(js:List Str):Bd→Int→PV→Wl→Wl
 | .rest,_,_,w=>w
 | .pay x y,r,_,w=>(w.come M r).go (Wl.pay (x * (2520 / y)))
 | .put z m,r,_,w=>(w.come M r).go (Wl.FH js z m)
 | .use _,r,_,w=>w.come M r
 | .FI a b,r,v,w=>wk M js b (r+a.rows) (bE v) (wk M js a r (cv v) w)
 | .Gx a b,r,v,w=>(w.come M r).go fun w=>if nm (cv v)=0 then wk M js a (r+1) (bE v) w else wk M js b (r+1+a.rows) (bE v) w
 | .GJ z m a b,r,v,w=>(w.come M r).go fun w=>if nm (cv v)=0 then (if w.FG.getD (js.idxOf z) 0 < m then { w.FH js z (-m)with st:=some r } else wk M js a (r+1) (bE v) (w.FH js z (-m))) else wk M js b (r+1+a.rows) (bE v) w
 | .Gn a,r,v,w=>(w.come M r).go fun w=>(Bs v).foldl (fun w g=>iter (fun w=>(wk M js a (r+1) (bE g) w).go (Wl.come M r)) (nm (cv g)).toNat w) w
theorem Wl.Ga{w:Wl}{f:Wl→Wl}(h:w.run=false):w.go f=w:=by unfold Wl.go;rw[h];rfl
theorem Wl.FV{w:Wl}{f:Wl→Wl}(h:w.run=true):w.go f=f w:=by unfold Wl.go;rw[h];rfl
theorem dJ{M:Nat}{r:Int}{w:Wl}(h:w.run=false):w.come M r=w:=Wl.Ga h
theorem cG{M:Nat}{r:Int}{w:Wl}(h:w.run=true):w.come M r=if M≤w.rows.length then { w with ov:=true } else { w with rows:=w.rows++[(r,w.FG,w.cost)] }:=Wl.FV h
theorem ju{w:Wl}(h:w.ov=true):w.run=false:=by unfold Wl.run;rw[h];simp
theorem gW{w:Wl}{r:Int}(h:w.st=some r):w.run=false:=by unfold Wl.run;rw[h];rfl
theorem Iu{w:Wl}:w.run=true↔w.st=none∧w.ov=false:=by unfold Wl.run;simp
structure Sm (M:Nat) (f g:Wl→Wl):Prop where
 s:∀w,w.rows.length≤M→((g w).rows.length≤M→f w=g w)∧(M < (g w).rows.length→(f w).ov=true)
 m:∀w,w.rows.length≤(g w).rows.length
 st:∀w,w.run=false→f w=w
theorem Sm.id{M:Nat}:Sm M (fun w=>w) (fun w=>w):=⟨fun w h=>⟨fun _=>rfl,fun h2=>by omega⟩,fun _=>Nat.le_refl _,fun _ _=>rfl⟩
theorem Sm.comp{M:Nat}{f1 f2 g1 g2:Wl→Wl}(a:Sm M f1 g1)(b:Sm M f2 g2):Sm M (fun w=>f2 (f1 w)) (fun w=>g2 (g1 w)):=by
 refine⟨fun w h=>⟨fun h2=>?_,fun h2=>?_⟩,fun w=>Nat.le_trans (a.m w) (b.m _),fun w h=>by show f2 (f1 w)=w;rw[a.st w h,b.st w h]⟩
 ·have:=b.m (g1 w)
  have h3:(g1 w).rows.length≤M:=by omega
  show f2 (f1 w)=g2 (g1 w)
  rw[(a.s w h).1 h3]
  exact(b.s _ h3).1 h2
 ·by_cases h3:(g1 w).rows.length≤M
  ·show(f2 (f1 w)).ov=true
   rw[(a.s w h).1 h3]
   exact(b.s _ h3).2 h2
  ·have h4:=(a.s w h).2 (by omega)
   show(f2 (f1 w)).ov=true
   rw[b.st _ (ju h4)]
   exact h4
theorem Sm.go{M:Nat}{f g:Wl→Wl}(s:∀w,w.run=true→w.rows.length≤M→((g w).rows.length≤M→f w=g w)∧(M < (g w).rows.length→(f w).ov=true))(m:∀w,w.run=true→w.rows.length≤(g w).rows.length):Sm M (fun w=>w.go f) (fun w=>w.go g):=by
 refine⟨fun w h=>?_,fun w=>?_,fun w h=>Wl.Ga h⟩
 ·cases hr:w.run with
  |false=>rw[Wl.Ga hr,Wl.Ga hr];exact⟨fun _=>rfl,fun h2=>by omega⟩
  |true=>rw[Wl.FV hr,Wl.FV hr];exact s w hr h
 ·cases hr:w.run with
  |false=>rw[Wl.Ga hr];exact Nat.le_refl _
  |true=>rw[Wl.FV hr];exact m w hr
theorem dL{M M':Nat}(hM:M≤M')(r:Int):Sm M (Wl.come M r) (Wl.come M' r):=by
 refine Sm.go (fun w _ h=>?_) (fun w _=>?_)
 ·split
  ·split
   ·exact⟨fun _=>rfl,fun h2=>by dsimp only at h2;omega⟩
   ·omega
  ·split
   ·refine⟨fun h2=>?_,fun _=>rfl⟩
    dsimp only at h2
    rw[List.length_append,List.length_singleton]at h2
    omega
   ·exact⟨fun _=>rfl,fun h2=>by dsimp only at h2;rw[List.length_append,List.length_singleton]at h2;omega⟩
 ·split
  ·exact Nat.le_refl _
  ·dsimp only;rw[List.length_append];omega
theorem rR{M:Nat}{f g:Wl→Wl}(a:Sm M f g):∀n,Sm M (iter f n) (iter g n)
 |0=>Sm.id
 |n+1=>a.comp (rR a n)
theorem rT{M:Nat}{f g:PV→Wl→Wl}(a:∀v,Sm M (f v) (g v)):∀l:List PV,Sm M (fun w=>l.foldl (fun w v=>f v w) w) (fun w=>l.foldl (fun w v=>g v w) w)
 |[]=>Sm.id
 |v::l=>(a v).comp (rT a l)
theorem fi{M M':Nat}(hM:M≤M')(js:List Str):∀(t:Bd) (r:Int) (v:PV),Sm M (wk M js t r v) (wk M' js t r v)
 | .rest,_,_=>Sm.id
 | .pay x y,r,_=>(dL hM r).comp (Sm.go (f:=Wl.pay (x * (2520 / y))) (g:=Wl.pay (x * (2520 / y))) (fun w _ h=>⟨fun _=>rfl,fun h2=>by have:(Wl.pay (x * (2520 / y)) w).rows=w.rows:=rfl;rw[this]at h2;omega⟩) fun w _=>Nat.le_refl _)
 | .put z m,r,_=>(dL hM r).comp (Sm.go (f:=Wl.FH js z m) (g:=Wl.FH js z m) (fun w _ h=>⟨fun _=>rfl,fun h2=>by have:(Wl.FH js z m w).rows=w.rows:=rfl;rw[this]at h2;omega⟩) fun w _=>Nat.le_refl _)
 | .use _,r,_=>dL hM r
 | .FI a b,r,v=>(fi hM js a r (cv v)).comp (fi hM js b (r+a.rows) (bE v))
 | .Gx a b,r,v=>(dL hM r).comp (Sm.go (fun w _ h=>by
   split
   ·exact(fi hM js a (r+1) (bE v)).s w h
   ·exact(fi hM js b (r+1+a.rows) (bE v)).s w h) fun w _=>by
   split
   ·exact(fi hM js a (r+1) (bE v)).m w
   ·exact(fi hM js b (r+1+a.rows) (bE v)).m w)
 | .GJ z m a b,r,v=>(dL hM r).comp (Sm.go (fun w _ h=>by
   split
   ·split
    ·exact⟨fun _=>rfl,fun h2=>by have:({ Wl.FH js z (-m) w with st:=some r }:Wl).rows=w.rows:=rfl;rw[this]at h2;omega⟩
    ·exact(fi hM js a (r+1) (bE v)).s (w.FH js z (-m)) h
   ·exact(fi hM js b (r+1+a.rows) (bE v)).s w h) fun w _=>by
   split
   ·split
    ·exact Nat.le_refl _
    ·exact(fi hM js a (r+1) (bE v)).m (w.FH js z (-m))
   ·exact(fi hM js b (r+1+a.rows) (bE v)).m w)
 | .Gn a,r,v=>(dL hM r).comp (by
   have s:=rT (M:=M) (f:=fun g w=>iter (fun w=>(wk M js a (r+1) (bE g) w).go (Wl.come M r)) (nm (cv g)).toNat w) (g:=fun g w=>iter (fun w=>(wk M' js a (r+1) (bE g) w).go (Wl.come M' r)) (nm (cv g)).toNat w)
    (fun g=>rR ((fi hM js a (r+1) (bE g)).comp (Sm.go (fun w _ h=>(dL hM r).s w h) fun w _=>(dL hM r).m w)) _) (Bs v)
   exact Sm.go (fun w _ h=>s.s w h) fun w _=>s.m w)
theorem jQ{M:Nat}{js:List Str}{t:Bd}{r:Int}{v:PV}{w:Wl}(h:w.run=false):wk M js t r v w=w:=(fi (Nat.le_refl M) js t r v).st w h
noncomputable def whole(M:Nat)(js:List Str)(t:Bd)(v:PV)(w:Wl):Wl:=(wk M js t 0 v w).come M t.rows
theorem oV{P:Wl→Prop}{f:Wl→Wl}(h:∀w,P w→P (f w)):∀n w,P w→P (iter f n w)
 |0,_,q=>q
 |n+1,w,q=>oV h n (f w) (h w q)
theorem oW{P:Wl→Prop}{f:PV→Wl→Wl}(h:∀v w,P w→P (f v w)):∀(l:List PV) (w:Wl),P w→P (l.foldl (fun w v=>f v w) w)
 |[],_,q=>q
 |v::l,w,q=>oW h l (f v w) (h v w q)
theorem jv{P P':Wl→Prop}{f:Wl→Wl}{w:Wl}(h0:P w)(h1:w.run=true→P' w)(h:w.run=true→P' w→P (f w)):P (w.go f):=by
 cases hr:w.run with
 |false=>rw[Wl.Ga hr];exact h0
 |true=>rw[Wl.FV hr];exact h hr (h1 hr)
theorem qH{M:Nat}{js:List Str}{R:Int}(P P':Wl→Prop)(hc:∀r w,0≤r→r≤R→w.run=true→P w→P (w.come M r)∧((w.come M r).run=true→P' (w.come M r)))(h1:∀w,P' w→P w)
  (hp:∀w n,0≤n→n≤3000000→P' w→P (w.pay n)) (hb:∀w z m,z∈js→1≤m→m≤9→P' w→P (w.FH js z m))
  (ht:∀w z m r,0≤r→r≤R→z∈js→1≤m→m≤9→P' w→if w.FG.getD (js.idxOf z) 0 < m then P { w.FH js z (-m)with st:=some r } else P (w.FH js z (-m))) :
  ∀(t:Bd) (r:Int) (v:PV) (w:Wl),t.good js []→0≤r→r+t.rows≤R→P w→P (wk M js t r v w):=by
 have cm:∀r w,0≤r→r≤R→P w→P (w.come M r)∧((w.come M r).run=true→P' (w.come M r)):=fun r w h0 hR q=>by
  cases hr:w.run with
  |false=>rw[dJ hr];exact⟨q,fun h=>by rw[hr]at h;cases h⟩
  |true=>exact hc r w h0 hR hr q
 intro t
 induction t with
 |rest=>intro r v w _ _ _ q;exact q
 |pay x y=>
  intro r v w g h0 hR q
  obtain⟨c1,c2⟩:=cm r w h0 (by simp only[Bd.rows]at hR;omega) q
  have c:oO x y:=g
  refine jv c1 c2 fun _ q'=>hp _ _ ?_ ?_ q'
  ·exact Int.mul_nonneg c.x0 (Int.ediv_nonneg (by decide) (by have:=c.low.pos;omega))
  ·have a1:2520 / y≤2520:=Int.ediv_le_self _ (by decide)
   have a2:=c.x0;have a3:=c.x1
   have a4:0≤2520 / y:=Int.ediv_nonneg (by decide) (by have:=c.low.pos;omega)
   calc x * (2520 / y)≤999 * (2520 / y):=Int.mul_le_mul_of_nonneg_right a3 a4
    _≤3000000:=by omega
 |put z m=>
  intro r v w g h0 hR q
  obtain⟨c1,c2⟩:=cm r w h0 (by simp only[Bd.rows]at hR;omega) q
  exact jv c1 c2 fun _ q'=>hb _ z m g.1 g.2.1 g.2.2 q'
 |use z=>intro r v w g;exact absurd (show z∈[] from g) (by simp)
 |FI a b Hl IG=>
  intro r v w g h0 hR q
  simp only[Bd.rows]at hR
  exact IG _ _ _ g.2 (by omega) (by omega) (Hl _ _ _ g.1 h0 (by omega) q)
 |Gx a b Hl IG=>
  intro r v w g h0 hR q
  simp only[Bd.rows]at hR
  obtain⟨c1,c2⟩:=cm r w h0 (by omega) q
  refine jv c1 c2 fun _ q'=>?_
  split
  ·exact Hl _ _ _ g.1 (by omega) (by omega) (h1 _ q')
  ·exact IG _ _ _ g.2 (by omega) (by omega) (h1 _ q')
 |GJ z m a b Hl IG=>
  intro r v w g h0 hR q
  simp only[Bd.rows]at hR
  obtain⟨c1,c2⟩:=cm r w h0 (by omega) q
  refine jv c1 c2 fun _ q'=>?_
  have k:=ht _ z m r h0 (by omega) g.1 g.2.1 g.2.2.1 q'
  split
  ·split
   ·rename_i hj;rw[if_pos hj]at k;exact k
   ·rename_i hj;rw[if_neg hj]at k;exact Hl _ _ _ g.2.2.2.1 (by omega) (by omega) k
  ·exact IG _ _ _ g.2.2.2.2 (by omega) (by omega) (h1 _ q')
 |Gn a Hl=>
  intro r v w g h0 hR q
  simp only[Bd.rows]at hR
  obtain⟨c1,c2⟩:=cm r w h0 (by omega) q
  refine jv c1 c2 fun _ q'=>?_
  refine oW (f:=fun g w=>iter (fun w=>(wk M js a (r+1) (bE g) w).go (Wl.come M r)) (nm (cv g)).toNat w) (fun u w q=>oV (fun w q=>?_) _ w q) _ _ (h1 _ q')
  have k:=Hl (r+1) (bE u) w g (by omega) (by omega) q
  exact jv (P':=fun _=>True) k (fun _=>trivial) fun _ _=>(cm r _ h0 (by omega) k).1
theorem d9{z:Str}:∀{js:List Str},z∈js→js[js.idxOf z]?=some z∧(∀j:Nat,j < js.idxOf z→js[j]?≠some z)∧js.idxOf z < js.length
 |[],h=>by simp at h
 |y::js,h=>by
  rw[List.idxOf_cons]
  by_cases e:y=z
  ·subst e;simp
  ·have hz:z∈js:=by simpa [Ne.symm e]using h
   obtain⟨a,b,c⟩:=d9 hz
   have e2:(y == z)=false:=by simpa using e
   rw[e2]
   refine⟨by simpa using a,fun j hj=>?_,by simpa using c⟩
   cases j with
   |zero=>simpa using e
   |succ j=>simpa using b j (by simpa using hj)
theorem mw{js:List Str}{z:Str}{m c:Int}{w:Wl}(h:c∈(w.FH js z m).FG):c∈w.FG∨((js.idxOf z < w.FG.length)∧c=w.FG.getD (js.idxOf z) 0+m):=by
 unfold Wl.FH at h
 dsimp only at h
 by_cases hl:js.idxOf z < w.FG.length
 ·rcases List.mem_or_eq_of_mem_set h with h|h
  ·exact .inl h
  ·exact .inr ⟨hl,h⟩
 ·rw[List.set_eq_of_length_le (by omega)]at h;exact .inl h
theorem getD_mem{xs:List Int}{i:Nat}(h:i < xs.length):xs.getD i 0∈xs:=by rw[List.getD_eq_getElem?_getD,List.getElem?_eq_getElem h];exact List.getElem_mem h
def vL(n:Nat)(q:Int×List Int×Int):Prop:=(0≤q.1∧q.1≤1000)∧q.2.1.length=n∧(∀c∈q.2.1,-(2 ^ 40)≤c∧c≤2 ^ 40)∧0≤q.2.2∧q.2.2≤2 ^ 40
def Hh(n M:Nat)(e:Int)(w:Wl):Prop:=w.FG.length=n∧(∀c∈w.FG,-(10 ^ 9+9 * (w.rows.length:Int))+e≤c∧c+e≤10 ^ 9+9 * (w.rows.length:Int))∧0≤w.cost∧w.cost+e * 400000≤3600000 * (w.rows.length:Int)∧w.rows.length≤M∧∀q∈w.rows,vL n q
theorem Hh.come{n M:Nat}{w:Wl}{r:Int}(hM:M≤2001)(h0:0≤r)(h1:r≤1000)(hr:w.run=true)(h:Hh n M 0 w):Hh n M 0 (w.come M r)∧((w.come M r).run=true→Hh n M 9 (w.come M r)):=by
 obtain⟨a,b,c,d,e,f⟩:=h
 rw[cG hr]
 by_cases hl:M≤w.rows.length
 ·rw[if_pos hl]
  exact⟨⟨a,b,c,d,e,f⟩,fun z=>by rw[ju rfl]at z;cases z⟩
 ·rw[if_neg hl]
  have Lr:∀q∈w.rows++[(r,w.FG,w.cost)],vL n q:=fun q hq=>by
   rcases List.mem_append.mp hq with hq|hq
   ·exact f q hq
   ·rw[List.mem_singleton.mp hq]
    refine⟨⟨h0,h1⟩,a,fun x hx=>?_,c,?_⟩
    ·have:=b x hx;omega
    ·dsimp only;omega
  have key:Hh n M 9 { w with rows:=w.rows++[(r,w.FG,w.cost)] }:=by
   refine⟨a,fun x hx=>?_,c,?_,?_,Lr⟩<;>dsimp only<;>rw[List.length_append,List.length_singleton]
   ·have:=b x hx;omega
   ·omega
   ·omega
  obtain⟨k1,k2,k3,k4,k5,k6⟩:=key
  exact⟨⟨k1,fun x hx=>by have:=k2 x hx;omega,k3,by omega,k5,k6⟩,fun _=>⟨k1,k2,k3,k4,k5,k6⟩⟩
theorem Hh.weak{n M:Nat}{w:Wl}(h:Hh n M 9 w):Hh n M 0 w:=let ⟨a,b,c,d,e,f⟩:=h;⟨a,fun x hx=>by have:=b x hx;omega,c,by omega,e,f⟩
theorem Hh.FH{js:List Str}{M:Nat}{w:Wl}{z:Str}{m:Int}(m1:-9≤m)(m2:m≤9)(h:Hh js.length M 9 w):Hh js.length M 0 (w.FH js z m):=by
 obtain⟨a,b,c,d,e,f⟩:=h
 refine⟨by unfold Wl.FH;dsimp only;rw[List.length_set];exact a,fun x hx=>?_,c,show w.cost+0 * 400000≤3600000 * (w.rows.length:Int) by omega,e,f⟩
 show _∧x+0≤10 ^ 9+9 * (w.rows.length:Int)
 rw[show(w.FH js z m).rows.length=w.rows.length from rfl]
 rcases mw hx with hx|⟨hl,hx⟩
 ·have:=b x hx;omega
 ·have:=b _ (getD_mem hl);omega
theorem Hh.wk{js:List Str}{M:Nat}(hM:M≤2001)(t:Bd)(r:Int)(v:PV)(w:Wl)(g:t.good js [])(h0:0≤r)(h1:r+t.rows≤1000)(h:Hh js.length M 0 w):Hh js.length M 0 (wk M js t r v w):=by
 refine qH (M:=M) (js:=js) (R:=1000) (Hh js.length M 0) (Hh js.length M 9) (fun r w a b c d=>Hh.come hM a b c d) (fun w h=>h.weak) (fun w n n0 n1 ⟨a,b,c,d,e,f⟩=>⟨a,fun x hx=>by have:=b x hx;show _∧x+0≤10 ^ 9+9 * (w.rows.length:Int);rw[show(w.pay n).rows.length=w.rows.length from rfl];omega,show 0≤w.cost+n by omega,show w.cost+n+0 * 400000≤3600000 * (w.rows.length:Int) by omega,e,f⟩) (fun w z m _ m1 m2 h=>h.FH (by omega) m2) (fun w z m r _ _ _ m1 m2 h=>?_) t r v w g h0 h1 h
 split
 ·exact h.FH (by omega) (by omega)
 ·exact h.FH (by omega) (by omega)
theorem Hh.whole{js:List Str}{M:Nat}(hM:M≤2001)(t:Bd)(v:PV)(w:Wl)(g:t.good js [])(h1:t.rows≤1000)(h:Hh js.length M 0 w):Hh js.length M 0 (whole M js t v w):=by
 have k:=Hh.wk hM t 0 v w g (by decide) (by omega) h
 unfold C.whole
 cases hr:(C.wk M js t 0 v w).run with
 |false=>rw[dJ hr];exact k
 |true=>exact(Hh.come hM (by omega) (by omega) hr k).1
def Hm(e:Int)(w:Wl):Prop:=w.st=none∧w.rows.length≤2001∧∀c∈w.FG,20000+e≤c+9 * (w.rows.length:Int)
theorem Hm.come{w:Wl}{r:Int}(hr:w.run=true)(h:Hm 0 w):Hm 0 (w.come 2001 r)∧((w.come 2001 r).run=true→Hm 9 (w.come 2001 r)):=by
 obtain⟨a,b,c⟩:=h
 rw[cG hr]
 by_cases hl:2001≤w.rows.length
 ·rw[if_pos hl]
  exact⟨⟨a,b,c⟩,fun z=>by rw[ju rfl]at z;cases z⟩
 ·rw[if_neg hl]
  have k:Hm 9 { w with rows:=w.rows++[(r,w.FG,w.cost)] }:=by
   refine⟨a,?_,fun x hx=>?_⟩<;>dsimp only<;>rw[List.length_append,List.length_singleton]
   ·omega
   ·have:=c x hx;omega
  exact⟨⟨k.1,k.2.1,fun x hx=>by have:=k.2.2 x hx;omega⟩,fun _=>k⟩
theorem Hm.wk{js:List Str}(t:Bd)(r:Int)(v:PV)(w:Wl)(g:t.good js [])(hn:w.FG.length=js.length)(h0:0≤r)(h1:r+t.rows≤1000)(h:Hm 0 w):Hm 0 (wk 2001 js t r v w):=by
 have br:∀(w:Wl) (z:Str) (m:Int),-9≤m→Hm 9 w→Hm 0 (w.FH js z m):=fun w z m m1 h=>by
  obtain⟨a,b,c⟩:=h
  refine⟨a,b,fun x hx=>?_⟩
  rw[show(w.FH js z m).rows.length=w.rows.length from rfl]
  rcases mw hx with hx|⟨hl,hx⟩
  ·have:=c x hx;omega
  ·have:=c _ (getD_mem hl);omega
 refine(qH (M:=2001) (js:=js) (R:=1000) (fun w=>Hm 0 w∧w.FG.length=js.length) (fun w=>Hm 9 w∧w.FG.length=js.length) (fun r w _ _ c d=>?_) (fun w ⟨⟨a,b,c⟩,d⟩=>⟨⟨a,b,fun x hx=>by have:=c x hx;omega⟩,d⟩) (fun w n n0 n1 ⟨⟨a,b,c⟩,d⟩=>⟨⟨a,b,fun x hx=>by have:=c x hx;show 20000+0≤x+9 * (w.rows.length:Int);omega⟩,d⟩) (fun w z m _ m1 m2 h=>⟨br w z m (by omega) h.1,by unfold Wl.FH;dsimp only;rw[List.length_set];exact h.2⟩) (fun w z m r _ _ hz m1 m2 h=>?_) t r v w g h0 h1 ⟨h,hn⟩).1
 ·obtain⟨k1,k2⟩:=Hm.come (r:=r) c d.1
  have:(w.come 2001 r).FG=w.FG:=by rw[cG c];split<;>rfl
  exact⟨⟨k1,by rw[this];exact d.2⟩,fun z=>⟨k2 z,by rw[this];exact d.2⟩⟩
 ·obtain⟨⟨a,b,c⟩,d⟩:=h
  have hl:js.idxOf z < w.FG.length:=by rw[d];exact(d9 hz).2.2
  have:=c _ (getD_mem hl)
  rw[if_neg (by omega)]
  exact⟨br w z (-m) (by omega) ⟨a,b,c⟩,by unfold Wl.FH;dsimp only;rw[List.length_set];exact d⟩
theorem Hm.whole{js:List Str}(t:Bd)(v:PV)(w:Wl)(g:t.good js [])(hn:w.FG.length=js.length)(h1:t.rows≤1000)(h:Hm 0 w):(whole 2001 js t v w).st=none:=by
 have k:=Hm.wk t 0 v w g hn (by decide) (by omega) h
 unfold C.whole
 cases hr:(C.wk 2001 js t 0 v w).run with
 |false=>rw[dJ hr];exact k.1
 |true=>exact(Hm.come hr k).1.1
end C
namespace C
open PySem L2 L3 Wd
open CY
noncomputable def Fm:Option Int→PV
 |none=>.non
 |some r=>.int r
noncomputable def iA(q:Int×List Int×Int):PV:=.tup [.int q.1,.tup (q.2.1.map PV.int),cf q.2.2]
noncomputable def wK(js:List Str)(pj:Addr)(cost:Int)(pr:Addr)(lim:Int)(st:Option Int)(ov:Bool):List (bg×PV):=[(Sum.inr "names",fN js),(Sum.inr "jars",.ref pj),(Sum.inr "cost",cf cost),(Sum.inr "rows",.ref pr),(Sum.inr "limit",.int lim),(Sum.inr "stuck",Fm st),(Sum.inr "over",.bl ov)]
structure FB (S:ar) (a pj pr:Addr) (js:List Str) (lim:Nat) (w:Wl):Prop where
 d:S a=some (.dct (wK js pj w.cost pr lim w.st w.ov))
 j:S pj=some (.lst (w.FG.map PV.int))
 r:S pr=some (.lst (w.rows.map iA))
 ne:pj≠pr
def KK(a pj pr:Addr)(S S':ar):Prop:=∀b o,S b=some o→b≠a→b≠pj→b≠pr→S' b=some o
theorem KK.trans{a pj pr:Addr}{S S1 S2:ar}(x:KK a pj pr S S1)(y:KK a pj pr S1 S2):KK a pj pr S S2:=fun b o h h1 h2 h3=>y b o (x b o h h1 h2 h3) h1 h2 h3
section
variable {js:List Str} {pj pr:Addr} {c lim:Int} {st:Option Int} {ov:Bool}
end
section
variable {S:ar} {a pj pr:Addr} {js:List Str} {lim:Nat} {w:Wl}
end
noncomputable def vM(M:Nat)(js:List Str):Bd→Int→PV→Wl→Wl
 | .pay x y,_,_,w=>w.pay (x * (2520 / y))
 | .put z m,_,_,w=>w.FH js z m
 | .Gx a b,r,v,w=>if nm (cv v)=0 then wk M js a (r+1) (bE v) w else wk M js b (r+1+a.rows) (bE v) w
 | .GJ z m a b,r,v,w=>if nm (cv v)=0 then (if w.FG.getD (js.idxOf z) 0 < m then { w.FH js z (-m)with st:=some r } else wk M js a (r+1) (bE v) (w.FH js z (-m))) else wk M js b (r+1+a.rows) (bE v) w
 | .Gn a,r,v,w=>(Bs v).foldl (fun w g=>iter (fun w=>(wk M js a (r+1) (bE g) w).go (Wl.come M r)) (nm (cv g)).toNat w) w
 |_,_,_,w=>w
theorem yh(w:Wl):(w.go fun w=>w)=w:=by unfold Wl.go;split<;>rfl
theorem vN{M:Nat}{js:List Str}{t:Bd}{r:Int}{v:PV}{w:Wl}(h:t.GQ=true):wk M js t r v w=(w.come M r).go (vM M js t r v):=by
 cases t with
 |rest=>cases h
 |FI a b=>cases h
 |use z=>exact(yh _).symm
 |_=>rfl
theorem eJ:∀js:List Str,eI (js.map PV.str)=some js
 |[]=>rfl
 |j::js=>by rw[List.map_cons];unfold eI;rw[eJ js];rfl
theorem yi{js:List Str}{z:Str}{S:ar}{Q:bB}(h:z∈js)(q:Q (.int (js.idxOf z:Nat)) S):ik (fN js) [.str z] S Q:=by
 unfold ik fN
 simp only[eJ]
 exact⟨js.idxOf z,(d9 h).1,(d9 h).2.1,q⟩
theorem AS{cs:List Int}{i:Nat}(h:i < cs.length):Gp (cs.map PV.int) (i:Int)=some (.int (cs.getD i 0)):=bC (by rw[List.getElem?_map,List.getElem?_eq_getElem h,List.getD_eq_getElem?_getD,List.getElem?_eq_getElem h];rfl)
section
variable {i:Nat} {y z:Str} {σ:b_} {S:ar} {D:ku} {a b:bh}
theorem vO(h:lk σ i=some (.str y))(q:a D σ S):bA (aO (ah (bt false) (v3 i) (c3 (.str y)))) a b D σ S:=by
 simp only[bA,aO,ah,v3,h,c3,bt,decide_true,Bool.false_bne,if_true];exact q
theorem dt(h:lk σ i=some (.str z))(hz:z≠y)(q:b D σ S):bA (aO (ah (bt false) (v3 i) (c3 (.str y)))) a b D σ S:=by
 simp only[bA,aO,ah,v3,h,c3,bt,hz,decide_false,Bool.false_bne,Bool.false_eq_true,if_false];exact q
end
theorem wn{c:jM}{t u:bh}{v:Bool}{σ:b_}{S:ar}{D:ku}(h:∀Q E,Q v S→c σ S Q E)(qt:v=true→t D σ S)(qf:v=false→u D σ S):bA c t u D σ S:=by
 refine h _ _ ?_
 cases v with
 |true=>exact qt rfl
 |false=>exact qf rfl
theorem j5{f:Wl→Wl}(hf:∀w,w.run=false→f w=w):∀(n:Nat) (w:Wl),w.run=false→iter f n w=w
 |0,_,_=>rfl
 |n+1,w,h=>by show iter f n (f w)=w;rw[hf w h];exact j5 hf n w h
theorem qI{α β:Type}(f:β→α→β)(xs:List α)(x:α)(b:β):(xs++[x]).foldl f b=f (xs.foldl f b) x:=by rw[List.foldl_append];rfl
noncomputable def w0(cs:List Int):Wl:=⟨cs,0,[],none,false⟩
noncomputable def dF(js:List Str)(M:Nat)(w:Wl)(ps:Addr):List (Str×PV):=[("names",fN js),("jars",.tup (w.FG.map PV.int)),("most",.int M),("cost",cf w.cost),("seen",.ref ps)]
structure HG (S:ar) (o ps:Addr) (js:List Str) (M:Nat) (w:Wl):Prop where
 o:S o=some (.ins "Doing" (dF js M w ps))
 s:S ps=some (.lst (w.rows.map iA))
def Gr(o ps:Addr)(S S':ar):Prop:=∀b u,S b=some u→b≠o→b≠ps→S' b=some u
theorem Gr.refl{o ps:Addr}{S:ar}:Gr o ps S S:=fun _ _ h _ _=>h
theorem Gr.trans{o ps:Addr}{S S1 S2:ar}(x:Gr o ps S S1)(y:Gr o ps S1 S2):Gr o ps S S2:=fun b u h h1 h2=>y b u (x b u h h1 h2) h1 h2
theorem Gr.ext{o ps:Addr}{S S':ar}(x:Ext S S'):Gr o ps S S':=fun b u h _ _=>x b u h
theorem Gr.uo{o ps:Addr}{S:ar}{u:SO}:Gr o ps S (FF S o u):=fun b _ h h1 _=>by rw[al h1];exact h
theorem Gr.us{o ps:Addr}{S:ar}{u:SO}:Gr o ps S (FF S ps u):=fun b _ h _ h1=>by rw[al h1];exact h
section
variable {js:List Str} {M:Nat} {w:Wl} {ps:Addr}
theorem rV:(dF js M w ps).lookup ("names":Str)=some (fN js):=rfl
theorem qJ:(dF js M w ps).lookup ("jars":Str)=some (.tup (w.FG.map PV.int)):=rfl
theorem vP:(dF js M w ps).lookup ("most":Str)=some (.int M):=rfl
theorem vQ:(dF js M w ps).lookup ("cost":Str)=some (cf w.cost):=rfl
theorem qK:(dF js M w ps).lookup ("seen":Str)=some (.ref ps):=rfl
theorem vR:(dF js M w ps).lookup ("come_to":Str)=none:=rfl
theorem Ew:(dF js M w ps).lookup ("pay":Str)=none:=rfl
theorem CO:(dF js M w ps).lookup ("bring":Str)=none:=rfl
theorem Ex:(dF js M w ps).lookup ("take":Str)=none:=rfl
theorem Ey(cs:List Int):dG ("jars":Str) (.tup (cs.map PV.int)) (dF js M w ps)=dF js M { w with FG:=cs } ps:=by simp[dG,dF,am]
theorem Ez(n:Int):dG ("cost":Str) (cf n) (dF js M w ps)=dF js M { w with cost:=n } ps:=by simp[dG,dF,am]
theorem vS:(dF js M w ps).length < 1000:=by show 5 < 1000;decide
end
section
variable {S:ar} {o ps:Addr} {js:List Str} {M:Nat} {w:Wl}
theorem HG.ne(A:HG S o ps js M w):ps≠o:=fun e=>by have:=A.s;rw[e,A.o]at this;cases this
theorem HG.ins(A:HG S o ps js M w){k:Addr→List (Str×PV)→Prop}(q:k o (dF js M w ps)):jb "Doing" S (.ref o) k:=by
 unfold jb;simp only[A.o];exact⟨trivial,q⟩
theorem HG.ext{S':ar}(A:HG S o ps js M w)(x:Ext S S'):HG S' o ps js M w:=⟨x _ _ A.o,x _ _ A.s⟩
theorem HG.uo{w':Wl}(A:HG S o ps js M w)(h:w'.rows=w.rows):HG (FF S o (.ins "Doing" (dF js M w' ps))) o ps js M w':=⟨FC,by rw[al A.ne,h];exact A.s⟩
theorem HG.us{w':Wl}(A:HG S o ps js M w)(h1:w'.FG=w.FG)(h2:w'.cost=w.cost):HG (FF S ps (.lst (w'.rows.map iA))) o ps js M w':=⟨by rw[al A.ne.symm];unfold dF;rw[h1,h2];exact A.o,FC⟩
end
theorem yM{n:Nat}{b:bh}{args:List PV}{S:ar}{Q:bB}{E:bH}(h:b { nx:=fun _ S'=>Q .non S',rt:=Q,ex:=fun p _ S'=>E p [] S' } (av n args) S):dj n b args S Q E:=h
noncomputable abbrev nE(M:Nat):PV:=.exc "TooLong" ["most"] [.int M]
noncomputable abbrev j6(r:Int):PV:=.exc "Stuck" ["row"] [.int r]
abbrev cw(x:aw):Prop:=∀{S:ar} {o ps:Addr} {js:List Str} {M:Nat} {w:Wl} {r:Int} {Q:bB} {E:bH},HG S o ps js M w→w.run=true→w.rows.length≤5000→((w.come M r).run=true→∀S',HG S' o ps js M (w.come M r)→Gr o ps S S'→Q .non S')→((w.come M r).ov=true→E (nE M) [] S)→x [.ref o,.int r] S Q E
theorem gi:cw (dj 2 cK):=by
 intro S o ps js M w r Q E A hr hl k kx
 unfold cK
 refine yM ?_
 rw[show av 2 [PV.ref o,PV.int r]=[some (.ref o),some (.int r)] from rfl]
 obtain⟨hst,hov⟩:=Iu.mp hr
 rw[cG hr]at k kx
 refine az fun N hN=>?_
 refine wn (v:=decide ((M:Int)≤(w.rows.length:Int))) (fun Q E q=>?_) (fun h=>?_) (fun h=>?_)
 ·simp only[aO,ah,aA,ap,d6,v3,lk]
  refine A.ins ?_
  simp only[qK,dB,A.s,List.length_map]
  refine A.ins ?_
  simp only[vP,Ap,dA]
  exact q
 ·have h:=of_decide_eq_true h
  rw[if_pos (by omega)]at kx
  simp only[eL,ap,d6,v3,lk]
  refine A.ins ?_
  simp only[vP]
  exact kx rfl
 ·have h:=of_decide_eq_false h
  rw[if_neg (by omega)]at k
  refine hN _ _ ?_
  simp only[aD,l7,ap,d6,aI,v3,lk]
  refine A.ins ?_
  simp only[qK,yH,A.s]
  refine⟨trivial,A.ins ?_⟩
  simp only[qJ]
  refine A.ins ?_
  simp only[vQ,cC,A.s,List.length_map]
  refine⟨Nat.lt_of_le_of_lt hl (by decide),?_⟩
  have:=A.us (w':={ w with rows:=w.rows++[(r,w.FG,w.cost)] }) rfl rfl
  rw[List.map_append]at this
  exact k (Iu.mpr ⟨hst,hov⟩) _ this .us
abbrev rW(x:aw):Prop:=∀{S:ar} {o ps:Addr} {js:List Str} {M:Nat} {w:Wl} {n:Int} {Q:bB} {E:bH},HG S o ps js M w→0≤w.cost→0≤n→(∀S',HG S' o ps js M (w.pay n)→Gr o ps S S'→Q .non S')→x [.ref o,cf n] S Q E
theorem JK{xp:aw}(HP:iy xp):rW (bn 2 (fH xp)):=by
 intro S o ps js M w n Q E A h0 h1 k
 unfold fH
 refine fI ?_
 rw[show av 2 [PV.ref o,cf n]=[some (.ref o),some (cf n)] from rfl]
 simp only[dk,ae,ap,d6,v3,lk]
 refine A.ins ?_
 simp only[vQ]
 refine HP h0 h1 (A.ins ?_)
 rw[Ez]
 exact⟨vS,k _ (A.uo (w':=w.pay n) rfl) .uo⟩
theorem k9{z:Str}{m:Int}:∀{js:List Str} {cs:List Int},js.Nodup→cs.length=js.length→z∈js→(List.zipWith jn (cs.map fun c=>(c,0)) (jX js z m 0)).map (fun p=>PV.int p.1)=(cs.set (js.idxOf z) (cs.getD (js.idxOf z) 0+m)).map PV.int
 |[],_,_,_,h=>by simp at h
 |j::js,[],_,h,_=>by simp at h
 |j::js,c::cs,hn,hl,hz=>by
  have hn':=List.nodup_cons.mp hn
  rw[List.idxOf_cons]
  unfold jX
  simp only[List.map_cons,List.zipWith_cons_cons]
  by_cases e:j=z
  ·subst e
   have e0:∀{js:List Str} {cs:List Int},cs.length=js.length→j ∉ js→(List.zipWith jn (cs.map fun c=>(c,0)) (js.map fun y=>if y=j then (m,0) else (0,0))).map (fun p=>PV.int p.1)=cs.map PV.int:=by
    intro js
    induction js with
    |nil=>intro cs h _;simp only[List.length_nil,List.length_eq_zero_iff]at h;subst h;rfl
    |cons y js ih=>
     intro cs h hni
     cases cs with
     |nil=>simp at h
     |cons d cs=>
      rw[List.mem_cons,not_or]at hni
      simp only[List.map_cons,List.zipWith_cons_cons]
      rw[ih (by simpa using h) hni.2,if_neg (Ne.symm hni.1)]
      simp[jn]
   rw[e0 (by simpa using hl) hn'.1,if_pos rfl]
   simp[jn]
  ·have e2:(j == z)=false:=by simpa using e
   have hz':z∈js:=by simpa [Ne.symm e]using hz
   have ih:=k9 (m:=m) hn'.2 (cs:=cs) (by simpa using hl) hz'
   unfold jX at ih
   rw[e2,if_neg e,ih]
   simp[jn]
abbrev gj(x:aw):Prop:=∀{S:ar} {o ps:Addr} {js:List Str} {M:Nat} {w:Wl} {z:Str} {m:Int} {Q:bB} {E:bH},HG S o ps js M w→js.Nodup→js.length≤1000→w.FG.length=js.length→z∈js→(∀S',HG S' o ps js M (w.FH js z m)→Gr o ps S S'→Q .non S')→x [.ref o,.str z,.int m] S Q E
theorem Hn{xa xt:aw}(G6:ji xa)(FT:eS xt):gj (bn 3 (dS xa xt)):=by
 intro S o ps js M w z m Q E A hn hj hl hz k
 unfold dS
 refine fI ?_
 rw[show av 3 [PV.ref o,PV.str z,PV.int m]=[some (.ref o),some (.str z),some (.int m)] from rfl]
 simp only[dk,ae,ap,d6,v3,lk]
 refine A.ins ?_
 simp only[qJ]
 refine A.ins ?_
 simp only[rV]
 refine FT hj fun S1 X1=>?_
 rw[qG (d:=0),show(w.FG.map PV.int)=Ty.es (0,w.FG.map fun c=>(c,0)) by unfold Ty.es;rw[List.map_map];rfl]
 refine G6 (by rw[List.length_map];omega) fun S2 X2=>?_
 have A2:=A.ext (X1.trans X2)
 rw[show(Ty.join (0,w.FG.map fun c=>(c,0)) (0,jX js z m 0)).es=_ from k9 hn hl hz]
 refine A2.ins ?_
 rw[Ey]
 exact⟨vS,k _ (A2.uo (w':=w.FH js z m) rfl) ((Gr.ext (X1.trans X2)).trans .uo)⟩
abbrev k_(x:aw):Prop:=∀{S:ar} {o ps:Addr} {js:List Str} {M:Nat} {w:Wl} {z:Str} {m r:Int} {Q:bB} {E:bH},HG S o ps js M w→js.Nodup→js.length≤1000→w.FG.length=js.length→z∈js→(¬w.FG.getD (js.idxOf z) 0 < m→∀S',HG S' o ps js M (w.FH js z (-m))→Gr o ps S S'→Q .non S')→(w.FG.getD (js.idxOf z) 0 < m→E (j6 r) [] S)→x [.ref o,.str z,.int m,.int r] S Q E
theorem Ji{xb:aw}(Hn:gj xb):k_ (dj 4 (eM xb)):=by
 intro S o ps js M w z m r Q E A hn hj hl hz k kx
 unfold eM
 refine yM ?_
 rw[show av 4 [PV.ref o,PV.str z,PV.int m,PV.int r]=[some (.ref o),some (.str z),some (.int m),some (.int r)] from rfl]
 have hlt:js.idxOf z < w.FG.length:=by rw[hl];exact(d9 hz).2.2
 refine az fun N hN=>?_
 refine wn (v:=decide (w.FG.getD (js.idxOf z) 0 < m)) (fun Q E q=>?_) (fun h=>?_) (fun h=>?_)
 ·simp only[aO,ah,Av,ap,d6,v3,lk]
  refine A.ins ?_
  simp only[qJ]
  refine A.ins ?_
  simp only[rV]
  refine yi hz ?_
  simp only[af,AS hlt,pL,dA]
  exact q
 ·simp only[eL,ap,v3,lk]
  exact kx (of_decide_eq_true h)
 ·refine hN _ _ ?_
  simp only[aD,kL,ap,lZ,dY,v3,lk]
  refine A.ins ⟨CO,?_⟩
  exact Hn A hn hj hl hz (k (of_decide_eq_false h))
def Out(o ps:Addr)(js:List Str)(M:Nat)(S:ar)(w:Wl)(Q:bB)(E:bH):Prop:=
 (w.run=true→∀S',HG S' o ps js M w→Gr o ps S S'→Q .non S')∧(w.ov=true→∀S',Gr o ps S S'→E (nE M) [] S')∧∀r,w.st=some r→w.ov=false→∀S',Gr o ps S S'→E (j6 r) [] S'
theorem Out.x{o ps:Addr}{js:List Str}{M:Nat}{S S1:ar}{w w':Wl}{Q Q':bB}{E:bH}{E':bH}(k:Out o ps js M S w Q E)(O:Gr o ps S S1)(hE:∀p S',E p [] S'→E' p [] S')(e:w'.run=false→w=w')(h:w'.run=true→∀S',HG S' o ps js M w'→Gr o ps S1 S'→Q' .non S'):Out o ps js M S1 w' Q' E':=by
 refine⟨h,fun hov S' O'=>hE _ _ (k.2.1 (by rw[e (ju hov)];exact hov) S' (O.trans O')),fun r hst hov S' O'=>hE _ _ (k.2.2 r (by rw[e (gW hst)];exact hst) (by rw[e (gW hst)];exact hov) S' (O.trans O'))⟩
theorem fO{x:aw}(sp:cw x){S:ar}{o ps:Addr}{js:List Str}{M:Nat}{w:Wl}{r:Int}{Q:bB}{E:bH}(A:HG S o ps js M w)(hr:w.run=true)(hl:w.rows.length≤5000)(k:Out o ps js M S (w.come M r) Q E):x [.ref o,.int r] S Q E:=by
 refine sp A hr hl k.1 fun h=>k.2.1 h S .refl
abbrev gX(x:aw):Prop:=∀{S:ar} {o ps:Addr} {js:List Str} {M:Nat} {t:Bd} {r:Int} {v:PV} {w:Wl} {Q:bB} {E:bH},HG S o ps js M w→w.run=true→Hh js.length M 0 w→M≤2001→js.Nodup→js.length≤1000→t.good js []→(t.hd=("pay":Str)∨t.hd=("put":Str))→Out o ps js M S (wk M js t r v w) Q E→x [.ref o,t.pv,.int r] S Q E
theorem tN{xc xp xb:aw}(GL:cw xc)(JK:rW xp)(Hn:gj xb):gX (dj 3 (jd xc xp xb)):=by
 intro S o ps js M t r v w Q E A hr win hM hn hj hg ht k
 unfold jd
 refine yM ?_
 rw[show av 3 [PV.ref o,t.pv,PV.int r]=[some (.ref o),some t.pv,some (.int r)] from rfl]
 have hc:(w.come M r).FG=w.FG∧(w.come M r).cost=w.cost:=by rw[cG hr];split<;>exact⟨rfl,rfl⟩
 refine az fun N hN=>?_
 simp only[aD,ck,ap,v3,lk]
 refine A.ins ⟨vR,?_⟩
 refine fO GL A hr (by have:=win.2.2.2.2.1;omega) (k.x .refl (fun _ _ h=>h) ?_ fun hr1 S1 A1 O1=>?_)
 ·intro h
  cases t with
  |pay x y=>exact Wl.Ga h
  |put z m=>exact Wl.Ga h
  |_=>rcases ht with ht|ht<;>exact absurd ht (by simp[Bd.hd,am])
 ·refine hN _ _ (az fun N hN=>?_)
  cases t with
  |pay x y=>
   have k1:Out o ps js M S ((w.come M r).pay (x * (2520 / y))) Q E:=by
    have:wk M js (.pay x y) r v w=(w.come M r).pay (x * (2520 / y)):=Wl.FV hr1
    rw[←this];exact k
   have c:oO x y:=hg
   simp only[Bd.pv,bA,aO,ah,v3,lk,c3,af,eP,bt,decide_true,Bool.false_bne,if_true,aD,kL,ap,fJ]
   refine A1.ins ⟨Ew,?_⟩
   rw[rP c]
   refine JK A1 (by rw[hc.2];exact win.2.2.1) (Int.mul_nonneg c.x0 (Int.ediv_nonneg (by decide) (by have:=c.low.pos;omega))) fun S2 A2 O2=>?_
   refine hN _ _ ?_
   simp only[Bd.pv,bA,aO,ah,v3,lk,c3,af,eP,bt,am,String.reduceEq,decide_false,Bool.false_bne,Bool.false_eq_true,if_false,aW]
   exact k1.1 hr1 S2 A2 (O1.trans O2)
  |put z m=>
   have k1:Out o ps js M S ((w.come M r).FH js z m) Q E:=by
    have:wk M js (.put z m) r v w=(w.come M r).FH js z m:=Wl.FV hr1
    rw[←this];exact k
   simp only[Bd.pv,bA,aO,ah,v3,lk,c3,af,eP,bt,am,String.reduceEq,decide_false,Bool.false_bne,Bool.false_eq_true,if_false,aW]
   refine hN _ _ ?_
   simp only[Bd.pv,bA,aO,ah,v3,lk,c3,af,eP,bt,decide_true,Bool.false_bne,if_true,aD,kL,ap,fJ,vz]
   refine A1.ins ⟨CO,?_⟩
   exact Hn A1 hn hj (by rw[hc.1];exact win.1) hg.1 fun S2 A2 O2=>k1.1 hr1 S2 A2 (O1.trans O2)
  |_=>rcases ht with ht|ht<;>exact absurd ht (by simp[Bd.hd,am])
abbrev jx(n:Nat)(x:aw):Prop:=∀{S:ar} {o ps:Addr} {js:List Str} {M:Nat} {t:Bd} {r:Int} {v:PV} {w:Wl} {Q:bB} {E:bH},HG S o ps js M w→w.run=true→Hh js.length M 0 w→M≤2001→js.Nodup→js.length≤1000→t.dep≤n→t.size≤900→t.good js []→aN t v=true→bS (2 ^ 60) v=true→0≤r→r+t.rows≤1000→Out o ps js M S (wk M js t r v w) Q E→x [.ref o,t.pv,v,.int r] S Q E
abbrev lg(n:Nat)(x:aw):Prop:=∀{S:ar} {o ps:Addr} {js:List Str} {M:Nat} {t:Bd} {r:Int} {v:PV} {w:Wl} {Q:bB} {E:bH},HG S o ps js M w→w.run=true→Hh js.length M 0 w→M≤2001→js.Nodup→js.length≤1000→t.dep≤n→t.size≤900→t.good js []→aN t v=true→bS (2 ^ 60) v=true→0≤r→r+t.rows≤1000→(t.hd=("either":Str)∨t.hd=("take":Str))→Out o ps js M S (wk M js t r v w) Q E→x [.ref o,t.pv,v,.int r] S Q E
abbrev jy(n:Nat)(x:aw):Prop:=∀{S:ar} {o ps:Addr} {js:List Str} {M:Nat} {b:Bd} {r:Int} {gs:List PV} {w:Wl} {Q:bB} {E:bH},HG S o ps js M w→w.run=true→Hh js.length M 0 w→M≤2001→js.Nodup→js.length≤1000→(Bd.Gn b).dep≤n→b.size≤900→b.good js []→(∀g∈gs,qB b g=true)→bS (2 ^ 60) (.tup gs)=true→0≤r→r+(Bd.Gn b).rows≤1000→Out o ps js M S (wk M js (.Gn b) r (.tup gs) w) Q E→x [.ref o,(Bd.Gn b).pv,.tup gs,.int r] S Q E
theorem Ks{xr xs s0 s1 s2:aw}(HA:dr 6 xr)(JT:gX xs)(n:Nat)(N_:n≤6)(Ph:jy n s0)(ihC:lg n s1)(ih:jx (n - 1) s2):jx n (dj 5 (xX xr xs s0 s1 s2)):=by
 intro S o ps js M t r v w Q E A hr win hM hn hj hd hsz hg htr hib h0 h1 k
 unfold xX
 refine yM ?_
 rw[show av 5 [PV.ref o,t.pv,v,PV.int r]=[some (.ref o),some t.pv,some v,some (.int r),none] from rfl]
 refine az fun N hN=>?_
 simp only[aC,ah,v3,lk,c3,af]
 rw[Bd.Jw]
 simp only[eP,List.set_cons_succ,List.set_cons_zero]
 refine hN _ _ ?_
 rw[←Bd.Jw]
 clear hN
 cases t with
 |FI b c=>
  simp only[Bd.dep]at hd
  simp only[Bd.rows]at h1
  simp only[Bd.size]at hsz
  obtain⟨x,y,rfl,hx,hy⟩:=jm htr
  have IQ:=aT hib
  refine vO rfl (az fun N hN=>?_)
  simp only[Bd.pv,aD,aG,ap,ah,v3,lk,c3,af,eP,fJ]
  refine ih A hr win hM hn hj (by omega) (by omega) hg.1 hx (IQ _ (by simp)) h0 (by omega) (k.x .refl (fun _ _ h=>h) ?_ fun hr1 S1 A1 O1=>?_)
  ·exact fun h=>jQ h
  ·refine hN _ _ ?_
   simp only[Bd.pv,aD,aG,ae,ap,ah,v3,lk,c3,af,fJ,vz]
   refine HA (by omega) (by omega) fun S2 X2=>?_
   simp only[aS]
   refine ih (A1.ext X2) hr1 (Hh.wk hM b r x w hg.1 h0 (by omega) win) hM hn hj (by omega) (by omega) hg.2 hy (IQ _ (by simp)) (by omega) (by omega) (k.x (O1.trans (.ext X2)) (fun _ _ h=>h) (fun _=>rfl) fun hr2 S3 A3 O3=>k.1 hr2 S3 A3 ((O1.trans (.ext X2)).trans O3))
 |Gn b=>
  simp only[Bd.size]at hsz
  obtain⟨gs,rfl,hgs⟩:=jq htr
  rw[List.all_eq_true]at hgs
  refine dt rfl (by simp[Bd.hd,am]) (vO rfl ?_)
  simp only[aD,aG,ap,v3,lk]
  exact Ph A hr win hM hn hj hd (by omega) hg hgs hib h0 h1 k
 |use z=>exact absurd (show z∈[] from hg) (by simp)
 |rest=>
  refine dt rfl (by simp[Bd.hd,am]) (dt rfl (by simp[Bd.hd,am]) ?_)
  refine wn (v:=false) (fun Q E q=>?_) (fun h=>nomatch h) (fun _=>?_)
  ·simp only[aO,ah,v3,lk,c3,aI,ap]
   rw[show([PV.str "either",PV.str "take"]:List PV)=(["either","take"]:List Str).map PV.str from rfl]
   refine bK (Bd.IC _) ms ?_
   rw[show(false != decide (Bd.rest.hd∈(["either","take"]:List Str)))=false by simp[Bd.hd,am]]
   exact q
  ·simp only[bA,aO,ah,v3,lk,c3,bt,Bd.hd,decide_true,Bool.true_bne,Bool.not_true,Bool.false_eq_true,if_false,aW]
   exact k.1 hr S A .refl
 |Gx b c=>
  refine dt rfl (by simp[Bd.hd,am]) (dt rfl (by simp[Bd.hd,am]) ?_)
  refine wn (v:=true) (fun Q E q=>?_) (fun _=>?_) (fun h=>nomatch h)
  ·simp only[aO,ah,v3,lk,c3,aI,ap]
   rw[show([PV.str "either",PV.str "take"]:List PV)=(["either","take"]:List Str).map PV.str from rfl]
   refine bK (Bd.IC _) ms ?_
   rw[show(false != decide ((Bd.Gx b c).hd∈(["either","take"]:List Str)))=true by simp[Bd.hd,am]]
   exact q
  ·simp only[aD,aG,ap,v3,lk]
   exact ihC A hr win hM hn hj hd hsz hg htr hib h0 h1 (.inl rfl) k
 |GJ z m b c=>
  refine dt rfl (by simp[Bd.hd,am]) (dt rfl (by simp[Bd.hd,am]) ?_)
  refine wn (v:=true) (fun Q E q=>?_) (fun _=>?_) (fun h=>nomatch h)
  ·simp only[aO,ah,v3,lk,c3,aI,ap]
   rw[show([PV.str "either",PV.str "take"]:List PV)=(["either","take"]:List Str).map PV.str from rfl]
   refine bK (Bd.IC _) ms ?_
   rw[show(false != decide ((Bd.GJ z m b c).hd∈(["either","take"]:List Str)))=true by simp[Bd.hd,am]]
   exact q
  ·simp only[aD,aG,ap,v3,lk]
   exact ihC A hr win hM hn hj hd hsz hg htr hib h0 h1 (.inr rfl) k
 |pay x y=>
  refine dt rfl (by simp[Bd.hd,am]) (dt rfl (by simp[Bd.hd,am]) ?_)
  refine wn (v:=false) (fun Q E q=>?_) (fun h=>nomatch h) (fun _=>?_)
  ·simp only[aO,ah,v3,lk,c3,aI,ap]
   rw[show([PV.str "either",PV.str "take"]:List PV)=(["either","take"]:List Str).map PV.str from rfl]
   refine bK (Bd.IC _) ms ?_
   rw[show(false != decide ((Bd.pay x y).hd∈(["either","take"]:List Str)))=false by simp[Bd.hd,am]]
   exact q
  ·simp only[bA,aO,ah,v3,lk,c3,bt,Bd.hd,am,String.reduceEq,decide_false,Bool.true_bne,Bool.not_false,if_true,aD,aG,ap]
   exact JT (v:=v) A hr win hM hn hj hg (.inl rfl) k
 |put z m=>
  refine dt rfl (by simp[Bd.hd,am]) (dt rfl (by simp[Bd.hd,am]) ?_)
  refine wn (v:=false) (fun Q E q=>?_) (fun h=>nomatch h) (fun _=>?_)
  ·simp only[aO,ah,v3,lk,c3,aI,ap]
   rw[show([PV.str "either",PV.str "take"]:List PV)=(["either","take"]:List Str).map PV.str from rfl]
   refine bK (Bd.IC _) ms ?_
   rw[show(false != decide ((Bd.put z m).hd∈(["either","take"]:List Str)))=false by simp[Bd.hd,am]]
   exact q
  ·simp only[bA,aO,ah,v3,lk,c3,bt,Bd.hd,am,String.reduceEq,decide_false,Bool.true_bne,Bool.not_false,if_true,aD,aG,ap]
   exact JT (v:=v) A hr win hM hn hj hg (.inr rfl) k
theorem nF{F:PV→Wl→Wl}(hF:∀g w,w.run=false→F g w=w):∀(l:List PV) (w:Wl),w.run=false→l.foldl (fun w g=>F g w) w=w
 |[],_,_=>rfl
 |g::l,w,h=>by rw[List.foldl_cons,hF g w h];exact nF hF l w h
theorem jz(f:Wl→Wl):∀(n:Nat) (w:Wl),iter f (n+1) w=f (iter f n w)
 |0,_=>rfl
 |n+1,w=>jz f n (f w)
theorem oX(f:Wl→Wl):∀(n m:Nat) (w:Wl),iter f (n+m) w=iter f m (iter f n w)
 |0,m,w=>by rw[Nat.zero_add];rfl
 |n+1,m,w=>by rw[Nat.add_right_comm];exact oX f n m (f w)
theorem yj{xc xt xr xh s0 s1 s2:aw}(GL:cw xc)(Ji:k_ xt)(HA:dr 6 xr)(FX:gS xh)(n:Nat)(N_:n≤6)(ih:jx n s2):lg (n+1) (dj 5 (dH xc xt xr xh s0 s1 s2)):=by
 intro S o ps js M t r v w Q E A hr win hM hn hj hd hsz hg htr hib h0 h1 ht k
 unfold dH
 refine yM ?_
 rw[show av 5 [PV.ref o,t.pv,v,PV.int r]=[some (.ref o),some t.pv,some v,some (.int r),none] from rfl]
 have Lr:t.GQ=true:=by
  cases t with
  |Gx b c=>rfl
  |GJ z m b c=>rfl
  |_=>rcases ht with ht|ht<;>exact absurd ht (by simp[Bd.hd,am])
 have hc:(w.come M r).FG=w.FG:=by rw[cG hr];split<;>rfl
 have wc:=Hh.come hM h0 (show r≤1000 by omega) hr win
 rw[vN Lr]at k
 refine az fun N hN=>?_
 simp only[aD,ck,ap,v3,lk]
 refine A.ins ⟨vR,?_⟩
 refine fO GL A hr (by have:=win.2.2.2.2.1;omega) (k.x .refl (fun _ _ h=>h) (fun h=>Wl.Ga h) fun hr1 S1 A1 O1=>?_)
 rw[Wl.FV hr1]at k
 have Jx:=wc.2 hr1
 generalize hw1:w.come M r=w1 at k A1 hr1 Jx
 have IQ:∀{x y},v = .tup [x,y]→bS (2 ^ 60) y=true:=fun e=>by rw[e]at hib;exact aT hib _ (by simp)
 refine hN _ _ (az fun N hN=>?_)
 cases t with
 |Gx b c=>
  simp only[Bd.dep]at hd
  simp only[Bd.rows]at h1
  simp only[Bd.size]at hsz
  obtain⟨i,y,rfl,hy⟩:=jo htr
  refine wn (v:=false) (fun Q E q=>by simp only[Bd.pv,jW,aO,ah,v3,lk,c3,af,eP,bt,am,String.reduceEq,decide_false,Bool.false_bne,Bool.false_eq_true,if_false];exact q) (fun h=>nomatch h) (fun _=>?_)
  refine hN _ _ (az fun N hN=>?_)
  rcases hy with⟨rfl,hy⟩|⟨rfl,hy⟩
  ·simp only[aC,lz,aO,ah,v3,lk,c3,af,eP,bt,decide_true,Bool.false_bne,if_true,aS,List.set_cons_succ,List.set_cons_zero]
   refine hN _ _ ?_
   simp only[aD,aG,ae,ap,ah,v3,lk,c3,af,fJ,eP]
   refine FX (a:=b) (b:=c) (hd:=[.str "either"]) (.inl rfl) (by decide) ?_
   rw[if_pos rfl]
   exact ih A1 hr1 Jx.weak hM hn hj (by omega) (by omega) hg.1 hy (IQ rfl) (by omega) (by omega) (k.x O1 (fun _ _ h=>h) (fun _=>by simp only[vM,nm,cv,bE,if_true]) fun hr2 S2 A2 O2=>k.1 (by simpa only [vM,nm,cv,bE,if_true]using hr2) S2 (by simpa only [vM,nm,cv,bE,if_true]using A2) (O1.trans O2))
  ·simp only[aC,lz,aO,ah,v3,lk,c3,af,eP,bt,Int.reduceEq,decide_false,Bool.false_bne,Bool.false_eq_true,if_false,ae,ap,Bd.pv,lZ,dY,aS,Int.reduceNeg,qx]
   refine HA (by omega) (by omega) fun S2 X2=>?_
   simp only[List.set_cons_succ,List.set_cons_zero]
   refine hN _ _ ?_
   simp only[aD,aG,ae,ap,ah,v3,lk,c3,af,fJ,eP]
   refine FX (a:=b) (b:=c) (hd:=[.str "either"]) (.inr rfl) (by decide) ?_
   rw[if_neg (by decide)]
   exact ih (A1.ext X2) hr1 Jx.weak hM hn hj (by omega) (by omega) hg.2 hy (IQ rfl) (by omega) (by omega) (k.x (O1.trans (.ext X2)) (fun _ _ h=>h) (fun _=>by simp only[vM,nm,cv,bE,Int.reduceEq,if_false]) fun hr2 S3 A3 O3=>k.1 (by simpa only [vM,nm,cv,bE,Int.reduceEq,if_false]using hr2) S3 (by simpa only [vM,nm,cv,bE,Int.reduceEq,if_false]using A3) ((O1.trans (.ext X2)).trans O3))
 |GJ z m b c=>
  simp only[Bd.dep]at hd
  simp only[Bd.rows]at h1
  simp only[Bd.size]at hsz
  obtain⟨i,y,rfl,hy⟩:=jp htr
  rcases hy with⟨rfl,hy⟩|⟨rfl,hy⟩
  ·refine wn (v:=true) (fun Q E q=>by simp only[Bd.pv,jW,aO,ah,v3,lk,c3,af,eP,bt,decide_true,Bool.false_bne,if_true];exact q) (fun _=>?_) (fun h=>nomatch h)
   simp only[Bd.pv,aD,ck,ap,ah,v3,lk,c3,af,fJ,vz]
   refine A1.ins ⟨Ex,?_⟩
   simp only[vM,nm,cv,bE,if_true]at k
   refine Ji A1 hn hj (by rw[←hw1,hc];exact win.1) hg.1 (fun hs S2 A2 O2=>?_) (fun hs=>?_)
   ·rw[if_neg hs]at k
    refine hN _ _ (az fun N hN=>?_)
    simp only[aC,lz,aO,ah,v3,lk,c3,af,eP,bt,decide_true,Bool.false_bne,if_true,aS,List.set_cons_succ,List.set_cons_zero]
    refine hN _ _ ?_
    simp only[aD,aG,ae,ap,ah,v3,lk,c3,af,fJ,eP]
    refine FX (a:=b) (b:=c) (hd:=[.str "take",.str z,.int m]) (.inl rfl) (Nat.le_refl 3) ?_
    rw[if_pos rfl]
    exact ih A2 hr1 (Jx.FH (by have:=hg.2.2.1;omega) (by have:=hg.2.1;omega)) hM hn hj (by omega) (by omega) hg.2.2.2.1 hy (IQ rfl) (by omega) (by omega) (k.x (O1.trans O2) (fun _ _ h=>h) (fun _=>rfl) fun Ls S3 A3 O3=>k.1 Ls S3 A3 ((O1.trans O2).trans O3))
   ·rw[if_pos hs]at k
    exact k.2.2 r rfl (Iu.mp hr1).2 S1 O1
  ·refine wn (v:=false) (fun Q E q=>by simp only[Bd.pv,jW,aO,ah,v3,lk,c3,af,eP,bt,decide_true,Bool.false_bne,if_true,Int.reduceEq,decide_false];exact q) (fun h=>nomatch h) (fun _=>?_)
   refine hN _ _ (az fun N hN=>?_)
   simp only[aC,lz,aO,ah,v3,lk,c3,af,eP,bt,Int.reduceEq,decide_false,Bool.false_bne,Bool.false_eq_true,if_false,ae,ap,Bd.pv,lZ,dY,aS,Int.reduceNeg,qy]
   refine HA (by omega) (by omega) fun S2 X2=>?_
   simp only[List.set_cons_succ,List.set_cons_zero]
   refine hN _ _ ?_
   simp only[aD,aG,ae,ap,ah,v3,lk,c3,af,fJ,eP]
   refine FX (a:=b) (b:=c) (hd:=[.str "take",.str z,.int m]) (.inr rfl) (Nat.le_refl 3) ?_
   rw[if_neg (by decide)]
   exact ih (A1.ext X2) hr1 Jx.weak hM hn hj (by omega) (by omega) hg.2.2.2.2 hy (IQ rfl) (by omega) (by omega) (k.x (O1.trans (.ext X2)) (fun _ _ h=>h) (fun _=>by simp only[vM,nm,cv,bE,Int.reduceEq,if_false]) fun hr2 S3 A3 O3=>k.1 (by simpa only [vM,nm,cv,bE,Int.reduceEq,if_false]using hr2) S3 (by simpa only [vM,nm,cv,bE,Int.reduceEq,if_false]using A3) ((O1.trans (.ext X2)).trans O3))
 |_=>rcases ht with ht|ht<;>exact absurd ht (by simp[Bd.hd,am])
theorem vT{xc s0 s1 s2:aw}(GL:cw xc)(n:Nat)(ih:jx n s2):jy (n+1) (dj 6 (eN xc s0 s1 s2)):=by
 intro S o ps js M b r gs w Q E A hr win hM hn hj hd hsz hg hgs hib h0 h1 k
 unfold eN
 refine yM ?_
 rw[show av 6 [PV.ref o,(Bd.Gn b).pv,PV.tup gs,PV.int r]=[some (.ref o),some (Bd.Gn b).pv,some (.tup gs),some (.int r),none,none] from rfl]
 simp only[Bd.dep]at hd
 simp only[Bd.rows]at h1
 have wc:=Hh.come hM h0 (show r≤1000 by omega) hr win
 rw[vN rfl]at k
 refine az fun N hN=>?_
 simp only[aD,ck,ap,v3,lk]
 refine A.ins ⟨vR,?_⟩
 refine fO GL A hr (by have:=win.2.2.2.2.1;omega) (k.x .refl (fun _ _ h=>h) (fun h=>Wl.Ga h) fun hr1 S1 A1 O1=>?_)
 rw[Wl.FV hr1]at k
 have Jx:=(wc.2 hr1).weak
 generalize w.come M r=w1 at k A1 hr1 Jx
 refine hN _ _ ?_
 simp only[dh,bO,v3,lk]
 obtain⟨F,hF⟩:∃F:PV→Wl→Wl,F=fun g w=>iter (fun w=>(wk M js b (r+1) (bE g) w).go (Wl.come M r)) (nm (cv g)).toNat w:=⟨_,rfl⟩
 have Oc:∀y w,w.run=false→(fun w=>(wk M js b (r+1) y w).go (Wl.come M r)) w=w:=fun y w h=>by show(wk M js b (r+1) y w).go _=w;rw[jQ h,Wl.Ga h]
 have Pi:∀g w,w.run=false→F g w=w:=fun g w h=>by rw[hF];exact j5 (Oc _) _ w h
 have k':Out o ps js M S (gs.foldl (fun w g=>F g w) w1) Q E:=by rw[hF];exact k
 refine cD (fun done σ S'=>∃(x4 x5:Option PV),σ=[some (.ref o),some (Bd.Gn b).pv,some (.tup gs),some (.int r),x4,x5]∧HG S' o ps js M (done.foldl (fun w g=>F g w) w1)∧(done.foldl (fun w g=>F g w) w1).run=true∧Hh js.length M 0 (done.foldl (fun w g=>F g w) w1)∧Gr o ps S S') ⟨_,_,rfl,A1,hr1,Jx,O1⟩ (fun _ _ _ _=>trivial) ?_ ?_
 ·rintro done g rest σ S2 K e ⟨x4,x5,rfl,A2,hr2,Kt,O2⟩ hK
  have e':gs=done++g::rest:=e
  obtain⟨m,y,rfl,hm,hy⟩:=fc (hgs g (by rw[e'];simp))
  have IQ:=aT (aT hib _ (show PV.tup [.int m,y]∈gs by rw[e'];simp))
  have hm2:m.natAbs≤2 ^ 60:=by have:=IQ (.int m) (by simp);simpa [bS]using this
  have k2:Out o ps js M S (rest.foldl (fun w g=>F g w) (F (.tup [.int m,y]) (done.foldl (fun w g=>F g w) w1))) Q E:=by
   rw[e',List.foldl_append,List.foldl_cons]at k';exact k'
  simp only[qI]at hK
  generalize done.foldl (fun w g=>F g w) w1=w2 at A2 Kt hK hr2 k2
  obtain⟨f,hf⟩:∃f:Wl→Wl,f=fun w=>(wk M js b (r+1) y w).go (Wl.come M r):=⟨_,rfl⟩
  have Pj:F (.tup [.int m,y]) w2=iter f m.toNat w2:=by rw[hF,hf];rfl
  have Nn:∀w,w.run=false→f w=w:=fun w h=>by rw[hf];exact Oc y w h
  rw[Pj]at hK k2
  simp only[Tg.put,List.set_cons_succ,List.set_cons_zero]
  simp only[dh,fk,ah,v3,lk,c3,af,eP]
  refine⟨by omega,by omega,?_⟩
  refine cD (fun dn σ S'=>∃(x5:Option PV),σ=[some (.ref o),some (Bd.Gn b).pv,some (.tup gs),some (.int r),some (.tup [.int m,y]),x5]∧dn.length≤m.toNat∧HG S' o ps js M (iter f dn.length w2)∧(iter f dn.length w2).run=true∧Hh js.length M 0 (iter f dn.length w2)∧Gr o ps S S') ⟨_,rfl,Nat.zero_le _,A2,hr2,Kt,O2⟩ (fun _ _ _ _=>trivial) ?_ ?_
  ·rintro dn u rs σ S3 K2 e2 ⟨x5,rfl,hdn,A3,Ls,J_,O3⟩ No
   obtain⟨rfl,hi⟩:=ip e2
   simp only[List.length_append,List.length_singleton,jz]at No
   have stop:∀w',w'.run=false→f (iter f dn.length w2)=w'→rest.foldl (fun w g=>F g w) (iter f m.toNat w2)=w':=fun w' h e=>by
    rw[show m.toNat=(dn.length+1)+(m.toNat - (dn.length+1)) by omega,oX,jz,e,j5 Nn _ w' h]
    exact nF Pi rest w' h
   generalize iter f dn.length w2=w3 at A3 J_ No Ls stop
   simp only[Tg.put,List.set_cons_succ,List.set_cons_zero]
   refine az fun N2 Je=>?_
   simp only[Bd.pv,aD,aG,ap,ah,v3,lk,c3,af,fJ,aS]
   refine ih A3 Ls J_ hM hn hj (by omega) hsz hg hy (IQ _ (by simp)) (by omega) (by omega) (k2.x O3 (fun _ _ h=>h) (fun h=>stop _ h (by rw[hf];exact Wl.Ga h)) fun L_ S4 A4 O4=>?_)
   have Ma:=Hh.wk hM b (r+1) y w3 hg (by omega) (by omega) J_
   refine Je _ _ ?_
   simp only[aD,ck,ap,v3,lk]
   have e4:f w3=(wk M js b (r+1) y w3).come M r:=by rw[hf];exact Wl.FV L_
   refine A4.ins ⟨vR,?_⟩
   refine fO GL A4 L_ (by have:=Ma.2.2.2.2.1;omega) (k2.x (O3.trans O4) (fun _ _ h=>h) (fun h=>stop _ h e4) fun Nf S5 A5 O5=>?_)
   exact No _ _ ⟨_,rfl,hi,by rw[e4];exact A5,by rw[e4];exact Nf,by rw[e4];exact(Hh.come hM h0 (by omega) L_ Ma).1,(O3.trans O4).trans O5⟩
  ·rintro σ S3 ⟨x5,rfl,hdn,A3,Ls,J_,O3⟩
   rw[cF]at A3 Ls J_
   exact hK _ _ ⟨_,_,rfl,A3,Ls,J_,O3⟩
 ·rintro σ S2 ⟨x4,x5,rfl,A2,hr2,Kt,O2⟩
  exact k'.1 hr2 S2 A2 O2
abbrev oY(x:aw):Prop:=∀{S:ar} {o:Addr} {js:List Str} {M:Nat} {cs:List Int} {Q:bB} {E:bH},S o=some (.ins "Doing" [])→(∀ps S',S ps=none→HG S' o ps js M (w0 cs)→(∀b u,S b=some u→b≠o→S' b=some u)→Q .non S')→x [.ref o,fN js,.tup (cs.map PV.int),.int M] S Q E
theorem Jj:oY (bn 4 cq):=by
 intro S o js M cs Q E h k
 unfold cq
 refine fI ?_
 rw[show av 4 [PV.ref o,fN js,PV.tup (cs.map PV.int),PV.int M]=[some (.ref o),some (fN js),some (.tup (cs.map PV.int)),some (.int M)] from rfl]
 refine az fun N hN=>?_
 simp only[dk,v3,lk,jb,h]
 refine⟨trivial,by decide,hN _ _ (az fun N hN=>?_)⟩
 simp only[dk,v3,lk,jb,FC,iU]
 refine⟨trivial,by show 1 < 1000;decide,hN _ _ (az fun N hN=>?_)⟩
 simp only[dk,v3,lk,jb,FC,iU]
 refine⟨trivial,by show 2 < 1000;decide,hN _ _ (az fun N hN=>?_)⟩
 simp only[dk,v3,lk,jb,FC,iU,aI,ap,c3]
 refine⟨trivial,by show 3 < 1000;decide,hN _ _ ?_⟩
 simp only[dk,v3,lk,c_,ap]
 intro p hp
 have Mb:p≠o:=fun e=>by rw[e,FC]at hp;cases hp
 rw[al Mb]at hp
 simp only[jb,al Mb.symm,FC]
 refine⟨trivial,by show 4 < 1000;decide,?_⟩
 have e:dG (Str.ofString "seen") (.ref p) (dG (Str.ofString "cost") (.tup [.int 0,.int 1]) (dG (Str.ofString "most") (.int M) (dG (Str.ofString "jars") (.tup (cs.map PV.int)) (dG (Str.ofString "names") (fN js) []))))=dF js M (w0 cs) p:=by
  simp[dG,dF,am,w0,j4]
 rw[e]
 refine k p _ hp ⟨FC,by rw[al Mb,FC];rfl⟩ fun b u hb Od=>?_
 have Np:b≠p:=fun e=>by rw[e,hp]at hb;cases hb
 rw[al Od,al Np,al Od];exact hb
abbrev d_(x:aw):Prop:=∀{S:ar} {js:List Str} {ds:List (Str×Bd)} {cs:List Int} {i M:Nat} {z:Str} {t:Bd} {v:PV} {Q:bB} {E:bH},ds[i]?=some (z,t)→Hh js.length M 0 (w0 cs)→M≤2001→js.Nodup→js.length≤1000→t.dep≤6→t.size≤900→t.good js []→aN t v=true→bS (2 ^ 60) v=true→
 ((whole M js t v (w0 cs)).run=true→∀p S',S p=none→S' p=some (.lst ((whole M js t v (w0 cs)).rows.map iA))→Ext S S'→Q (.ref p) S')→((whole M js t v (w0 cs)).ov=true→∀S',Ext S S'→E (nE M) [] S')→(∀r,(whole M js t v (w0 cs)).st=some r→(whole M js t v (w0 cs)).ov=false→∀S',Ext S S'→E (j6 r) [] S')→x [nv js ds,.tup (cs.map PV.int),.int i,v,.int M] S Q E
theorem Gb{xi xg xc xr:aw}(Jj:oY xi)(Ks:jx 6 xg)(GL:cw xc)(HA:dr 6 xr):d_ (dj 7 (qw xi xg xc xr)):=by
 intro S js ds cs i M z t v Q E hi win hM hn hj hd hsz hg htr hib k1 k2 k3
 have hrw:t.rows≤1000:=by have:=t.HY;omega
 unfold qw
 refine yM ?_
 rw[show av 7 [nv js ds,PV.tup (cs.map PV.int),PV.int i,v,PV.int M]=[some (nv js ds),some (.tup (cs.map PV.int)),some (.int i),some v,some (.int M),none,none] from rfl]
 refine az fun N hN=>?_
 rw[show nv js ds = .tup [fN js,.tup (ds.map oQ)] from rfl]
 simp only[aC,ah,v3,lk,c3,af,fJ]
 rw[bC (v:=oQ (z,t)) (by rw[List.getElem?_map,hi];rfl)]
 unfold oQ
 simp only[fJ,List.set_cons_succ,List.set_cons_zero]
 refine hN _ _ (az fun N hN=>?_)
 simp only[aC,vo,ap,ah,v3,lk,c3,af,eP]
 intro o ho
 refine Jj FC fun ps S1 hps A1 O1=>?_
 have Mb:ps≠o:=fun e=>by rw[e,FC]at hps;cases hps
 rw[al Mb]at hps
 have X1:Ext S S1:=fun b u h=>by
  have hb:b≠o:=fun e=>by rw[e,ho]at h;cases h
  exact O1 b u (by rw[al hb];exact h) hb
 have Nr:∀{S'},Gr o ps S1 S'→Ext S S':=fun O b u h=>O b u (X1 b u h) (fun e=>by rw[e,ho]at h;cases h) (fun e=>by rw[e,hps]at h;cases h)
 have K:Out o ps js M S1 (whole M js t v (w0 cs)) (fun _ S'=>Q (.ref ps) S') E:=⟨fun h S' A O=>k1 h ps S' hps A.s (Nr O),fun h S' O=>k2 h S' (Nr O),fun r h h' S' O=>k3 r h h' S' (Nr O)⟩
 refine⟨rfl,hN _ _ (az fun N hN=>?_)⟩
 simp only[List.set_cons_succ,List.set_cons_zero,aD,aG,ap,v3,lk,c3]
 refine Ks A1 rfl win hM hn hj hd hsz hg htr hib (by decide) (by omega) (K.x .refl (fun _ _ h=>h) (fun h=>dJ h) fun hr2 S2 A2 O2=>?_)
 have Kt:=Hh.wk hM t 0 v (w0 cs) hg (by decide) (by omega) win
 refine hN _ _ (az fun N hN=>?_)
 simp only[aD,ck,ae,ap,v3,lk]
 refine A2.ins ⟨vR,?_⟩
 refine HA hd hsz fun S3 X3=>?_
 refine fO GL (A2.ext X3) hr2 (by have:=Kt.2.2.2.2.1;omega) (K.x (O2.trans (.ext X3)) (fun _ _ h=>h) (fun _=>rfl) fun L_ S4 A4 O4=>?_)
 refine hN _ _ ?_
 simp only[aF,d6,v3,lk]
 refine A4.ins ?_
 simp only[qK]
 exact K.1 L_ S4 A4 ((O2.trans (.ext X3)).trans O4)
theorem Sh.t{S:ar}{i:Int}(h:i.natAbs < 2 ^ 64):Sh S (.int i) (.int i) 65 0:=by
 have hl:i.natAbs.log2 < 64:=by
  by_cases h0:i.natAbs=0
  ·rw[h0];decide
  ·exact(Nat.log2_lt h0).mpr h
 exact⟨.int i,by simp[PyData.canLay0],by simpa [PyData.showable]using mr h,by simp[PyData.depth],by rw[PyData.shown_int,PySem.ofString_length];exact PySem.int_text_length_le (k:=64) (by decide) hl⟩
theorem Sh.lst{S:ar}{a:Addr}{n k:Nat}{vs:List PV}{ds:List PyData}(h:S a=some (.lst vs))(b:Ju S vs ds n k):Sh S (.ref a) (.list ds) (n+3) (k+1):=
 ⟨.ref h b.dat,by simp[PyData.canLay0,b.lay],by simp[PyData.showable,b.Ln],by simp only[PyData.depth];exact Nat.succ_le_succ b.dep,by
  rw[PyData.shown_list,strLen_append,strLen_append]
  have e1:((("[":String):Str)).length=1:=rfl
  have e3:((("]":String):Str)).length=1:=rfl
  have q:=b.len
  rcases ds with _|⟨d,ds⟩
  ·have:(Str.join ", " (PyData.shownAll [])).length=0:=by simp[PyData.shownAll];rfl
   omega
  ·have:=join_length_add (PyData.shownAll (d::ds)) (by simp[PyData.shownAll])
   omega⟩
noncomputable def EA(q:Int×List Int×Int):PyData:=.tuple [.int q.1,.tuple (q.2.1.map PyData.int),.tuple [.int (M3.bu q.2.2 2520),.int (M3.aZ q.2.2 2520)]]
theorem Sh.row{S:ar}{n:Nat}{q:Int×List Int×Int}(hn:n≤8)(h:vL n q):Sh S (iA q) (EA q) 1000 4:=by
 obtain⟨⟨a1,a2⟩,b,c,d1,d2⟩:=h
 have lt:∀i:Int,-(2 ^ 40)≤i→i≤2 ^ 40→i.natAbs < 2 ^ 64:=fun i h1 h2=>by omega
 have b0:=dU q.2.2
 have cc:Sh S (cf q.2.2) (.tuple [.int (M3.bu q.2.2 2520),.int (M3.aZ q.2.2 2520)]) 140 2:=
  (Sh.tup (((Sh.t (lt _ (by have:=gf d1;omega) (CN d1 d2))).le (Nat.le_refl _) (Nat.zero_le 1)).cons (((Sh.t (S:=S) (lt _ (by omega) (by omega))).le (Nat.le_refl _) (Nat.zero_le 1)).cons (.L5 _)))).le (by decide) (by decide)
 have jj:Sh S (.tup (q.2.1.map PV.int)) (.tuple (q.2.1.map PyData.int)) 600 2:=
  (Sh.tup (Ju.map PV.int PyData.int (n:=65) (k:=1) fun x hx=>(Sh.t (lt _ (c x hx).1 (c x hx).2)).le (Nat.le_refl _) (Nat.zero_le _))).le (by omega) (by decide)
 exact(Sh.tup (((Sh.t (lt _ (by omega) (by omega))).le (Nat.le_refl _) (Nat.zero_le 3)).cons ((jj.le (Nat.le_refl _) (by decide)).cons ((cc.le (Nat.le_refl _) (by decide)).cons (.L5 _))))).le (by decide) (by decide)
theorem Sh.rows{S:ar}{n M:Nat}{e:Int}{w:Wl}{a:Addr}(hn:n≤8)(hM:M≤2001)(h:Hh n M e w)(ha:S a=some (.lst (w.rows.map iA))):Sh S (.ref a) (.list (w.rows.map EA)) 2100000 5:=
 (Sh.lst ha (Ju.map iA EA fun q hq=>Sh.row hn (h.2.2.2.2.2 q hq))).le (by have:=h.2.2.2.2.1;have:w.rows.length * (1000+2)≤2001 * 1002:=Nat.mul_le_mul_right _ (by omega);omega) (by decide)
noncomputable def cm(r:Int)(w:Wl):Wl:={ w with rows:=w.rows++[(r,w.FG,w.cost)] }
noncomputable def fw(js:List Str):Bd→Int→PV→Wl→Wl
 | .rest,_,_,w=>w
 | .pay x y,r,_,w=>(cm r w).pay (x * (2520 / y))
 | .put z m,r,_,w=>(cm r w).FH js z m
 | .use _,r,_,w=>cm r w
 | .FI a b,r,v,w=>fw js b (r+a.rows) (bE v) (fw js a r (cv v) w)
 | .Gx a b,r,v,w=>if nm (cv v)=0 then fw js a (r+1) (bE v) (cm r w) else fw js b (r+1+a.rows) (bE v) (cm r w)
 | .GJ z m a b,r,v,w=>if nm (cv v)=0 then fw js a (r+1) (bE v) ((cm r w).FH js z (-m)) else fw js b (r+1+a.rows) (bE v) (cm r w)
 | .Gn a,r,v,w=>(Bs v).foldl (fun w g=>iter (fun w=>cm r (fw js a (r+1) (bE g) w)) (nm (cv g)).toNat w) (cm r w)
noncomputable def cQ:Bd→PV→Nat
 | .rest,_=>0
 | .pay _ _,_=>1
 | .put _ _,_=>2
 | .use _,_=>1
 | .FI a b,v=>cQ a (cv v)+cQ b (bE v)
 | .Gx a b,v=>(if nm (cv v)=0 then cQ a (bE v) else cQ b (bE v))+1
 | .GJ _ _ a b,v=>(if nm (cv v)=0 then cQ a (bE v) else cQ b (bE v))+2
 | .Gn a,v=>(Bs v).foldl (fun k g=>k+(nm (cv g)).toNat * (cQ a (bE g)+1)) 0+1
noncomputable def eV(J:List Int)(l:List (Int×Int)):List Int:=List.zipWith (fun c p=>c+p.1) J l
noncomputable def Dm:List Int→List (Int×Int)→Prop
 |c::J,p::l=>p.2≤c∧Dm J l
 |_,_=>True
theorem mx:∀(J:List Int) (a b:List (Int×Int)),eV (eV J a) b=eV J (List.zipWith jn a b)
 |[],_,_=>rfl
 |_::_,[],_=>rfl
 |_::_,_::_,[]=>rfl
 |c::J,p::a,q::b=>by
  show(c+p.1+q.1)::eV (eV J a) b=(c+(p.1+q.1))::eV J (List.zipWith jn a b)
  rw[mx J a b,Int.add_assoc]
theorem rX:∀{J:List Int} {a b:List (Int×Int)},J.length=a.length→a.length=b.length→(Dm J (List.zipWith jn a b)↔Dm J a∧Dm (eV J a) b)
 |[],_,_,_,_=>by simp[Dm,eV]
 |_::_,[],_,h,_=>by cases h
 |_::_,_::_,[],_,h=>by cases h
 |c::J,p::a,q::b,h1,h2=>by
  have ih:=rX (J:=J) (a:=a) (b:=b) (by simpa using h1) (by simpa using h2)
  show(jn p q).2≤c∧Dm J (List.zipWith jn a b)↔(p.2≤c∧Dm J a)∧(q.2≤c+p.1∧Dm (eV J a) b)
  have e:(jn p q).2≤c↔p.2≤c∧q.2≤c+p.1:=by simp only[jn];split<;>omega
  rw[ih,e]
  exact⟨fun⟨⟨a,b⟩,c,d⟩=>⟨⟨a,c⟩,b,d⟩,fun⟨⟨a,c⟩,b,d⟩=>⟨⟨a,b⟩,c,d⟩⟩
theorem rY:∀{J:List Int} {l:List (Int×Int)},(∀c∈J,0≤c)→(∀p∈l,p.2≤0)→Dm J l
 |[],_,_,_=>by simp[Dm]
 |_::_,[],_,_=>by simp[Dm]
 |c::J,p::l,h,g=>⟨Int.le_trans (g p (by simp)) (h c (by simp)),rY (fun c hc=>h c (by simp[hc])) fun p hp=>g p (by simp[hp])⟩
theorem j7:∀{J:List Int} {js:List Str},J.length=js.length→eV J (zl js)=J
 |[],_,_=>rfl
 |_::_,[],h=>by cases h
 |c::J,j::js,h=>by
  show(c+0)::eV J (zl js)=c::J
  rw[j7 (by simpa using h),Int.add_zero]
theorem vU{J:List Int}{l:List (Int×Int)}(h:J.length=l.length):(eV J l).length=J.length:=by unfold eV;rw[List.length_zipWith,h,Nat.min_self]
theorem nG{z:Str}{e d:Int}:∀{js:List Str},z ∉ js→jX js z e d=zl js
 |[],_=>rfl
 |j::js,h=>by
  rw[List.mem_cons,not_or]at h
  show(if j=z then (e,d) else (0,0))::jX js z e d=(0,0)::zl js
  rw[if_neg (Ne.symm h.1),nG h.2]
theorem lh{z:Str}{e d:Int}:∀{js:List Str} {J:List Int},js.Nodup→J.length=js.length→z∈js→eV J (jX js z e d)=J.set (js.idxOf z) (J.getD (js.idxOf z) 0+e)
 |[],_,_,_,h=>by simp at h
 |_::_,[],_,h,_=>by cases h
 |j::js,c::J,hn,hl,hz=>by
  have hn':=List.nodup_cons.mp hn
  rw[List.idxOf_cons]
  show(c+(if j=z then (e,d) else (0,0)).1)::eV J (jX js z e d)=_
  by_cases q:j=z
  ·subst q
   rw[if_pos rfl,nG hn'.1,j7 (by simpa using hl)]
   simp
  ·have e2:(j == z)=false:=by simpa using q
   have hz':z∈js:=by simpa [Ne.symm q]using hz
   rw[if_neg q,e2,lh hn'.2 (by simpa using hl) hz']
   simp
theorem qL{z:Str}{e m:Int}:∀{js:List Str} {J:List Int},js.Nodup→J.length=js.length→z∈js→(∀c∈J,0≤c)→(Dm J (jX js z e m)↔¬J.getD (js.idxOf z) 0 < m)
 |[],_,_,_,h,_=>by simp at h
 |_::_,[],_,h,_,_=>by cases h
 |j::js,c::J,hn,hl,hz,h0=>by
  have hn':=List.nodup_cons.mp hn
  have hJ:∀c∈J,0≤c:=fun c hc=>h0 c (by simp[hc])
  rw[List.idxOf_cons]
  show((if j=z then (e,m) else (0,0)).2≤c∧Dm J (jX js z e m))↔_
  by_cases q:j=z
  ·subst q
   rw[if_pos rfl,nG hn'.1]
   have:Dm J (zl js):=rY hJ fun p hp=>by obtain⟨_,_,rfl⟩:=List.mem_map.mp hp;exact Int.le_refl _
   simp[this]
  ·have e2:(j == z)=false:=by simpa using q
   have hz':z∈js:=by simpa [Ne.symm q]using hz
   rw[if_neg q,e2,qL hn'.2 (by simpa using hl) hz' hJ]
   have:=h0 c (by simp)
   simp[this]
structure Gd (js:List Str) (M:Nat) (f g:Wl→Wl) (T:Ty) (n:Nat):Prop where
 no:∀w,w.run=false→f w=w
 yes:∀w,w.run=true→w.FG.length=js.length→(∀c∈w.FG,0≤c)→w.rows.length+n≤M→Dm w.FG T.2→f w=g w∧∀c∈(g w).FG,0≤c
 st:∀w,w.run=true→w.FG.length=js.length→(∀c∈w.FG,0≤c)→w.rows.length+n≤M→¬Dm w.FG T.2→(f w).ov=false∧∃r,(f w).st=some r
 jr:∀w,w.FG.length=js.length→(g w).FG=eV w.FG T.2
 co:∀w,(g w).cost=w.cost+T.1
 rl:∀w,(g w).rows.length≤w.rows.length+n
 rn:∀w,(g w).run=w.run
 ok:T.Ok js
 bd:Ty.Jo (9 * n) (0,T.2)
section
variable {js:List Str} {M:Nat} {f g f1 g1 f2 g2:Wl→Wl} {T T1 T2:Ty} {n n1 n2:Nat}
theorem Gd.jl(a:Gd js M f g T n){w:Wl}(h:w.FG.length=js.length):(g w).FG.length=js.length:=by rw[a.jr w h,vU (by rw[h,a.ok.1]),h]
theorem Gd.comp(a:Gd js M f1 g1 T1 n1)(b:Gd js M f2 g2 T2 n2):Gd js M (fun w=>f2 (f1 w)) (fun w=>g2 (g1 w)) (T1.join T2) (n1+n2):=by
 have key:∀w:Wl,w.FG.length=js.length→(Dm w.FG (T1.join T2).2↔Dm w.FG T1.2∧Dm (g1 w).FG T2.2):=fun w h=>by
  rw[a.jr w h]
  exact rX (by rw[h,a.ok.1]) (by rw[a.ok.1,b.ok.1])
 refine⟨fun w h=>by show f2 (f1 w)=w;rw[a.no w h,b.no w h],fun w h1 h2 h3 h4 h5=>?_,fun w h1 h2 h3 h4 h5=>?_,fun w h=>?_,fun w=>?_,fun w=>?_,fun w=>?_,a.ok.join b.ok,?_⟩
 ·obtain⟨d1,d2⟩:=(key w h2).mp h5
  obtain⟨e1,p1⟩:=a.yes w h1 h2 h3 (by omega) d1
  have:=a.rl w
  show f2 (f1 w)=_∧_
  rw[e1]
  exact b.yes _ (by rw[a.rn];exact h1) (a.jl h2) p1 (by omega) d2
 ·by_cases d1:Dm w.FG T1.2
  ·obtain⟨e1,p1⟩:=a.yes w h1 h2 h3 (by omega) d1
   have:=a.rl w
   show(f2 (f1 w)).ov=_∧∃r,(f2 (f1 w)).st=some r
   rw[e1]
   exact b.st _ (by rw[a.rn];exact h1) (a.jl h2) p1 (by omega) fun d2=>h5 ((key w h2).mpr ⟨d1,d2⟩)
  ·obtain⟨o,r,s⟩:=a.st w h1 h2 h3 (by omega) d1
   show(f2 (f1 w)).ov=_∧∃r,(f2 (f1 w)).st=some r
   rw[b.no _ (gW s)]
   exact⟨o,r,s⟩
 ·show(g2 (g1 w)).FG=_
  rw[b.jr _ (a.jl h),a.jr w h]
  exact mx _ _ _
 ·show(g2 (g1 w)).cost=_
  rw[b.co,a.co]
  exact Int.add_assoc _ _ _
 ·have:=a.rl w
  have:=b.rl (g1 w)
  show(g2 (g1 w)).rows.length≤_
  omega
 ·show(g2 (g1 w)).run=_
  rw[b.rn,a.rn]
 ·have:=Ty.Jo.join a.bd b.bd (by omega) (by omega)
  rw[show(9 * ((n1+n2:Nat):Int))=9 * n1+9 * n2 by omega]
  exact this
theorem Gd.cast{m:Nat}(a:Gd js M f g T n)(h:n=m):Gd js M f g T m:=h▸a
theorem Gd.ef(a:Gd js M f1 g T n)(h:∀w,f w=f1 w):Gd js M f g T n:=by rw[show f=f1 from funext h];exact a
theorem yN{x:Int}{B:Int}(h:0≤B):Ty.Jo B (0,(x,zl js).2):=AR h h
theorem yO{J:List Int}(h:∀c∈J,0≤c):Dm J (zl js):=rY h fun p hp=>by obtain⟨_,_,rfl⟩:=List.mem_map.mp hp;exact Int.le_refl _
theorem Gd.id:Gd js M (fun w=>w) (fun w=>w) (z0 js) 0:=⟨fun _ _=>rfl,fun w _ _ h _ _=>⟨rfl,h⟩,fun w _ _ h _ d=>absurd (yO h) d,fun w h=>(j7 h).symm,fun w=>(Int.add_zero _).symm,fun w=>Nat.le_refl _,fun _=>rfl,iw js,yN (by omega)⟩
theorem Gd.pay{x:Int}(h:0≤x):Gd js M (fun w=>w.go (Wl.pay x)) (Wl.pay x) (x,zl js) 0:=⟨fun _ h=>Wl.Ga h,fun w h1 _ h _ _=>⟨Wl.FV h1,h⟩,fun w _ _ h _ d=>absurd (yO h) d,fun w h=>(j7 h).symm,fun w=>rfl,fun w=>Nat.le_refl _,fun _=>rfl,⟨(iw js).1,h,(iw js).2.2⟩,yN (by omega)⟩
theorem oZ{J:List Int}{i:Nat}{x:Int}(h:∀c∈J,0≤c)(hx:0≤x):∀c∈J.set i x,0≤c:=fun c hc=>by
 rcases List.mem_or_eq_of_mem_set hc with hc|rfl
 ·exact h c hc
 ·exact hx
theorem Gd.put{z:Str}{m:Int}(hn:js.Nodup)(hz:z∈js)(m1:1≤m)(m2:m≤9):Gd js M (fun w=>w.go (Wl.FH js z m)) (Wl.FH js z m) (0,jX js z m 0) 1:=⟨fun _ h=>Wl.Ga h,fun w h1 h2 h _ _=>⟨Wl.FV h1,oZ h (by
  have:=h _ (getD_mem (xs:=w.FG) (i:=js.idxOf z) (by rw[h2];exact(d9 hz).2.2));omega)⟩,fun w _ _ h _ d=>absurd (rY h fun p hp=>by
   obtain⟨j,_,rfl⟩:=List.mem_map.mp hp
   split<;>exact Int.le_refl _) d,fun w h=>(lh hn h hz).symm,fun w=>(Int.add_zero _).symm,fun w=>Nat.le_succ _,fun _=>rfl,k7 (Int.le_refl _),rQ (by omega) (by omega) (by omega) (by omega)⟩
theorem Gd.take{z:Str}{m r:Int}(hn:js.Nodup)(hz:z∈js)(m1:1≤m)(m2:m≤9):Gd js M (fun w=>w.go fun w=>if w.FG.getD (js.idxOf z) 0 < m then { w.FH js z (-m)with st:=some r } else w.FH js z (-m)) (Wl.FH js z (-m)) (0,jX js z (-m) m) 1:=⟨fun _ h=>Wl.Ga h,fun w h1 h2 h _ d=>by
  have d:=(qL hn h2 hz h).mp d
  exact⟨by show w.go _=_;rw[Wl.FV h1,if_neg d],oZ h (by omega)⟩,fun w h1 h2 h _ d=>by
  have d:=Classical.not_not.mp (fun k=>d ((qL hn h2 hz h).mpr k))
  show(w.go _).ov=_∧∃r,(w.go _).st=some r
  rw[Wl.FV h1,if_pos d]
  exact⟨(Iu.mp h1).2,r,rfl⟩,fun w h=>(lh hn h hz).symm,fun w=>(Int.add_zero _).symm,fun w=>Nat.le_succ _,fun _=>rfl,k7 (by omega),rQ (by omega) (by omega) (by omega) (by omega)⟩
theorem nH{r:Int}{w:Wl}(h1:w.run=true)(h2:w.rows.length+1≤M):w.come M r=cm r w:=by rw[cG h1,if_neg (by omega)];rfl
theorem nI{r:Int}{w:Wl}:(cm r w).rows.length=w.rows.length+1:=by unfold cm;dsimp only;rw[List.length_append];rfl
theorem vV(a:Ty.Jo (9 * (n:Int)) (0,T.2)):Ty.Jo (9 * ((n+1:Nat):Int)) (0,T.2):=Ty.Jo.mono a (by omega)
theorem Gd.pre(a:Gd js M f g T n)(r:Int):Gd js M (fun w=>f (w.come M r)) (fun w=>g (cm r w)) T (n+1):=by
 refine⟨fun w h=>by show f (w.come M r)=w;rw[dJ h,a.no w h],fun w h1 h2 h3 h4 h5=>?_,fun w h1 h2 h3 h4 h5=>?_,fun w h=>a.jr _ h,fun w=>a.co _,fun w=>?_,fun w=>a.rn _,a.ok,vV a.bd⟩
 ·show f (w.come M r)=_∧_
  rw[nH h1 (by omega)]
  exact a.yes (cm r w) h1 h2 h3 (by rw[nI];omega) h5
 ·show(f (w.come M r)).ov=_∧∃r',(f (w.come M r)).st=some r'
  rw[nH h1 (by omega)]
  exact a.st (cm r w) h1 h2 h3 (by rw[nI];omega) h5
 ·have:=a.rl (cm r w)
  rw[nI]at this
  omega
theorem Gd.post(a:Gd js M f g T n)(r:Int):Gd js M (fun w=>(f w).come M r) (fun w=>cm r (g w)) T (n+1):=by
 refine⟨fun w h=>by show(f w).come M r=w;rw[a.no w h,dJ h],fun w h1 h2 h3 h4 h5=>?_,fun w h1 h2 h3 h4 h5=>?_,fun w h=>a.jr _ h,fun w=>a.co _,fun w=>?_,fun w=>a.rn _,a.ok,vV a.bd⟩
 ·obtain⟨e,p⟩:=a.yes w h1 h2 h3 (by omega) h5
  have:=a.rl w
  show(f w).come M r=_∧_
  rw[e,nH (by rw[a.rn];exact h1) (by omega)]
  exact⟨rfl,p⟩
 ·obtain⟨o,r',s⟩:=a.st w h1 h2 h3 (by omega) h5
  show((f w).come M r).ov=_∧∃r',((f w).come M r).st=some r'
  rw[dJ (gW s)]
  exact⟨o,r',s⟩
 ·have:=a.rl w
  show(cm r (g w)).rows.length≤_
  rw[nI]
  omega
theorem Gd.up(a:Gd js M f g T n):Gd js M f g T (n+1):=⟨a.no,fun w h1 h2 h3 h4 h5=>a.yes w h1 h2 h3 (by omega) h5,fun w h1 h2 h3 h4 h5=>a.st w h1 h2 h3 (by omega) h5,a.jr,a.co,fun w=>Nat.le_succ_of_le (a.rl w),a.rn,a.ok,vV a.bd⟩
theorem jA(h:T.Ok js):T.again 1=T:=by rw[←Ty.ID (by decide),Ty.Kr h]
theorem li(h:T.Ok js)(k:Nat):T.again ((k+1+1:Nat):Int)=T.join (T.again ((k+1:Nat):Int)):=by
 have:=Ty.Jg (a:=1) (b:=((k+1:Nat):Int)) (by decide) (by omega) h
 rw[Ty.Kr h,Ty.ID (by omega),show(1:Int)+((k+1:Nat):Int)=((k+1+1:Nat):Int) by omega,Ty.ID (by omega)]at this
 exact this.symm
theorem Gd.iter(a:Gd js M f g T n):∀k:Nat,Gd js M (iter f (k+1)) (iter g (k+1)) (T.again ((k+1:Nat):Int)) ((k+1) * n)
 |0=>by
  rw[show((0+1:Nat):Int)=1 from rfl,jA a.ok,Nat.zero_add,Nat.one_mul]
  exact a
 |k+1=>by
  rw[li a.ok]
  exact(a.comp (a.iter k)).cast (by rw[Nat.succ_mul (k+1),Nat.add_comm])
theorem Gd.fold{F G:PV→Wl→Wl}{TT:PV→Ty}{nn:PV→Nat}:∀(l:List PV) {f g:Wl→Wl} {T:Ty} {n:Nat},Gd js M f g T n→(∀x∈l,Gd js M (F x) (G x) (TT x) (nn x))→Gd js M (fun w=>l.foldl (fun w x=>F x w) (f w)) (fun w=>l.foldl (fun w x=>G x w) (g w)) ((l.map TT).foldl Ty.join T) (l.foldl (fun k x=>k+nn x) n)
 |[],_,_,_,_,a,_=>a
 |x::l,_,_,_,_,a,h=>Gd.fold l (a.comp (h x (by simp))) fun y hy=>h y (by simp[hy])
end
theorem lj{F:Wl→Wl}(h:∀w,w.run=false→F w=w)(w:Wl):w.go F=F w:=by
 cases hr:w.run with
 |false=>rw[Wl.Ga hr,h w hr]
 |true=>exact Wl.FV hr
theorem vW{js:List Str}{M:Nat}(hn:js.Nodup):∀(t:Bd) (r:Int) (v:PV),t.good js []→aN t v=true→Gd js M (wk M js t r v) (fw js t r v) (t.FY js v) (cQ t v):=by
 intro t
 induction t with
 |rest=>intro r v _ _;exact Gd.id
 |use z=>intro r v g _;exact absurd (show z∈[] from g) (by simp)
 |pay x y=>
  intro r v g _
  have c:oO x y:=g
  exact(Gd.pay (Int.mul_nonneg c.x0 (Int.ediv_nonneg (by decide) (by have:=c.low.pos;omega)))).pre r
 |put z m=>intro r v g _;exact(Gd.put hn g.1 g.2.1 g.2.2).pre r
 |FI a b Hl IG=>
  intro r v g h
  obtain⟨x,y,rfl,hx,hy⟩:=jm h
  exact(Hl r x g.1 hx).comp (IG _ y g.2 hy)
 |Gx a b Hl IG=>
  intro r v g h
  obtain⟨i,y,rfl,hy⟩:=jo h
  rcases hy with⟨rfl,hy⟩|⟨rfl,hy⟩
  ·exact((Hl (r+1) y g.1 hy).pre r).ef fun w=>lj (F:=fun w=>wk M js a (r+1) y w) (fun w h=>jQ h) _
  ·exact((IG (r+1+a.rows) y g.2 hy).pre r).ef fun w=>lj (F:=fun w=>wk M js b (r+1+a.rows) y w) (fun w h=>jQ h) _
 |GJ z m a b Hl IG=>
  intro r v g h
  obtain⟨i,y,rfl,hy⟩:=jp h
  rcases hy with⟨rfl,hy⟩|⟨rfl,hy⟩
  ·refine((((Gd.take (r:=r) hn g.1 g.2.1 g.2.2.1).comp (Hl (r+1) y g.2.2.2.1 hy)).pre r).ef fun w=>?_).cast (by show 1+cQ a y+1=cQ a y+2;omega)
   show(w.come M r).go (fun w=>if w.FG.getD (js.idxOf z) 0 < m then { w.FH js z (-m)with st:=some r } else wk M js a (r+1) y (w.FH js z (-m)))=wk M js a (r+1) y ((w.come M r).go _)
   generalize w.come M r=u
   cases hr:u.run with
   |false=>rw[Wl.Ga hr,Wl.Ga hr,jQ hr]
   |true=>
    rw[Wl.FV hr,Wl.FV hr]
    split
    ·exact(jQ (gW rfl)).symm
    ·rfl
  ·refine(((IG (r+1+a.rows) y g.2.2.2.2 hy).pre r).ef fun w=>lj (F:=fun w=>wk M js b (r+1+a.rows) y w) (fun w h=>jQ h) _).up
 |Gn a Hl=>
  intro r v g h
  obtain⟨xs,rfl,hx⟩:=jq h
  have hF:∀x∈xs,Gd js M (fun w=>iter (fun w=>(wk M js a (r+1) (bE x) w).go (Wl.come M r)) (nm (cv x)).toNat w) (fun w=>iter (fun w=>cm r (fw js a (r+1) (bE x) w)) (nm (cv x)).toNat w) (yd js (fun y=>a.FY js y) x) ((nm (cv x)).toNat * (cQ a (bE x)+1)):=fun x IS=>by
   obtain⟨m,y,rfl,hm,hy⟩:=fc (List.all_eq_true.mp hx x IS)
   obtain⟨k,rfl⟩:∃k:Nat,m=((k+1:Nat):Int):=⟨(m - 1).toNat,by omega⟩
   exact(((Hl (r+1) y g hy).post r).ef fun w=>lj (F:=Wl.come M r) (fun w h=>dJ h) _).iter k
  refine((Gd.fold (F:=fun x w=>iter (fun w=>(wk M js a (r+1) (bE x) w).go (Wl.come M r)) (nm (cv x)).toNat w) (G:=fun x w=>iter (fun w=>cm r (fw js a (r+1) (bE x) w)) (nm (cv x)).toNat w) (nn:=fun x=>(nm (cv x)).toNat * (cQ a (bE x)+1)) xs Gd.id hF).pre r).ef fun w=>?_
  exact lj (F:=fun w=>xs.foldl (fun w x=>iter (fun w=>(wk M js a (r+1) (bE x) w).go (Wl.come M r)) (nm (cv x)).toNat w) w) (fun w h=>nF (F:=fun x w=>iter (fun w=>(wk M js a (r+1) (bE x) w).go (Wl.come M r)) (nm (cv x)).toNat w) (fun x w h=>j5 (f:=fun w=>(wk M js a (r+1) (bE x) w).go (Wl.come M r)) (fun w h=>by rw[jQ h,Wl.Ga h]) _ w h) xs w h) _
noncomputable def cR(J m:List Int):List Int:=List.zipWith (fun c d=>c+d) J m
noncomputable def Bt(m:List Int)(w:Wl):Wl:={ w with FG:=cR w.FG m,rows:=w.rows.map fun q=>(q.1,cR q.2.1 m,q.2.2) }
def HS(js:List Str)(f:Wl→Wl):Prop:=∀m w,m.length=js.length→w.FG.length=js.length→f (Bt m w)=Bt m (f w)∧(f w).FG.length=js.length
theorem HS.comp{js:List Str}{f g:Wl→Wl}(a:HS js f)(b:HS js g):HS js fun w=>g (f w):=fun m w h1 h2=>by
 obtain⟨e,l⟩:=a m w h1 h2
 show g (f (Bt m w))=_∧_
 rw[e]
 exact b m _ h1 l
theorem HS.cm{js:List Str}(r:Int):HS js (cm r):=fun m w _ h2=>⟨by unfold C.cm Bt;dsimp only;rw[List.map_append];rfl,h2⟩
theorem HS.pay{js:List Str}(n:Int):HS js (Wl.pay n):=fun m w _ h2=>⟨rfl,h2⟩
theorem o0{e:Int}:∀{J m:List Int} {i:Nat},m.length=J.length→cR (J.set i (J.getD i 0+e)) m=(cR J m).set i ((cR J m).getD i 0+e)
 |[],m,i,_=>by simp[cR]
 |_::_,[],_,h=>by cases h
 |c::J,d::m,0,_=>by simp only[cR,List.set_cons_zero,List.zipWith_cons_cons,List.getD_cons_zero];rw[Int.add_right_comm]
 |c::J,d::m,i+1,h=>by
  have ih:=o0 (e:=e) (J:=J) (m:=m) (i:=i) (by simpa using h)
  simp only[cR,List.set_cons_succ,List.zipWith_cons_cons,List.getD_cons_succ]at ih ⊢
  rw[ih]
theorem HS.FH{js:List Str}(z:Str)(n:Int):HS js (Wl.FH js z n):=fun m w h1 h2=>⟨by unfold Wl.FH Bt;dsimp only;rw[o0 (by rw[h1,h2])],by unfold Wl.FH;dsimp only;rw[List.length_set];exact h2⟩
theorem HS.iter{js:List Str}{f:Wl→Wl}(a:HS js f):∀n,HS js (iter f n)
 |0=>fun _ _ _ h=>⟨rfl,h⟩
 |n+1=>a.comp (a.iter n)
theorem HS.fold{js:List Str}{F:PV→Wl→Wl}(a:∀x,HS js (F x)):∀l:List PV,HS js fun w=>l.foldl (fun w x=>F x w) w
 |[]=>fun _ _ _ h=>⟨rfl,h⟩
 |x::l=>(a x).comp (HS.fold a l)
theorem yk{js:List Str}:∀(t:Bd) (r:Int) (v:PV),HS js (fw js t r v):=by
 intro t
 induction t with
 |rest=>exact fun _ _ _ _ _ h=>⟨rfl,h⟩
 |use z=>exact fun r _=>HS.cm r
 |pay x y=>exact fun r _=>(HS.cm r).comp (.pay _)
 |put z m=>exact fun r _=>(HS.cm r).comp (.FH z m)
 |FI a b Hl IG=>exact fun r v=>(Hl _ _).comp (IG _ _)
 |Gx a b Hl IG=>
  intro r v
  by_cases h:nm (cv v)=0
  ·have:=(HS.cm r).comp (Hl (r+1) (bE v))
   simpa only [fw,h,if_true]using this
  ·have:=(HS.cm r).comp (IG (r+1+a.rows) (bE v))
   simpa only [fw,h,if_false]using this
 |GJ z m a b Hl IG=>
  intro r v
  by_cases h:nm (cv v)=0
  ·have:=((HS.cm r).comp (.FH z (-m))).comp (Hl (r+1) (bE v))
   simpa only [fw,h,if_true]using this
  ·have:=(HS.cm r).comp (IG (r+1+a.rows) (bE v))
   simpa only [fw,h,if_false]using this
 |Gn a Hl=>exact fun r v=>(HS.cm r).comp (HS.fold (F:=fun g w=>C.iter (fun w=>C.cm r (fw js a (r+1) (bE g) w)) (nm (cv g)).toNat w) (fun g=>((Hl _ _).comp (.cm r)).iter _) _)
noncomputable def lay:Bd→PV→PV
 | .FI a b,v=>.tup [lay a (cv v),lay b (bE v)]
 | .Gx a b,v=>.tup [cv v,if nm (cv v)=0 then lay a (bE v) else lay b (bE v)]
 | .GJ _ _ a b,v=>.tup [cv v,if nm (cv v)=0 then lay a (bE v) else lay b (bE v)]
 | .Gn a,v=>.tup ((Bs v).flatMap fun g=>List.replicate (nm (cv g)).toNat (.tup [.int 1,lay a (bE g)]))
 |_,_=>.tup []
theorem gk{α β:Type}{F G:β→α→β}{R:α→List α}:∀(xs:List α) (b:β),(∀x∈xs,∀b,(R x).foldl F b=G b x)→(xs.flatMap R).foldl F b=xs.foldl G b
 |[],_,_=>rfl
 |x::xs,b,h=>by
  rw[List.flatMap_cons,List.foldl_append,h x (by simp),List.foldl_cons]
  exact gk xs _ fun y hy=>h y (by simp[hy])
theorem ll{α β:Type}{F:β→α→β}{u:α}{G:Nat→β→β}(h0:∀b,G 0 b=b)(h:∀n b,G (n+1) b=G n (F b u)):∀n b,(List.replicate n u).foldl F b=G n b
 |0,b=>(h0 b).symm
 |n+1,b=>by rw[List.replicate_succ,List.foldl_cons,h,ll h0 h n]
theorem qM(t u s:Ty):(t.join u).join s=t.join (u.join s):=by
 unfold Ty.join
 refine Prod.ext (Int.add_assoc _ _ _) ?_
 dsimp only
 have:∀a b c:List (Int×Int),List.zipWith jn (List.zipWith jn a b) c=List.zipWith jn a (List.zipWith jn b c):=fun a=>by
  induction a with
  |nil=>intro b c;rfl
  |cons p a ih=>
   intro b c
   cases b with
   |nil=>rfl
   |cons q b=>
    cases c with
    |nil=>rfl
    |cons s c=>
     rw[List.zipWith_cons_cons,List.zipWith_cons_cons,List.zipWith_cons_cons,List.zipWith_cons_cons,ih]
     congr 1
     simp only[jn]
     refine Prod.ext (Int.add_assoc _ _ _) ?_
     dsimp only
     repeat' split
     all_goals omega
 exact this _ _ _
theorem rZ{js:List Str}{U:Ty}{f:PV→Ty}{u:PV}(o:U.Ok js)(e:f u=U):∀(k:Nat) (T:Ty),(List.replicate (k+1) u).foldl (fun T x=>T.join (f x)) T=T.join (U.again ((k+1:Nat):Int))
 |0,T=>by
  rw[show((0+1:Nat):Int)=1 from rfl,jA o]
  show T.join (f u)=_
  rw[e]
 |k+1,T=>by rw[List.replicate_succ,List.foldl_cons,rZ o e k,e,qM,li o]
structure CP (js:List Str) (t:Bd) (v:PV):Prop where
 tr:aN t (lay t v)=true
 ib:bS (2 ^ 60) v=true→bS (2 ^ 60) (lay t v)=true
 cn:cQ t (lay t v)=cQ t v
 ta:t.FY js (lay t v)=t.FY js v
 fw:∀r,fw js t r (lay t v)=fw js t r v
theorem qN{js:List Str}:∀(t:Bd) (v:PV),t.good js []→aN t v=true→CP js t v:=by
 intro t
 induction t with
 |rest=>intro v _ _;exact⟨rfl,fun _=>rfl,rfl,rfl,fun _=>rfl⟩
 |use z=>intro v g _;exact absurd (show z∈[] from g) (by simp)
 |pay x y=>intro v _ _;exact⟨rfl,fun _=>rfl,rfl,rfl,fun _=>rfl⟩
 |put z m=>intro v _ _;exact⟨rfl,fun _=>rfl,rfl,rfl,fun _=>rfl⟩
 |FI a b Hl IG=>
  intro v g h
  obtain⟨x,y,rfl,hx,hy⟩:=jm h
  have p:=Hl x g.1 hx;have q:=IG y g.2 hy
  refine⟨?_,fun hi=>b9 (p.ib (aT hi x (by simp))) (q.ib (aT hi y (by simp))),?_,?_,fun r=>funext fun w=>?_⟩
  ·show aN (.FI a b) (.tup [lay a x,lay b y])=true
   rw[kR,p.tr,q.tr];rfl
  ·show cQ a (lay a x)+cQ b (lay b y)=cQ a x+cQ b y
   rw[p.cn,q.cn]
  ·show(a.FY js (lay a x)).join (b.FY js (lay b y))=(a.FY js x).join (b.FY js y)
   rw[p.ta,q.ta]
  ·show C.fw js b _ (lay b y) (C.fw js a r (lay a x) w)=C.fw js b _ y (C.fw js a r x w)
   rw[p.fw,q.fw]
 |Gx a b Hl IG=>
  intro v g h
  obtain⟨i,y,rfl,hy⟩:=jo h
  rcases hy with⟨rfl,hy⟩|⟨rfl,hy⟩
  ·have p:=Hl y g.1 hy
   exact⟨p.tr,fun hi=>b9 (show bS (2 ^ 60) (.int 0)=true by decide) (p.ib (aT hi y (by simp))),congrArg (·+1) p.cn,p.ta,fun r=>funext fun w=>by show C.fw js a _ (lay a y) _=C.fw js a _ y _;rw[p.fw]⟩
  ·have p:=IG y g.2 hy
   exact⟨p.tr,fun hi=>b9 (show bS (2 ^ 60) (.int 1)=true by decide) (p.ib (aT hi y (by simp))),congrArg (·+1) p.cn,p.ta,fun r=>funext fun w=>by show C.fw js b _ (lay b y) _=C.fw js b _ y _;rw[p.fw]⟩
 |GJ z m a b Hl IG=>
  intro v g h
  obtain⟨i,y,rfl,hy⟩:=jp h
  rcases hy with⟨rfl,hy⟩|⟨rfl,hy⟩
  ·have p:=Hl y g.2.2.2.1 hy
   exact⟨p.tr,fun hi=>b9 (show bS (2 ^ 60) (.int 0)=true by decide) (p.ib (aT hi y (by simp))),congrArg (·+2) p.cn,congrArg (Ty.join (0,jX js z (-m) m)) p.ta,fun r=>funext fun w=>by show C.fw js a _ (lay a y) _=C.fw js a _ y _;rw[p.fw]⟩
  ·have p:=IG y g.2.2.2.2 hy
   exact⟨p.tr,fun hi=>b9 (show bS (2 ^ 60) (.int 1)=true by decide) (p.ib (aT hi y (by simp))),congrArg (·+2) p.cn,p.ta,fun r=>funext fun w=>by show C.fw js b _ (lay b y) _=C.fw js b _ y _;rw[p.fw]⟩
 |Gn a Hl=>
  intro v g h
  obtain⟨xs,rfl,hx⟩:=jq h
  have each:∀x∈xs,∃(k:Nat) (y:PV),x = .tup [.int ((k+1:Nat):Int),y]∧aN a y=true:=fun x IS=>by
   obtain⟨m,y,rfl,hm,hy⟩:=fc (List.all_eq_true.mp hx x IS)
   exact⟨(m - 1).toNat,y,by rw[show(((m - 1).toNat+1:Nat):Int)=m by omega],hy⟩
  refine⟨?_,fun hi=>oS fun u hu=>?_,congrArg (·+1) ?_,?_,fun r=>funext fun w=>?_⟩
  ·show aN (.Gn a) (.tup _)=true
   rw[kS,List.all_eq_true]
   intro u hu
   obtain⟨x,IS,hu⟩:=List.mem_flatMap.mp hu
   obtain⟨k,y,rfl,hy⟩:=each x IS
   rw[(List.mem_replicate.mp hu).2]
   show(decide (1≤(1:Int))&&aN a (lay a y))=true
   rw[(Hl y g hy).tr];rfl
  ·obtain⟨x,IS,hu⟩:=List.mem_flatMap.mp hu
   obtain⟨k,y,rfl,hy⟩:=each x IS
   rw[(List.mem_replicate.mp hu).2]
   exact b9 (by decide) ((Hl y g hy).ib (aT (aT hi _ IS) y (by simp)))
  ·refine gk xs 0 fun x IS n=>?_
   obtain⟨k,y,rfl,hy⟩:=each x IS
   refine(ll (G:=fun k n=>n+k * (cQ a (lay a y)+1)) (fun n=>by rw[Nat.zero_mul,Nat.add_zero]) (fun k n=>?_) _ _).trans ?_
   ·show n+(k+1) * (cQ a (lay a y)+1)=n+1 * (cQ a (lay a y)+1)+k * (cQ a (lay a y)+1)
    rw[Nat.succ_mul,Nat.one_mul];omega
   ·rw[(Hl y g hy).cn]
    rfl
  ·show((xs.flatMap _).map (yd js fun y=>a.FY js y)).foldl Ty.join (z0 js)=(xs.map (yd js fun y=>a.FY js y)).foldl Ty.join (z0 js)
   rw[List.foldl_map,List.foldl_map]
   refine gk xs (z0 js) fun x IS T=>?_
   obtain⟨k,y,rfl,hy⟩:=each x IS
   have p:=Hl y g hy
   have o:=bX a y g hy
   have e1:yd js (fun y=>a.FY js y) (.tup [.int 1,lay a y])=a.FY js y:=by show(a.FY js (lay a y)).again 1=_;rw[p.ta,jA o]
   show(List.replicate (k+1) _).foldl (fun T x=>T.join (yd js (fun y=>a.FY js y) x)) T=T.join ((a.FY js y).again ((k+1:Nat):Int))
   exact rZ o e1 k T
  ·refine gk xs (C.cm r w) fun x IS w=>?_
   obtain⟨k,y,rfl,hy⟩:=each x IS
   have p:=Hl y g hy
   refine(ll (G:=fun k w=>iter (fun w=>C.cm r (C.fw js a (r+1) (lay a y) w)) k w) (fun _=>rfl) (fun k w=>rfl) _ _).trans ?_
   rw[p.fw]
   rfl
end C
namespace C
open PySem L2 L3 Wd
theorem AT{a b c d u v:Nat}(h1:c≤2 * a * 4 ^ u)(h2:d≤2 * b * 4 ^ v):c+d≤2 * (a+b+1) * 4 ^ (u+v):=by
 have q1:=Nat.mul_le_mul_left (2 * a) (Nat.pow_le_pow_right (n:=4) (by decide) (show u≤u+v by omega))
 have q2:=Nat.mul_le_mul_left (2 * b) (Nat.pow_le_pow_right (n:=4) (by decide) (show v≤u+v by omega))
 rw[show 2 * (a+b+1)=2 * a+2 * b+2 by omega,Nat.add_mul,Nat.add_mul]
 omega
theorem AU{a n c u:Nat}(hn:a+1≤n)(h:c≤2 * a * 4 ^ u):c+2≤2 * n * 4 ^ u:=by
 have q:=Nat.mul_le_mul_right (4 ^ u) (show 2 * a+2≤2 * n by omega)
 rw[Nat.add_mul]at q
 have:=Nat.pow_pos (n:=u) (show 0 < 4 by decide)
 omega
theorem AV{s c k m u v:Nat}(h1:k+1≤2 * (s+1) * 4 ^ u)(h2:c≤2 * s * 4 ^ v)(hm:m≤3):k+m * (c+1)+1≤2 * (s+1) * 4 ^ (u+1+v):=by
 have a1:=Nat.pow_pos (n:=u) (show 0 < 4 by decide)
 have b1:=Nat.pow_pos (n:=v) (show 0 < 4 by decide)
 rw[Nat.pow_add,Nat.pow_add,Nat.pow_one]
 generalize 4 ^ u=A at *
 generalize 4 ^ v=B at *
 have q0:c+1≤2 * (s+1) * B:=by rw[show 2 * (s+1)=2 * s+2 by omega,Nat.add_mul];omega
 have q1:=Nat.mul_le_mul_right (c+1) hm
 have q2:2 * (s+1) * A≤2 * (s+1) * (A * B):=Nat.mul_le_mul_left _ (Nat.le_mul_of_pos_right A b1)
 have q3:2 * (s+1) * B≤2 * (s+1) * (A * B):=Nat.mul_le_mul_left _ (Nat.le_mul_of_pos_left B a1)
 have q4:2 * (s+1) * (A * 4 * B)=4 * (2 * (s+1) * (A * B)):=by rw[Nat.mul_right_comm A 4 B,←Nat.mul_assoc,Nat.mul_comm]
 omega
abbrev iB(n:Nat)(w:aw):Prop:=∀{S:ar} {d l x:Addr} {t:Bd} {left:Int} {Q:bB} {E:bH},FN S d l→S x=some (.lst [.int left])→x≠d→x≠l→0≤left→t.dep≤n→
  (∀v S' left',aN t v=true→bS (2 ^ 60) v=true→cQ t v≤2 * t.size * 4 ^ (left - left').toNat→0≤left'→left'≤left→FN S' d l→S' x=some (.lst [.int left'])→HF d l x S S'→Q v S')→w [.ref d,t.pv,.ref x] S Q E
theorem AW {xd s0 : aw} (FE : bJ xd) (n : Nat) (ih : iB n s0) : iB (n + 1) (bn 7 (eE xd s0)) := by
 intro S d l x t left Q E D hx hxd Jf h0 hd k
 unfold eE
 refine fI ?_
 rw [show av 7 [PV.ref d, t.pv, PV.ref x] = [some (.ref d), some t.pv, some (.ref x), none, none, none, none] from rfl]
 refine az fun N hN => ?_
 simp only [bA, aO, ah, v3, lk, c3]
 rw [Bd.Jw]
 simp only [af, eP, bt, Bool.false_bne, decide_eq_true_eq]
 by_cases ht : t.hd = ("then" : Str)
 ·rw [if_pos ht]
  obtain ⟨a, b, rfl⟩ := (Bd.Ko t).mp ht
  simp only [Bd.dep] at hd
  walk_at "y"
  simp only [Bd.tl, fJ, vz]
  refine ih (t := a) D hx hxd Jf h0 (by omega) fun v1 S1 l1 i1 n1 c1 q0 q1 D1 x1 O1 => ?_
  refine ih (t := b) D1 x1 hxd Jf q0 (by omega) fun v2 S2 l2 i2 n2 c2 r0 r1 D2 x2 O2 => ?_
  exact k (.tup [v1, v2]) S2 l2 (by rw [kR, i1, i2]; rfl) (b9 n1 n2) (by rw [show (left - l2).toNat = (left - l1).toNat + (l1 - l2).toNat by omega]; exact AT c1 c2) r0 (by omega) D2 x2 (O1.trans O2)
 rw [if_neg ht]
 refine hN _ _ (az fun N hN => ?_)
 simp only [bA, oq, aO, ah, v3, lk, c3]
 simp only [af, eP, bt, Bool.false_bne, decide_eq_true_eq]
 have two : ∀ (hd2 : List PV) (a b : Bd) (N' : b_ → ar → Prop), .str t.hd :: t.tl = hd2 ++ [a.pv, b.pv] → a.dep ≤ n → b.dep ≤ n → t.size = a.size + b.size + 1 → (∀ (i : Int) y, cQ t (.tup [.int i, y]) ≤ (if i = 0 then cQ a y else cQ b y) + 2) → (∀ (i : Int) y, aN t (.tup [.int i, y]) = if i = 0 then aN a y else if i = 1 then aN b y else false) →
   ai (aC 4 (ae xd [v3 0, c3 (.int 2)])) (aF (aI [v3 4, ae s0 [v3 0, ah af (v3 1) (ah bY (v3 4) (c3 (.int 2))), v3 2]])) { nx := N', rt := Q, ex := gD } [some (.ref d), some (.tup (.str t.hd :: t.tl)), some (.ref x), none, none, none, none] S := by
  intro hd2 a b N' e hda hdb hsz Oe Of
  rw [e]
  refine az fun N2 Je => ?_
  walk_at "x"
  refine FE D (by decide) (by decide) fun i S1 i0 i1 D1 O1 => ?_
  refine Je _ _ ?_
  have hi : i = 0 ∨ i = 1 := by omega
  walk_at "x"
  rw [xZ hi]
  have go : ∀ c : Bd, c.dep ≤ n → c.size + 1 ≤ t.size → (∀ y, cQ t (.tup [.int i, y]) ≤ cQ c y + 2) → (∀ y, aN t (.tup [.int i, y]) = aN c y) → s0 [.ref d, c.pv, .ref x] S1 (fun v S2 => Q (.tup [.int i, v]) S2) gD := fun c hc hc2 cc ec => by
   refine ih (t := c) D1 (O1 _ _ hx hxd Jf) hxd Jf h0 hc fun v1 S2 l1 j1 n1 c1 q0 q1 D2 x1 O2 => ?_
   exact k (.tup [.int i, v1]) S2 l1 (by rw [ec, j1]) (b9 (oR (by rcases hi with rfl | rfl <;> decide)) n1) (Nat.le_trans (cc v1) (AU hc2 c1)) q0 q1 D2 x1 (O1.x.trans O2)
  rcases hi with rfl | rfl
  ·exact go a hda (by omega) (fun y => Oe 0 y) fun y => by rw [Of]; rfl
  ·exact go b hdb (by omega) (fun y => Oe 1 y) fun y => by rw [Of]; rfl
 by_cases he : t.hd = ("either" : Str)
 ·rw [if_pos he, if_pos trivial]
  cases t with
  | Gx a b => simp only [Bd.dep] at hd; exact two [.str "either"] a b _ rfl (by omega) (by omega) rfl (fun _ _ => Nat.le_succ _) (fun _ _ => rfl)
  | _ => simp [Bd.hd, am] at he
 rw [if_neg he]
 by_cases hk : t.hd = ("take" : Str)
 ·rw [if_pos hk]
  cases t with
  | GJ z mm a b => simp only [Bd.dep] at hd; exact two [.str "take", .str z, .int mm] a b _ rfl (by omega) (by omega) rfl (fun _ _ => Nat.le_refl _) (fun _ _ => rfl)
  | _ => simp [Bd.hd, am] at hk
 rw [if_neg hk]
 refine hN _ _ (az fun N hN => ?_)
 walk_at "x"
 intro pf hpf
 have KW := D.free hpf
 have hpx : pf ≠ x := fun h => by rw [h, hx] at hpf; cases hpf
 have D1 : FN (FF S pf (.lst [])) d l := D.new hpf
 have x1 : (FF S pf (.lst [])) x = some (.lst [.int left]) := by rw [al hpx.symm]; exact hx
 have O1 : HF d l x S (FF S pf (.lst [])) := (Gm.new hpf).x
 have f1 : (FF S pf (.lst [])) pf = some (.lst []) := FC
 generalize FF S pf (.lst []) = S1 at D1 x1 O1 f1
 refine hN _ _ (az fun N hN => ?_)
 simp only [dh, fk, ah, ae, ap, aA, v3, lk, c3]
 refine FE D1 (by decide) (by decide) fun r S2 r0 r1 D2 O2 => ?_
 have x2 := O2 _ _ x1 hxd Jf
 have f2 := O2 _ _ f1 KW.1 KW.2
 have Og := O1.trans (O2.x (x := x))
 simp only [af, eP, bt, kA, df, Bool.false_bne, decide_eq_true_eq]
 by_cases ho : t.hd = ("often" : Str)
 ·rw [if_pos ho]
  refine ⟨vq (by omega) (by omega), by omega, by omega, ?_⟩
  obtain ⟨a, rfl⟩ := (Bd.Kp t).mp ho
  simp only [Bd.dep] at hd
  obtain ⟨rr, er⟩ : ∃ rr : Nat, r * 1 = (rr : Int) := ⟨r.toNat, by omega⟩
  rw [er, Int.toNat_natCast]
  refine cD (fun done σ S' => ∃ (vs : List PV) (l2 : Int) (x6 : Option PV), σ = [some (.ref d), some (Bd.Gn a).pv, some (.ref x), none, none, some (.ref pf), x6] ∧ vs.length ≤ done.length ∧ done.length ≤ rr ∧ (∀ v ∈ vs, qB a v = true ∧ bS (2 ^ 60) v = true) ∧ cQ (.Gn a) (.tup vs) ≤ 2 * (a.size + 1) * 4 ^ (left - l2).toNat ∧ 0 ≤ l2 ∧ l2 ≤ left ∧ FN S' d l ∧ S' x = some (.lst [.int l2]) ∧ S' pf = some (.lst vs) ∧ HF d l x S S') ⟨[], left, _, rfl, Nat.le_refl _, Nat.zero_le _, by simp, by rw [Int.sub_self]; show 1 ≤ 2 * (a.size + 1) * 1; omega, h0, Int.le_refl _, D2, x2, f2, Og⟩ (fun _ _ _ _ => trivial) ?_ ?_
  ·rintro done y rest σ S3 K e ⟨vs, l2, x6, rfl, hv, hdl, hvs, hc, q0, q1, D3, x3, f3, O3⟩ hK
   obtain ⟨rfl, hi⟩ := ip e
   simp only [Tg.put, List.set_cons_succ, List.set_cons_zero]
   simp only [bA, aO, ah, v3, lk, c3, af, x3, eP, tj, dA, decide_eq_true_eq]
   by_cases hl2 : 0 < l2
   ·rw [if_pos hl2]
    refine az fun N2 Je => ?_
    walk_at "x"
    simp only [x3, eP, pZ]
    have e1 : (if (0 : Int) ≤ 0 then if (0 : Int) < (([PV.int l2] : List PV).length : Nat) then some (0 : Int).toNat else none else if -((([PV.int l2] : List PV).length : Nat) : Int) ≤ 0 then some (0 + ((([PV.int l2] : List PV).length : Nat) : Int)).toNat else none) = some 0 := rfl
    rw [e1]
    dsimp only
    have D4 : FN (FF S3 x (.lst [.int (l2 - 1)])) d l := D3.upd hxd Jf
    have x4 : (FF S3 x (.lst [.int (l2 - 1)])) x = some (.lst [.int (l2 - 1)]) := FC
    have f4 : (FF S3 x (.lst [.int (l2 - 1)])) pf = some (.lst vs) := by rw [al hpx]; exact f3
    have O4 : HF d l x S (FF S3 x (.lst [.int (l2 - 1)])) := O3.trans .upd
    refine Je _ _ ?_
    show aD _ _ _ (FF S3 x (.lst [.int (l2 - 1)]))
    generalize FF S3 x (.lst [.int (l2 - 1)]) = S4 at D4 x4 f4 O4
    walk_at "x"
    refine ⟨by rw [f4]; trivial, FE D4 (by decide) (by decide) fun m S5 m0 m1 D5 O5 => ?_⟩
    dsimp only
    unfold Bd.pv
    simp only [fJ]
    refine ih (t := a) D5 (O5 _ _ x4 hxd Jf) hxd Jf (by omega) (by omega) fun v S6 l6 i6 n6 c6 a0 a1 D6 x6 O6 => ?_
    have f6 := O6 _ _ (O5 _ _ f4 KW.1 KW.2) KW.1 KW.2 hpx
    simp only [f6]
    refine ⟨Nat.lt_of_lt_of_le (show _ < 1000 by omega) (by decide), ?_⟩
    refine hK _ _ ⟨vs ++ [.tup [.int (1 + m), v]], l6, _, rfl, by simp; omega, by rw [List.length_append]; exact hi, fun w hw => ?_, ?_, a0, by omega, D6.upd KW.1 KW.2, by rw [al hpx.symm]; exact x6, FC, ?_⟩
    ·rcases List.mem_append.mp hw with hw | hw
     ·exact hvs w hw
     ·rw [List.mem_singleton.mp hw]
      exact ⟨by simp [qB, i6]; omega, b9 (oR (by omega)) n6⟩
    ·rw [show (left - l6).toNat = (left - l2).toNat + 1 + (l2 - 1 - l6).toNat by omega]
     show (vs ++ [PV.tup [.int (1 + m), v]]).foldl _ 0 + 1 ≤ _
     rw [List.foldl_append]
     exact AV hc c6 (show (1 + m).toNat ≤ 3 by omega)
    ·intro b o hb h1 h2 h3
     have Np : b ≠ pf := fun h => by rw [h, hpf] at hb; cases hb
     rw [al Np]
     exact O6 _ _ (O5 _ _ (O4 _ _ hb h1 h2 h3) h1 h2) h1 h2 h3
   ·rw [if_neg hl2]
    exact hK _ _ ⟨vs, l2, _, rfl, by simp; omega, by rw [List.length_append]; exact hi, hvs, hc, q0, q1, D3, x3, f3, O3⟩
  ·rintro σ S3 ⟨vs, l2, x6, rfl, hv, hdl, hvs, hc, q0, q1, D3, x3, f3, O3⟩
   refine hN _ _ ?_
   walk_at "x"
   simp only [f3]
   refine k (.tup vs) S3 l2 ?_ (oS fun v hv => (hvs v hv).2) hc q0 q1 D3 x3 O3
   rw [kS, List.all_eq_true]
   exact fun v hv => (hvs v hv).1
 ·rw [if_neg ho]
  refine ⟨vq (by omega) (by omega), by omega, by omega, ?_⟩
  rw [Int.mul_zero]
  refine ⟨trivial, ?_⟩
  refine hN _ _ ?_
  walk_at "x"
  simp only [f2]
  have hp : t.plain = true := by
   cases t with
   | Gn a => exact absurd rfl ho
   | FI => exact absurd rfl ht
   | Gx => exact absurd rfl he
   | GJ => exact absurd rfl hk
   | _ => rfl
  refine k (.tup []) S2 left (by rw [qD hp]; rfl) rfl (by rw [Int.sub_self]; cases t <;> first | (simp [cQ, Bd.size]; done) | (cases hp)) h0 (Int.le_refl _) D2 x2 Og
end C
namespace G21
open PySem L2 L3
noncomputable def bp(i:Nat):Stmt:=PySem.Challenge.pw_dueworth_k21_whole_tallies_and_doings.main.body.getD i (.Pass ⟨0,0,0,0⟩)
noncomputable def mt(i j:Nat):Stmt:=(xU (bp i)).getD j (.Pass ⟨0,0,0,0⟩)
noncomputable abbrev M7:List (Str×Str):=[("TooLong","most")]
noncomputable abbrev EB:List (Str×Str×Bool):=[]
structure Txt (P:Program) (w:World) (K:PySem.W.Frag) (mg:Str→Option Value):Prop where
 o_common:bf K mg "common" (bp 5) ["one","other"]
 o_fraction:bf K mg "fraction" (bp 6) ["top","bottom"]
 o_plus:bf K mg "plus" (bp 7) ["one","other"]
 o_times:bf K mg "times" (bp 8) ["one","other"]
 o_sides_of:bf K mg "sides_of" (bp 11) ["body"]
 o_parts_in:bf K mg "parts_in" (bp 12) ["body"]
 o_chosen:bf K mg "chosen" (bp 14) ["body","trace"]
 o_things_of:bf K mg "things_of" (bp 16) ["jars","name","things"]
 o_added:bf K mg "added" (bp 17) ["one","other"]
 o_multiplied:bf K mg "multiplied" (bp 18) ["one","many"]
 o_no_tally:bf K mg "no_tally" (bp 19) ["jars"]
 o_behind:bf K mg "behind" (bp 20) ["one","other"]
 o_again:bf K mg "again" (bp 21) ["one","many"]
 o_tally_of_often:bf K mg "tally_of_often" (bp 22) ["jars","body","goings"]
 o_tally_of_take:bf K mg "tally_of_take" (bp 23) ["jars","body"]
 o_tally_of:bf K mg "tally_of" (bp 24) ["jars","body","trace"]
 o_tally:bf K mg "tally" (bp 25) ["house","d","trace"]
 o_has_row:bf K mg "has_row" (bp 27) ["part"]
 o_rows_in:bf K mg "rows_in" (bp 28) ["body"]
 o_Doing___init__:oJ K "Doing" "__init__" "Doing.__init__" (mt 30 0) ["self","names","jars","most"]
 o_Doing_come_to:oJ K "Doing" "come_to" "Doing.come_to" (mt 30 1) ["self","row"]
 o_Doing_pay:oJ K "Doing" "pay" "Doing.pay" (mt 30 2) ["self","cost"]
 o_Doing_bring:oJ K "Doing" "bring" "Doing.bring" (mt 30 3) ["self","name","things"]
 o_Doing_take:oJ K "Doing" "take" "Doing.take" (mt 30 4) ["self","name","things","row"]
 o_go_often:bf K mg "go_often" (bp 31) ["doing","body","goings","row"]
 o_go_choice:bf K mg "go_choice" (bp 32) ["doing","body","trace","row"]
 o_go_step:bf K mg "go_step" (bp 33) ["doing","body","row"]
 o_go:bf K mg "go" (bp 34) ["doing","body","trace","row"]
 o_done:bf K mg "done" (bp 35) ["house","jars","d","trace","most"]
 o__law_deal:bf K mg "_law_deal" (bp 37) ["_law_script","_law_base"]
 o__law_draw:bf K mg "_law_draw" (bp 38) ["_law_deal_here","_law_many"]
 o__law_words:bf K mg "_law_words" (bp 39) ["_law_deal_here","_law_many"]
 o__law_low:bf K mg "_law_low" (bp 40) ["_law_top","_law_bottom"]
 o__law_cost:bf K mg "_law_cost" (bp 41) ["_law_deal_here"]
 o__law_leaf:bf K mg "_law_leaf" (bp 42) ["_law_deal_here","_law_jars"]
 o__law_body:bf K mg "_law_body" (bp 43) ["_law_deal_here","_law_jars","_law_left","_law_down"]
 o__law_pass_count:bf K mg "_law_pass_count" (bp 44) ["_law_body_here"]
 o__law_round_count:bf K mg "_law_round_count" (bp 45) ["_law_body_here"]
 o__law_deed_body:bf K mg "_law_deed_body" (bp 46) ["_law_deal_here","_law_jars","_law_room","_law_most"]
 o__law_house:bf K mg "_law_house" (bp 47) ["_law_deal_here","_law_most_jars","_law_most_deeds","_law_room"]
 o__law_any_house:bf K mg "_law_any_house" (bp 48) ["_law_deal_here"]
 o__law_trace:bf K mg "_law_trace" (bp 49) ["_law_deal_here","_law_body_here","_law_left"]
 o__law_laid_out:bf K mg "_law_laid_out" (bp 50) ["_law_body_here","_law_trace_here"]
 o__law_is_stuck:bf K mg "_law_is_stuck" (bp 51) ["_law_house_here","_law_jars","_law_d","_law_trace_here"]
 o__law_more:bf K mg "_law_more" (bp 52) ["_law_jars","_law_more_here"]
 o__law_right:bf K mg "_law_right" (bp 53) ["_law_house_here","_law_d","_law_trace_here","_law_more_here"]
 FM:Bn K mg "Doing" ["names","jars","most","cost","seen"]
 Mc:mg "abs" = none
 Md:mg "int" = none
 G7:mg "len" = none
 Lu:mg "list" = none
 JU:mg "max" = none
 Me:mg "min" = none
 Gv:mg "range" = none
 JL:mg "reversed" = none
 FZ:mg "tuple" = none
 JV:mg "zip" = none
 Jk:∃a,mg "SIDES_FROM" = some (.ref a)∧KD P w K a (C.k_SIDES_FROM.map fun kv=>(kv.1,V.int kv.2))
 Mx:Er K mg "Stuck"
 LF:Er K mg "TooLong"
 Ka:Dr K mg "TooLong" "TooLong.__init__" (mt 3 0) ["self","most"] ["most"]
 KL:Dr K mg "Stuck" "Stuck.__init__" (mt 2 0) ["self","row"] ["row"]
 KM:Ep K mg "Stuck" ["Stuck"]
 x_at:XAttr K M7
 Oh:XTab K EB
section
variable {P:Program} {w:World} {K:PySem.W.Frag} {mg:Str→Option Value} {base:Heap}
theorem EC:(["jar","name","things"]:List Str).Nodup:=by decide +kernel
theorem CQ:(["left","right"]:List Str).Nodup:=by decide +kernel
theorem ED:(["number","many"]:List Str).Nodup:=by decide +kernel
theorem AX:(["effect","first","second"]:List Str).Nodup:=by decide +kernel
theorem CS:(["effect","asked","many"]:List Str).Nodup:=by decide +kernel
theorem EE:(["part"]:List Str).Nodup:=by decide +kernel
theorem CT:(["_law_one"]:List Str).Nodup:=by decide +kernel
theorem EF:(["_law_k","_law_deal_here","_law_letters"]:List Str).Nodup:=by decide +kernel
theorem EG:(["_law_j","_law_deal_here","_law_letters"]:List Str).Nodup:=by decide +kernel
theorem EH:(["_law_k","_law_deal_here","_law_first","_law_jars","_law_many","_law_room","_law_words_here"]:List Str).Nodup:=by decide +kernel
theorem CU:(["_law_k","_law_deal_here","_law_jars","_law_words_here"]:List Str).Nodup:=by decide +kernel
theorem yP:(["_law_there","_law_many"]:List Str).Nodup:=by decide +kernel
theorem vX:(["_law_row","_law_jars","_law_spent","_law_more_here"]:List Str).Nodup:=by decide +kernel
theorem CV:(["_law_name","_law_deal_here"]:List Str).Nodup:=by decide +kernel
theorem qO(T:Txt P w K mg):Dq P w K mg base "TooLong" ["most"]:=ES ["self","most"] T.Ka rfl fun _ _ _ _ _ _ _=>mC (uT (pv 0) (pv 1) rfl)
theorem vY(T:Txt P w K mg):Dq P w K mg base "Stuck" ["row"]:=ES ["self","row"] T.KL rfl fun _ _ _ _ _ _ _=>mC (uT (pv 0) (pv 1) rfl)
def o8:aw:=bn 3 C.kH
theorem tO(T:Txt P w K mg):Gu P w K mg base 1 "common" 2 o8:=fF ["one","other","left"] T.o_common (fun _ _ _ _ _ _ _ hr nd=>(ad (j2 PassesOwn.never (CH hr (aa 1) ac) (ad (s4 2 nd (aB fh (aa 0) (aa 1)))
  (ad (s4 0 nd (aa 1))
  (aj (s4 1 nd (aa 2))))))
  (aj (ax (cB Cn T.Mc (l1 (aa 0))))))) rfl
def gY:aw:=bn 3 (C.gQ o8)
theorem jR(T:Txt P w K mg):Gu P w K mg base 2 "fraction" 2 gY:=fF ["top","bottom","part"] T.o_fraction (fun _ _ _ _ _ _ _ hr nd=>(ad (s4 2 nd (c4 (tO T) hr (lc (aa 0) (l1 (aa 1)))))
  (ad (bo (bD m7 (aa 1) ac (bb _)) (aj (s4 2 nd (kz de (aa 2)))) aM)
  (aj (ax (aH (lc (aB i7 (aa 0) (aa 2)) (l1 (aB i7 (aa 1) (aa 2)))))))))) rfl
def nJ:aw:=bn 2 (C.qr gY)
theorem r_(T:Txt P w K mg):Gu P w K mg base 3 "plus" 2 nJ:=fF ["one","other"] T.o_plus (fun _ _ _ _ _ _ _ hr nd=>(aj (ax (c4 (jR T) hr (lc (aB aE (aB bR (aU hr (aa 0)) (aU hr (aa 1))) (aB bR (aU hr (aa 1)) (aU hr (aa 0)))) (l1 (aB bR (aU hr (aa 0)) (aU hr (aa 1))))))))) rfl
def nK:aw:=bn 2 (C.m8 gY)
theorem vZ(T:Txt P w K mg):Gu P w K mg base 3 "times" 2 nK:=fF ["one","other"] T.o_times (fun _ _ _ _ _ _ _ hr nd=>(aj (ax (c4 (jR T) hr (lc (aB bR (aU hr (aa 0)) (aU hr (aa 1))) (l1 (aB bR (aU hr (aa 0)) (aU hr (aa 1))))))))) rfl
def gZ:aw:=bn 1 C.gN
theorem o9(T:Txt P w K mg):Gu P w K mg base 1 "sides_of" 1 gZ:=fF ["body"] T.o_sides_of (fun _ _ _ _ _ _ _ hr nd=>(aj (ax (b6 (aa 0) (cI (Fg hr T.Jk (aU hr (aa 0)) (cB d0 T.G7 (l1 (aa 0))))) dR)))) rfl
noncomputable def eW:Nat→aw
 |0=>rL
 |n+1=>bn 3 (C.gP gZ (eW n))
def lm:aw:=eW 12
theorem o_(T:Txt P w K mg):Gu P w K mg base 13 "parts_in" 1 lm:=qu (b:=1) (r:=eW) T.o_parts_in (fun n R0=>fF ["body","found","side"] T.o_parts_in (fun _ _ _ _ _ _ _ hr nd=>(ad (s4 1 nd (dC (l1 (aa 0))))
  (ad (gC PassesOwn.never rfl (fg (c4 (o9 T) hr (l1 (aa 0)))) (gn 2 nd) (aj (bc (yL mn oy (aa 1) (l1 (c4 R0 hr (l1 (aa 2))))))))
  (aj (ax (aa 1)))))) rfl) rfl rfl 12
def fP:aw:=bn 2 C.kI
theorem my(T:Txt P w K mg):Gu P w K mg base 1 "chosen" 2 fP:=fF ["body","trace"] T.o_chosen (fun _ _ _ _ _ _ _ hr nd=>(aj (ax (fG hr (aa 0) (aB aE (kz de ac) (aU hr (aa 1))))))) rfl
def cH:aw:=bn 3 C.fE
theorem cS(T:Txt P w K mg):Gu P w K mg base 1 "things_of" 3 cH:=fF ["jars","name","things"] T.o_things_of (fun _ _ _ _ _ _ _ hr nd=>(aj (ax (cT bM T.FZ (l1 (wm ["things","name"] 1 [1,2] ["jar","name","things"] (fg (aa 0)) (fun _=>(gn 0 EC)) (fun _=>d5) (fun _=>(yG (gu hr (aa 0) (aa 1)) (aa 2) ac)))))))) rfl
def nL:aw:=bn 2 C.m9
theorem pd(T:Txt P w K mg):Gu P w K mg base 1 "added" 2 nL:=fF ["one","other"] T.o_added (fun _ _ _ _ _ _ _ hr nd=>(aj (ax (cT bM T.FZ (l1 (wm [] 2 [] ["left","right"] (ve rfl rfl rfl T.JV (by decide +kernel) (lc (aa 0) (l1 (aa 1)))) (fun _=>(Ac rfl (bI (gn 0 CQ) (bI (gn 1 CQ) kE)))) (fun _=>d5) (fun _=>(aB aE (aa 0) (aa 1))))))))) rfl
def iC:aw:=bn 2 C.eC
theorem lC(T:Txt P w K mg):Gu P w K mg base 1 "multiplied" 2 iC:=fF ["one","many"] T.o_multiplied (fun _ _ _ _ _ _ _ hr nd=>(aj (ax (cT bM T.FZ (l1 (wm ["many"] 1 [1] ["number","many"] (fg (aa 0)) (fun _=>(gn 0 ED)) (fun _=>d5) (fun _=>(aB bR (aa 0) (aa 1))))))))) rfl
def du:aw:=bn 1 C.gR
theorem jS(T:Txt P w K mg):Gu P w K mg base 1 "no_tally" 1 du:=fF ["jars"] T.o_no_tally (fun _ _ _ _ _ _ _ hr nd=>(aj (ax (aH (lc (aH (lc ac (l1 ac))) (lc (aB rK (aH (l1 ac)) (cB d0 T.G7 (l1 (aa 0)))) (l1 (aB rK (aH (l1 ac)) (cB d0 T.G7 (l1 (aa 0))))))))))) rfl
def ee:aw:=bn 3 (C.kK nL nJ)
theorem jB(T:Txt P w K mg):Gu P w K mg base 4 "behind" 2 ee:=fF ["one","other","demand"] T.o_behind (fun _ _ _ _ _ _ _ hr nd=>(ad (CI [] 3 [] ["effect","first","second"] 2 nd (As rfl rfl rfl T.JV (by decide +kernel) (lc (aU hr (aa 0)) (lc (aU hr (aa 0)) (l1 (aU hr (aa 1)))))) (fun _=>(Ac rfl (bI (gn 0 AX) (bI (gn 1 AX) (bI (gn 2 AX) kE))))) (fun _=>d5) (fun _=>(cB (mY rfl) T.JU (lc (aa 1) (l1 (aB dE (aa 2) (aa 0)))))))
  (aj (ax (aH (lc (c4 (r_ T) hr (lc (aU hr (aa 0)) (l1 (aU hr (aa 1))))) (lc (c4 (pd T) hr (lc (aU hr (aa 0)) (l1 (aU hr (aa 1))))) (l1 (cT bM T.FZ (l1 (aa 2))))))))))) rfl
def j9:aw:=bn 3 (C.m_ iC nK)
theorem v0(T:Txt P w K mg):Gu P w K mg base 4 "again" 2 j9:=fF ["one","many","demand"] T.o_again (fun _ _ _ _ _ _ _ hr nd=>(ad (CI ["many"] 2 [1] ["effect","asked","many"] 2 nd (ve rfl rfl rfl T.JV (by decide +kernel) (lc (aU hr (aa 0)) (l1 (aU hr (aa 0))))) (fun _=>(Ac rfl (bI (gn 0 CS) (bI (gn 1 CS) kE)))) (fun _=>d5) (fun _=>(aB aE (aa 1) (cB (mY rfl) T.JU (lc ac (l1 (aB bR (kz de (aa 0)) (aB dE (aa 2) ac))))))))
  (aj (ax (aH (lc (c4 (vZ T) hr (lc (aU hr (aa 0)) (l1 (aH (lc (aa 1) (l1 ac)))))) (lc (c4 (lC T) hr (lc (aU hr (aa 0)) (l1 (aa 1)))) (l1 (cT bM T.FZ (l1 (aa 2))))))))))) rfl
def bU:aw:=bn 2 (C.cJ cH)
theorem jC(T:Txt P w K mg):Gu P w K mg base 2 "tally_of_take" 2 bU:=fF ["jars","body"] T.o_tally_of_take (fun _ _ _ _ _ _ _ hr nd=>(aj (ax (aH (lc (aH (lc ac (l1 ac))) (lc (c4 (cS T) hr (lc (aa 0) (lc (aU hr (aa 1)) (l1 (kz de (aU hr (aa 1))))))) (l1 (c4 (cS T) hr (lc (aa 0) (lc (aU hr (aa 1)) (l1 (aU hr (aa 1))))))))))))) rfl
noncomputable def aX:Nat→aw×aw
 |0=>(rL,rL)
 |n+1=>(bn 5 (C.bN du ee j9 (aX n).1 (aX n).2),bn 6 (C.eG du cH ee fP bU (aX n).1 (aX n).2))
def cx(n:Nat):aw:=(aX n).1
def g_(n:Nat):aw:=(aX n).2
theorem iD(T:Txt P w K mg)(n:Nat){s0 s1:aw}(R0:Gu P w K mg base (4+n) "tally_of_often" 3 s0)(R1:Gu P w K mg base (4+n) "tally_of" 3 s1):Gu P w K mg base (4+n+1) "tally_of_often" 3 (bn 5 (C.bN du ee j9 s0 s1)):=fF ["jars","body","goings","found","going"] T.o_tally_of_often (fun _ _ _ _ _ _ _ hr nd=>(ad (s4 3 nd (c4 (jS T) hr (l1 (aa 0))))
  (ad (gC PassesOwn.never rfl (fg (aa 2)) (gn 4 nd) (aj (s4 3 nd (c4 (jB T) hr (lc (aa 3) (l1 (c4 (v0 T) hr (lc (c4 R1 hr (lc (aa 0) (lc (aU hr (aa 1)) (l1 (aU hr (aa 4)))))) (l1 (aU hr (aa 4)))))))))))
  (aj (ax (aa 3)))))) rfl
theorem pe(T:Txt P w K mg)(n:Nat){s0 s1:aw}(R0:Gu P w K mg base (4+n) "tally_of_often" 3 s0)(R1:Gu P w K mg base (4+n) "tally_of" 3 s1):Gu P w K mg base (4+n+1) "tally_of" 3 (bn 6 (C.eG du cH ee fP bU s0 s1)):=fF ["jars","body","trace","head","nothing","side"] T.o_tally_of (fun _ _ _ _ _ _ _ hr nd=>(ad (s4 3 nd (aU hr (aa 1)))
  (ad (s4 4 nd (c4 (jS T) hr (l1 (aa 0))))
  (ad (bo (gu hr (aa 3) ay) (aj (ax (aH (lc (aU hr (aa 1)) (lc (aU hr (aa 4)) (l1 (aU hr (aa 4)))))))) aM)
  (ad (bo (gu hr (aa 3) ay) (aj (ax (aH (lc (aU hr (aa 4)) (lc (c4 (cS T) hr (lc (aa 0) (lc (aU hr (aa 1)) (l1 (aU hr (aa 1)))))) (l1 (aU hr (aa 4)))))))) aM)
  (ad (bo (gu hr (aa 3) ay) (aj (ax (c4 (jB T) hr (lc (c4 R1 hr (lc (aa 0) (lc (aU hr (aa 1)) (l1 (aU hr (aa 2)))))) (l1 (c4 R1 hr (lc (aa 0) (lc (aU hr (aa 1)) (l1 (aU hr (aa 2))))))))))) aM)
  (ad (bo (gu hr (aa 3) ay) (aj (ax (c4 R0 hr (lc (aa 0) (lc (aa 1) (l1 (aa 2))))))) aM)
  (ad (bo (bD (ow (mh hr)) (aa 3) (aH (lc ay (l1 ay))) rfl) (aj (ax (aa 4))) aM)
  (ad (s4 5 nd (c4 R1 hr (lc (aa 0) (lc (c4 (my T) hr (lc (aa 1) (l1 (aa 2)))) (l1 (aU hr (aa 2)))))))
  (ad (bo (tQ (rD (gu hr (aa 3) ay) (mS (gu hr (aU hr (aa 2)) ac)))) (aj (ax (c4 (jB T) hr (lc (c4 (jC T) hr (lc (aa 0) (l1 (aa 1)))) (l1 (aa 5)))))) aM)
  (aj (ax (aa 5))))))))))))) rfl
theorem dv(T:Txt P w K mg):∀n:Nat,Gu P w K mg base (4+n) "tally_of_often" 3 (cx n)∧Gu P w K mg base (4+n) "tally_of" 3 (g_ n)
 |0=>⟨.zero T.o_tally_of_often,.zero T.o_tally_of⟩
 |n+1=>let ⟨h0,h1⟩:=dv T n;⟨iD T n h0 h1,pe T n h0 h1⟩
def lp:aw:=g_ 12
theorem ph(T:Txt P w K mg):Gu P w K mg base 16 "tally_of" 3 lp:=(dv T 12).2
def nM:aw:=bn 3 (C.ni lp)
theorem pk(T:Txt P w K mg):Gu P w K mg base 17 "tally" 3 nM:=fF ["house","d","trace"] T.o_tally (fun _ _ _ _ _ _ _ hr nd=>(aj (ax (c4 (ph T) hr (lc (aU hr (aa 0)) (lc (aU hr (fG hr (aU hr (aa 0)) (aa 1))) (l1 (aa 2)))))))) rfl
def mz:aw:=bn 1 C.i8
theorem qP(T:Txt P w K mg):Gu P w K mg base 1 "has_row" 1 mz:=fF ["part"] T.o_has_row (fun _ _ _ _ _ _ _ hr nd=>(aj (ax (oo (ow (mh hr)) (aU hr (aa 0)) (aH (lc ay (l1 ay))) rfl)))) rfl
def cy:aw:=bn 1 (C.i9 lm mz)
theorem hG(T:Txt P w K mg):Gu P w K mg base 14 "rows_in" 1 cy:=fF ["body"] T.o_rows_in (fun _ _ _ _ _ _ _ hr nd=>(aj (ax (cB d0 T.G7 (l1 (wm [] 1 [] ["part"] (fg (c4 (o_ T) hr (l1 (aa 0)))) (fun _=>(gn 0 EE)) (fun _=>(yJ (rC (c4 (qP T) hr (l1 (aa 0)))))) (fun _=>(aa 0)))))))) rfl
def eg:aw:=bn 4 CY.cq
theorem iE(T:Txt P w K mg):Bo P w K mg base 1 "Doing" "__init__" 4 eg:=Em ["self","names","jars","most"] T.o_Doing___init__ (fun _ _ _ _ _ _ _ hr nd=>(ad (AA T.FM (aa 1) (aa 0))
  (ad (AA T.FM (aa 2) (aa 0))
  (ad (AA T.FM (aa 3) (aa 0))
  (ad (AA T.FM (aH (lc ac (l1 ac))) (aa 0))
  (aj (AA T.FM (dC on) (aa 0)))))))) rfl
def aY:aw:=dj 2 CY.cK
theorem bq(T:Txt P w K mg):xV P w K mg base 3 "Doing" "come_to" 2 aY:=CG ["self","row"] T.o_Doing_come_to (fun _ _ _ _ _ _ _ hr nd=>(ad (bo (bD Cu (cB d0 T.G7 (l1 (tR T.FM (aa 0)))) (tR T.FM (aa 0)) (bb _)) (aj (EU (qO T) hr (l1 (tR T.FM (aa 0))))) aM)
  (aj (bc (yL ja kB (tR T.FM (aa 0)) (l1 (aH (lc (aa 1) (lc (tR T.FM (aa 0)) (l1 (tR T.FM (aa 0)))))))))))) rfl
def jT:aw:=bn 2 (CY.fH nJ)
theorem nN(T:Txt P w K mg):Bo P w K mg base 4 "Doing" "pay" 2 jT:=Em ["self","cost"] T.o_Doing_pay (fun _ _ _ _ _ _ _ hr nd=>(aj (AA T.FM (c4 (r_ T) hr (lc (tR T.FM (aa 0)) (l1 (aa 1)))) (aa 0)))) rfl
def cE:aw:=bn 3 (CY.dS nL cH)
theorem fQ(T:Txt P w K mg):Bo P w K mg base 2 "Doing" "bring" 3 cE:=Em ["self","name","things"] T.o_Doing_bring (fun _ _ _ _ _ _ _ hr nd=>(aj (AA T.FM (c4 (pd T) hr (lc (tR T.FM (aa 0)) (l1 (c4 (cS T) hr (lc (tR T.FM (aa 0)) (lc (aa 1) (l1 (aa 2)))))))) (aa 0)))) rfl
def cU:aw:=dj 4 (CY.eM cE)
theorem lD(T:Txt P w K mg):xV P w K mg base 3 "Doing" "take" 4 cU:=CG ["self","name","things","row"] T.o_Doing_take (fun _ _ _ _ _ _ _ hr nd=>(ad (bo (bD m7 (fG hr (tR T.FM (aa 0)) (CD PySem.F.plainAttrs_tuple PySem.F.slot_tuple_index PySem.F.type_tuple_index vi rfl (tR T.FM (aa 0)) (l1 (aa 1)))) (aa 2) (bb _)) (aj (EU (vY T) hr (l1 (aa 3)))) aM)
  (aj (bc (Eo (fQ T) hr (aa 0) (lc (aa 1) (l1 (kz de (aa 2))))))))) rfl
def gq:aw:=dj 3 (CY.jd aY jT cE)
theorem qQ(T:Txt P w K mg):Iz P w K mg base 5 "go_step" 3 gq:=Bp ["doing","body","row"] T.o_go_step (fun _ _ _ _ _ _ _ hr nd=>(ad (bc (Bq (bq T) hr (aa 0) (l1 (aa 2))))
  (ad (bo (gu hr (aU hr (aa 1)) ay) (aj (bc (Eo (nN T) hr (aa 0) (l1 (aU hr (aa 1)))))) aM)
  (aj (bo (gu hr (aU hr (aa 1)) ay) (aj (bc (Eo (fQ T) hr (aa 0) (lc (aU hr (aa 1)) (l1 (aU hr (aa 1))))))) aM))))) rfl
noncomputable def aP:Nat→aw×aw×aw
 |0=>(rL,rL,rL)
 |n+1=>(dj 6 (CY.eN aY (aP n).1 (aP n).2.1 (aP n).2.2),dj 5 (CY.dH aY cU cy fP (aP n).1 (aP n).2.1 (aP n).2.2),dj 5 (CY.xX cy gq (aP n).1 (aP n).2.1 (aP n).2.2))
def eX(n:Nat):aw:=(aP n).1
def dM(n:Nat):aw:=(aP n).2.1
def AY(n:Nat):aw:=(aP n).2.2
theorem pp(T:Txt P w K mg)(n:Nat){s0 s1 s2:aw}(R0:Iz P w K mg base (14+n) "go_often" 4 s0)(R1:Iz P w K mg base (14+n) "go_choice" 4 s1)(R2:Iz P w K mg base (14+n) "go" 4 s2):Iz P w K mg base (14+n+1) "go_often" 4 (dj 6 (CY.eN aY s0 s1 s2)):=Bp ["doing","body","goings","row","going","number"] T.o_go_often (fun _ _ _ _ _ _ _ hr nd=>(ad (bc (Bq (bq T) hr (aa 0) (l1 (aa 3))))
  (aj (gC El rfl (fg (aa 2)) (gn 4 nd) (aj (gC El rfl (b7 rfl rfl T.Gv (l1 (aU hr (aa 4)))) (gn 5 nd) (ad (bc (cX R2 hr (lc (aa 0) (lc (aU hr (aa 1)) (lc (aU hr (aa 4)) (l1 (aB aE (aa 3) ac)))))))
  (aj (bc (Bq (bq T) hr (aa 0) (l1 (aa 3)))))))))))) rfl
theorem nO(T:Txt P w K mg)(n:Nat){s0 s1 s2:aw}(R0:Iz P w K mg base (14+n) "go_often" 4 s0)(R1:Iz P w K mg base (14+n) "go_choice" 4 s1)(R2:Iz P w K mg base (14+n) "go" 4 s2):Iz P w K mg base (14+n+1) "go_choice" 4 (dj 5 (CY.dH aY cU cy fP s0 s1 s2)):=Bp ["doing","body","trace","row","first"] T.o_go_choice (fun _ _ _ _ _ _ _ hr nd=>(ad (bc (Bq (bq T) hr (aa 0) (l1 (aa 3))))
  (ad (bo (tQ (rD (gu hr (aU hr (aa 1)) ay) (mS (gu hr (aU hr (aa 2)) ac)))) (aj (bc (Bq (lD T) hr (aa 0) (lc (aU hr (aa 1)) (lc (aU hr (aa 1)) (l1 (aa 3))))))) aM)
  (ad (s4 4 nd (yG (gu hr (aU hr (aa 2)) ac) (aB aE (aa 3) ac) (aB aE (aB aE (aa 3) ac) (c4 (hG T) hr (l1 (fG hr (aa 1) (kz de ac)))))))
  (aj (bc (cX R2 hr (lc (aa 0) (lc (c4 (my T) hr (lc (aa 1) (l1 (aa 2)))) (lc (aU hr (aa 2)) (l1 (aa 4)))))))))))) rfl
theorem CW(T:Txt P w K mg)(n:Nat){s0 s1 s2:aw}(R0:Iz P w K mg base (14+n) "go_often" 4 s0)(R1:Iz P w K mg base (14+n) "go_choice" 4 s1)(R2:Iz P w K mg base (14+n) "go" 4 s2):Iz P w K mg base (14+n+1) "go" 4 (dj 5 (CY.xX cy gq s0 s1 s2)):=Bp ["doing","body","trace","row","head"] T.o_go (fun _ _ _ _ _ _ _ hr nd=>(ad (s4 4 nd (aU hr (aa 1)))
  (aj (bo (gu hr (aa 4) ay) (ad (bc (cX R2 hr (lc (aa 0) (lc (aU hr (aa 1)) (lc (aU hr (aa 2)) (l1 (aa 3)))))))
  (aj (bc (cX R2 hr (lc (aa 0) (lc (aU hr (aa 1)) (lc (aU hr (aa 2)) (l1 (aB aE (aa 3) (c4 (hG T) hr (l1 (aU hr (aa 1))))))))))))) (aj (bo (gu hr (aa 4) ay) (aj (bc (cX R0 hr (lc (aa 0) (lc (aa 1) (lc (aa 2) (l1 (aa 3)))))))) (aj (bo (bD (rE (mh hr)) (aa 4) (aH (lc ay (l1 ay))) rfl) (aj (bc (cX R1 hr (lc (aa 0) (lc (aa 1) (lc (aa 2) (l1 (aa 3)))))))) (aj (bo (CH hr (aa 4) ay) (aj (bc (cX (qQ T) hr (lc (aa 0) (lc (aa 1) (l1 (aa 3))))))) aM)))))))))) rfl
theorem iF(T:Txt P w K mg):∀n:Nat,Iz P w K mg base (14+n) "go_often" 4 (eX n)∧Iz P w K mg base (14+n) "go_choice" 4 (dM n)∧Iz P w K mg base (14+n) "go" 4 (AY n)
 |0=>⟨.zero T.o_go_often,.zero T.o_go_choice,.zero T.o_go⟩
 |n+1=>let ⟨h0,h1,h2⟩:=iF T n;⟨pp T n h0 h1 h2,nO T n h0 h1 h2,CW T n h0 h1 h2⟩
def CZ:aw:=AY 12
theorem C0(T:Txt P w K mg):Iz P w K mg base 26 "go" 4 CZ:=(iF T 12).2.2
def nP:aw:=dj 7 (CY.qw eg CZ aY cy)
theorem j_(T:Txt P w K mg):Iz P w K mg base 27 "done" 5 nP:=Bp ["house","jars","d","trace","most","body","doing"] T.o_done (fun _ _ _ _ _ _ _ hr nd=>(ad (s4 5 nd (aU hr (fG hr (aU hr (aa 0)) (aa 2))))
  (ad (s4 6 nd (Fh T.FM (iE T) hr (lc (aU hr (aa 0)) (lc (aa 1) (l1 (aa 4))))))
  (ad (bc (cX (C0 T) hr (lc (aa 6) (lc (aa 5) (lc (aa 3) (l1 ac))))))
  (ad (bc (Bq (bq T) hr (aa 6) (l1 (c4 (hG T) hr (l1 (aa 5))))))
  (aj (ax (tR T.FM (aa 6))))))))) rfl
def jU:aw:=bn 5 C.fy
theorem nQ(T:Txt P w K mg):Gu P w K mg base 1 "_law_deal" 2 jU:=fF ["_law_script","_law_base","_law_one","_law_some","_law_number"] T.o__law_deal (fun _ _ _ _ _ _ _ hr nd=>(ad (CI [] 1 [] ["_law_one"] 3 nd (fg (b6 (aa 0) (cI (aa 1)) (cI ac))) (fun _=>(gn 0 CT)) (fun _=>d5) (fun _=>(cB (mY rfl) T.JU (lc (aa 0) (l1 (aB dE ac (aa 0)))))))
  (ad (s4 4 nd (aB aE ac (aa 1)))
  (ad (gC PassesOwn.never rfl (fg (aa 3)) (gn 2 nd) (aj (s4 4 nd (aB fh (aB aE (aB bR (aa 4) ac) (aB fh (aa 2) ac)) ac))))
  (aj (ax (Am (m6 ay (aa 4) (m6 ay ac (m6 ay (Ao sQ rfl (wm [] 1 [] ["_law_one"] (fg (aa 3)) (fun _=>(gn 0 CT)) (fun _=>(yJ (bD Cu (aa 0) (aB yK ac ac) (bb _)))) (fun _=>(aa 0))) rfl T.Lu rfl T.JL) Al)))))))))) rfl
def w__law_draw:aw:=bn 5 C.fz
theorem ak(T:Txt P w K mg):Gu P w K mg base 1 "_law_draw" 2 w__law_draw:=fF ["_law_deal_here","_law_many","_law_number","_law_one","_law_other"] T.o__law_draw (fun _ _ _ _ _ _ _ hr nd=>(ad (j2 PassesOwn.never (tQ (rD (gu hr (fG hr (aa 0) ay) ac) (mS (bD tm (cB d0 T.G7 (l1 (fG hr (aa 0) ay))) ac (bb _))))) (aj (l9 (xO hr) (En Az Cq (fG hr (aa 0) ay)) (aa 0) ay)))
  (ad (s4 2 nd (fG hr (aa 0) ay))
  (ad (bo (bD tm (aa 2) ac (bb _)) (ad (l9 (xO hr) (aB i7 (aa 2) (aa 1)) (aa 0) ay)
  (aj (ax (aB fh (aa 2) (aa 1))))) aM)
  (ad (s4 3 nd (aB fh (aB aE (aB bR (fG hr (aa 0) ay) ac) ac) ac))
  (ad (l9 (xO hr) (aB fh (aB aE (aB bR (aa 3) ac) ac) ac) (aa 0) ay)
  (ad (s4 4 nd (aB fh (aB bR (fG hr (aa 0) ay) (fG hr (aa 0) ay)) ac))
  (aj (ax (aB fh (aB aE (aB bR (aB fh (aB bR (aa 3) (aa 3)) ac) ac) (aa 4)) (aa 1))))))))))) rfl
def cV:aw:=bn 11 (C.eA w__law_draw)
theorem gG(T:Txt P w K mg):Gu P w K mg base 2 "_law_words" 2 cV:=fF ["_law_deal_here","_law_many","_law_letters","_law_taken","_law_k","_law_core","_law_at","_law_turn","_law_near","_law_found","_law_name"] T.o__law_words (fun _ _ _ _ _ _ _ hr nd=>(ad (s4 2 nd ay)
  (ad (s4 3 nd (dC (lc ay (lc ay (lc ay (lc ay (lc ay (lc ay (lc ay (lc ay (lc ay (l1 ay))))))))))))
  (ad (s4 5 nd (yL rM u_ ay (l1 (wm ["_law_letters","_law_deal_here"] 1 [0,2] ["_law_k","_law_deal_here","_law_letters"] (b7 rfl rfl T.Gv (l1 (c4 (ak T) hr (lc (aa 0) (l1 ac))))) (fun _=>(gn 0 EF)) (fun _=>d5) (fun _=>(fG hr (aa 2) (c4 (ak T) hr (lc (aa 1) (l1 ac)))))))))
  (ad (xI (i:=6) (j:=7) (k:=8) rfl nd rfl rfl rfl rfl rfl rfl (aH (lc (c4 (ak T) hr (lc (aa 0) (l1 (aB aE (cB d0 T.G7 (l1 (aa 5))) ac)))) (lc (c4 (ak T) hr (lc (aa 0) (l1 ac))) (l1 (oo (ot (mf hr)) (c4 (ak T) hr (lc (aa 0) (l1 ac))) ac (bb _)))))))
  (ad (s4 9 nd (dC on))
  (ad (gC PassesOwn.never rfl (b7 rfl rfl T.Gv (l1 (aa 1))) (gn 4 nd) (ad (s4 10 nd (aB aE (aB aE (b6 (aa 5) dR (cI (aa 6))) (fG hr (aa 2) (aB fh (aB aE (aa 7) (aa 4)) ac))) (b6 (aa 5) (cI (aa 6)) dR)))
  (ad (bo (uZ (rC (aa 8))) (aj (s4 10 nd (yL rM u_ ay (l1 (wm ["_law_letters","_law_deal_here"] 1 [0,2] ["_law_j","_law_deal_here","_law_letters"] (b7 rfl rfl T.Gv (l1 (aB aE ac (c4 (ak T) hr (lc (aa 0) (l1 ac)))))) (fun _=>(gn 0 EG)) (fun _=>d5) (fun _=>(fG hr (aa 2) (c4 (ak T) hr (lc (aa 1) (l1 ac)))))))))) aM)
  (ad (j2 PassesOwn.never (tQ (mT (bD (rE (mh hr)) (aa 10) (aa 3) rfl) (jN (bD (rE (mh hr)) (aa 10) (aa 9) rfl)))) (aj (s4 10 nd (aB aE (fG hr (aa 2) (aB fh (aB aE (yL vn xH (aa 2) (l1 (aU hr (aa 10)))) ac) ac)) (b6 (aa 10) (cI ac) dR)))))
  (aj (bc (yL ja kB (aa 9) (l1 (aa 10)))))))))
  (aj (ax (aa 9)))))))))) rfl
def hU:aw:=bn 4 C.gM
theorem pq(T:Txt P w K mg):Gu P w K mg base 1 "_law_low" 2 hU:=fF ["_law_top","_law_bottom","_law_one","_law_other"] T.o__law_low (fun _ _ _ _ _ _ _ hr nd=>(ad (yI (i:=2) (j:=3) rfl nd rfl rfl (by decide) rfl rfl (lc (cB (mY rfl) T.JU (lc (aa 0) (l1 (aB dE ac (aa 0))))) (l1 (aa 1))))
  (ad (j2 PassesOwn.never (bD tm (aa 3) ac (bb _)) (aj (yI (i:=2) (j:=3) rfl nd rfl rfl (by decide) rfl rfl (lc (aa 3) (l1 (aB fh (aa 2) (aa 3)))))))
  (aj (ax (aH (lc (aB i7 (aa 0) (aa 2)) (l1 (aB i7 (aa 1) (aa 2)))))))))) rfl
def fR:aw:=bn 2 (C.fA w__law_draw hU)
theorem nR(T:Txt P w K mg):Gu P w K mg base 2 "_law_cost" 1 fR:=fF ["_law_deal_here","_law_form"] T.o__law_cost (fun _ _ _ _ _ _ _ hr nd=>(ad (s4 1 nd (c4 (ak T) hr (lc (aa 0) (l1 ac))))
  (ad (bo (gu hr (aa 1) ac) (aj (ax (aH (lc ac (l1 ac))))) aM)
  (ad (bo (bD m7 (aa 1) ac (bb _)) (aj (ax (aH (lc (aB aE ac (c4 (ak T) hr (lc (aa 0) (l1 ac)))) (l1 ac))))) aM)
  (aj (ax (c4 (pq T) hr (lc (c4 (ak T) hr (lc (aa 0) (l1 ac))) (l1 (aB aE ac (c4 (ak T) hr (lc (aa 0) (l1 ac))))))))))))) rfl
def dN:aw:=bn 4 (C.fB w__law_draw fR)
theorem eY(T:Txt P w K mg):Gu P w K mg base 3 "_law_leaf" 2 dN:=fF ["_law_deal_here","_law_jars","_law_form","_law_many"] T.o__law_leaf (fun _ _ _ _ _ _ _ hr nd=>(ad (s4 2 nd (c4 (ak T) hr (lc (aa 0) (l1 ac))))
  (ad (bo (gu hr (aa 2) ac) (aj (ax (aH (l1 ay)))) aM)
  (ad (bo (tQ (mT (bD m7 (aa 2) ac (bb _)) (jN (gu hr (cB d0 T.G7 (l1 (aa 1))) ac)))) (aj (ax (aH (lc ay (l1 (c4 (nR T) hr (l1 (aa 0)))))))) aM)
  (ad (s4 3 nd (fG hr (dC (lc ac (lc ac (l1 (aB aE ac (c4 (ak T) hr (lc (aa 0) (l1 ac)))))))) (c4 (ak T) hr (lc (aa 0) (l1 ac)))))
  (aj (ax (aH (lc ay (lc (fG hr (aa 1) (c4 (ak T) hr (lc (aa 0) (l1 (cB d0 T.G7 (l1 (aa 1))))))) (l1 (aa 3)))))))))))) rfl
noncomputable def dO:Nat→aw
 |0=>rL
 |n+1=>bn 8 (C.fD w__law_draw dN (dO n))
def fS:aw:=dO 12
theorem iG(T:Txt P w K mg):Gu P w K mg base 15 "_law_body" 4 fS:=qu (b:=3) (r:=dO) T.o__law_body (fun n R0=>fF ["_law_deal_here","_law_jars","_law_left","_law_down","_law_form","_law_one","_law_other","_law_many"] T.o__law_body (fun _ _ _ _ _ _ _ hr nd=>(ad (s4 4 nd (c4 (ak T) hr (lc (aa 0) (l1 ac))))
  (ad (bo (tQ (mT (gu hr (aa 3) ac) (mT (bD m7 (aU hr (aa 2)) ac (bb _)) (jN (bD m7 (aa 4) ac (bb _)))))) (aj (ax (c4 (eY T) hr (lc (aa 0) (l1 (aa 1)))))) aM)
  (ad (bo (bD m7 (aa 4) ac (bb _)) (ad (l9 (xO hr) (aB dE (aU hr (aa 2)) ac) (aa 2) ac)
  (aj (ax (aH (lc ay (l1 (c4 R0 hr (lc (aa 0) (lc (aa 1) (lc (aa 2) (l1 (aB dE (aa 3) ac)))))))))))) aM)
  (ad (l9 (xO hr) (aB dE (aU hr (aa 2)) ac) (aa 2) ac)
  (ad (s4 5 nd (c4 R0 hr (lc (aa 0) (lc (aa 1) (lc (aa 2) (l1 (aB dE (aa 3) ac)))))))
  (ad (s4 6 nd (c4 R0 hr (lc (aa 0) (lc (aa 1) (lc (aa 2) (l1 (aB dE (aa 3) ac)))))))
  (ad (bo (bD m7 (aa 4) ac (bb _)) (aj (ax (aH (lc ay (lc (aa 5) (l1 (aa 6))))))) aM)
  (ad (bo (tQ (mT (gu hr (aa 4) ac) (jN (gu hr (cB d0 T.G7 (l1 (aa 1))) ac)))) (aj (ax (aH (lc ay (lc (aa 5) (l1 (aa 6))))))) aM)
  (ad (s4 7 nd (fG hr (dC (lc ac (lc ac (lc ac (l1 (aB aE ac (c4 (ak T) hr (lc (aa 0) (l1 ac))))))))) (c4 (ak T) hr (lc (aa 0) (l1 ac)))))
  (aj (ax (aH (lc ay (lc (fG hr (aa 1) (c4 (ak T) hr (lc (aa 0) (l1 (cB d0 T.G7 (l1 (aa 1))))))) (lc (aa 7) (lc (aa 5) (l1 (aa 6))))))))))))))))))) rfl) rfl rfl 12
noncomputable def bF:Nat→aw
 |0=>rL
 |n+1=>bn 1 (C.b8 (bF n))
def bG:aw:=bF 12
theorem dy(T:Txt P w K mg):Gu P w K mg base 12 "_law_pass_count" 1 bG:=qu (b:=0) (r:=bF) T.o__law_pass_count (fun n R0=>fF ["_law_body_here"] T.o__law_pass_count (fun _ _ _ _ _ _ _ hr nd=>(ad (bo (gu hr (aU hr (aa 0)) ay) (aj (ax (aB bR (c4 R0 hr (l1 (aU hr (aa 0)))) (c4 R0 hr (l1 (aU hr (aa 0))))))) aM)
  (ad (bo (tQ (mT (gu hr (aU hr (aa 0)) ay) (jN (gu hr (aU hr (aa 0)) ay)))) (aj (ax (aB aE (c4 R0 hr (l1 (fG hr (aa 0) (kz de ac)))) (c4 R0 hr (l1 (fG hr (aa 0) (kz de ac))))))) aM)
  (aj (ax ac))))) rfl) rfl rfl 12
noncomputable def bw:Nat→aw
 |0=>rL
 |n+1=>bn 1 (C.bW bG (bw n))
def dz:aw:=bw 12
theorem gv(T:Txt P w K mg):Gu P w K mg base 24 "_law_round_count" 1 dz:=qu (b:=12) (r:=bw) T.o__law_round_count (fun n R0=>fF ["_law_body_here"] T.o__law_round_count (fun _ _ _ _ _ _ _ hr nd=>(ad (bo (gu hr (aU hr (aa 0)) ay) (aj (ax (aB aE (c4 (dy T) hr (l1 (aU hr (aa 0)))) (c4 R0 hr (l1 (aU hr (aa 0))))))) aM)
  (ad (bo (bD (rE (mh hr)) (aU hr (aa 0)) (aH (lc ay (lc ay (l1 ay)))) rfl) (aj (ax (aB aE (c4 R0 hr (l1 (fG hr (aa 0) (kz de ac)))) (c4 R0 hr (l1 (fG hr (aa 0) (kz de ac))))))) aM)
  (aj (ax ac))))) rfl) rfl rfl 12
def cz:aw:=bn 5 (C.ci fS bG dz dN)
theorem iH(T:Txt P w K mg):Gu P w K mg base 25 "_law_deed_body" 4 cz:=fF ["_law_deal_here","_law_jars","_law_room","_law_most","_law_body_here"] T.o__law_deed_body (fun _ _ _ _ _ _ _ hr nd=>(ad (s4 4 nd (c4 (iG T) hr (lc (aa 0) (lc (aa 1) (lc (dC (l1 (aB dE (aa 2) ac))) (l1 ac))))))
  (ad (bo (bD tm (aB aE (c4 (dy T) hr (l1 (aa 4))) (c4 (gv T) hr (l1 (aa 4)))) (aa 3) (bb _)) (aj (s4 4 nd (aH (lc ay (lc (aH (lc ay (l1 (c4 (eY T) hr (lc (aa 0) (l1 (aa 1))))))) (l1 (c4 (eY T) hr (lc (aa 0) (l1 (aa 1)))))))))) aM)
  (aj (ax (aa 4)))))) rfl
def eZ:aw:=bn 9 (C.eB cV w__law_draw cz)
theorem lE(T:Txt P w K mg):Gu P w K mg base 26 "_law_house" 4 eZ:=fF ["_law_deal_here","_law_most_jars","_law_most_deeds","_law_room","_law_words_here","_law_jars","_law_first","_law_many","_law_deeds"] T.o__law_house (fun _ _ _ _ _ _ _ hr nd=>(ad (s4 4 nd (c4 (gG T) hr (lc (aa 0) (l1 ac))))
  (ad (s4 5 nd (cT bM T.FZ (l1 (b6 (aa 4) dR (cI (c4 (ak T) hr (lc (aa 0) (l1 (aB aE (aa 1) ac)))))))))
  (ad (s4 6 nd (fG hr (dC (lc ac (l1 ac))) (c4 (ak T) hr (lc (aa 0) (l1 ac)))))
  (ad (s4 7 nd (aB aE ac (c4 (ak T) hr (lc (aa 0) (l1 (aa 2))))))
  (ad (CI ["_law_words_here","_law_room","_law_many","_law_jars","_law_first","_law_deal_here"] 1 [0,6,5,7,3,4] ["_law_k","_law_deal_here","_law_first","_law_jars","_law_many","_law_room","_law_words_here"] 8 nd (b7 rfl rfl T.Gv (l1 (aa 7))) (fun _=>(gn 0 EH)) (fun _=>d5) (fun _=>(aH (lc (fG hr (aa 6) (aB aE (aa 2) (aa 0))) (l1 (c4 (iH T) hr (lc (aa 1) (lc (aa 3) (lc (aa 5) (l1 (aB i7 ac (aa 4))))))))))))
  (aj (ax (aH (lc (aa 5) (l1 (cT bM T.FZ (l1 (aa 8)))))))))))))) rfl
def cA:aw:=bn 4 (C.cj w__law_draw eZ cV fS)
theorem iI(T:Txt P w K mg):Gu P w K mg base 27 "_law_any_house" 1 cA:=fF ["_law_deal_here","_law_words_here","_law_jars","_law_many"] T.o__law_any_house (fun _ _ _ _ _ _ _ hr nd=>(ad (bo (gu hr (c4 (ak T) hr (lc (aa 0) (l1 ac))) ac) (aj (ax (c4 (lE T) hr (lc (aa 0) (lc ac (lc ac (l1 ac))))))) aM)
  (ad (s4 1 nd (c4 (gG T) hr (lc (aa 0) (l1 ac))))
  (ad (s4 2 nd (cT bM T.FZ (l1 (b6 (aa 1) dR (cI (c4 (ak T) hr (lc (aa 0) (l1 ac))))))))
  (ad (s4 3 nd (aB aE ac (c4 (ak T) hr (lc (aa 0) (l1 ac)))))
  (aj (ax (aH (lc (aa 2) (l1 (cT bM T.FZ (l1 (wm ["_law_words_here","_law_jars","_law_deal_here"] 1 [0,2,1] ["_law_k","_law_deal_here","_law_jars","_law_words_here"] (b7 rfl rfl T.Gv (l1 (aa 3))) (fun _=>(gn 0 CU)) (fun _=>d5) (fun _=>(aH (lc (fG hr (aa 3) (aB aE ac (aa 0))) (l1 (c4 (iG T) hr (lc (aa 1) (lc (aa 2) (lc (dC (l1 ac)) (l1 ac)))))))))))))))))))))) rfl
noncomputable def cW:Nat→aw
 |0=>rL
 |n+1=>bn 7 (C.eE w__law_draw (cW n))
def e9:aw:=cW 12
theorem lF(T:Txt P w K mg):Gu P w K mg base 13 "_law_trace" 3 e9:=qu (b:=1) (r:=cW) T.o__law_trace (fun n R0=>fF ["_law_deal_here","_law_body_here","_law_left","_law_one","_law_side","_law_found","_law_k"] T.o__law_trace (fun _ _ _ _ _ _ _ hr nd=>(ad (bo (gu hr (aU hr (aa 1)) ay) (ad (s4 3 nd (c4 R0 hr (lc (aa 0) (lc (aU hr (aa 1)) (l1 (aa 2))))))
  (aj (ax (aH (lc (aa 3) (l1 (c4 R0 hr (lc (aa 0) (lc (aU hr (aa 1)) (l1 (aa 2))))))))))) aM)
  (ad (bo (tQ (mT (gu hr (aU hr (aa 1)) ay) (jN (gu hr (aU hr (aa 1)) ay)))) (ad (s4 4 nd (c4 (ak T) hr (lc (aa 0) (l1 ac))))
  (aj (ax (aH (lc (aa 4) (l1 (c4 R0 hr (lc (aa 0) (lc (fG hr (aa 1) (aB dE (aa 4) ac)) (l1 (aa 2))))))))))) aM)
  (ad (s4 5 nd (dC on))
  (ad (gC PassesOwn.never rfl (b7 rfl rfl T.Gv (l1 (aB bR (c4 (ak T) hr (lc (aa 0) (l1 ac))) (cT Co T.Md (l1 (oo (ot (mf hr)) (aU hr (aa 1)) ay (bb _))))))) (gn 6 nd) (aj (bo (bD tm (aU hr (aa 2)) ac (bb _)) (ad (l9 (xO hr) (aB dE (aU hr (aa 2)) ac) (aa 2) ac)
  (aj (bc (yL ja kB (aa 5) (l1 (aH (lc (aB aE ac (c4 (ak T) hr (lc (aa 0) (l1 ac)))) (l1 (c4 R0 hr (lc (aa 0) (lc (aU hr (aa 1)) (l1 (aa 2))))))))))))) aM)))
  (aj (ax (cT bM T.FZ (l1 (aa 5)))))))))) rfl) rfl rfl 12
def cL(s0:aw):bh:=(ai (bA (aO (ah (bt false) (ah af (v3 0) (c3 (.int 0))) (c3 (.str "then")))) (aF (aI [(ae s0 [(ah af (v3 0) (c3 (.int 1))),(ah af (v3 1) (c3 (.int 0)))]),(ae s0 [(ah af (v3 0) (c3 (.int 2))),(ah af (v3 1) (c3 (.int 1)))])])) aW)
  (ai (bA (oq (aO (ah (bt false) (ah af (v3 0) (c3 (.int 0))) (c3 (.str "either")))) (aO (ah (bt false) (ah af (v3 0) (c3 (.int 0))) (c3 (.str "take"))))) (aF (aI [(ah af (v3 1) (c3 (.int 0))),(ae s0 [(ah af (v3 0) (ah bY (ah af (v3 1) (c3 (.int 0))) (c3 (.int 2)))),(ah af (v3 1) (c3 (.int 1)))])])) aW)
  (ai (aC 2 (c_ []))
  (ai (bA (aO (ah (bt false) (ah af (v3 0) (c3 (.int 0))) (c3 (.str "often")))) (dh (bO (v3 1)) (.tp (.cons (.n 3) (.cons (.n 4) .nil))) (aD (l7 "list" dD (v3 2) [(ah df (c_ [(aI [(c3 (.int 1)),(ae s0 [(ah af (v3 0) (c3 (.int 1))),(v3 4)])])]) (v3 3))]))) aW)
  (aF (aA a_ [(v3 2)]))))))
noncomputable def bV:Nat→aw
 |0=>rL
 |n+1=>bn 5 (cL (bV n))
def cM:aw:=bV 12
theorem jD(T:Txt P w K mg):Gu P w K mg base 12 "_law_laid_out" 2 cM:=qu (b:=0) (r:=bV) T.o__law_laid_out (fun n R0=>fF ["_law_body_here","_law_trace_here","_law_found","_law_many","_law_one"] T.o__law_laid_out (fun _ _ _ _ _ _ _ hr nd=>(ad (bo (gu hr (aU hr (aa 0)) ay) (aj (ax (aH (lc (c4 R0 hr (lc (aU hr (aa 0)) (l1 (aU hr (aa 1))))) (l1 (c4 R0 hr (lc (aU hr (aa 0)) (l1 (aU hr (aa 1)))))))))) aM)
  (ad (bo (tQ (mT (gu hr (aU hr (aa 0)) ay) (jN (gu hr (aU hr (aa 0)) ay)))) (aj (ax (aH (lc (aU hr (aa 1)) (l1 (c4 R0 hr (lc (fG hr (aa 0) (aB dE (aU hr (aa 1)) ac)) (l1 (aU hr (aa 1)))))))))) aM)
  (ad (s4 2 nd (dC on))
  (ad (bo (gu hr (aU hr (aa 0)) ay) (aj (gC PassesOwn.never rfl (fg (aa 1)) (Ac rfl (bI (gn 3 nd) (bI (gn 4 nd) kE))) (aj (bc (yL mn oy (aa 2) (l1 (aB bR (dC (l1 (aH (lc ac (l1 (c4 R0 hr (lc (aU hr (aa 0)) (l1 (aa 4))))))))) (aa 3)))))))) aM)
  (aj (ax (cT bM T.FZ (l1 (aa 2)))))))))) rfl) rfl rfl 12
def cN(II:aw):bh:=(ai (vp ["Stuck"] (aD (aG II [(v3 0),(v3 1),(v3 2),(v3 3),(c3 (.int 2000))])) (aF (c3 (.bl true))))
  (aF (c3 (.bl false))))
def cO:aw:=bn 4 (cN nP)
theorem jE(T:Txt P w K mg):Gu P w K mg base 28 "_law_is_stuck" 4 cO:=fF ["_law_house_here","_law_jars","_law_d","_law_trace_here"] T.o__law_is_stuck (fun _ _ _ _ _ _ _ hr nd=>(ad (Es T.KM (fun E pins hp=>(aj (bc (cX (j_ T) hr (lc (aa 0) (lc (aa 1) (lc (aa 2) (lc (aa 3) (l1 ac))))))))) (fun a=>(aj (ax om))))
  (aj (ax om)))) rfl
def fU:bh:=(aF (aA a_ [(bz (qo (v3 0) (v3 1)) (.tp (.cons (.n 0) (.cons (.n 1) .nil))) di (ah aS (v3 0) (v3 1)) 2 [])]))
def fV:aw:=bn 2 fU
theorem e_(T:Txt P w K mg):Gu P w K mg base 1 "_law_more" 2 fV:=fF ["_law_jars","_law_more_here"] T.o__law_more (fun _ _ _ _ _ _ _ hr nd=>(aj (ax (cT bM T.FZ (l1 (wm [] 2 [] ["_law_there","_law_many"] (ve rfl rfl rfl T.JV (by decide +kernel) (lc (aa 0) (l1 (aa 1)))) (fun _=>(Ac rfl (bI (gn 0 yP) (bI (gn 1 yP) kE)))) (fun _=>d5) (fun _=>(aB aE (aa 0) (aa 1))))))))) rfl
def cP(JW II Ho Io Ip:aw):bh:=(ai (sZ (ae JW [(v3 0),(v3 1),(v3 2)]) (.tp (.cons (.n 4) (.cons (.n 5) (.cons (.n 6) .nil)))))
  (ai (bA (aO (ah pL (aA nj [(ah aS (v3 6) (aI [(c3 (.int 0))]))]) (c3 (.int 0)))) (aF (c3 (.bl false))) aW)
  (ai (aC 7 (aG II [(v3 0),(v3 6),(v3 1),(v3 2),(c3 (.int 2000))]))
  (ai (bA (oq (aO (ah (bt true) (bv (ah af (v3 7) (c3 (.int 0))) (l5 (c3 (.int 1))) nT) (aI [(v3 6),(aI [(c3 (.int 0)),(c3 (.int 1))])]))) (aO (ah (bt true) (bv (ah af (v3 7) (lZ dY (c3 (.int 1)))) (l5 (c3 (.int 1))) nT) (aI [(ae Ho [(v3 6),(v3 5)]),(v3 4)])))) (aF (c3 (.bl false))) aW)
  (ai (dh (fk (aA dB [(v3 6)])) (.n 8) (ai (aC 9 (ah aS (ah aS (bv (v3 6) nT (l5 (v3 8))) (aI [(ah bY (ah af (v3 6) (v3 8)) (c3 (.int 1)))])) (bv (v3 6) (l5 (ah aS (v3 8) (c3 (.int 1)))) nT)))
  (bA (jW (aO (ah tj (ah af (v3 6) (v3 8)) (c3 (.int 0)))) (mR (aO (ae Io [(v3 0),(v3 9),(v3 1),(v3 2)])))) (aF (c3 (.bl false))) aW)))
  (ai (aC 10 (bz (bO (v3 7)) (.tp (.cons (.n 0) (.cons (.n 1) (.cons (.n 2) .nil)))) di (aI [(v3 0),(ae Ho [(v3 1),(v3 3)]),(v3 2)]) 3 [3]))
  (ai (bA (aO (ah (bt true) (aG II [(v3 0),(ae Ho [(v3 6),(v3 3)]),(v3 1),(v3 2),(c3 (.int 2000))]) (v3 10))) (aF (c3 (.bl false))) aW)
  (ai (aC 11 (ae Ip [(ah af (ah af (ah af (v3 0) (c3 (.int 1))) (v3 1)) (c3 (.int 1))),(v3 2)]))
  (aF (ky (ah (bt false) (ae JW [(v3 0),(v3 1),(v3 11)]) (aI [(v3 4),(v3 5),(v3 6)])) (ah (bt false) (aG II [(v3 0),(v3 6),(v3 1),(v3 11),(c3 (.int 2000))]) (v3 7))))))))))))
def fb:aw:=dj 12 (cP nM nP fV cO cM)
theorem lG(T:Txt P w K mg):Iz P w K mg base 29 "_law_right" 4 fb:=Bp ["_law_house_here","_law_d","_law_trace_here","_law_more_here","_law_cost_here","_law_effect","_law_demand","_law_first","_law_k","_law_fewer","_law_due","_law_other"] T.o__law_right (fun _ _ _ _ _ _ _ hr nd=>(ad (Cs (c4 (pk T) hr (lc (aa 0) (lc (aa 1) (l1 (aa 2))))) (Ac rfl (bI (gn 4 nd) (bI (gn 5 nd) (bI (gn 6 nd) kE)))))
  (ad (bo (bD m7 (cB (xW rfl) T.Me (l1 (aB aE (aa 6) (aH (l1 ac))))) ac (bb _)) (aj (ax om)) aM)
  (ad (s4 7 nd (cX (j_ T) hr (lc (aa 0) (lc (aa 6) (lc (aa 1) (lc (aa 2) (l1 ac)))))))
  (ad (bo (tQ (mT (CH hr (b6 (aU hr (aa 7)) (cI ac) dR) (aH (lc (aa 6) (l1 (aH (lc ac (l1 ac))))))) (jN (CH hr (b6 (fG hr (aa 7) (kz de ac)) (cI ac) dR) (aH (lc (c4 (e_ T) hr (lc (aa 6) (l1 (aa 5)))) (l1 (aa 4)))))))) (aj (ax om)) aM)
  (ad (gC El rfl (b7 rfl rfl T.Gv (l1 (cB d0 T.G7 (l1 (aa 6))))) (gn 8 nd) (ad (s4 9 nd (aB aE (aB aE (b6 (aa 6) dR (cI (aa 8))) (aH (l1 (aB dE (fG hr (aa 6) (aa 8)) ac)))) (b6 (aa 6) (cI (aB aE (aa 8) ac)) dR)))
  (aj (bo (tQ (rD (bD tm (fG hr (aa 6) (aa 8)) ac (bb _)) (mS (uZ (rC (c4 (jE T) hr (lc (aa 0) (lc (aa 9) (lc (aa 1) (l1 (aa 2))))))))))) (aj (ax om)) aM))))
  (ad (CI ["_law_more_here"] 3 [3] ["_law_row","_law_jars","_law_spent","_law_more_here"] 10 nd (fg (aa 7)) (fun _=>(Ac rfl (bI (gn 0 vX) (bI (gn 1 vX) (bI (gn 2 vX) kE))))) (fun _=>d5) (fun _=>(aH (lc (aa 0) (lc (c4 (e_ T) hr (lc (aa 1) (l1 (aa 3)))) (l1 (aa 2)))))))
  (ad (bo (CH hr (cX (j_ T) hr (lc (aa 0) (lc (c4 (e_ T) hr (lc (aa 6) (l1 (aa 3)))) (lc (aa 1) (lc (aa 2) (l1 ac)))))) (aa 10)) (aj (ax om)) aM)
  (ad (s4 11 nd (c4 (jD T) hr (lc (aU hr (fG hr (aU hr (aa 0)) (aa 1))) (l1 (aa 2)))))
  (aj (ax (Ce (oo (ot (mf hr)) (c4 (pk T) hr (lc (aa 0) (lc (aa 1) (l1 (aa 11))))) (aH (lc (aa 4) (lc (aa 5) (l1 (aa 6))))) (bb _)) (Cd (oo (ot (mf hr)) (cX (j_ T) hr (lc (aa 0) (lc (aa 6) (lc (aa 1) (lc (aa 11) (l1 ac)))))) (aa 7) (bb _))))))))))))))) rfl
def v5(Jy Ia FD Jl Jm:aw):bh:=(ai (aC 1 (ae Jy [(v3 0),(c3 (.int 0))]))
  (ai (dh (fk (c3 (.int 2))) (.n 2) (ai (aC 3 (ae Ia [(v3 1)]))
  (ai (aC 4 (ae FD [(v3 1),(aA dB [(ah af (v3 3) (c3 (.int 1)))])]))
  (ai (aC 5 (ae Jl [(v3 1),(ah af (ah af (ah af (v3 3) (c3 (.int 1))) (v3 4)) (c3 (.int 1))),(c_ [(c3 (.int 2))])]))
  (ai (aC 6 (aA a_ [(bz (bO (ah af (v3 3) (c3 (.int 0)))) (.n 0) di (ae FD [(v3 1),(ah af (c_ [(c3 (.int 2)),(c3 (.int 10)),(ah qq (c3 (.int 10)) (c3 (.int 6)))]) (ae FD [(v3 1),(c3 (.int 3))]))]) 1 [1])]))
  (bA (mR (aO (aG Jm [(v3 3),(v3 4),(v3 5),(v3 6)]))) (aF (c3 (.bl false))) aW))))))
  (aF (c3 (.bl true)))))
def pA:aw:=bn 7 (v5 jU cA w__law_draw e9 fb)
theorem AZ(T:Txt P w K mg){f:Addr}{fd:FuncData}(O:Dp K mg "law" (bp 54) ["_law_script"] f fd):KG P w K mg base 30 f fd ["_law_script"] pA:=Ff ["_law_script","_law_deal_here","_law_turn","_law_house_here","_law_d","_law_trace_here","_law_more_here"] O (fun _ _ _ _ _ _ _ hr nd=>(ad (s4 1 nd (c4 (nQ T) hr (lc (aa 0) (l1 ac))))
  (ad (gC PassesOwn.never rfl (b7 rfl rfl T.Gv (l1 ac)) (gn 2 nd) (ad (s4 3 nd (c4 (iI T) hr (l1 (aa 1))))
  (ad (s4 4 nd (c4 (ak T) hr (lc (aa 1) (l1 (cB d0 T.G7 (l1 (aU hr (aa 3))))))))
  (ad (s4 5 nd (c4 (lF T) hr (lc (aa 1) (lc (aU hr (fG hr (aU hr (aa 3)) (aa 4))) (l1 (dC (l1 ac)))))))
  (ad (s4 6 nd (cT bM T.FZ (l1 (wm ["_law_deal_here"] 1 [1] ["_law_name","_law_deal_here"] (fg (aU hr (aa 3))) (fun _=>(gn 0 CV)) (fun _=>d5) (fun _=>(c4 (ak T) hr (lc (aa 1) (l1 (fG hr (dC (lc ac (lc ac (l1 (aB yK ac ac))))) (c4 (ak T) hr (lc (aa 1) (l1 ac))))))))))))
  (aj (bo (uZ (rC (cX (lG T) hr (lc (aa 3) (lc (aa 4) (lc (aa 5) (l1 (aa 6)))))))) (aj (ax om)) aM)))))))
  (aj (ax om))))) rfl
end
end G21
namespace G21
open PySem L2 L3 Wd
open C CY
noncomputable def dn(js:List Str)(t:Bd)(v:PV)(cs:List Int):Wl:=cm t.rows (fw js t 0 v (w0 cs))
theorem v7{js:List Str}{cs:List Int}(M:Nat)(hl:cs.length=js.length)(h:∀c∈cs,0≤c∧c≤10 ^ 9):Hh js.length M 0 (w0 cs):=⟨hl,fun c hc=>by have:=h c hc;show _∧c+0≤10 ^ 9+9 * (((w0 cs).rows.length:Nat):Int);have e:(w0 cs).rows.length=0:=rfl;rw[e];omega,Int.le_refl 0,by show(0:Int)+0 * 400000≤3600000 * (0:Int);omega,Nat.zero_le _,by intro q hq;cases hq⟩
structure Ak (js:List Str) (ds:List (Str×Bd)) (i:Nat) (t:Bd) (v:PV):Prop where
 at_:∃z,ds[i]?=some (z,t)
 jn:js.Nodup
 j8:js.length≤8
 dp:t.dep≤6
 sz:t.size≤60
 gd:t.good js []
 tr:aN t v=true
 ib:bS (2 ^ 60) v=true
 cn:cQ t v+1≤2000
section
variable {js:List Str} {ds:List (Str×Bd)} {i:Nat} {t:Bd} {v:PV} {cs:List Int}
theorem Ak.gw(a:Ak js ds i t v):Gd js 2000 (whole 2000 js t v) (fun w=>cm t.rows (fw js t 0 v w)) (t.FY js v) (cQ t v+1):=(vW a.jn t 0 v a.gd a.tr).post t.rows
theorem Ak.lay(a:Ak js ds i t v):Ak js ds i t (lay t v):=let o:=qN (js:=js) t v a.gd a.tr;⟨a.at_,a.jn,a.j8,a.dp,a.sz,a.gd,o.tr,o.ib a.ib,by rw[o.cn];exact a.cn⟩
theorem lq{x:aw}(Gb:d_ x){S:ar}{Q:bB}{E:bH}(a:Ak js ds i t v)(hl:cs.length=js.length)(hc:∀c∈cs,0≤c∧c≤10 ^ 9)(hd:Dm cs (t.FY js v).2)(k:∀p S',S p=none→S' p=some (.lst ((dn js t v cs).rows.map iA))→Ext S S'→Q (.ref p) S'):x [nv js ds,.tup (cs.map PV.int),.int i,v,.int 2000] S Q E:=by
 obtain⟨z,hi⟩:=a.at_
 have g:=a.gw
 have e:=(g.yes (w0 cs) rfl hl (fun c h=>(hc c h).1) (by show 0+_≤_;have:=a.cn;omega) hd).1
 have r:(dn js t v cs).run=true:=g.rn (w0 cs)
 refine Gb (M:=2000) hi (v7 2000 hl hc) (by decide) a.jn (by have:=a.j8;omega) a.dp (by have:=a.sz;omega) a.gd a.tr a.ib (fun _=>by rw[e];exact k) (fun h=>?_) (fun r' h _=>?_)
 ·rw[e]at h;exact absurd (r.symm.trans (ju h)) (by decide)
 ·rw[e]at h;exact absurd (r.symm.trans (gW h)) (by decide)
theorem ym{x:aw}(Gb:d_ x){S:ar}{Q:bB}{E:bH}(a:Ak js ds i t v)(hl:cs.length=js.length)(hc:∀c∈cs,0≤c∧c≤10 ^ 9)(hd:¬Dm cs (t.FY js v).2)(k:∀r S',Ext S S'→E (j6 r) [] S'):x [nv js ds,.tup (cs.map PV.int),.int i,v,.int 2000] S Q E:=by
 obtain⟨z,hi⟩:=a.at_
 obtain⟨o,r,s⟩:=a.gw.st (w0 cs) rfl hl (fun c h=>(hc c h).1) (by show 0+_≤_;have:=a.cn;omega) hd
 refine Gb (M:=2000) hi (v7 2000 hl hc) (by decide) a.jn (by have:=a.j8;omega) a.dp (by have:=a.sz;omega) a.gd a.tr a.ib (fun h=>?_) (fun h=>?_) (fun r' h _=>k r')
 ·exact absurd (h.symm.trans (gW s)) (by decide)
 ·rw[o]at h;cases h
theorem sd:∀l:List (Int×Int),Dm (l.map (·.2)) l
 |[]=>trivial
 |p::l=>⟨Int.le_refl _,sd l⟩
theorem se:∀{l:List (Int×Int)} {k:Nat} {x:Int},(l.map (·.2))[k]?=some x→¬Dm ((l.map (·.2)).take k++(x - 1)::(l.map (·.2)).drop (k+1)) l
 |[],k,x,h=>by simp at h
 |p::l,0,x,h=>by
  have:p.2=x:=by simpa using h
  rintro⟨h1,_⟩
  omega
 |p::l,k+1,x,h=>fun⟨_,h2⟩=>se (by simpa using h) h2
theorem sf:∀{J m:List Int} {l:List (Int×Int)},Dm J l→(∀c∈m,0≤c)→m.length=J.length→Dm (cR J m) l
 |[],_,_,_,_,_=>trivial
 |_::_,[],_,_,_,h=>by cases h
 |c::J,d::m,[],_,_,_=>trivial
 |c::J,d::m,p::l,⟨h1,h2⟩,h,hl=>⟨by have:=h d (by simp);have h1:p.2≤c:=h1;show p.2≤c+d;omega,sf h2 (fun c hc=>h c (by simp[hc])) (by simpa using hl)⟩
theorem yn{m:List Int}(hm:m.length=js.length)(hl:cs.length=js.length):dn js t v (cR cs m)=Bt m (dn js t v cs):=by
 unfold dn
 have:=((yk (js:=js) t 0 v).comp (HS.cm t.rows)) m (w0 cs) hm hl
 exact this.1
theorem A0(a:Ak js ds i t v):dn js t (lay t v) cs=dn js t v cs:=by unfold dn;rw[(qN (js:=js) t v a.gd a.tr).fw]
theorem yo(a:Ak js ds i t v)(hl:cs.length=js.length):∃q,(dn js t v cs).rows=q++[((t.rows:Int),eV cs (t.FY js v).2,(t.FY js v).1)]:=by
 have g:=vW (M:=2000) a.jn t 0 v a.gd a.tr
 refine⟨(fw js t 0 v (w0 cs)).rows,?_⟩
 unfold dn cm
 dsimp only
 rw[g.jr _ hl,g.co,show(w0 cs).cost=0 from rfl,Int.zero_add]
 rfl
theorem v8(a:Ak js ds i t v)(hl:cs.length=js.length)(hc:∀c∈cs,0≤c)(hd:Dm cs (t.FY js v).2):∃r q,(dn js t v cs).rows=(r,cs,0)::q:=by
 have hr0:t.rows≤1000:=by have:=t.HY;have:=a.sz;omega
 have g:=vW (M:=2000) a.jn t 0 v a.gd a.tr
 have e:=(g.yes (w0 cs) rfl hl hc (by show 0+_≤_;have:=a.cn;omega) hd).1
 let P:Wl→Prop:=fun w=>(w.rows=[]∧w.FG=cs∧w.cost=0)∨∃r q,w.rows=(r,cs,0)::q
 let P':Wl→Prop:=fun w=>∃r q,w.rows=(r,cs,0)::q
 have Nt:∀(r:Int) (w:Wl),P w→P' (cm r w):=fun r w h=>by
  rcases h with⟨h1,h2,h3⟩|⟨r',q,h⟩
  ·exact⟨r,[],by unfold cm;dsimp only;rw[h1,h2,h3];rfl⟩
  ·exact⟨r',q++[(r,w.FG,w.cost)],by unfold cm;dsimp only;rw[h];rfl⟩
 have k:=qH (M:=2000) (js:=js) (R:=1000) P P' (fun r w _ _ hw h=>by
  rw[cG hw]
  split
  ·exact⟨h,fun z=>by rw[ju rfl]at z;cases z⟩
  ·exact⟨.inr (Nt r w h),fun _=>Nt r w h⟩) (fun w h=>.inr h) (fun w n _ _ h=>.inr h) (fun w z m _ _ _ h=>.inr h) (fun w z m r _ _ _ _ _ h=>by split<;>exact .inr h) t 0 v (w0 cs) a.gd (by decide) (by omega) (.inl ⟨rfl,rfl,rfl⟩)
 rw[e]at k
 exact Nt _ _ k
theorem yp(a:Ak js ds i t v)(hl:cs.length=js.length)(hc:∀c∈cs,0≤c∧c≤10 ^ 9)(hd:Dm cs (t.FY js v).2):∀q∈(dn js t v cs).rows,q.2.1.length=js.length:=by
 have hr0:t.rows≤1000:=by have:=t.HY;have:=a.sz;omega
 have w:=Hh.whole (M:=2000) (by decide) t v (w0 cs) a.gd hr0 (v7 2000 hl hc)
 rw[(a.gw.yes (w0 cs) rfl hl (fun c h=>(hc c h).1) (by show 0+_≤_;have:=a.cn;omega) hd).1]at w
 exact fun q hq=>(w.2.2.2.2.2 q hq).2.1
theorem A6(a:Ak js ds i t v):(dn js t v cs).rows.length≤2000:=by
 have:=a.gw.rl (w0 cs)
 have e:(w0 cs).rows.length=0:=rfl
 have:=a.cn
 unfold dn
 omega
theorem A7{xs:List PV}{y:PV}:Gp (xs++[y]) (-1)=some y:=by
 unfold Gp pZ
 rw[if_neg (by omega),if_pos (by simp;omega)]
 have:(-1+((xs++[y]).length:Int)).toNat=xs.length:=by simp;omega
 rw[this]
 show(xs++[y])[xs.length]?=some y
 simp
end
def Nq(k:Nat)(v:PV):Prop:=∃d:PyData,(∀S,Dat S v d)∧d.canLay0=true∧d.depth≤k∧PyData.eqv d d=true
def Lv(k:Nat)(vs:List PV):Prop:=∃ds:List PyData,(∀S,G9 S vs ds)∧PyData.canLayAll0 ds=true∧PyData.depthAll ds≤k∧PyData.eqvAll ds ds=true
theorem Lv.of{k:Nat}:∀{vs:List PV},(∀v∈vs,Nq k v)→Lv k vs
 |[],_=>⟨[],fun _=>.nil,by simp[PyData.canLayAll0],by simp[PyData.depthAll],by simp[PyData.eqvAll]⟩
 |v::vs,h=>by
  obtain⟨d,a,b,c,e⟩:=h v (by simp)
  obtain⟨ds,a',b',c',e'⟩:=Lv.of (vs:=vs) fun v hv=>h v (by simp[hv])
  exact⟨d::ds,fun S=>.cons (a S) (a' S),by simp[PyData.canLayAll0,b,b'],by simp only[PyData.depthAll];exact Nat.max_le.mpr ⟨c,c'⟩,by simp[PyData.eqvAll,e,e']⟩
theorem Nq.int{k:Nat}(i:Int):Nq k (.int i):=⟨.int i,fun _=>.int i,by simp[PyData.canLay0],by simp[PyData.depth],by simp[PyData.eqv]⟩
theorem Nq.tup{k:Nat}{vs:List PV}(h:Lv k vs):Nq (k+1) (.tup vs):=by
 obtain⟨ds,a,b,c,e⟩:=h
 exact⟨.tuple ds,fun S=>.tup (a S),by simpa [PyData.canLay0]using b,by simp only[PyData.depth];omega,by simpa [PyData.eqv]using e⟩
theorem Nq.ints{k:Nat}(J:List Int):Nq (k+1) (.tup (J.map PV.int)):=.tup (.of fun v hv=>by obtain⟨i,_,rfl⟩:=List.mem_map.mp hv;exact .int i)
theorem Nq.cf{k:Nat}(n:Int):Nq (k+1) (cf n):=.ints [M3.bu n 2520,M3.aZ n 2520]
theorem Nq.row(q:Int×List Int×Int):Nq 2 (iA q):=.tup (.of fun v hv=>by
 simp only[List.mem_cons,List.not_mem_nil,or_false]at hv
 rcases hv with rfl|rfl|rfl
 ·exact .int _
 ·exact .ints _
 ·exact .cf _)
theorem qR{k:Nat}{neg:Bool}{vs:List PV}{S:ar}{Q:bB}(h:Lv k vs)(hk:k≤100)(q:Q (.bl (neg != true)) S):bt neg (.tup vs) (.tup vs) S Q:=by
 obtain⟨ds,a,b,c,e⟩:=h
 exact⟨.tuple ds,.tuple ds,.tup (a S),.tup (a S),by simpa [PyData.canLay0]using b,by simpa [PyData.canLay0]using b,by rw[Nat.min_self];simp only[PyData.depth];omega,by rw[show PyData.eqv (.tuple ds) (.tuple ds)=true by simpa [PyData.eqv]using e];exact q⟩
theorem sg{neg:Bool}{a b:Addr}{qs:List (Int×List Int×Int)}{S:ar}{Q:bB}(ha:S a=some (.lst (qs.map iA)))(hb:S b=some (.lst (qs.map iA)))(q:Q (.bl (neg != true)) S):bt neg (.ref a) (.ref b) S Q:=by
 obtain⟨ds,d,l,c,e⟩:Lv 2 (qs.map iA):=.of fun v hv=>by obtain⟨u,_,rfl⟩:=List.mem_map.mp hv;exact .row u
 exact⟨.list ds,.list ds,.ref ha (d S),.ref hb (d S),by simpa [PyData.canLay0]using l,by simpa [PyData.canLay0]using l,by rw[Nat.min_self];simp only[PyData.depth];omega,by rw[show PyData.eqv (.list ds) (.list ds)=true by simpa [PyData.eqv]using e];exact q⟩
abbrev lr(x:aw):Prop:=∀{S:ar} {J m:List Int} {Q:bB} {E:bH},J.length≤1000→(∀S',Ext S S'→Q (.tup ((cR J m).map PV.int)) S')→x [.tup (J.map PV.int),.tup (m.map PV.int)] S Q E
theorem HR:lr (bn 2 fU):=by
 intro S J m Q E hj k
 unfold fU
 refine fI ?_
 rw[show av 2 [.tup (J.map PV.int),.tup (m.map PV.int)]=[some (.tup (J.map PV.int)),some (.tup (m.map PV.int))] from rfl]
 walk_at "x"
 rw[show dg (J.map PV.int) (m.map PV.int)=(J.zip m).map fun z=>.tup [.int z.1,.int z.2] by unfold dg;rw[List.zip_map,List.map_map];rfl]
 refine cu _ (fun z=>PV.int (z.1+z.2)) trivial _ [] (fun z hz=>⟨_,rfl,fun Q q=>?_⟩) ?_ fun p hp=>?_
 ·walk_at "x"
  exact q
 ·rw[List.length_nil,Nat.zero_add,List.length_zip]
  exact ix (by omega)
 ·simp only[List.nil_append,FC]
  rw[qF (fun c d=>c+d) PV.int J m]
  exact k _ (.new hp)
abbrev jF(x:aw):Prop:=∀{S:ar} {js:List Str} {ds:List (Str×Bd)} {cs:List Int} {i:Nat} {t:Bd} {v:PV} {Q:bB} {E:bH},Ak js ds i t v→cs.length=js.length→(∀c∈cs,0≤c∧c≤10 ^ 9)→¬Dm cs (t.FY js v).2→(∀S',Ext S S'→Q (.bl true) S')→x [nv js ds,.tup (cs.map PV.int),.int i,v] S Q E
theorem IJ{xd:aw}(Gb:d_ xd):jF (bn 4 (cN xd)):=by
 intro S js ds cs i t v Q E a hl hc hd k
 unfold cN
 refine fI ?_
 rw[show av 4 [nv js ds,.tup (cs.map PV.int),.int i,v]=[some (nv js ds),some (.tup (cs.map PV.int)),some (.int i),some v] from rfl]
 refine az fun N hN=>?_
 simp only[vp,aD,aG,ap,v3,lk,c3]
 refine ym Gb a hl hc hd fun r S1 X1=>⟨by decide,?_⟩
 simp only[aF,c3]
 exact k S1 X1
abbrev fW(n:Nat)(x:aw):Prop:=∀{S:ar} {t:Bd} {v:PV} {Q:bB} {E:bH},t.dep≤n→aN t v=true→cQ t v≤2000→(∀S',Ext S S'→Q (lay t v) S')→x [t.pv,v] S Q E
theorem sh{f:PV→Nat}:∀{xs:List PV} {x:PV} {k:Nat},x∈xs→k+f x≤xs.foldl (fun k g=>k+f g) k
 |y::xs,x,k,h=>by
  have mono:∀(xs:List PV) (k:Nat),k≤xs.foldl (fun k g=>k+f g) k:=fun xs=>by
   induction xs with
   |nil=>intro k;exact Nat.le_refl _
   |cons y xs ih=>intro k;exact Nat.le_trans (Nat.le_add_right _ _) (ih _)
  rcases List.mem_cons.mp h with rfl|h
  ·exact mono xs _
  ·exact Nat.le_trans (Nat.add_le_add_right (Nat.le_add_right _ _) _) (sh (xs:=xs) h)
noncomputable def R(a:Bd)(g:PV):List PV:=List.replicate (nm (cv g)).toNat (.tup [.int 1,lay a (bE g)])
theorem pB(a:Bd):∀(xs:List PV) (k:Nat),(xs.flatMap (R a)).length+k≤xs.foldl (fun k g=>k+(nm (cv g)).toNat * (cQ a (bE g)+1)) k
 |[],k=>by simp
 |x::xs,k=>by
  rw[List.flatMap_cons,List.length_append,List.foldl_cons]
  have h:=pB a xs (k+(nm (cv x)).toNat * (cQ a (bE x)+1))
  have:(nm (cv x)).toNat≤(nm (cv x)).toNat * (cQ a (bE x)+1):=Nat.le_mul_of_pos_right _ (Nat.succ_pos _)
  have e:(R a x).length=(nm (cv x)).toNat:=List.length_replicate
  omega
theorem Jn{s0:aw}(n:Nat)(ih:fW n s0):fW (n+1) (bn 5 (cL s0)):=by
 intro S t v Q E hd hv hc k
 unfold cL
 refine fI ?_
 rw[show av 5 [t.pv,v]=[some t.pv,some v,none,none,none] from rfl]
 cases t with
 |rest=>simp only[Bd.pv];walk_at "y"; intro p hp;simp only[FC];exact k _ (.new hp)
 |pay x y=>simp only[Bd.pv];walk_at "y"; intro p hp;simp only[FC];exact k _ (.new hp)
 |put z m=>simp only[Bd.pv];walk_at "y"; intro p hp;simp only[FC];exact k _ (.new hp)
 |use z=>simp only[Bd.pv];walk_at "y"; intro p hp;simp only[FC];exact k _ (.new hp)
 |FI a b=>
  obtain⟨x,y,rfl,hx,hy⟩:=jm hv
  have hc:cQ a x+cQ b y≤2000:=hc
  simp only[Bd.dep]at hd
  simp only[Bd.pv];walk_at "y"
  exact ih (by omega) hx (by omega) fun S1 X1=>ih (by omega) hy (by omega) fun S2 X2=>k S2 (X1.trans X2)
 |Gx a b=>
  obtain⟨j,y,rfl,hy⟩:=jo hv
  simp only[Bd.dep]at hd
  simp only[Bd.pv];walk_at "y"
  rcases hy with⟨rfl,hy⟩|⟨rfl,hy⟩
  ·have hc:cQ a y+1≤2000:=hc
   simp only[Int.reduceSub,Int.reduceNeg,qx]
   exact ih (by omega) hy (by omega) k
  ·have hc:cQ b y+1≤2000:=hc
   simp only[Int.reduceSub,Int.reduceNeg,vA]
   exact ih (by omega) hy (by omega) k
 |GJ z m a b=>
  obtain⟨j,y,rfl,hy⟩:=jp hv
  simp only[Bd.dep]at hd
  simp only[Bd.pv];walk_at "y"
  rcases hy with⟨rfl,hy⟩|⟨rfl,hy⟩
  ·have hc:cQ a y+2≤2000:=hc
   simp only[Int.reduceSub,Int.reduceNeg,qy]
   exact ih (by omega) hy (by omega) k
  ·have hc:cQ b y+2≤2000:=hc
   simp only[Int.reduceSub,Int.reduceNeg,vB]
   exact ih (by omega) hy (by omega) k
 |Gn a=>
  obtain⟨xs,rfl,hx⟩:=jq hv
  simp only[Bd.dep]at hd
  have hc:xs.foldl (fun k g=>k+(nm (cv g)).toNat * (cQ a (bE g)+1)) 0+1≤2000:=hc
  have hlen:=pB a xs 0
  simp only[Bd.pv]
  refine az fun N hN=>?_
  walk_at "y"
  refine hN _ _ (az fun N hN=>?_)
  walk_at "y"
  refine hN _ _ (az fun N hN=>?_)
  simp only[aC,c_,ap]
  intro p hp
  have fp:(FF S p (.lst [])) p=some (.lst []):=FC
  have X0:Ext S (FF S p (.lst [])):=.new hp
  generalize FF S p (.lst [])=S1 at fp X0
  simp only[List.set_cons_succ,List.set_cons_zero]
  refine hN _ _ (az fun N hN=>?_)
  simp only[bA,aO,ah,v3,lk,c3,af,eP,bt,decide_true,Bool.false_bne,if_true,dh,bO,gB]
  refine cD (fun done σ S'=>∃x3 x4,σ=[some (.tup [.str "often",a.pv]),some (.tup xs),some (.ref p),x3,x4]∧S' p=some (.lst (done.flatMap (R a)))∧Ext S S') ⟨_,_,rfl,fp,X0⟩ (fun _ _ _ _=>trivial) ?_ ?_
  ·rintro done x rest σ S2 K e ⟨x3,x4,rfl,f2,X2⟩ hK
   have e:xs=done++x::rest:=e
   have IS:x∈xs:=by rw[e];simp
   have hge:=sh (f:=fun g=>(nm (cv g)).toNat * (cQ a (bE g)+1)) (k:=0) IS
   obtain⟨m,y,rfl,hm,hy⟩:=fc (List.all_eq_true.mp hx x IS)
   have hge:0+m.toNat * (cQ a y+1)≤_:=hge
   have h1:m.toNat≤m.toNat * (cQ a y+1):=Nat.le_mul_of_pos_right _ (Nat.succ_pos _)
   have h2:cQ a y+1≤m.toNat * (cQ a y+1):=Nat.le_mul_of_pos_left _ (by omega)
   have hl:(done.flatMap (R a)).length+m.toNat≤2000:=by
    rw[e,List.flatMap_append,List.flatMap_cons,List.length_append,List.length_append]at hlen
    have e3:(R a (.tup [.int m,y])).length=m.toNat:=List.length_replicate
    rw[←e]at hlen
    omega
   simp only[Tg.put,Tg.GO,List.set_cons_succ,List.set_cons_zero]
   simp only[aD,l7,ap,ah,c_,aI,ae,v3,lk,c3,af,fJ,yH,f2,true_and]
   refine ih (by omega) hy (by omega) fun S3 X3=>?_
   intro p1 hp1
   simp only[df,FC]
   refine⟨by omega,by omega,Nat.le_trans (m:=2000) (by simp;omega) (by decide),fun p2 hp2=>?_⟩
   have f3:=X3 _ _ f2
   have Oi:p≠p1:=fun h=>by rw[h,hp1]at f3;cases f3
   have Pk:p≠p2:=fun h=>by rw[←h,al Oi,f3]at hp2;cases hp2
   simp only[dD,al Pk,al Oi,f3,FC]
   rw[show(List.replicate m.toNat [PV.tup [.int 1,lay a y]]).flatten=R a (.tup [.int m,y])from List.flatten_replicate_singleton]
   refine⟨Nat.le_trans (m:=2000) (by rw[show(R a (.tup [.int m,y])).length=m.toNat from List.length_replicate];omega) (by decide),?_⟩
   refine hK _ _ ⟨_,_,rfl,by rw[FC,List.flatMap_append];simp,fun b u hb=>?_⟩
   have nb:b≠p:=fun h=>by rw[h,hp]at hb;cases hb
   have h3:=X3 _ _ (X2 _ _ hb)
   have Oj:b≠p1:=fun h=>by rw[h,hp1]at h3;cases h3
   have Pl:b≠p2:=fun h=>by rw[←h,al Oj,h3]at hp2;cases hp2
   rw[al nb,al Pl,al Oj]
   exact h3
  ·rintro σ S2 ⟨x3,x4,rfl,f2,X2⟩
   refine hN _ _ ?_
   walk_at "x"
   simp only[f2]
   exact k S2 X2
abbrev jG(x:aw):Prop:=∀{S:ar} {js:List Str} {ds:List (Str×Bd)} {m:List Int} {i:Nat} {t:Bd} {v:PV} {Q:bB} {E:bH},Ak js ds i t v→m.length=js.length→(∀c∈m,0≤c∧c≤10 ^ 6)→(∀S',Ext S S'→Q (.bl true) S')→x [nv js ds,.int i,v,.tup (m.map PV.int)] S Q E
theorem IK{xt xd xm xs xl:aw}(HQ:jt xt)(Gb:d_ xd)(HR:lr xm)(IJ:jF xs)(Jn:fW 6 xl):jG (dj 12 (cP xt xd xm xs xl)):=by
 intro S js ds m i t v Q E a hm hm0 k
 unfold cP
 refine yM ?_
 rw[show av 12 [nv js ds,.int i,v,.tup (m.map PV.int)]=[some (nv js ds),some (.int i),some v,some (.tup (m.map PV.int)),none,none,none,none,none,none,none,none] from rfl]
 obtain⟨z,hi⟩:=a.at_
 have j8:=a.j8
 have g:=a.gw
 have o:=bX t v a.gd a.tr
 have b:=g.bd
 have cn:=a.cn
 have Ol:=qN (js:=js) t v a.gd a.tr
 have hself:=sd (t.FY js v).2
 have Om:(t.FY js v).es=((t.FY js v).2.map (·.1)).map PV.int:=by unfold Ty.es;rw[List.map_map];rfl
 have On:(t.FY js v).dm=((t.FY js v).2.map (·.2)).map PV.int:=by unfold Ty.dm;rw[List.map_map];rfl
 have jl:((t.FY js v).2.map (·.2)).length=js.length:=by rw[List.length_map];exact o.1
 have jc:∀c∈(t.FY js v).2.map (·.2),0≤c∧c≤18000:=fun c hc=>by
  obtain⟨p,hp,rfl⟩:=List.mem_map.mp hc
  have h1:=(b.2 p hp).2.2
  exact⟨o.2.2 p hp,by omega⟩
 have LH:∀c∈(t.FY js v).2.map (·.2),0≤c∧c≤10 ^ 9:=fun c hc=>⟨(jc c hc).1,by have:=(jc c hc).2;omega⟩
 have Mf:cR ((t.FY js v).2.map (·.2)) ((t.FY js v).2.map (·.1))=eV ((t.FY js v).2.map (·.2)) (t.FY js v).2:=by unfold cR eV;rw[List.zipWith_map_right]
 obtain⟨ql,Mg⟩:=yo (cs:=(t.FY js v).2.map (·.2)) a jl
 obtain⟨r0,qf,Lw⟩:=v8 (cs:=(t.FY js v).2.map (·.2)) a jl (fun c hc=>(jc c hc).1) hself
 refine az fun N hN=>?_
 simp only[sZ,ae,ap,v3,lk]
 refine HQ (us:=[]) (by omega) hi a.gd a.tr a.ib a.dp fun S1 X1=>?_
 unfold Ty.pv
 rw[Om,On]
 generalize hJ:(t.FY js v).2.map (·.2)=J at *
 generalize hF:(t.FY js v).2.map (·.1)=F at *
 simp only[Tg.put,Tg.GO,List.set_cons_succ,List.set_cons_zero]
 refine hN _ _ (az fun N hN=>?_)
 have e0:Gp ((dn js t v J).rows.map iA) 0=some (iA (r0,J,0)):=by rw[Lw,List.map_cons];exact eP
 have e1:Gp ((dn js t v J).rows.map iA) (-1)=some (iA ((t.rows:Int),cR J F,(t.FY js v).1)):=by rw[Mg,List.map_append,Mf];exact A7
 have hrl:=yp a jl LH hself
 have hln:=A6 (cs:=J) a
 have two:∀(K:List Int) (n:Int),Lv 1 [.tup (K.map PV.int),cf n]:=fun K n=>.of fun u hu=>by
  simp only[List.mem_cons,List.not_mem_nil,or_false]at hu
  rcases hu with rfl|rfl
  ·exact .ints _
  ·exact .cf _
 -- none below nought
 simp only[bA,aO,ah,aA,ap,v3,lk,c3,aI,aS]
 refine⟨ix (by rw[List.length_map,jl];show _+1≤_;omega),?_⟩
 simp only[nj]
 rw[show J.map PV.int++[PV.int 0]=(J++[0]).map PV.int by simp,oF]
 refine⟨by simp,fun M hM _=>?_⟩
 have hM0:0≤M:=by
  rcases List.mem_append.mp hM with h|h
  ·exact(jc M h).1
  ·rw[List.mem_singleton.mp h];exact Int.le_refl _
 simp only[pL,dA]
 rw[decide_eq_false (by omega)]
 simp only[Bool.false_eq_true,if_false,aW]
 refine hN _ _ (az fun N hN=>?_)
 -- from the Nu
 simp only[aC,aG,ap,v3,lk,c3]
 refine lq Gb a jl LH hself fun p S2 hp f2 X2=>?_
 have Pm:=X1.trans X2
 simp only[List.set_cons_succ,List.set_cons_zero]
 refine hN _ _ (az fun N hN=>?_)
 simp only[bA,oq,aO,ah,bv,l5,nT,v3,lk,c3,af,f2,e0,e1,lZ,dY,aI,ap,ae,mX,iA]
 rw[show dZ [PV.int r0,.tup (J.map PV.int),cf 0] (some 1) none=[.tup (J.map PV.int),cf 0] from rfl,j4]
 refine qR (two _ _) (by decide) ?_
 simp only[bne_self_eq_false,Bool.false_eq_true,if_false]
 simp only[bA,oq,aO,ah,bv,l5,nT,v3,lk,c3,af,f2,e0,e1,lZ,dY,aI,ap,ae,mX,iA]
 refine HR (by omega) fun S3 X3=>?_
 rw[show dZ [PV.int (t.rows:Int),.tup ((cR J F).map PV.int),cf (t.FY js v).1] (some 1) none=[.tup ((cR J F).map PV.int),cf (t.FY js v).1] from rfl]
 refine qR (two _ _) (by decide) ?_
 simp only[bne_self_eq_false,Bool.false_eq_true,if_false,aW]
 have f3:=X3 _ _ f2
 have Pn:=Pm.trans X3
 refine hN _ _ (az fun N hN=>?_)
 -- from one less
 simp only[dh,fk,aA,ap,v3,lk,dB,List.length_map]
 refine⟨by omega,by omega,?_⟩
 refine cD (fun done σ S'=>∃x8 x9,σ=[some (nv js ds),some (.int i),some v,some (.tup (m.map PV.int)),some (cf (t.FY js v).1),some (.tup (F.map PV.int)),some (.tup (J.map PV.int)),some (.ref p),x8,x9,none,none]∧S' p=some (.lst ((dn js t v J).rows.map iA))∧Ext S S') ⟨_,_,rfl,f3,Pn⟩ (fun _ _ _ _=>trivial) ?_ ?_
 ·rintro done x rest σ S4 K e ⟨x8,x9,rfl,f4,X4⟩ hK
  obtain⟨rfl,hidx⟩:=ip e
  have hlt:done.length < J.length:=by omega
  have hx:J[done.length]?=some J[done.length]:=List.getElem?_eq_getElem hlt
  have IS:J[done.length]∈J:=List.getElem_mem hlt
  generalize J[done.length]=c at hx IS
  simp only[Tg.put,List.set_cons_succ,List.set_cons_zero]
  refine az fun N2 Je=>?_
  have ea:Gp (J.map PV.int) (done.length:Int)=some (.int c):=bC (by rw[List.getElem?_map,hx];rfl)
  have c1:dZ (J.map PV.int) none (some (done.length:Int))=(J.take done.length).map PV.int:=by rw[qA (by rw[List.length_map];omega),List.map_take]
  have c2:dZ (J.map PV.int) (some ((done.length:Int)+1)) none=(J.drop (done.length+1)).map PV.int:=by
   rw[show((done.length:Int)+1)=((done.length+1:Nat):Int) by omega,AJ (by rw[List.length_map];omega),List.map_drop]
  simp only[aC,ah,bv,l5,nT,v3,lk,c3,mX,aI,ap,af,ea,bY,dA,aS,c1,c2,List.length_map,List.length_take,List.length_append,List.length_drop,List.length_cons,List.length_nil,List.set_cons_succ,List.set_cons_zero]
  refine⟨ix (by omega),ix (by omega),?_⟩
  rw[show(J.take done.length).map PV.int++[PV.int (c - 1)]++(J.drop (done.length+1)).map PV.int=(J.take done.length++(c - 1)::J.drop (done.length+1)).map PV.int by simp]
  refine Je _ _ ?_
  simp only[bA,jW,mR,aO,ah,v3,lk,c3,af,ea,tj,dA,ae,ap]
  by_cases h0:0 < c
  ·rw[decide_eq_true h0]
   simp only[if_true]
   refine IJ a ?_ (fun u hu=>?_) ?_ fun S5 X5=>?_
   ·rw[List.length_append,List.length_cons,List.length_take,List.length_drop];omega
   ·rcases List.mem_append.mp hu with hu|hu
    ·exact LH u (List.mem_of_mem_take hu)
    ·rcases List.mem_cons.mp hu with rfl|hu
     ·have:=(LH c IS).2;omega
     ·exact LH u (List.mem_of_mem_drop hu)
   ·subst hJ;exact se hx
   ·simp only[Bool.not_true,Bool.false_eq_true,if_false,aW]
    exact hK _ _ ⟨_,_,rfl,X5 _ _ f4,X4.trans X5⟩
  ·rw[decide_eq_false h0]
   simp only[Bool.false_eq_true,if_false,aW]
   exact hK _ _ ⟨_,_,rfl,f4,X4⟩
 ·rintro σ S4 ⟨x8,x9,rfl,f4,X4⟩
  refine hN _ _ (az fun N hN=>?_)
  -- from more
  simp only[aC,bz,bO,v3,lk,gB,f4]
  refine d8 (fun done ys S'=>∃qs rs:List (Int×List Int×Int),(dn js t v J).rows=qs++rs∧done.length=qs.length∧ys=(qs.map fun q=>(q.1,cR q.2.1 m,q.2.2)).map iA∧qs.length≤2000∧Ext S4 S') ⟨[],_,rfl,rfl,rfl,by decide,.refl⟩ ?_ ?_ ?_
  ·rintro done ys S' ⟨qs,rs,_,_,rfl,hq,X5⟩
   exact⟨X5 _ _ f4,Nat.le_trans (m:=2000) (by simpa using hq) (by decide)⟩
  ·rintro done x rest ys S5 K e ⟨qs,rs,er,ed,rfl,hq,X5⟩ hK
   have e:(dn js t v J).rows.map iA=done++x::rest:=e
   have e2:((dn js t v J).rows.map iA)[qs.length]?=some x:=by rw[e,←ed];simp
   cases rs with
   |nil=>rw[er]at e2;simp at e2
   |cons q rs=>
   obtain rfl:iA q=x:=by rw[er]at e2;simpa using e2
   have Po:q∈(dn js t v J).rows:=by rw[er];simp
   have hl2:qs.length+1≤2000:=by have:=congrArg List.length er;simp at this;omega
   have hq1:=hrl q Po
   simp only[kF,iA,List.replicate_succ,List.replicate_zero,List.map_cons,List.map_nil,List.cons_append,List.nil_append,lk,Tg.put,Tg.GO,List.set_cons_zero,List.set_cons_succ,di,if_true]
   simp only[aI,ap,ae,v3,lk]
   refine HR (by omega) fun S6 X6=>?_
   exact hK _ _ ⟨qs++[q],rs,by rw[er];simp,by simp[ed],by simp[iA],by simpa using hl2,X5.trans X6⟩
  ·rintro ys S5 ⟨qs,rs,er,ed,rfl,hq,X5⟩
   intro p2 hp2
   obtain rfl:rs=[]:=by have h1:=congrArg List.length er;rw[List.length_map]at ed;rw[List.length_append]at h1;exact List.eq_nil_of_length_eq_zero (by omega)
   rw[List.append_nil]at er
   have f6:(FF S5 p2 (.lst ((qs.map fun q=>(q.1,cR q.2.1 m,q.2.2)).map iA))) p2=some (.lst (((dn js t v J).rows.map fun q=>(q.1,cR q.2.1 m,q.2.2)).map iA)):=by rw[FC,er]
   have X6:Ext S5 (FF S5 p2 (.lst ((qs.map fun q=>(q.1,cR q.2.1 m,q.2.2)).map iA))):=.new hp2
   generalize FF S5 p2 (.lst ((qs.map fun q=>(q.1,cR q.2.1 m,q.2.2)).map iA))=S6 at f6 X6
   have g6:=X6 _ _ (X5 _ _ f4)
   have Pp:=X4.trans (X5.trans X6)
   simp only[List.set_cons_succ,List.set_cons_zero]
   refine hN _ _ (az fun N hN=>?_)
   simp only[bA,aO,ah,aG,ae,ap,v3,lk,c3]
   refine HR (by omega) fun S7 X7=>?_
   have hma:(cR J m).length=js.length:=by unfold cR;rw[List.length_zipWith,jl,hm,Nat.min_self]
   refine lq Gb a hma (fun c hc=>?_) (sf hself (fun c hc=>(hm0 c hc).1) (by rw[hm,jl])) fun p3 S8 hp3 f8 X8=>?_
   ·unfold cR at hc
    obtain⟨u,hu,w,hw,rfl⟩:=iu hc
    have:=jc u hu;have:=hm0 w hw
    omega
   rw[yn hm jl]at f8
   refine sg f8 (X8 _ _ (X7 _ _ f6)) ?_
   simp only[bne_self_eq_false,Bool.false_eq_true,if_false,aW]
   have g8:=X8 _ _ (X7 _ _ g6)
   have Pq:=Pp.trans (X7.trans X8)
   refine hN _ _ (az fun N hN=>?_)
   -- laid out
   rw[show nv js ds = .tup [fN js,.tup (ds.map oQ)] from rfl]
   simp only[aC,ae,ap,ah,v3,lk,c3,af,fJ]
   rw[bC (v:=oQ (z,t)) (by rw[List.getElem?_map,hi];rfl)]
   unfold oQ
   simp only[fJ]
   refine Jn a.dp a.tr (by omega) fun S9 X9=>?_
   simp only[List.set_cons_succ,List.set_cons_zero]
   refine hN _ _ ?_
   simp only[aF,ky,ah,ae,aG,aI,ap,v3,lk,c3]
   refine HQ (js:=js) (us:=[]) (ds:=ds) (by omega) hi a.gd a.lay.tr a.lay.ib a.dp fun S10 Oo=>?_
   rw[Ol.ta]
   unfold Ty.pv
   rw[Om,On]
   refine qR (k:=1) (.of fun u hu=>?_) (by decide) ?_
   ·simp only[List.mem_cons,List.not_mem_nil,or_false]at hu
    rcases hu with rfl|rfl|rfl
    ·exact .cf _
    ·exact .ints _
    ·exact .ints _
   simp only[Bool.false_bne,if_true]
   refine lq (js:=js) (ds:=ds) Gb a.lay jl LH (by rw[Ol.ta];exact hself) fun p4 S11 Mv Op Oq=>?_
   rw[A0 a]at Op
   refine sg Op (Oq _ _ (Oo _ _ (X9 _ _ g8))) ?_
   exact k _ (Pq.trans (X9.trans (Oo.trans Oq)))
abbrev yq(w:aw):Prop:=∀{ns:List Int} {S:ar} {Q:bB} {E:bH},ns.length≤63→(∀S',Q (.bl true) S')→w [.cl (ns.map PV.int)] S Q E
theorem A8{x0 x1 x2 x3 x4:aw}(Jc:oN x0)(JI:nB x1)(FE:bJ x2)(Mh:iB 6 x3)(IK:jG x4):yq (bn 7 (v5 x0 x1 x2 x3 x4)):=by
 intro ns S Q E hns k
 unfold v5
 refine fI ?_
 rw[show av 7 [PV.cl (ns.map PV.int)]=[some (.cl (ns.map PV.int)),none,none,none,none,none,none] from rfl]
 refine az fun N hN=>?_
 simp only[aC,ae,ap,v3,lk,c3]
 refine Jc hns (by decide) (by decide) fun d l S1 _ _ D1 _=>?_
 simp only[List.set_cons_succ,List.set_cons_zero]
 refine hN _ _ (az fun N hN=>?_)
 simp only[dh,fk,c3]
 refine⟨by decide,by decide,?_⟩
 refine cD (fun done σ S'=>∃(y2 y3 y4 y5 y6:Option PV),σ=[some (.cl (ns.map PV.int)),some (.ref d),y2,y3,y4,y5,y6]∧FN S' d l) ⟨_,_,_,_,_,rfl,D1⟩ (fun _ _ _ _=>trivial) ?_ ?_
 ·rintro done u rest σ S2 K e ⟨y2,y3,y4,y5,y6,rfl,D2⟩ hK
  simp only[Tg.put,List.set_cons_succ,List.set_cons_zero]
  refine az fun N2 Je=>?_
  simp only[aC,ae,ap,v3,lk]
  refine JI D2 fun js ds S3 ho hd1 hd4 Pr D3 O3=>?_
  simp only[List.set_cons_succ,List.set_cons_zero]
  refine Je _ _ (az fun N2 Je=>?_)
  rw[show nv js ds = .tup [fN js,.tup (ds.map oQ)] from rfl]
  simp only[aC,ae,aA,ap,ah,v3,lk,c3,af,fJ,dB,List.length_map]
  refine FE D3 (by omega) (by omega) fun i S4 i0 i1 D4 O4=>?_
  obtain⟨ii,rfl⟩:=Int.eq_ofNat_of_zero_le i0
  have Os:ii < ds.length:=by omega
  have hds:ds[ii]?=some (ds[ii].1,ds[ii].2):=List.getElem?_eq_getElem Os
  have hm:ds[ii]∈ds:=List.getElem_mem Os
  have hg:=ho.gd _ hm
  have Nv:=ho.dq _ hm
  have hsz:=ho.sz _ hm
  generalize ds[ii].2=t at hds hg Nv hsz
  generalize ds[ii].1=z at hds
  simp only[List.set_cons_succ,List.set_cons_zero]
  refine Je _ _ (az fun N2 Je=>?_)
  simp only[aC,ae,ap,ah,v3,lk,c3,af,fJ,c_]
  rw[bC (v:=oQ (z,t)) (by rw[List.getElem?_map,hds];rfl)]
  unfold oQ
  simp only[fJ]
  intro px hpx
  have Ot:=D4.free hpx
  refine Mh (D4.new hpx) FC Ot.1 Ot.2 (by decide) Nv fun tr S5 lf h1 h2 h3 l0 l1 D5 _ O5=>?_
  have hcn:cQ t tr+1≤2000:=by
   have q1:4 ^ ((2:Int) - lf).toNat≤4 ^ 2:=Nat.pow_le_pow_right (by decide) (by omega)
   have q2:=Nat.mul_le_mul (show 2 * t.size≤120 by omega) q1
   omega
  have hA:Ak js ds ii t tr:=⟨⟨z,hds⟩,ho.jn,Pr,Nv,hsz,hg,h1,h2,hcn⟩
  simp only[List.set_cons_succ,List.set_cons_zero]
  refine Je _ _ (az fun N2 Je=>?_)
  simp only[aC,aA,ap,bz,bO,ah,v3,lk,c3,af,eP,fN,gB]
  refine d8 (fun done ys S'=>∃cs:List Int,ys=cs.map PV.int∧cs.length=done.length∧done.length≤js.length∧(∀c∈cs,0≤c∧c≤10 ^ 6)∧FN S' d l) ⟨[],rfl,rfl,Nat.zero_le _,by simp,D5⟩ ?_ ?_ ?_
  ·rintro done ys S' ⟨cs,rfl,e,hd,_⟩
   exact⟨trivial,bT (by rw[List.length_map,e];omega)⟩
  ·rintro done x rest ys S6 K e ⟨cs,rfl,e2,hd,hc,D6⟩ hK
   have hdl:done.length+1≤js.length:=by have:=congrArg List.length e;simp at this;omega
   simp only[kF,List.replicate_succ,List.replicate_zero,List.map_cons,List.map_nil,List.cons_append,List.nil_append,lk,Tg.put,List.set_cons_zero,di,if_true]
   simp only[ah,af,c_,ae,ap,v3,lk,c3,qq,fu]
   refine⟨⟨by decide,by decide,by decide⟩,?_⟩
   rw[show((10:Int) ^ Int.toNat 6)=1000000 from rfl]
   intro p hp
   have dp:=D6.free hp
   refine FE (D6.new hp) (by decide) (by decide) fun w S7 w0 w1 D7 O7=>?_
   have f7:=O7 _ _ (FC (S:=S6) (a:=p)) dp.1 dp.2
   simp only[f7]
   obtain⟨c,hc2,Ou⟩:=gc (xs:=[PV.int 2,.int 10,.int 1000000]) w0 (by simpa using w1)
   rw[hc2]
   obtain⟨cc,rfl,q0,q1⟩:∃cc,c = .int cc∧1≤cc∧cc≤10 ^ 6:=by
    simp only[List.mem_cons,List.not_mem_nil,or_false]at Ou
    rcases Ou with rfl|rfl|rfl
    ·exact⟨_,rfl,by decide,by decide⟩
    ·exact⟨_,rfl,by decide,by decide⟩
    ·exact⟨_,rfl,by decide,by decide⟩
   dsimp only
   refine FE D7 (by omega) (by omega) fun b S8 b0 b1 D8 O8=>?_
   refine hK _ _ ⟨cs++[b],by simp,by simp[e2],by rw[List.length_append];exact hdl,fun y hy=>?_,D8⟩
   rcases List.mem_append.mp hy with hy|hy
   ·exact hc y hy
   ·rw[List.mem_singleton.mp hy];exact⟨b0,by omega⟩
  ·rintro ys S6 ⟨cs,rfl,e2,hd,hc,D6⟩
   have hcl:cs.length=js.length:=by rw[e2,List.length_map]
   intro p hp
   simp only[a_,ou,FC,List.set_cons_succ,List.set_cons_zero]
   have D7:FN (FF S6 p (.lst (cs.map PV.int))) d l:=D6.new hp
   generalize FF S6 p (.lst (cs.map PV.int))=S7 at D7
   refine Je _ _ ?_
   simp only[bA,mR,aO,aG,ap,v3,lk]
   refine IK (js:=js) (ds:=ds) hA hcl hc fun S8 X8=>?_
   simp only[Bool.not_true,Bool.false_eq_true,if_false,aW]
   exact hK _ _ ⟨_,_,_,_,_,rfl,D7.ext X8⟩
 ·rintro σ S2 ⟨y2,y3,y4,y5,y6,rfl,D2⟩
  refine hN _ _ ?_
  simp only[aF,c3]
  exact k S2
theorem fX:bJ w__law_draw:=FE
theorem C1:nl hU:=JH
theorem si:f_ cV:=Hk fX
theorem A9:kP fR:=Jd fX C1
theorem v9:il dN:=Hw fX A9
theorem qS:∀n,fL n (dO n)
 |0=>fun _ _ _ _ _ _ _ h0 h1 _=>by omega
 |n+1=>HN fX v9 n (qS n)
theorem pC:∀n,cr n (bF n)
 |0=>fun h _ _=>absurd h (by have:=Bd.Gj;exact Nat.not_le.mpr (this _))
 |n+1=>tF n (pC n)
theorem pD:cr 12 bG:=pC 12
theorem pE:∀n,n≤12→eQ n (bw n)
 |0,_=>fun h _ _=>absurd h (by have:=Bd.Gj;exact Nat.not_le.mpr (this _))
 |n+1,hn=>tG n 12 pD (pE n (by omega)) (by omega)
theorem EI:eR cz:=nu 12 (by decide) (qS 12) pD (pE 12 (by decide)) v9
theorem yr:gT eZ:=tI si fX EI
theorem C2:nB cA:=JI fX yr si 12 (by decide) (qS 12)
theorem C3:∀n,iB n (cW n)
 |0=>fun _ _ _ _ _ h _=>absurd h (by have:=Bd.Gj;exact Nat.not_le.mpr (this _))
 |n+1=>AW fX n (C3 n)
theorem EJ:iB 6 e9:=fun a b c d e f k=>C3 12 a b c d e (Nat.le_trans f (by decide)) k
theorem v_:iy nJ:=HP (Hy Hx)
theorem yt:jg gZ:=IA
theorem sj:∀n,dI n (eW n)
 |0=>fun h _ _=>absurd h (by have:=Bd.Gj;exact Nat.not_le.mpr (this _))
 |n+1=>IB yt n (sj n)
theorem ls:dr 6 cy:=fun h a b=>tJ 12 (sj 12) HZ (Nat.le_trans h (by decide)) a b
theorem sk:gj cE:=Hn G6 FT
theorem A_:gX gq:=tN gi (JK v_) sk
theorem Ba:k_ cU:=Ji sk
theorem C4:∀n,n≤12→jx (n / 2) (AY n)∧lg ((n+1) / 2) (dM n)∧jy ((n+1) / 2) (eX n)
 |0,_=>⟨fun _ _ _ _ _ _ h=>absurd h (by have:=Bd.Gj;exact Nat.not_le.mpr (this _)),fun _ _ _ _ _ _ h=>absurd h (by have:=Bd.Gj;exact Nat.not_le.mpr (this _)),fun _ _ _ _ _ _ h=>absurd h (by have:=Bd.Gj;exact Nat.not_le.mpr (this _))⟩
 |n+1,hn=>by
  obtain⟨a,b,c⟩:=C4 n (by omega)
  refine⟨?_,?_,?_⟩
  ·exact fun{S o ps js M t r v w Q E} h1 h2 h3 h4 h5 h6 h7 h8 h9 i1 i2 i3 i4 i5=>Ks (E:=E) ls A_ ((n+1) / 2) (by omega) c b (fun g1 g2 g3 g4 g5 g6 g7 g8 g9 f1 f2 f3 f4 f5=>a g1 g2 g3 g4 g5 g6 (Nat.le_trans g7 (by omega)) g8 g9 f1 f2 f3 f4 f5) h1 h2 h3 h4 h5 h6 h7 h8 h9 i1 i2 i3 i4 i5
  ·rw[show(n+1+1) / 2=n / 2+1 by omega]
   exact yj (s0:=eX n) (s1:=dM n) gi Ba ls FX (n / 2) (by omega) a
  ·rw[show(n+1+1) / 2=n / 2+1 by omega]
   exact vT (s0:=eX n) (s1:=dM n) gi (n / 2) a
theorem wa:d_ nP:=Gb Jj (C4 12 (by decide)).1 gi ls
theorem yu:jh nK:=IE (Hy Hx)
theorem pF:eU ee:=Gy G6 v_
theorem yv:jk j9:=IF Jh yu
theorem wb:gU bU:=H_ FT
theorem yQ:∀n,iz ((n+1) / 2) (g_ n)∧k8 (n / 2) (cx n)
 |0=>⟨fun _ _ _ _ h _=>absurd h (by have:=Bd.Gj;exact Nat.not_le.mpr (this _)),fun _ _ _ _ h _=>absurd h (by have:=Bd.Gj;exact Nat.not_le.mpr (this _))⟩
 |n+1=>by
  obtain⟨a,b⟩:=yQ n
  refine⟨?_,?_⟩
  ·rw[show(n+1+1) / 2=n / 2+1 by omega]
   exact fun{S js us t v Q E} h1 h2 h3 h4 h5 h6=>JJ Hz FT pF FX wb (n / 2) b (fun g1 g2 g3 g4 g5 g6=>a g1 g2 g3 g4 (Nat.le_trans g5 (by omega)) g6) (S:=S) (js:=js) (us:=us) (t:=t) (v:=v) (Q:=Q) (E:=E) h1 h2 h3 h4 h5 h6
  ·exact fun{S js us t v Q E} h1 h2 h3 h4 h5 h6=>tM (s0:=cx n) Hz pF yv ((n+1) / 2) a (S:=S) (js:=js) (us:=us) (a:=t) (v:=v) (Q:=Q) (E:=E) h1 h2 h3 h4 h5 h6
theorem yw:jt nM:=HQ (yQ 12).1
theorem Bb:lr fV:=HR
theorem yx:jF cO:=IJ wa
theorem we:∀n,fW n (bV n)
 |0=>fun h=>absurd h (by have:=Bd.Gj;exact Nat.not_le.mpr (this _))
 |n+1=>Jn n (we n)
theorem Bc:fW 6 cM:=fun a b c k=>we 12 (Nat.le_trans a (by decide)) b c k
theorem yy:jG fb:=IK yw wa Bb yx Bc
theorem wf:∀ns:List Int,ns.length≤63→pA [.cl (ns.map PV.int)] (fun _=>none) (fun v _=>v = .bl true) gD:=fun ns h=>A8 Jc C2 fX EJ yy h fun _=>rfl
end G21
namespace L3
open PySem L2 Xc
theorem wo{P:List Value→Prop}(h:∀a,P [a])(us:List Value)(hl:us.length=1):P us:=match us,hl with|[_],_=>h _
theorem lH{P:List Value→Prop}(h:∀a b,P [a,b])(us:List Value)(hl:us.length=2):P us:=match us,hl with|[_,_],_=>h _ _
theorem Be{P:List Value→Prop}(h:∀a b c,P [a,b,c])(us:List Value)(hl:us.length=3):P us:=match us,hl with|[_,_,_],_=>h _ _ _
theorem wq{P:List Value→Prop}(h:∀a b c d,P [a,b,c,d])(us:List Value)(hl:us.length=4):P us:=match us,hl with|[_,_,_,_],_=>h _ _ _ _
theorem Fn{P:List Value→Prop}(h:∀a b c d e,P [a,b,c,d,e])(us:List Value)(hl:us.length=5):P us:=match us,hl with|[_,_,_,_,_],_=>h _ _ _ _ _
section
variable {K:PySem.W.Frag} {h:Heap} {mg:Str→Option Value} {x c m q:Str} {st:Stmt} {ps fl:List Str}
noncomputable def pG:Option (Option Value)→Bool
 |some none=>true
 |_=>false
theorem nS{o:Option (Option Value)}(h:pG o=true):o=some none:=by
 unfold pG at h;split at h
 ·rfl
 ·cases h
def FnAt(K:PySem.W.Frag)(f:Addr)(m q:Str)(st:Stmt):Prop:=∃(oc kV doc pm cdv ct:Value) (od an:Option Addr) (osl:Array (Option Value)),
 K.lookup f=some ⟨oc,od,.func (PySem.W.fnOf m q (bZ st) (aR st) (au st) .none kV doc pm an cdv ct),osl⟩∧PySem.W.codeIn K cdv q=true∧PySem.W.keepIn K (.ref f)=true
abbrev pH(m q:Str)(st:Stmt)(ps:List Str):Prop:=∀(kV doc pm:Value) (an:Option Addr) (cdv ct:Value) (us:List Value),us.length=ps.length→bindArgs (PySem.W.fnOf m q (bZ st) (aR st) (au st) .none kV doc pm an cdv ct) ⟨us,[]⟩=pure (ps.zip us)
theorem FnAt.mk{f:Addr}(a:FnAt K f m q st)(hb:pH m q st ps):∃fd,Kd K m q st f fd∧Binds K fd ps []∧PySem.W.keepIn K (.ref f)=true:=by
 obtain⟨oc,kV,doc,pm,cdv,ct,od,an,osl,l,cc,k⟩:=a
 exact⟨_,mK l cc k,(mK l cc k).binds hb,k⟩
def GB(K:PySem.W.Frag)(x:Str)(st:Stmt):Prop:=∃f,PySem.W.nsIn K mainGlobals x=some (some (.ref f))∧FnAt K f x x st
theorem GB.own(X:K.In h)(G:h.Ns mainGlobals mg)(a:GB K x st)(hb:pH x x st ps):bf K mg x st ps:=by
 obtain⟨f,n,a⟩:=a
 obtain⟨fd,F,b,k⟩:=a.mk hb
 exact⟨f,fd,F,b,k,PySem.W.mg_of X G n⟩
theorem GB.law{fa:Addr}(X:K.In h)(G:h.Ns mainGlobals mg)(a:GB K x st)(hfa:mg x=some (.ref fa))(hb:pH x x st ps):∃kV doc pm an cdv ct,Dp K mg x st ps fa (PySem.W.fnOf x x (bZ st) (aR st) (au st) .none kV doc pm an cdv ct):=by
 obtain⟨f,n,oc,kV,doc,pm,cdv,ct,od,an,osl,l,cc,k⟩:=a
 cases hfa.symm.trans (PySem.W.mg_of X G n)
 exact⟨kV,doc,pm,an,cdv,ct,mK l cc k,(mK l cc k).binds hb,k,hfa⟩
structure Fo (K:PySem.W.Frag) (C:Addr):Prop where
 a:PySem.W.plainGet K C Str.empty=true
 b:PySem.W.hasDictIn K C=true
 c:PySem.W.plainOver K C=true
 d:PySem.W.findIn K (.ref C) "__setattr__" = some (some (.builtin "object.__setattr__"))
def My(K:PySem.W.Frag)(c:Str)(fl:List Str):Prop:=∃C,PySem.W.nsIn K mainGlobals c=some (some (.ref C))∧PySem.W.findIn K (.ref C) "__setattr__" = some (some (.builtin "object.__setattr__"))∧PySem.W.keepIn K (.ref C)=true∧
 (PySem.W.plainGet K C Str.empty&&PySem.W.hasDictIn K C&&PySem.W.plainOver K C&&PySem.W.makesIn K C&&fl.all fun f=>pG (PySem.W.findIn K (.ref C) f))=true
theorem My.cl(X:K.In h)(G:h.Ns mainGlobals mg)(a:My K c fl):Bn K mg c fl:=by
 obtain⟨C,n,s,k,r⟩:=a
 simp only[Bool.and_eq_true,List.all_eq_true]at r
 obtain⟨⟨⟨⟨r1,r2⟩,r3⟩,r4⟩,r5⟩:=r
 exact⟨C,n,PySem.W.mg_of X G n,⟨r1,r2,r3,s⟩,r4,k,fun f hf=>nS (r5 f hf)⟩
def KY(K:PySem.W.Frag)(c m q:Str)(st:Stmt):Prop:=∃C f,PySem.W.nsIn K mainGlobals c=some (some (.ref C))∧PySem.W.findIn K (.ref C) m=some (some (.ref f))∧PySem.W.isFn K (.ref f)=true∧FnAt K f m q st
theorem KY.own(a:KY K c m q st)(k:Bn K mg c fl)(hb:pH m q st ps):oJ K c m q st ps:=by
 obtain⟨C,f,n,e,i,a⟩:=a
 obtain⟨fd,F,b,kp⟩:=a.mk hb
 obtain⟨C',n',_,cl,_⟩:=k.ex
 cases Gh.inj (c:=c) n n'
 exact⟨C,f,fd,n,cl,⟨e,i,kp⟩,F,b⟩
def Mz(P:Program)(w:World)(K:PySem.W.Frag)(x:Str)(kvs:List (bg×V)):Prop:=∃a o,PySem.W.nsIn K mainGlobals x=some (some (.ref a))∧K.lookup a=some o∧(a == sysModules)=false∧∃vs,KV kvs vs∧Obj.IsDictOf (aQ P w) o vs
theorem Mz.kd{P:Program}{w:World}{kvs:List (bg×V)}(X:K.In h)(G:h.Ns mainGlobals mg)(a:Mz P w K x kvs):∃a,mg x=some (.ref a)∧KD P w K a kvs:=by
 obtain⟨a,o,n,l,s,vs,h1,h2⟩:=a
 exact⟨a,PySem.W.mg_of X G n,s,o,vs,l,h1,h2⟩
def KZ(K:PySem.W.Frag)(c q:Str)(st:Stmt)(fl:List Str):Prop:=∃C f,PySem.W.nsIn K mainGlobals c=some (some (.ref C))∧PySem.W.findIn K (.ref C) "__init__" = some (some (.ref f))∧PySem.W.isFn K (.ref f)=true∧FnAt K f "__init__" q st∧PySem.W.keepIn K (.ref C)=true∧
 PySem.W.findIn K (.ref C) "__setattr__" = some (some (.builtin "object.__setattr__"))∧PySem.W.findIn K (.ref C) "__getattribute__" = some (some (.builtin "BaseException.__getattribute__"))∧PySem.W.findIn K (.ref C) "__getattr__" = some none∧
 PySem.W.mroIn K C (.type "BaseException")=some true∧PySem.W.mroIn K C (.type "object")=some true∧PySem.W.findIn K (.ref C) "__class__" = some (some (.builtin "object.__class__"))∧
 PySem.W.specialIn K (.builtin "object.__class__") "__get__" = some (some (.builtin "getset_descriptor.__get__"))∧PySem.W.takesIn K (.builtin "object.__class__")=some true∧
 (jL K C&&(PySem.W.kitOne K (.ref C) (.type "ValueError") == some true)&&fl.all fun f=>pG (PySem.W.findIn K (.ref C) f))=true
theorem KZ.ek(a:KZ K c q st fl):∃C,Gh K c C∧ExcK K C∧PySem.W.kitOne K (.ref C) (.type "ValueError")=some true∧∀f∈fl,NoAttr K C f:=by
 obtain⟨C,f,n,i1,i2,i3,i4,e1,e2,e3,e4,e5,e6,e7,e8,r⟩:=a
 simp only[Bool.and_eq_true,List.all_eq_true]at r
 obtain⟨⟨r1,r2⟩,r3⟩:=r
 exact⟨C,n,⟨r1,e1,e2,e3,e4,e5,e6,e7,e8⟩,eq_of_beq r2,fun f hf=>nS (r3 f hf)⟩
theorem KZ.xc(X:K.In h)(G:h.Ns mainGlobals mg)(a:KZ K c q st fl)(hb:pH "__init__" q st ps):Dr K mg c q st ps fl:=by
 obtain⟨C',n',ek,_,na⟩:=a.ek
 obtain⟨C,f,n,i1,i2,i3,i4,_⟩:=a
 have e:=Gh.inj (c:=c) n' n;subst e
 obtain⟨fd,F,b,kp⟩:=i3.mk hb
 exact⟨_,f,fd,F,b,n,PySem.W.mg_of X G n,ek,na,i1,i2,i4⟩
theorem C5(X:K.In h)(G:h.Ns mainGlobals mg)(a:∃C,PySem.W.nsIn K mainGlobals c=some (some (.ref C))):Er K mg c:=let ⟨C,e⟩:=a;⟨C,PySem.W.mg_of X G e,e⟩
def MA(K:PySem.W.Frag)(D:Str)(cs:List Str):Prop:=∃C,PySem.W.nsIn K mainGlobals D=some (some (.ref C))∧PySem.W.typeIn K (.ref C)=some (.type "type")∧PySem.W.hasDictIn K C=true∧PySem.W.mroIn K C (.type "BaseException")=some true∧
 (cs.all fun c=>match PySem.W.nsIn K mainGlobals c with|some (some (.ref B))=>PySem.W.mroIn K B (.ref C) == some true|_=>false)=true
theorem sr{C:Addr}:∀{cs:List Str},(cs.all fun c=>match PySem.W.nsIn K mainGlobals c with|some (some (.ref B))=>PySem.W.mroIn K B (.ref C) == some true|_=>false)=true→XMro K C cs
 |[],_=>trivial
 |d::cs,e=>by
  rw[List.all_cons,Bool.and_eq_true]at e
  obtain⟨e1,e2⟩:=e
  refine⟨?_,sr e2⟩
  split at e1
  ·rename_i B hB;exact⟨B,hB,eq_of_beq e1⟩
  ·cases e1
theorem MA.xe(X:K.In h)(G:h.Ns mainGlobals mg){cs:List Str}(a:MA K x cs):Ep K mg x cs:=by
 obtain⟨C,n,t,d,b,r⟩:=a
 exact⟨C,PySem.W.mg_of X G n,⟨t,(by obtain⟨cd,hc,_⟩:=PySem.W.any_some d;rw[hc];rfl),b⟩,sr r⟩
theorem wg{l:List (Str×Str)}(r:∀p∈l,∃q st fl,KZ K p.1 q st fl∧p.2∈fl):XAttr K l:=by
 induction l with
 |nil=>trivial
 |cons p l ih=>
  obtain⟨q,st,fl,a,hf⟩:=r p (by simp)
  obtain⟨C,n,ek,_,na⟩:=a.ek
  exact⟨⟨C,n,ek,na _ hf⟩,ih fun p' hp=>r p' (by simp[hp])⟩
theorem lI(X:K.In h)(G:h.Ns mainGlobals mg){l:List Str}(a:(l.all fun x=>pG (PySem.W.nsIn K mainGlobals x))=true)(hx:x∈l:=by decide):mg x=none:=PySem.W.mg_none_of X G (nS (List.all_eq_true.mp a x hx))
section
variable {f C:Addr} {oc kV doc pm cdv ct:Value} {od an:Option Addr} {osl:Array (Option Value)}
theorem Fp(n:PySem.W.nsIn K mainGlobals x=some (some (.ref f)))(l:K.lookup f=some ⟨oc,od,.func (PySem.W.fnOf x x (bZ st) (aR st) (au st) .none kV doc pm an cdv ct),osl⟩)(cc:PySem.W.codeIn K cdv x=true)(k:PySem.W.keepIn K (.ref f)=true):GB K x st:=⟨f,n,oc,kV,doc,pm,cdv,ct,od,an,osl,l,cc,k⟩
theorem Fq(n:PySem.W.nsIn K mainGlobals c=some (some (.ref C)))(e:PySem.W.findIn K (.ref C) m=some (some (.ref f)))(i:PySem.W.isFn K (.ref f)=true)(l:K.lookup f=some ⟨oc,od,.func (PySem.W.fnOf m q (bZ st) (aR st) (au st) .none kV doc pm an cdv ct),osl⟩)(cc:PySem.W.codeIn K cdv q=true)(k:PySem.W.keepIn K (.ref f)=true):KY K c m q st:=⟨C,f,n,e,i,oc,kV,doc,pm,cdv,ct,od,an,osl,l,cc,k⟩
theorem Fr(n:PySem.W.nsIn K mainGlobals c=some (some (.ref C)))(e:PySem.W.findIn K (.ref C) "__setattr__" = some (some (.builtin "object.__setattr__")))(k:PySem.W.keepIn K (.ref C)=true)
  (r:(PySem.W.plainGet K C Str.empty&&PySem.W.hasDictIn K C&&PySem.W.plainOver K C&&PySem.W.makesIn K C&&fl.all fun f=>pG (PySem.W.findIn K (.ref C) f))=true):My K c fl:=⟨C,n,e,k,r⟩
theorem Fs(n:PySem.W.nsIn K mainGlobals c=some (some (.ref C)))(e:PySem.W.findIn K (.ref C) "__init__" = some (some (.ref f)))(i:PySem.W.isFn K (.ref f)=true)(l:K.lookup f=some ⟨oc,od,.func (PySem.W.fnOf "__init__" q (bZ st) (aR st) (au st) .none kV doc pm an cdv ct),osl⟩)(cc:PySem.W.codeIn K cdv q=true)(k:PySem.W.keepIn K (.ref f)=true)(kc:PySem.W.keepIn K (.ref C)=true)
  (e1:PySem.W.findIn K (.ref C) "__setattr__" = some (some (.builtin "object.__setattr__"))) (e2:PySem.W.findIn K (.ref C) "__getattribute__" = some (some (.builtin "BaseException.__getattribute__"))) (e3:PySem.W.findIn K (.ref C) "__getattr__" = some none)
  (e4:PySem.W.mroIn K C (.type "BaseException")=some true) (e5:PySem.W.mroIn K C (.type "object")=some true) (e6:PySem.W.findIn K (.ref C) "__class__" = some (some (.builtin "object.__class__")))
  (e7:PySem.W.specialIn K (.builtin "object.__class__") "__get__" = some (some (.builtin "getset_descriptor.__get__"))) (e8:PySem.W.takesIn K (.builtin "object.__class__")=some true)
  (r:(jL K C&&(PySem.W.kitOne K (.ref C) (.type "ValueError") == some true)&&fl.all fun f=>pG (PySem.W.findIn K (.ref C) f))=true):KZ K c q st fl:=⟨C,f,n,e,i,⟨oc,kV,doc,pm,cdv,ct,od,an,osl,l,cc,k⟩,kc,e1,e2,e3,e4,e5,e6,e7,e8,r⟩
theorem Ft{cs:List Str}(n:PySem.W.nsIn K mainGlobals x=some (some (.ref C)))(t:PySem.W.typeIn K (.ref C)=some (.type "type"))(d:PySem.W.hasDictIn K C=true)(b:PySem.W.mroIn K C (.type "BaseException")=some true)
  (r:(cs.all fun c=>match PySem.W.nsIn K mainGlobals c with|some (some (.ref B))=>PySem.W.mroIn K B (.ref C) == some true|_=>false)=true):MA K x cs:=⟨C,n,t,d,b,r⟩
theorem EW(n:PySem.W.nsIn K mainGlobals x=some (some (.ref C))):∃C,PySem.W.nsIn K mainGlobals x=some (some (.ref C)):=⟨C,n⟩
theorem Fu{P:Program}{w:World}{kvs:List (bg×V)}{o:Obj}(n:PySem.W.nsIn K mainGlobals x=some (some (.ref f)))(l:K.lookup f=some o)(s:(f == sysModules)=false)(v:∃vs,KV kvs vs∧Obj.IsDictOf (aQ P w) o vs):Mz P w K x kvs:=⟨f,o,n,l,s,v⟩
end
end
section
variable {K:PySem.W.Frag} {h:Heap} {mg:Str→Option Value} {x:Str} {st:Stmt} {ps:List Str}
end
end L3
namespace G21
open PySem L2 L3
theorem Bf{l:PySem.W.OpenLaw}{w:World}{K:PySem.W.Frag}{h:Heap}{mg:Str→Option Value}{fa:Addr}(X:K.In h)(G:h.Ns mainGlobals mg)(hfa:mg "law" = some (.ref fa))
  (HH:GB K "common" (bp 5))
  (Ha:GB K "fraction" (bp 6))
  (IL:GB K "plus" (bp 7))
  (Ib:GB K "times" (bp 8))
  (Hb:GB K "sides_of" (bp 11))
  (Hc:GB K "parts_in" (bp 12))
  (HI:GB K "chosen" (bp 14))
  (GR:GB K "things_of" (bp 16))
  (Ic:GB K "added" (bp 17))
  (GC:GB K "multiplied" (bp 18))
  (Hd:GB K "no_tally" (bp 19))
  (HJ:GB K "behind" (bp 20))
  (Id:GB K "again" (bp 21))
  (F4:GB K "tally_of_often" (bp 22))
  (Gc:GB K "tally_of_take" (bp 23))
  (He:GB K "tally_of" (bp 24))
  (Ie:GB K "tally" (bp 25))
  (Hq:GB K "has_row" (bp 27))
  (Hr:GB K "rows_in" (bp 28))
  (F5:KY K "Doing" "__init__" "Doing.__init__" (mt 30 0))
  (Ge:KY K "Doing" "come_to" "Doing.come_to" (mt 30 1))
  (GS:KY K "Doing" "pay" "Doing.pay" (mt 30 2))
  (Gs:KY K "Doing" "bring" "Doing.bring" (mt 30 3))
  (GD:KY K "Doing" "take" "Doing.take" (mt 30 4))
  (Hf:GB K "go_often" (bp 31))
  (GT:GB K "go_choice" (bp 32))
  (Hs:GB K "go_step" (bp 33))
  (JM:GB K "go" (bp 34))
  (IM:GB K "done" (bp 35))
  (GU:GB K "_law_deal" (bp 37))
  (GV:GB K "_law_draw" (bp 38))
  (GE:GB K "_law_words" (bp 39))
  (Hg:GB K "_law_low" (bp 40))
  (GW:GB K "_law_cost" (bp 41))
  (GX:GB K "_law_leaf" (bp 42))
  (GY:GB K "_law_body" (bp 43))
  (F1:GB K "_law_pass_count" (bp 44))
  (FW:GB K "_law_round_count" (bp 45))
  (F6:GB K "_law_deed_body" (bp 46))
  (GF:GB K "_law_house" (bp 47))
  (F7:GB K "_law_any_house" (bp 48))
  (GG:GB K "_law_trace" (bp 49))
  (Gf:GB K "_law_laid_out" (bp 50))
  (Gg:GB K "_law_is_stuck" (bp 51))
  (GZ:GB K "_law_more" (bp 52))
  (GH:GB K "_law_right" (bp 53))
  (F9:My K "Doing" ["names","jars","most","cost","seen"])
  (GI:Mz l.prog w K "SIDES_FROM" (C.k_SIDES_FROM.map fun kv=>(kv.1,V.int kv.2)))
  (Ig:∃C,PySem.W.nsIn K mainGlobals "Stuck" = some (some (.ref C)))
  (Ht:∃C,PySem.W.nsIn K mainGlobals "TooLong" = some (some (.ref C)))
  (GM:KZ K "TooLong" "TooLong.__init__" (mt 3 0) ["most"])
  (Ih:KZ K "Stuck" "Stuck.__init__" (mt 2 0) ["row"])
  (Ii:MA K "Stuck" ["Stuck"])
  (Ke:((["abs","int","len","list","max","min","range","reversed","tuple","zip"]:List Str).all fun x=>pG (PySem.W.nsIn K mainGlobals x))=true)
  (Ku:GB K "law" (bp 54))
  : ∃fd:FuncData,(∀(s:Shared) (v:Value),BindsTo s fd ⟨[v],[]⟩ [("_law_script",v)])∧∀base:Heap,K.In base→base.Ns mainGlobals mg→dP l.prog w K mg base pI 30 fa fd ["_law_script"] (Ct K 1 pA):=by
 obtain⟨kV,doc,pm,an,cdv,ct,O⟩:=Ku.law X G hfa (ps:=["_law_script"]) (fun _ _ _ _ _ _=>wo fun _=>rfl)
 exact⟨_,fun s v=>.of_eq rfl,fun base _ _=>(AZ (P:=l.prog) (w:=w) (base:=base) ⟨HH.own X G (fun _ _ _ _ _ _=>lH fun _ _=>rfl),
  Ha.own X G (fun _ _ _ _ _ _=>lH fun _ _=>rfl),
  IL.own X G (fun _ _ _ _ _ _=>lH fun _ _=>rfl),
  Ib.own X G (fun _ _ _ _ _ _=>lH fun _ _=>rfl),
  Hb.own X G (fun _ _ _ _ _ _=>wo fun _=>rfl),
  Hc.own X G (fun _ _ _ _ _ _=>wo fun _=>rfl),
  HI.own X G (fun _ _ _ _ _ _=>lH fun _ _=>rfl),
  GR.own X G (fun _ _ _ _ _ _=>Be fun _ _ _=>rfl),
  Ic.own X G (fun _ _ _ _ _ _=>lH fun _ _=>rfl),
  GC.own X G (fun _ _ _ _ _ _=>lH fun _ _=>rfl),
  Hd.own X G (fun _ _ _ _ _ _=>wo fun _=>rfl),
  HJ.own X G (fun _ _ _ _ _ _=>lH fun _ _=>rfl),
  Id.own X G (fun _ _ _ _ _ _=>lH fun _ _=>rfl),
  F4.own X G (fun _ _ _ _ _ _=>Be fun _ _ _=>rfl),
  Gc.own X G (fun _ _ _ _ _ _=>lH fun _ _=>rfl),
  He.own X G (fun _ _ _ _ _ _=>Be fun _ _ _=>rfl),
  Ie.own X G (fun _ _ _ _ _ _=>Be fun _ _ _=>rfl),
  Hq.own X G (fun _ _ _ _ _ _=>wo fun _=>rfl),
  Hr.own X G (fun _ _ _ _ _ _=>wo fun _=>rfl),
  F5.own (mg:=mg) (F9.cl X G) (fun _ _ _ _ _ _=>wq fun _ _ _ _=>rfl),
  Ge.own (mg:=mg) (F9.cl X G) (fun _ _ _ _ _ _=>lH fun _ _=>rfl),
  GS.own (mg:=mg) (F9.cl X G) (fun _ _ _ _ _ _=>lH fun _ _=>rfl),
  Gs.own (mg:=mg) (F9.cl X G) (fun _ _ _ _ _ _=>Be fun _ _ _=>rfl),
  GD.own (mg:=mg) (F9.cl X G) (fun _ _ _ _ _ _=>wq fun _ _ _ _=>rfl),
  Hf.own X G (fun _ _ _ _ _ _=>wq fun _ _ _ _=>rfl),
  GT.own X G (fun _ _ _ _ _ _=>wq fun _ _ _ _=>rfl),
  Hs.own X G (fun _ _ _ _ _ _=>Be fun _ _ _=>rfl),
  JM.own X G (fun _ _ _ _ _ _=>wq fun _ _ _ _=>rfl),
  IM.own X G (fun _ _ _ _ _ _=>Fn fun _ _ _ _ _=>rfl),
  GU.own X G (fun _ _ _ _ _ _=>lH fun _ _=>rfl),
  GV.own X G (fun _ _ _ _ _ _=>lH fun _ _=>rfl),
  GE.own X G (fun _ _ _ _ _ _=>lH fun _ _=>rfl),
  Hg.own X G (fun _ _ _ _ _ _=>lH fun _ _=>rfl),
  GW.own X G (fun _ _ _ _ _ _=>wo fun _=>rfl),
  GX.own X G (fun _ _ _ _ _ _=>lH fun _ _=>rfl),
  GY.own X G (fun _ _ _ _ _ _=>wq fun _ _ _ _=>rfl),
  F1.own X G (fun _ _ _ _ _ _=>wo fun _=>rfl),
  FW.own X G (fun _ _ _ _ _ _=>wo fun _=>rfl),
  F6.own X G (fun _ _ _ _ _ _=>wq fun _ _ _ _=>rfl),
  GF.own X G (fun _ _ _ _ _ _=>wq fun _ _ _ _=>rfl),
  F7.own X G (fun _ _ _ _ _ _=>wo fun _=>rfl),
  GG.own X G (fun _ _ _ _ _ _=>Be fun _ _ _=>rfl),
  Gf.own X G (fun _ _ _ _ _ _=>lH fun _ _=>rfl),
  Gg.own X G (fun _ _ _ _ _ _=>wq fun _ _ _ _=>rfl),
  GZ.own X G (fun _ _ _ _ _ _=>lH fun _ _=>rfl),
  GH.own X G (fun _ _ _ _ _ _=>wq fun _ _ _ _=>rfl),
  F9.cl X G,
  lI (x:="abs") X G Ke,
  lI (x:="int") X G Ke,
  lI (x:="len") X G Ke,
  lI (x:="list") X G Ke,
  lI (x:="max") X G Ke,
  lI (x:="min") X G Ke,
  lI (x:="range") X G Ke,
  lI (x:="reversed") X G Ke,
  lI (x:="tuple") X G Ke,
  lI (x:="zip") X G Ke,
  GI.kd X G,
  C5 X G Ig,
  C5 X G Ht,
  GM.xc X G (fun _ _ _ _ _ _=>lH fun _ _=>rfl),
  Ih.xc X G (fun _ _ _ _ _ _=>lH fun _ _=>rfl),
  Ii.xe X G,
  wg (by intro p hp;simp only[M7,List.mem_cons,List.not_mem_nil,or_false]at hp;rcases hp with rfl;exact⟨_,_,_,GM,by decide⟩),
  trivial⟩ O).ok⟩
theorem EK{l:PySem.W.OpenLaw}{q:Program}{loose:List Str}{XP:(Str→Option Value)→Heap→Prop}{YP:World→Heap→Prop}{d:DefRec}{K:Params→PySem.W.Frag}(hn:l.most=some 63)(hdf:d.params.defaults=[])
  (hY:∀(w:World) (h:Heap),YP w h→(K w.params).In h)
  (F:∀(w:World) (mg:Str→Option Value) (fa:Addr) (h:Heap),(K w.params).In h→h.Ns mainGlobals mg→mg d.name=some (.ref fa)→
   ∃fd:FuncData,(∀(s:Shared) (u:Value),BindsTo s fd ⟨[u],[]⟩ [("_law_script",u)])∧∀base:Heap,(K w.params).In base→base.Ns mainGlobals mg→dP l.prog w (K w.params) mg base pI 30 fa fd ["_law_script"] (Ct (K w.params) 1 pA)) :
  PySem.W.WalkO q loose XP YP l.row.toRowW d [] (fun f vs=>PySem.call f vs):=
 L2.w4 (n:=63) (k:=30) (x:="_law_script") (CX:=fun _=>pI) (sp:=fun w=>Ct (K w.params) 1 pA) hn (by decide) hdf ⟨rfl,by decide,by decide,rfl⟩ hY F (fun _ _ a ns hl hO hS=>Ee hO hS (wf ns hl)) fun _ _ _ _ _ z=>z
end G21
local macro_rules | `(tactic| walk_at "k")=>`(tactic| (apply L3.Fp; k_is; k_is; k_is; k_is))
local macro_rules | `(tactic| walk_at "m")=>`(tactic| (apply L3.Fq; k_is; k_is; k_is; k_is; k_is; k_is))
local macro_rules | `(tactic| walk_at "c")=>`(tactic| (apply L3.Fr; k_is; k_is; k_is; kernel_rfl))
local macro_rules | `(tactic| walk_at "e")=>`(tactic| (apply L3.Fs; k_is; k_is; k_is; k_is; k_is; k_is; k_is; k_is; k_is; k_is; k_is; k_is; k_is; k_is; k_is; kernel_rfl))
local macro_rules | `(tactic| walk_at "t")=>`(tactic| (apply L3.Ft; k_is; k_is; k_is; k_is; kernel_rfl))
open PySem PySem.W PyProof.Rows
set_option maxRecDepth 100000 in
set_option maxHeartbeats 0 in
theorem PySem.Challenge.cw_dueworth_k21_whole_tallies_and_doings_holds : PySem.Challenge.rw_dueworth_k21_whole_tallies_and_doings.Holds := by
 w_on; refine holds_law E21.said fun said => ?_
 refine holds_open (q := E21.vw) (loose := ["SIDES_FROM"]) (Xt := fun s => (xlAt E21.vw [] s && recOk (RowW.records E21.rr) s)) (XP := XL E21.vw []) (N := 4992)
  (Yf := Hook.obs E21.hk) (Ya := Hook.val E21.hk) (YP := Hook.says (kHook E21.early.heap_1 E21.as E21.EL)) E21.left (Hook.of E21.hk) (Hook.keeps E21.hk) (fun s e => xl_of s (Bool.and_eq_true_iff.mp e).1)
  XL.keeps rfl rfl rfl (fun s e => recFacts_of (Bool.and_eq_true_iff.mp e).2) rfl (by assumption)
  (by decide +kernel) ⟨rfl, rfl, rfl, rfl, rfl, by decide +kernel⟩ ?hw ?hc
 (case hw => w_witness2)
 k_fill
 refine G21.EK (l := PySem.Challenge.rw_dueworth_k21_whole_tallies_and_doings) rfl rfl (fun w h Y => PySem.W.kIn_of Y) ?F
 case F =>
  intro w mg fa h KX G hmg
  refine' G21.Bf KX G hmg ?HH ?Ha ?IL ?Ib ?Hb ?Hc ?HI ?GR ?Ic ?GC ?Hd ?HJ ?Id ?F4 ?Gc ?He ?Ie ?Hq ?Hr ?F5 ?Ge ?GS ?Gs ?GD ?Hf ?GT ?Hs ?JM ?IM ?GU ?GV ?GE ?Hg ?GW ?GX ?GY ?F1 ?FW ?F6 ?GF ?F7 ?GG ?Gf ?Gg ?GZ ?GH ?F9 ?GI ?Ig ?Ht ?GM ?Ih ?Ii ?Ke ?Ku
  (case HH => walk_at "k")
  (case Ha => walk_at "k")
  (case IL => walk_at "k")
  (case Ib => walk_at "k")
  (case Hb => walk_at "k")
  (case Hc => walk_at "k")
  (case HI => walk_at "k")
  (case GR => walk_at "k")
  (case Ic => walk_at "k")
  (case GC => walk_at "k")
  (case Hd => walk_at "k")
  (case HJ => walk_at "k")
  (case Id => walk_at "k")
  (case F4 => walk_at "k")
  (case Gc => walk_at "k")
  (case He => walk_at "k")
  (case Ie => walk_at "k")
  (case Hq => walk_at "k")
  (case Hr => walk_at "k")
  (case F5 => walk_at "m")
  (case Ge => walk_at "m")
  (case GS => walk_at "m")
  (case Gs => walk_at "m")
  (case GD => walk_at "m")
  (case Hf => walk_at "k")
  (case GT => walk_at "k")
  (case Hs => walk_at "k")
  (case JM => walk_at "k")
  (case IM => walk_at "k")
  (case GU => walk_at "k")
  (case GV => walk_at "k")
  (case GE => walk_at "k")
  (case Hg => walk_at "k")
  (case GW => walk_at "k")
  (case GX => walk_at "k")
  (case GY => walk_at "k")
  (case F1 => walk_at "k")
  (case FW => walk_at "k")
  (case F6 => walk_at "k")
  (case GF => walk_at "k")
  (case F7 => walk_at "k")
  (case GG => walk_at "k")
  (case Gf => walk_at "k")
  (case Gg => walk_at "k")
  (case GZ => walk_at "k")
  (case GH => walk_at "k")
  (case F9 => walk_at "c")
  (case GI => apply L3.Fu; k_is; k_is; rfl; exact L2.zP _ w [("then", 1, _, _), ("either", 1, _, _), ("take", 3, _, _), ("often", 1, _, _)] _ (by decide +kernel))
  (case Ig => apply L3.EW; k_is)
  (case Ht => apply L3.EW; k_is)
  (case GM => walk_at "e")
  (case Ih => walk_at "e")
  (case Ii => walk_at "t")
  (case Ke => kernel_rfl)
  (case Ku => walk_at "k")
#print axioms PySem.Challenge.cw_dueworth_k21_whole_tallies_and_doings_holds
